/-
  What the rows' readings give the walks: an argument that is an int, a byte, a slice of bytes, a slice of acts. No condition.
-/
import Derived.Test.YthopmkgbhfkeoaaUr
import Derived.Test.YthopmkgbhfkeoaaRows
import Derived.ProofKit
import Derived.SizedLaws
import Derived.Lib.SmallJoins
import Derived.OpenShut
import Derived.Lay
import Derived.ChangeOld
namespace Go.Proofs.Ythopmkgbhfkeoaa
open Go.ChangeShapes Go.WideShapes Go.ChangeAt Go.RowKit Go.Joins

theorem own : ownKnob Try.prog.godebug = none := by kernel_rfl
theorem laidOut : laidOutB Try.prog = true := by kernel_rfl
theorem u8_bounds {x : Int} (h : (Lit.int .u8 x).wf = true) : 0 ≤ x ∧ x < 256 := by
  have := bounds_u8 h
  omega
/-- rows of pairs: each element's two cells, read. -/
theorem open_pairs {H : Type} {enc : TypeId × Value → H} {P : Program} {W : World} {fuel : Nat} {v : Value} {y : DataW H × List MemPlace} {t e : TypeId} {f0 f1 : Field} (ht : P.underlying t = some (.slice e)) (he : P.underlying e = some (.struct #[f0, f1])) (hc : P.cellsOf e = 2)
    (o0 : f0.offset = 0) (o1 : f1.offset = 1) (k0 : P.cellsOf f0.type = 1) (k1 : P.cellsOf f1.type = 1) (hf : DataW.trod enc P W 0 (fun _ => true) true fuel t [v] = some y) :
    v = .slice none 0 0 ∨ ∃ (a : Addr) (len cap : Nat), v = .slice (some a) len cap ∧ len ≤ cap ∧ ∀ i, i < len → ∃ c0 c1 y0 y1 n, W.cell? (a.add (i * 2)) = some c0 ∧ W.cell? ((a.add (i * 2)).add 1) = some c1 ∧
      DataW.trod enc P W 0 (fun _ => true) true n f0.type [c0] = some y0 ∧ DataW.trod enc P W 0 (fun _ => true) true n f1.type [c1] = some y1 := by
  rcases DataW.trod_slice ht hf with ⟨hcs, _⟩ | ⟨a, len, cap, elems, rest, n, _, hcs, _, _, hl, _, hlen, hel, _⟩
  · left; simpa using hcs
  · right
    refine ⟨a, len, cap, by simpa using hcs, hl, fun i hi => ?_⟩
    have h1 := hel i hi
    rw [hc] at h1
    have h2 : elems[i]? = some elems[i] := List.getElem?_eq_getElem (by omega)
    rw [h2, Option.bind_eq_some_iff] at h1
    obtain ⟨cs, hcs, hy⟩ := h1
    obtain ⟨_, hl2, hcell⟩ := World.cells?_some hcs
    match cs, hl2 with
    | [c0, c1], _ =>
      obtain ⟨y0, y1, m, _, _, h3, h4⟩ := trod_struct2 he hy
      rw [o0, k0] at h3
      rw [o1, k1] at h4
      refine ⟨c0, c1, y0, y1, m, ?_, hcell 1 (by omega), by simpa using h3, by simpa using h4⟩
      have := hcell 0 (by omega)
      simpa [Addr.add] using this

theorem open_byte {H : Type} {enc : TypeId × Value → H} {W : World} {v : Value} {d : DataW H} {p : List MemPlace} {r : Reach} {base : Nat} (hval : Value.okWide Try.prog W r base 5 v) (h : DataW.Trod enc Try.prog W 0 (fun _ => true) true 5 v d p) : ∃ x : Nat, v = .int .u8 (x : Int) ∧ x < 256 := by
  obtain ⟨x, rfl, _, _, wx⟩ := open_int Try.underlying5 hval h
  have := u8_bounds wx
  exact ⟨x.toNat, by rw [Int.toNat_of_nonneg this.1], by omega⟩
theorem open_whole {H : Type} {enc : TypeId × Value → H} {W : World} {v : Value} {d : DataW H} {p : List MemPlace} {r : Reach} {base : Nat} (hval : Value.okWide Try.prog W r base 3 v) (h : DataW.Trod enc Try.prog W 0 (fun _ => true) true 3 v d p) : ∃ x : Int, v = .int .i64 x := by
  obtain ⟨x, rfl, _⟩ := open_int Try.underlying3 hval h
  exact ⟨x, rfl⟩
set_option maxRecDepth 100000 in
theorem open_bytes {H : Type} {enc : TypeId × Value → H} {W : World} {v : Value} {d : DataW H} {p : List MemPlace} {r : Reach} {base : Nat} (hval : Value.okWide Try.prog W r base 43 v) (h : DataW.Trod enc Try.prog W 0 (fun _ => true) true 43 v d p) :
    ∃ l : List Nat, RowY W v l ∧ ∀ j, l.getD j 0 < 256 := by
  obtain ⟨a0, len0, cap0, rfl⟩ := okWide_slice Try.underlying43 hval
  obtain ⟨fuel, hf⟩ := h
  replace hf : DataW.trod enc Try.prog W 0 (fun _ => true) true fuel 43 [.slice a0 len0 cap0] = some (d, p) := hf
  rcases open_ints Try.underlying43 Try.underlying5 (by kernel_rfl) hf with ⟨hcs, _⟩ | ⟨x, len, cap, zs, hcs, _, hl, hm, hz, hd, hcell, hwz⟩
  · simp at hcs
    obtain ⟨rfl, rfl, rfl⟩ := hcs
    exact ⟨[], ⟨none, 0, rfl, fun h => absurd rfl h⟩, by simp⟩
  · simp at hcs
    obtain ⟨rfl, rfl, rfl⟩ := hcs
    have hz' : zs.length = cap0 := by simpa using hz
    have hlen : ((zs.take len0).map Int.toNat).length = len0 := by rw [List.length_map, List.length_take]; omega
    have hget : ∀ j, j < len0 → (((zs.take len0).map Int.toNat).getD j 0 : Int) = zs.getD j 0 ∧ ((zs.take len0).map Int.toNat).getD j 0 < 256 := by
      intro j hj
      have hjz : j < zs.length := by omega
      have hb := u8_bounds (hwz _ (List.getElem_mem hjz))
      have e1 : ((zs.take len0).map Int.toNat).getD j 0 = (zs[j]).toNat := by simp [List.getD, hj, hjz]
      have e2 : zs.getD j 0 = zs[j] := by simp [List.getD, hjz]
      rw [e1, e2]
      omega
    refine ⟨(zs.take len0).map Int.toNat, ⟨some x, cap0, by rw [hlen], fun hne => ?_⟩, fun j => ?_⟩
    · have hpos : 0 < len0 := by
        rw [← hlen]; exact List.length_pos_iff.2 hne
      obtain ⟨b, off, rfl, hc⟩ := ints_at hcell (by omega)
      have hbw : b < W.heap.size := World.block_lt_of_cell? W _ (hc 0 (by omega))
      refine ⟨b, off, rfl, hbw, fun j hj => ?_⟩
      rw [hlen] at hj
      rw [hc j (by omega), (hget j hj).1]
    · by_cases hj : j < len0
      · exact (hget j hj).2
      · rw [List.getD_eq_getElem?_getD, List.getElem?_eq_none (by rw [hlen]; omega)]; decide
set_option maxRecDepth 100000 in
theorem open_acts {H : Type} {enc : TypeId × Value → H} {W : World} {v : Value} {d : DataW H} {p : List MemPlace} {r : Reach} {base : Nat} (hval : Value.okWide Try.prog W r base 22 v) (h : DataW.Trod enc Try.prog W 0 (fun _ => true) true 22 v d p) :
    ∃ l : List (Nat × Int), RowA W v l ∧ ∀ j, (l.getD j (0, 0)).1 < 256 := by
  obtain ⟨a0, len0, cap0, rfl⟩ := okWide_slice Try.underlying22 hval
  obtain ⟨fuel, hf⟩ := h
  rcases open_pairs Try.underlying22 Try.underlying34 (by kernel_rfl) rfl rfl (by kernel_rfl) (by kernel_rfl) hf with hv | ⟨a, len, cap, hv, _, hc⟩
  · obtain ⟨rfl, rfl, rfl⟩ := Value.slice.inj hv
    exact ⟨[], ⟨none, 0, rfl, fun h => absurd rfl h⟩, by simp⟩
  · obtain ⟨rfl, rfl, rfl⟩ := Value.slice.inj hv
    have hx : ∀ i, i < len0 → ∃ x : Nat × Int, W.cell? (a.add (i * 2)) = some (.int .u8 (x.1 : Int)) ∧ W.cell? ((a.add (i * 2)).add 1) = some (.int .i64 x.2) ∧ x.1 < 256 := by
      intro i hi
      obtain ⟨c0, c1, y0, y1, n, h0, h1, h2, h3⟩ := hc i hi
      obtain ⟨m, e0, _, wm⟩ := DataW.trod_int Try.underlying5 h2
      obtain ⟨u, e1, _, _⟩ := DataW.trod_int Try.underlying3 h3
      simp at e0 e1
      subst e0 e1
      have := u8_bounds wm
      exact ⟨(m.toNat, u), by rw [h0, Int.toNat_of_nonneg this.1], h1, by show m.toNat < 256; omega⟩
    obtain ⟨b, off, spot⟩ := a
    have hget : ∀ j (hj : j < len0), ((List.range len0).map fun i => if h : i < len0 then Classical.choose (hx i h) else (0, 0)).getD j (0, 0) = Classical.choose (hx j hj) := fun j hj => by simp [List.getD, hj]
    refine ⟨(List.range len0).map fun i => if h : i < len0 then Classical.choose (hx i h) else (0, 0), ⟨some ⟨b, off, spot⟩, cap0, by simp, fun hne => ?_⟩, fun j => ?_⟩
    · have hpos : 0 < len0 := by
        rcases Nat.eq_zero_or_pos len0 with h0 | h0
        · subst h0; simp at hne
        · exact h0
      have hs0 := Classical.choose_spec (hx 0 hpos)
      have hspot : spot = none := by simpa [Addr.add] using World.cell?_spot hs0.1
      subst hspot
      refine ⟨b, off, rfl, World.block_lt_of_cell? W _ hs0.1, fun j hj => ?_⟩
      simp only [List.length_map, List.length_range] at hj
      have hs := Classical.choose_spec (hx j hj)
      rw [hget j hj]
      refine ⟨?_, ?_⟩
      · rw [← Go.WideShapes.add_plain b off (j * 2)]
        exact hs.1
      · rw [← Go.WideShapes.add_plain b (off + j * 2) 1, ← Go.WideShapes.add_plain b off (j * 2)]
        exact hs.2.1
    · by_cases hj : j < len0
      · rw [hget j hj]
        exact (Classical.choose_spec (hx j hj)).2.2
      · rw [List.getD_eq_getElem?_getD, List.getElem?_eq_none (by simp; omega)]; decide
end Go.Proofs.Ythopmkgbhfkeoaa
