/-
  What the rows' readings give the walks: an argument that is an int, a byte, a slice of bools, a slice of acts. No condition.
-/
import Derived.Test.YthndfhkkaichiaaYa
import Derived.Test.YthndfhkkaichiaaRows
import Derived.ProofKit
import Derived.SizedLaws
import Derived.Lib.SmallJoins
import Derived.OpenShut
import Derived.Lay
import Derived.ChangeOld
import Derived.Deep.Strs
import Derived.Deep.Grids
namespace Go.Proofs.Ythndfhkkaichiaa
open Go.ChangeShapes Go.WideShapes Go.ChangeAt Go.RowKit Go.Joins

theorem own : ownKnob Try.prog.godebug = none := by kernel_rfl
theorem laidOut : laidOutB Try.prog = true := by kernel_rfl
theorem u8_bounds {x : Int} (h : (Lit.int .u8 x).wf = true) : 0 ≤ x ∧ x < 256 := by
  have := bounds_u8 h
  omega
/-- rows of triples: each element's three cells, read. -/
theorem open_triples {H : Type} {enc : TypeId × Value → H} {P : Program} {W : World} {fuel : Nat} {v : Value} {y : DataW H × List MemPlace} {t e : TypeId} {f0 f1 f2 : Field} (ht : P.underlying t = some (.slice e)) (he : P.underlying e = some (.struct #[f0, f1, f2])) (hc : P.cellsOf e = 3)
    (o0 : f0.offset = 0) (o1 : f1.offset = 1) (o2 : f2.offset = 2) (k0 : P.cellsOf f0.type = 1) (k1 : P.cellsOf f1.type = 1) (k2 : P.cellsOf f2.type = 1) (hf : DataW.trod enc P W 0 (fun _ => true) true fuel t [v] = some y) :
    v = .slice none 0 0 ∨ ∃ (a : Addr) (len cap : Nat), v = .slice (some a) len cap ∧ len ≤ cap ∧ ∀ i, i < len → ∃ c0 c1 c2 y0 y1 y2 n, W.cell? (a.add (i * 3)) = some c0 ∧ W.cell? ((a.add (i * 3)).add 1) = some c1 ∧ W.cell? ((a.add (i * 3)).add 2) = some c2 ∧
      DataW.trod enc P W 0 (fun _ => true) true n f0.type [c0] = some y0 ∧ DataW.trod enc P W 0 (fun _ => true) true n f1.type [c1] = some y1 ∧ DataW.trod enc P W 0 (fun _ => true) true n f2.type [c2] = some y2 := by
  rcases DataW.trod_slice ht hf with ⟨hcs, _⟩ | ⟨a, len, cap, elems, rest, n, _, hcs, _, _, hl, _, hlen, hel, _⟩
  · left; simpa using hcs
  · right
    refine ⟨a, len, cap, by simpa using hcs, hl, fun i hi => ?_⟩
    have h1 := hel i hi
    rw [hc] at h1
    have h2 : elems[i]? = some elems[i] := List.getElem?_eq_getElem (by omega)
    rw [h2, Option.bind_eq_some_iff] at h1
    obtain ⟨cs, hcs, hy⟩ := h1
    obtain ⟨_, hl2, hcell⟩ := World.cells?_some hcs
    match cs, hl2 with
    | [c0, c1, c2], _ =>
      obtain ⟨y0, y1, y2, m, _, _, h3, h4, h5⟩ := Go.Deep.trod_struct3 he hy
      rw [o0, k0] at h3
      rw [o1, k1] at h4
      rw [o2, k2] at h5
      refine ⟨c0, c1, c2, y0, y1, y2, m, ?_, hcell 1 (by omega), hcell 2 (by omega), by simpa using h3, by simpa using h4, by simpa using h5⟩
      have := hcell 0 (by omega)
      simpa [Addr.add] using this

set_option maxRecDepth 100000 in
theorem open_byte {H : Type} {enc : TypeId × Value → H} {W : World} {v : Value} {d : DataW H} {p : List MemPlace} {r : Reach} {base : Nat} (hval : Value.okWide Try.prog W r base 5 v) (h : DataW.Trod enc Try.prog W 0 (fun _ => true) true 5 v d p) : ∃ x : Nat, v = .int .u8 (x : Int) ∧ x < 256 := by
  obtain ⟨x, rfl, _, _, wx⟩ := open_int Try.underlying5 hval h
  have := u8_bounds wx
  exact ⟨x.toNat, by rw [Int.toNat_of_nonneg this.1], by omega⟩
set_option maxRecDepth 100000 in
theorem open_whole {H : Type} {enc : TypeId × Value → H} {W : World} {v : Value} {d : DataW H} {p : List MemPlace} {r : Reach} {base : Nat} (hval : Value.okWide Try.prog W r base 3 v) (h : DataW.Trod enc Try.prog W 0 (fun _ => true) true 3 v d p) : ∃ x : Int, v = .int .i64 x ∧ I64 x := by
  obtain ⟨x, rfl, _, _, wx⟩ := open_int Try.underlying3 hval h
  exact ⟨x, rfl, wf64_inv wx⟩
set_option maxRecDepth 100000 in
theorem open_acts {H : Type} {enc : TypeId × Value → H} {W : World} {v : Value} {d : DataW H} {p : List MemPlace} {r : Reach} {base : Nat} (hval : Value.okWide Try.prog W r base 22 v) (h : DataW.Trod enc Try.prog W 0 (fun _ => true) true 22 v d p) :
    ∃ l : List (Nat × Int × Int), RowA W v l := by
  obtain ⟨a0, len0, cap0, rfl⟩ := okWide_slice Try.underlying22 hval
  obtain ⟨fuel, hf⟩ := h
  rcases open_triples Try.underlying22 Try.underlying34 (by kernel_rfl) rfl rfl rfl (by kernel_rfl) (by kernel_rfl) (by kernel_rfl) hf with hv | ⟨a, len, cap, hv, _, hc⟩
  · obtain ⟨rfl, rfl, rfl⟩ := Value.slice.inj hv
    exact ⟨[], ⟨none, 0, rfl, fun h => absurd rfl h, fun j => by simp [a0, I64]⟩⟩
  · obtain ⟨rfl, rfl, rfl⟩ := Value.slice.inj hv
    have hx : ∀ i, i < len0 → ∃ x : Nat × Int × Int, W.cell? (a.add (i * 3)) = some (.int .u8 (x.1 : Int)) ∧ W.cell? ((a.add (i * 3)).add 1) = some (.int .i64 x.2.1) ∧ W.cell? ((a.add (i * 3)).add 2) = some (.int .i64 x.2.2) ∧ I64 x.2.1 ∧ I64 x.2.2 := by
      intro i hi
      obtain ⟨c0, c1, c2, y0, y1, y2, n, h0, h1, h12, h2, h3, h4⟩ := hc i hi
      obtain ⟨m, e0, _, wm⟩ := DataW.trod_int Try.underlying5 h2
      obtain ⟨u, e1, _, w1⟩ := DataW.trod_int Try.underlying3 h3
      obtain ⟨u2, e2, _, w2⟩ := DataW.trod_int Try.underlying3 h4
      simp at e0 e1 e2
      subst e0 e1 e2
      have := u8_bounds wm
      exact ⟨(m.toNat, u, u2), by rw [h0, Int.toNat_of_nonneg this.1], h1, h12, wf64_inv w1, wf64_inv w2⟩
    obtain ⟨b, off, spot⟩ := a
    have hget : ∀ j (hj : j < len0), ((List.range len0).map fun i => if h : i < len0 then Classical.choose (hx i h) else a0).getD j a0 = Classical.choose (hx j hj) := fun j hj => by simp [List.getD, hj]
    refine ⟨(List.range len0).map fun i => if h : i < len0 then Classical.choose (hx i h) else a0, ⟨some ⟨b, off, spot⟩, cap0, by simp, fun hne => ?_, fun j => ?_⟩⟩
    case refine_2 =>
      by_cases hj : j < len0
      · rw [hget j hj]
        have hs := Classical.choose_spec (hx j hj)
        exact ⟨hs.2.2.2.1, hs.2.2.2.2⟩
      · simp [List.getD, hj, a0, I64]
    have hpos : 0 < len0 := by
      rcases Nat.eq_zero_or_pos len0 with h0 | h0
      · subst h0; simp at hne
      · exact h0
    have hs0 := Classical.choose_spec (hx 0 hpos)
    have hspot : spot = none := by simpa [Addr.add] using World.cell?_spot hs0.1
    subst hspot
    refine ⟨b, off, rfl, World.block_lt_of_cell? W _ hs0.1, fun j hj => ?_⟩
    simp only [List.length_map, List.length_range] at hj
    have hs := Classical.choose_spec (hx j hj)
    rw [hget j hj]
    refine ⟨?_, ?_, ?_⟩
    · rw [← Go.WideShapes.add_plain b off (j * 3)]
      exact hs.1
    · rw [← Go.WideShapes.add_plain b (off + j * 3) 1, ← Go.WideShapes.add_plain b off (j * 3)]
      exact hs.2.1
    · rw [← Go.WideShapes.add_plain b (off + j * 3) 2, ← Go.WideShapes.add_plain b off (j * 3)]
      exact hs.2.2.1
end Go.Proofs.Ythndfhkkaichiaa
