/-
  What the rows' readings give the walks: an argument that is a slice of numbers of 64 bits is nil, or limbs somewhere; and a world that meets the rows' conditions exists. No condition.
-/
import Derived.Test.YtnfoblmfjldheaaDoorQf
import Derived.Test.YtnfoblmfjldheaaDoorRows
import Derived.ProofKit
import Derived.Lib.SmallJoins
import Derived.OpenShut
import Derived.LaidMore
import Derived.Lay
import Derived.SevenTiedAt
import Derived.Stop.Joined
import Derived.ChangeOld
namespace Go.Proofs.YtnfoblmfjldheaaDoor
open Go.ChangeShapes Go.WideShapes Go.ChangeAt Go.RowKit Go.Dig Go.Joins

theorem own : ownKnob Tryd.prog.godebug = none := by kernel_rfl
theorem laidOut : laidOutB Tryd.prog = true := by kernel_rfl
/-- the two tables that all rows list. -/
abbrev laid2 : List (String × DataW Unit) := [("unicode/utf8.acceptRanges", Rows.laid_unicode_utf8_acceptRanges), ("unicode/utf8.first", Rows.laid_unicode_utf8_first)]
theorem u64_nat {a : Int} (h : (Lit.int .u64 a).wf = true) : ∃ n : Nat, a = (n : Int) ∧ n < 18446744073709551616 := by
  have hb := bounds_u64 h
  exact ⟨a.toNat, by omega, by omega⟩

set_option maxRecDepth 100000 in
theorem open_limbs {H : Type} {enc : TypeId × Value → H} {W : World} {fuel : Nat} {v : Value} {y : DataW H × List MemPlace} (hf : DataW.trod enc Tryd.prog W 0 (fun _ => true) true fuel 22 [v] = some y) :
    ∃ (f : Sl) (l : List Nat), v = .slice f.a f.n f.c ∧ RA W f l ∧ Small 18446744073709551616 l := by
  rcases open_ints Tryd.underlying22 Tryd.underlying64 (by kernel_rfl) hf with ⟨hcs, _⟩ | ⟨x, len, cap, zs, hcs, _, hl, hm, hz, _, hcell, hwz⟩
  · simp at hcs
    exact ⟨⟨none, 0, 0⟩, [], hcs, .inl ⟨rfl, rfl⟩, Small.nil⟩
  · simp at hcs
    have hz' : zs.length = cap := by simpa using hz
    have hlen : ((zs.take len).map Int.toNat).length = len := by rw [List.length_map, List.length_take]; omega
    refine ⟨⟨some x, len, cap⟩, (zs.take len).map Int.toNat, hcs, .inr ⟨x, cap, by rw [hlen], by rw [hlen]; exact hl, fun hne => ?_⟩, ?_⟩
    · have hpos : 0 < len := by
        rw [← hlen]; exact List.length_pos_iff.2 hne
      obtain ⟨b, off, rfl, hc⟩ := ints_at hcell (by omega)
      have hbw : b < W.heap.size := World.block_lt_of_cell? W _ (hc 0 (by omega))
      refine ⟨b, off, rfl, hbw, fun j hj => ?_⟩
      rw [hlen] at hj
      rw [hc j (by omega)]
      have hmem : zs[j] ∈ zs := List.getElem_mem (by omega)
      obtain ⟨n, hn, _⟩ := u64_nat (hwz _ hmem)
      have e1 : zs.getD j 0 = zs[j] := by simp [List.getD, show j < zs.length by omega]
      have e2 : ((zs.take len).map Int.toNat).getD j 0 = n := by
        simp [List.getD, hj, show j < zs.length by omega, hn]
      rw [e1, e2, hn]
    · intro d hd
      obtain ⟨z, hz1, rfl⟩ := List.mem_map.1 hd
      obtain ⟨n, hn, hlt⟩ := u64_nat (hwz z (List.mem_of_mem_take hz1))
      rw [hn, Int.toNat_natCast]; exact hlt
set_option maxRecDepth 100000 in
/-- an argument of two slices of limbs. -/
theorem open_two {H : Type} {enc : TypeId × Value → H} {W : World} {base : Nat} {v : Value} {d : DataW H} {p : List MemPlace} (hval : Value.okWide Tryd.prog W .any base 24 v) (h : DataW.Trod enc Tryd.prog W 0 (fun _ => true) true 24 v d p) :
    ∃ (f1 f2 : Sl) (l1 l2 : List Nat), v = .agg #[.slice f1.a f1.n f1.c, .slice f2.a f2.n f2.c] ∧ RA W f1 l1 ∧ RA W f2 l2 ∧ Hid (Small 18446744073709551616 l1) ∧ Hid (Small 18446744073709551616 l2) := by
  obtain ⟨v0, v1, y0, y1, n, rfl, -, -, h0, h1⟩ := open_agg2 Tryd.underlying24 (by kernel_rfl) (by kernel_rfl) hval h
  obtain ⟨f1, l1, rfl, r1, s1⟩ := open_limbs h0
  obtain ⟨f2, l2, rfl, r2, s2⟩ := open_limbs h1
  exact ⟨f1, f2, l1, l2, rfl, r1, r2, Lib.hid s1, Lib.hid s2⟩

set_option maxRecDepth 100000 in
theorem wit_met (os : Os) (args : Array Value) : laidMetH Tryd.prog laid2 ((World.laidAll Tryd.prog os laid2).forCall (fun _ _ => 0) ⟨#[], args, []⟩).memory := by
  rw [MakeChecks.laidMetH_plain _ _ _ (by kernel_rfl)]
  exact laidMet_laidAll _ (by kernel_rfl) (by kernel_rfl)
set_option maxRecDepth 100000 in
theorem wit_shaped (os : Os) : World.Shaped Tryd.prog (World.laidAll Tryd.prog os laid2) := World.shaped_of_ZipB (by kernel_rfl) (by kernel_rfl)
end Go.Proofs.YtnfoblmfjldheaaDoor
