/-
  Contract of nat.scaled: limbs times a limb, in new memory. Condition: not more than a hundred thousand limbs.
-/
import Derived.Test.YtnfoblmfjldheaaDoorNj
import Derived.Test.YtnfoblmfjldheaaDoorRf
namespace Go.Proofs.YtnfoblmfjldheaaDoor
open Go.RowKit Go.Dig Go.Shelf Go.Proofs

set_option maxRecDepth 100000 in
set_option maxHeartbeats 4000000 in
theorem scaled_any (v : Value) (la : List Nat) (m : Nat) (w : World) (h : RowU w v la) (s : SmallU la) (hm : m < 18446744073709551616) (hl : la.length ≤ 100000) :
    Calls Tryd.prog 86 #[v, .int .u64 (m : Int)] w fun e w' => ∃ (g : Nat) (o : List Nat), e = .returned (.slice (some ⟨g, 0, none⟩) (la.length + 1) (la.length + 1)) ∧ Own64 w' w.heap.size g (la.length + 1) (la.length + 1) o ∧ SmallU o ∧ V o = m * V la ∧ Below w.heap.size w w' := by
  obtain ⟨i0, hi, hz0, hz1, hz2⟩ := info_parts Tryd.info64
  have hne1 : ∀ b off k c, v = .slice (some ⟨b, off, none⟩) k c → la ≠ [] → b ≠ w.heap.size := by
    intro b off k c e hla
    obtain ⟨ad, cp, e2, _, h3⟩ := h
    obtain ⟨b', off', e3, h4, _⟩ := h3 hla
    rw [e2, e3] at e
    cases e
    omega
  have R1 := Lib.hid h
  obtain ⟨ad1, cap1, rfl, hc1, -⟩ := h
  have HS := Lib.hid s
  have HNE := Lib.hid hne1
  clear s hne1
  obtain ⟨nn, hnn⟩ : ∃ nn, nn = la.length + 1 := ⟨_, rfl⟩
  rw [← hnn]
  have hnl : la.length < nn := by omega
  have hnl2 : nn ≤ 100001 := by omega
  have HNN := Lib.hid hnn
  clear hnn
  go_enter Tryd.func86, Tryd.ntmps86
  go_wp2_with (at_make; refine wpList_make_full w rfl _ _ 28 rfl w.heap.size 64 i0 (.int .u64 0) 1 Tryd.underlying28 hi hz0 hz1 .i64 .i64 _ _ nn rfl rfl (by have := HNN.out; omega) (by have := HNN.out; omega) (by rw [hz2]; omega) (by unfold maxLen; omega) (Nat.le_refl _) ?_; intro w1 hown hgrow)
  rw [made_zerosU] at hown
  have hb1 : Below w.heap.size w w1 := (Below.refl _ w).grown hgrow (Nat.le_refl _) (fun j ej => by cases ej)
  have H48 := Lib.hid (addTimes_any w.heap.size w.heap.size nn nn 0 nn (List.replicate nn 0) la (.slice ad1 la.length cap1) m w1 hown (R1.out.below hb1) HNE.out (Small.zeros (by omega) _) HS.out hm (by omega) (by omega))
  clear hown hgrow
  go_wp2_with fail
  refine H48.out.mono ?_
  rintro e w2 ⟨cy, out, rfl, hO, HM, hF⟩
  have hB2 : Below w.heap.size w w2 := hb1.trans (hF.below hb1.size (fun k e => by omega))
  have hz9 : (List.replicate nn 0).getD (0 + la.length) 0 = 0 := by simp [List.getD, List.getElem?_replicate]; split <;> rfl
  have hd := HM.done (by simp; omega) hz9
  rw [HM.rest _ (Nat.le_refl _), hz9, Nat.zero_add, Nat.zero_add] at hd
  have HD := Lib.hid hd
  clear hd hz9 HM
  have hfz := hO.frozen la.length
  have hcz := hO.cell (j := la.length) (by omega)
  have HO3 := Lib.hid (hO.set la.length cy)
  go_wp2_with fail
  go_ret
  refine ⟨w.heap.size, out.set la.length cy, rfl, HO3.out, HD.out.1, ?_, hB2.setCell (p := ⟨w.heap.size, la.length, none⟩) (Nat.le_refl _) _⟩
  have e := HD.out.2.1
  rw [val_zeros, Nat.pow_zero, Nat.one_mul, Nat.zero_add] at e
  exact e
end Go.Proofs.YtnfoblmfjldheaaDoor
