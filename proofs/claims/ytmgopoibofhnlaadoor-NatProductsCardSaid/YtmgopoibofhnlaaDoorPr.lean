/-
  The walk of NatProducts: for every two slices of limbs it answers true and leaves all memory as it was. No condition.
-/
import Derived.Test.YtmgopoibofhnlaaDoorLc
namespace Go.Proofs.YtmgopoibofhnlaaDoor
open Go.RowKit Go.Dig Go.Shelf Go.Proofs

set_option maxRecDepth 100000 in
set_option maxHeartbeats 4000000 in
theorem products_no (v0 v1 : Value) (l0 l1 : List Nat) (w : World) (r0 : RowA w v0 l0) (r1 : RowA w v1 l1) (hf : fewB l0 l1 = false) :
    Calls Tryd.prog 5 #[v0, v1] w fun e w' => e = .returned (.bool true) ∧ Below w.heap.size w w' := by
  have HF := Lib.hid hf
  clear hf
  go_enter Tryd.func5, Tryd.ntmps5
  have H1 := Lib.hid (awake_any w)
  go_wp2_with fail
  refine H1.out.mono ?_
  rintro e w1 ⟨rfl, hb⟩
  replace r0 := r0.below hb
  replace r1 := r1.below hb
  have hB := hb
  clear hb H1
  have H2 := Lib.hid (few_any v0 v1 l0 l1 w1 r0.row r1.row)
  rw [HF.out] at H2
  go_wp2_with fail
  refine H2.out.mono ?_
  rintro e w2 ⟨rfl, rfl⟩
  clear H2
  have H3 := Lib.hid (awake_any w1)
  go_wp2_with fail
  refine H3.out.mono ?_
  rintro e w3 ⟨rfl, hb⟩
  replace r0 := r0.below hb
  replace r1 := r1.below hb
  replace hB := hB.trans (hb.mono hB.size)
  clear hb H3
  go_wp2_with fail
  go_ret
  exact ⟨rfl, hB⟩

set_option maxRecDepth 100000 in
set_option maxHeartbeats 4000000 in
theorem products_yes (v0 v1 : Value) (a b : Nat) (w : World) (r0 : RowA w v0 (L a)) (r1 : RowA w v1 (L b)) (n0 : (L a).length ≤ 12) (n1 : (L b).length ≤ 12) :
    Calls Tryd.prog 5 #[v0, v1] w fun e w' => e = .returned (.bool true) ∧ Below w.heap.size w w' := by
  have ml := len_mul a b
  go_enter Tryd.func5, Tryd.ntmps5
  have H1 := Lib.hid (awake_any w)
  go_wp2_with fail
  refine H1.out.mono ?_
  rintro e w1 ⟨rfl, hb⟩
  replace r0 := r0.below hb
  replace r1 := r1.below hb
  have hB := hb
  clear hb H1
  have H2 := Lib.hid (few_nat v0 v1 a b w1 r0.row r1.row n0 n1)
  go_wp2_with fail
  refine H2.out.mono ?_
  rintro e w2 ⟨rfl, rfl⟩
  clear H2
  have H3 := Lib.hid (limbs_nat v0 a w1 r0.row (by omega))
  go_wp2_with fail
  refine H3.out.mono ?_
  rintro e w3 ⟨p, rfl, rp, hb⟩
  replace r0 := r0.below hb
  replace r1 := r1.below hb
  replace hB := hB.trans (hb.mono hB.size)
  clear hb H3
  have H4 := Lib.hid (limbs_nat v1 b w3 r1.row (by omega))
  go_wp2_with fail
  refine H4.out.mono ?_
  rintro e w4 ⟨q, rfl, rq, hb⟩
  replace r0 := r0.below hb
  replace r1 := r1.below hb
  replace rp := rp.below hb
  replace hB := hB.trans (hb.mono hB.size)
  clear hb H4
  have H5 := Lib.hid (rmul_nat p q a b w4 rp rq (by omega) (by omega))
  go_wp2_with fail
  refine H5.out.mono ?_
  rintro e w5 ⟨t, rfl, rt, hb⟩
  replace r0 := r0.below hb
  replace r1 := r1.below hb
  replace rp := rp.below hb
  replace rq := rq.below hb
  replace hB := hB.trans (hb.mono hB.size)
  clear hb H5
  have H6 := Lib.hid (copied_any v0 (L a) w5 r0 (by omega))
  go_wp2_with fail
  refine H6.out.mono ?_
  rintro e w6 ⟨x, rfl, rx, hb⟩
  replace r0 := r0.below hb
  replace r1 := r1.below hb
  replace rt := rt.below hb
  replace hB := hB.trans (hb.mono hB.size)
  clear hb H6
  have H7 := Lib.hid (copied_any v1 (L b) w6 r1 (by omega))
  go_wp2_with fail
  refine H7.out.mono ?_
  rintro e w7 ⟨y, rfl, ry, hb⟩
  replace r0 := r0.below hb
  replace r1 := r1.below hb
  replace rt := rt.below hb
  replace rx := rx.below hb
  replace hB := hB.trans (hb.mono hB.size)
  clear hb H7
  have H8 := Lib.hid (mul_nat x y a b w7 rx ry (by omega) (by omega))
  go_wp2_with fail
  refine H8.out.mono ?_
  rintro e w8 ⟨z, rfl, rz, hb⟩
  replace r0 := r0.below hb
  replace r1 := r1.below hb
  replace rt := rt.below hb
  replace rx := rx.below hb
  replace ry := ry.below hb
  replace hB := hB.trans (hb.mono hB.size)
  clear hb H8
  have H9 := Lib.hid (Is_true z t (a * b) w8 rz rt (by omega))
  go_wp2_with fail
  refine H9.out.mono ?_
  rintro e w9 ⟨rfl, hb⟩
  replace r0 := r0.below hb
  replace r1 := r1.below hb
  replace rt := rt.below hb
  replace rz := rz.below hb
  replace hB := hB.trans (hb.mono hB.size)
  clear hb H9
  have H10 := Lib.hid (copied_any v1 (L b) w9 r1 (by omega))
  go_wp2_with fail
  refine H10.out.mono ?_
  rintro e w10 ⟨y2, rfl, ry2, hb⟩
  replace r0 := r0.below hb
  replace r1 := r1.below hb
  replace rt := rt.below hb
  replace hB := hB.trans (hb.mono hB.size)
  clear hb H10
  have H11 := Lib.hid (copied_any v0 (L a) w10 r0 (by omega))
  go_wp2_with fail
  refine H11.out.mono ?_
  rintro e w11 ⟨x2, rfl, rx2, hb⟩
  replace r0 := r0.below hb
  replace r1 := r1.below hb
  replace rt := rt.below hb
  replace ry2 := ry2.below hb
  replace hB := hB.trans (hb.mono hB.size)
  clear hb H11
  have H12 := Lib.hid (mul_nat y2 x2 b a w11 ry2 rx2 (by omega) (by omega))
  go_wp2_with fail
  refine H12.out.mono ?_
  rintro e w12 ⟨z2, rfl, rz2, hb⟩
  replace r0 := r0.below hb
  replace r1 := r1.below hb
  replace rt := rt.below hb
  replace ry2 := ry2.below hb
  replace rx2 := rx2.below hb
  replace hB := hB.trans (hb.mono hB.size)
  clear hb H12
  have H13 := Lib.hid (Is_true z2 t (a * b) w12 (by rw [Nat.mul_comm]; exact rz2) rt (by omega))
  go_wp2_with fail
  refine H13.out.mono ?_
  rintro e w13 ⟨rfl, hb⟩
  replace r0 := r0.below hb
  replace r1 := r1.below hb
  replace rt := rt.below hb
  replace ry2 := ry2.below hb
  replace rx2 := rx2.below hb
  replace rz2 := rz2.below hb
  replace hB := hB.trans (hb.mono hB.size)
  clear hb H13
  go_wp2_with fail
  go_ret
  exact ⟨rfl, hB⟩

theorem products_any (v0 v1 : Value) (l0 l1 : List Nat) (w : World) (r0 : RowA w v0 l0) (r1 : RowA w v1 l1) (s0 : SmallU l0) (s1 : SmallU l1) :
    Calls Tryd.prog 5 #[v0, v1] w fun e w' => e = .returned (.bool true) ∧ Below w.heap.size w w' := by
  cases hf : fewB l0 l1
  · exact products_no v0 v1 l0 l1 w r0 r1 hf
  · obtain ⟨n0, n1, g0, g1⟩ := few_parts hf
    obtain ⟨a, rfl⟩ := nat_of_good g0 s0
    obtain ⟨b, rfl⟩ := nat_of_good g1 s1
    exact products_yes v0 v1 a b w r0 r1 n0 n1
end Go.Proofs.YtmgopoibofhnlaaDoor
