/-
  The walk of NatRings: for every three slices of limbs it answers true and leaves all memory as it was. No condition.
-/
import Derived.Test.YtmgopoibofhnlaaDoorLc
namespace Go.Proofs.YtmgopoibofhnlaaDoor
open Go.RowKit Go.Dig Go.Shelf Go.Proofs

theorem nil_row (w : World) : RowU w (.slice none 0 0) [] := ⟨_, _, rfl, Nat.le_refl _, fun h => absurd rfl h⟩
set_option maxRecDepth 100000 in
set_option maxHeartbeats 4000000 in
theorem rings_no (v0 v1 v2 : Value) (l0 l1 l2 : List Nat) (w : World) (r0 : RowA w v0 l0) (r1 : RowA w v1 l1) (r2 : RowA w v2 l2) (hf : fewB l0 l1 = false) :
    Calls Tryd.prog 10 #[v0, v1, v2] w fun e w' => e = .returned (.bool true) ∧ Below w.heap.size w w' := by
  have HF := Lib.hid hf
  clear hf
  go_enter Tryd.func10, Tryd.ntmps10
  have H1 := Lib.hid (awake_any w)
  go_wp2_with fail
  refine H1.out.mono ?_
  rintro e w1 ⟨rfl, hb⟩
  replace r0 := r0.below hb
  replace r1 := r1.below hb
  replace r2 := r2.below hb
  have hB := hb
  clear hb H1
  have H2 := Lib.hid (few_any v0 v1 l0 l1 w1 r0.row r1.row)
  rw [HF.out] at H2
  go_wp2_with fail
  refine H2.out.mono ?_
  rintro e w2 ⟨rfl, rfl⟩
  clear H2
  have H3 := Lib.hid (awake_any w1)
  go_wp2_with fail
  refine H3.out.mono ?_
  rintro e w3 ⟨rfl, hb⟩
  replace r0 := r0.below hb
  replace r1 := r1.below hb
  replace r2 := r2.below hb
  replace hB := hB.trans (hb.mono hB.size)
  clear hb H3
  go_wp2_with fail
  go_ret
  exact ⟨rfl, hB⟩

set_option maxRecDepth 100000 in
set_option maxHeartbeats 4000000 in
theorem rings_no2 (v0 v1 v2 : Value) (l0 l1 l2 : List Nat) (w : World) (r0 : RowA w v0 l0) (r1 : RowA w v1 l1) (r2 : RowA w v2 l2) (hf : fewB l0 l1 = true) (hf2 : fewB l2 [] = false) :
    Calls Tryd.prog 10 #[v0, v1, v2] w fun e w' => e = .returned (.bool true) ∧ Below w.heap.size w w' := by
  have HF := Lib.hid hf
  have HF2 := Lib.hid hf2
  clear hf hf2
  go_enter Tryd.func10, Tryd.ntmps10
  have H1 := Lib.hid (awake_any w)
  go_wp2_with fail
  refine H1.out.mono ?_
  rintro e w1 ⟨rfl, hb⟩
  replace r0 := r0.below hb
  replace r1 := r1.below hb
  replace r2 := r2.below hb
  have hB := hb
  clear hb H1
  have H2 := Lib.hid (few_any v0 v1 l0 l1 w1 r0.row r1.row)
  rw [HF.out] at H2
  go_wp2_with fail
  refine H2.out.mono ?_
  rintro e w2 ⟨rfl, rfl⟩
  clear H2
  have H3 := Lib.hid (few_any v2 (.slice none 0 0) l2 [] w1 r2.row (nil_row w1))
  rw [HF2.out] at H3
  go_wp2_with fail
  refine H3.out.mono ?_
  rintro e w3 ⟨rfl, rfl⟩
  clear H3
  have H4 := Lib.hid (awake_any w1)
  go_wp2_with fail
  refine H4.out.mono ?_
  rintro e w4 ⟨rfl, hb⟩
  replace r0 := r0.below hb
  replace r1 := r1.below hb
  replace r2 := r2.below hb
  replace hB := hB.trans (hb.mono hB.size)
  clear hb H4
  go_wp2_with fail
  go_ret
  exact ⟨rfl, hB⟩

set_option maxRecDepth 100000 in
set_option maxHeartbeats 4000000 in
theorem rings_yes (v0 v1 v2 : Value) (a b c : Nat) (w : World) (r0 : RowA w v0 (L a)) (r1 : RowA w v1 (L b)) (r2 : RowA w v2 (L c)) (n0 : (L a).length ≤ 12) (n1 : (L b).length ≤ 12) (n2 : (L c).length ≤ 12) :
    Calls Tryd.prog 10 #[v0, v1, v2] w fun e w' => e = .returned (.bool true) ∧ Below w.heap.size w w' := by
  have k1 := len_add a b
  have k2 := len_add (a + b) c
  have k3 := len_add b c
  have k4 := len_add a (b + c)
  have k5 := len_mul a b
  have k6 := len_mul (a * b) c
  have k7 := len_mul b c
  have k8 := len_mul a (b * c)
  have k9 := len_mul a (b + c)
  have k10 := len_mul a c
  have k11 := len_add (a * b) (a * c)
  have k12 := len_add b a
  have k13 : (L (a + b - b)).length ≤ (L a).length := len_mono (by omega)
  go_enter Tryd.func10, Tryd.ntmps10
  have H1 := Lib.hid (awake_any w)
  go_wp2_with fail
  refine H1.out.mono ?_
  rintro e w1 ⟨rfl, hb⟩
  replace r0 := r0.below hb
  replace r1 := r1.below hb
  replace r2 := r2.below hb
  have hB := hb
  clear hb H1
  have H2 := Lib.hid (few_nat v0 v1 a b w1 r0.row r1.row n0 n1)
  go_wp2_with fail
  refine H2.out.mono ?_
  rintro e w2 ⟨rfl, rfl⟩
  clear H2
  have H3 := Lib.hid (few_nat v2 (.slice none 0 0) c 0 w1 r2.row (nil_row w1) n2 (by show (0 : Nat) ≤ 12; omega))
  go_wp2_with fail
  refine H3.out.mono ?_
  rintro e w3 ⟨rfl, rfl⟩
  clear H3
  have H4 := Lib.hid (copied_any v0 (L a) w1 r0 (by omega))
  go_wp2_with fail
  refine H4.out.mono ?_
  rintro e w4 ⟨x, rfl, rx, hb⟩
  replace r0 := r0.below hb
  replace r1 := r1.below hb
  replace r2 := r2.below hb
  replace hB := hB.trans (hb.mono hB.size)
  clear hb H4
  have H5 := Lib.hid (copied_any v1 (L b) w4 r1 (by omega))
  go_wp2_with fail
  refine H5.out.mono ?_
  rintro e w5 ⟨y, rfl, ry, hb⟩
  replace r0 := r0.below hb
  replace r1 := r1.below hb
  replace r2 := r2.below hb
  replace rx := rx.below hb
  replace hB := hB.trans (hb.mono hB.size)
  clear hb H5
  have H6 := Lib.hid (copied_any v2 (L c) w5 r2 (by omega))
  go_wp2_with fail
  refine H6.out.mono ?_
  rintro e w6 ⟨z, rfl, rz, hb⟩
  replace r0 := r0.below hb
  replace r1 := r1.below hb
  replace r2 := r2.below hb
  replace rx := rx.below hb
  replace ry := ry.below hb
  replace hB := hB.trans (hb.mono hB.size)
  clear hb H6
  clear r0 r1 r2
  have H7 := Lib.hid (add_nat x y (a) (b) w6 rx ry (by omega) (by omega))
  go_wp2_with fail
  refine H7.out.mono ?_
  rintro e w7 ⟨u1, rfl, q1, hb⟩
  replace rx := rx.below hb
  replace ry := ry.below hb
  replace rz := rz.below hb
  replace hB := hB.trans (hb.mono hB.size)
  clear hb H7
  have H8 := Lib.hid (add_nat u1 z ((a + b)) (c) w7 q1 rz (by omega) (by omega))
  go_wp2_with fail
  refine H8.out.mono ?_
  rintro e w8 ⟨u2, rfl, q2, hb⟩
  replace rx := rx.below hb
  replace ry := ry.below hb
  replace rz := rz.below hb
  replace q1 := q1.below hb
  replace hB := hB.trans (hb.mono hB.size)
  clear hb H8
  have H9 := Lib.hid (add_nat y z (b) (c) w8 ry rz (by omega) (by omega))
  go_wp2_with fail
  refine H9.out.mono ?_
  rintro e w9 ⟨u3, rfl, q3, hb⟩
  replace rx := rx.below hb
  replace ry := ry.below hb
  replace rz := rz.below hb
  replace q1 := q1.below hb
  replace q2 := q2.below hb
  replace hB := hB.trans (hb.mono hB.size)
  clear hb H9
  have H10 := Lib.hid (add_nat x u3 (a) ((b + c)) w9 rx q3 (by omega) (by omega))
  go_wp2_with fail
  refine H10.out.mono ?_
  rintro e w10 ⟨u4, rfl, q4, hb⟩
  replace rx := rx.below hb
  replace ry := ry.below hb
  replace rz := rz.below hb
  replace q1 := q1.below hb
  replace q2 := q2.below hb
  replace q3 := q3.below hb
  replace hB := hB.trans (hb.mono hB.size)
  clear hb H10
  have H11 := Lib.hid (cmp_same u2 u4 (((a + b) + c)) ((a + (b + c))) w10 q2 q4 (by omega) (by omega))
  go_wp2_with fail
  refine H11.out.mono ?_
  rintro e w11 ⟨rfl, hb⟩
  replace rx := rx.below hb
  replace ry := ry.below hb
  replace rz := rz.below hb
  replace q1 := q1.below hb
  replace q2 := q2.below hb
  replace q3 := q3.below hb
  replace q4 := q4.below hb
  replace hB := hB.trans (hb.mono hB.size)
  clear hb H11
  have H12 := Lib.hid (mul_nat x y (a) (b) w11 rx ry (by omega) (by omega))
  go_wp2_with fail
  refine H12.out.mono ?_
  rintro e w12 ⟨u5, rfl, q5, hb⟩
  replace rx := rx.below hb
  replace ry := ry.below hb
  replace rz := rz.below hb
  replace q1 := q1.below hb
  replace q3 := q3.below hb
  replace hB := hB.trans (hb.mono hB.size)
  clear hb H12
  have H13 := Lib.hid (mul_nat u5 z ((a * b)) (c) w12 q5 rz (by omega) (by omega))
  go_wp2_with fail
  refine H13.out.mono ?_
  rintro e w13 ⟨u6, rfl, q6, hb⟩
  replace rx := rx.below hb
  replace ry := ry.below hb
  replace rz := rz.below hb
  replace q1 := q1.below hb
  replace q3 := q3.below hb
  replace q5 := q5.below hb
  replace hB := hB.trans (hb.mono hB.size)
  clear hb H13
  have H14 := Lib.hid (mul_nat y z (b) (c) w13 ry rz (by omega) (by omega))
  go_wp2_with fail
  refine H14.out.mono ?_
  rintro e w14 ⟨u7, rfl, q7, hb⟩
  replace rx := rx.below hb
  replace ry := ry.below hb
  replace rz := rz.below hb
  replace q1 := q1.below hb
  replace q3 := q3.below hb
  replace q5 := q5.below hb
  replace q6 := q6.below hb
  replace hB := hB.trans (hb.mono hB.size)
  clear hb H14
  have H15 := Lib.hid (mul_nat x u7 (a) ((b * c)) w14 rx q7 (by omega) (by omega))
  go_wp2_with fail
  refine H15.out.mono ?_
  rintro e w15 ⟨u8, rfl, q8, hb⟩
  replace rx := rx.below hb
  replace ry := ry.below hb
  replace rz := rz.below hb
  replace q1 := q1.below hb
  replace q3 := q3.below hb
  replace q5 := q5.below hb
  replace q6 := q6.below hb
  replace q7 := q7.below hb
  replace hB := hB.trans (hb.mono hB.size)
  clear hb H15
  have H16 := Lib.hid (cmp_same u6 u8 (((a * b) * c)) ((a * (b * c))) w15 q6 q8 (by omega) (Nat.mul_assoc a b c))
  go_wp2_with fail
  refine H16.out.mono ?_
  rintro e w16 ⟨rfl, hb⟩
  replace rx := rx.below hb
  replace ry := ry.below hb
  replace rz := rz.below hb
  replace q1 := q1.below hb
  replace q3 := q3.below hb
  replace q5 := q5.below hb
  replace q6 := q6.below hb
  replace q7 := q7.below hb
  replace q8 := q8.below hb
  replace hB := hB.trans (hb.mono hB.size)
  clear hb H16
  have H17 := Lib.hid (add_nat y z (b) (c) w16 ry rz (by omega) (by omega))
  go_wp2_with fail
  refine H17.out.mono ?_
  rintro e w17 ⟨u9, rfl, q9, hb⟩
  replace rx := rx.below hb
  replace ry := ry.below hb
  replace rz := rz.below hb
  replace q1 := q1.below hb
  replace q3 := q3.below hb
  replace q5 := q5.below hb
  replace q7 := q7.below hb
  replace hB := hB.trans (hb.mono hB.size)
  clear hb H17
  have H18 := Lib.hid (mul_nat x u9 (a) ((b + c)) w17 rx q9 (by omega) (by omega))
  go_wp2_with fail
  refine H18.out.mono ?_
  rintro e w18 ⟨u10, rfl, q10, hb⟩
  replace rx := rx.below hb
  replace ry := ry.below hb
  replace rz := rz.below hb
  replace q1 := q1.below hb
  replace q3 := q3.below hb
  replace q5 := q5.below hb
  replace q7 := q7.below hb
  replace q9 := q9.below hb
  replace hB := hB.trans (hb.mono hB.size)
  clear hb H18
  have H19 := Lib.hid (mul_nat x y (a) (b) w18 rx ry (by omega) (by omega))
  go_wp2_with fail
  refine H19.out.mono ?_
  rintro e w19 ⟨u11, rfl, q11, hb⟩
  replace rx := rx.below hb
  replace ry := ry.below hb
  replace rz := rz.below hb
  replace q1 := q1.below hb
  replace q3 := q3.below hb
  replace q5 := q5.below hb
  replace q7 := q7.below hb
  replace q9 := q9.below hb
  replace q10 := q10.below hb
  replace hB := hB.trans (hb.mono hB.size)
  clear hb H19
  have H20 := Lib.hid (mul_nat x z (a) (c) w19 rx rz (by omega) (by omega))
  go_wp2_with fail
  refine H20.out.mono ?_
  rintro e w20 ⟨u12, rfl, q12, hb⟩
  replace rx := rx.below hb
  replace ry := ry.below hb
  replace rz := rz.below hb
  replace q1 := q1.below hb
  replace q3 := q3.below hb
  replace q5 := q5.below hb
  replace q7 := q7.below hb
  replace q9 := q9.below hb
  replace q10 := q10.below hb
  replace q11 := q11.below hb
  replace hB := hB.trans (hb.mono hB.size)
  clear hb H20
  have H21 := Lib.hid (add_nat u11 u12 ((a * b)) ((a * c)) w20 q11 q12 (by omega) (by omega))
  go_wp2_with fail
  refine H21.out.mono ?_
  rintro e w21 ⟨u13, rfl, q13, hb⟩
  replace rx := rx.below hb
  replace ry := ry.below hb
  replace rz := rz.below hb
  replace q1 := q1.below hb
  replace q3 := q3.below hb
  replace q5 := q5.below hb
  replace q7 := q7.below hb
  replace q9 := q9.below hb
  replace q10 := q10.below hb
  replace q11 := q11.below hb
  replace q12 := q12.below hb
  replace hB := hB.trans (hb.mono hB.size)
  clear hb H21
  have H22 := Lib.hid (cmp_same u10 u13 ((a * (b + c))) (((a * b) + (a * c))) w21 q10 q13 (by omega) (Nat.mul_add a b c))
  go_wp2_with fail
  refine H22.out.mono ?_
  rintro e w22 ⟨rfl, hb⟩
  replace rx := rx.below hb
  replace ry := ry.below hb
  replace rz := rz.below hb
  replace q1 := q1.below hb
  replace q3 := q3.below hb
  replace q5 := q5.below hb
  replace q7 := q7.below hb
  replace q9 := q9.below hb
  replace q10 := q10.below hb
  replace q11 := q11.below hb
  replace q12 := q12.below hb
  replace q13 := q13.below hb
  replace hB := hB.trans (hb.mono hB.size)
  clear hb H22
  have H23 := Lib.hid (add_nat x y (a) (b) w22 rx ry (by omega) (by omega))
  go_wp2_with fail
  refine H23.out.mono ?_
  rintro e w23 ⟨u14, rfl, q14, hb⟩
  replace rx := rx.below hb
  replace ry := ry.below hb
  replace rz := rz.below hb
  replace q1 := q1.below hb
  replace q3 := q3.below hb
  replace q5 := q5.below hb
  replace q7 := q7.below hb
  replace q9 := q9.below hb
  replace q11 := q11.below hb
  replace q12 := q12.below hb
  replace hB := hB.trans (hb.mono hB.size)
  clear hb H23
  have H24 := Lib.hid (sub_nat u14 y (a + b) b w23 q14 ry (by omega) (by omega))
  go_wp2_with fail
  refine H24.out.mono ?_
  rintro e w24 ⟨d, rfl, rd, hb⟩
  replace rx := rx.below hb
  replace ry := ry.below hb
  replace rz := rz.below hb
  replace q1 := q1.below hb
  replace q3 := q3.below hb
  replace q5 := q5.below hb
  replace q7 := q7.below hb
  replace q9 := q9.below hb
  replace q11 := q11.below hb
  replace q12 := q12.below hb
  replace q14 := q14.below hb
  replace hB := hB.trans (hb.mono hB.size)
  clear hb H24
  have H25 := Lib.hid (cmp_same d x (a + b - b) a w24 rd rx (by omega) (by omega))
  go_wp2_with fail
  refine H25.out.mono ?_
  rintro e w25 ⟨rfl, hb⟩
  replace rx := rx.below hb
  replace ry := ry.below hb
  replace rz := rz.below hb
  replace q1 := q1.below hb
  replace q3 := q3.below hb
  replace q5 := q5.below hb
  replace q7 := q7.below hb
  replace q9 := q9.below hb
  replace q11 := q11.below hb
  replace q12 := q12.below hb
  replace q14 := q14.below hb
  replace rd := rd.below hb
  replace hB := hB.trans (hb.mono hB.size)
  clear hb H25
  have H26 := Lib.hid (add_nat x y (a) (b) w25 rx ry (by omega) (by omega))
  go_wp2_with fail
  refine H26.out.mono ?_
  rintro e w26 ⟨u15, rfl, q15, hb⟩
  replace rx := rx.below hb
  replace ry := ry.below hb
  replace rz := rz.below hb
  replace q1 := q1.below hb
  replace q3 := q3.below hb
  replace q5 := q5.below hb
  replace q7 := q7.below hb
  replace q9 := q9.below hb
  replace q11 := q11.below hb
  replace q12 := q12.below hb
  replace q14 := q14.below hb
  replace rd := rd.below hb
  replace hB := hB.trans (hb.mono hB.size)
  clear hb H26
  have H27 := Lib.hid (add_nat y x (b) (a) w26 ry rx (by omega) (by omega))
  go_wp2_with fail
  refine H27.out.mono ?_
  rintro e w27 ⟨u16, rfl, q16, hb⟩
  replace rx := rx.below hb
  replace ry := ry.below hb
  replace rz := rz.below hb
  replace q1 := q1.below hb
  replace q3 := q3.below hb
  replace q5 := q5.below hb
  replace q7 := q7.below hb
  replace q9 := q9.below hb
  replace q11 := q11.below hb
  replace q12 := q12.below hb
  replace q14 := q14.below hb
  replace rd := rd.below hb
  replace q15 := q15.below hb
  replace hB := hB.trans (hb.mono hB.size)
  clear hb H27
  have H28 := Lib.hid (cmp_same u15 u16 ((a + b)) ((b + a)) w27 q15 q16 (by omega) (Nat.add_comm a b))
  go_wp2_with fail
  refine H28.out.mono ?_
  rintro e w28 ⟨rfl, hb⟩
  replace rx := rx.below hb
  replace ry := ry.below hb
  replace rz := rz.below hb
  replace q1 := q1.below hb
  replace q3 := q3.below hb
  replace q5 := q5.below hb
  replace q7 := q7.below hb
  replace q9 := q9.below hb
  replace q11 := q11.below hb
  replace q12 := q12.below hb
  replace q14 := q14.below hb
  replace rd := rd.below hb
  replace q15 := q15.below hb
  replace q16 := q16.below hb
  replace hB := hB.trans (hb.mono hB.size)
  clear hb H28
  go_wp2_with fail
  go_ret
  exact ⟨rfl, hB⟩

theorem rings_any (v0 v1 v2 : Value) (l0 l1 l2 : List Nat) (w : World) (r0 : RowA w v0 l0) (r1 : RowA w v1 l1) (r2 : RowA w v2 l2) (s0 : SmallU l0) (s1 : SmallU l1) (s2 : SmallU l2) :
    Calls Tryd.prog 10 #[v0, v1, v2] w fun e w' => e = .returned (.bool true) ∧ Below w.heap.size w w' := by
  cases hf : fewB l0 l1
  · exact rings_no v0 v1 v2 l0 l1 l2 w r0 r1 r2 hf
  · cases hf2 : fewB l2 []
    · exact rings_no2 v0 v1 v2 l0 l1 l2 w r0 r1 r2 hf hf2
    · obtain ⟨n0, n1, g0, g1⟩ := few_parts hf
      obtain ⟨n2, _, g2, _⟩ := few_parts hf2
      obtain ⟨a, rfl⟩ := nat_of_good g0 s0
      obtain ⟨b, rfl⟩ := nat_of_good g1 s1
      obtain ⟨c, rfl⟩ := nat_of_good g2 s2
      exact rings_yes v0 v1 v2 a b c w r0 r1 r2 n0 n1 n2
end Go.Proofs.YtmgopoibofhnlaaDoor
