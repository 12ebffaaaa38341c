/-
  The walk of NatQuotients: for every two slices of limbs it answers true and leaves all memory as it was. No condition.
-/
import Derived.Test.YtmgopoibofhnlaaDoorNm
import Derived.Test.YtmgopoibofhnlaaDoorRg
namespace Go.Proofs.YtmgopoibofhnlaaDoor
open Go.RowKit Go.Dig Go.Shelf Go.Proofs

set_option maxRecDepth 100000 in
set_option maxHeartbeats 4000000 in
theorem quotients_no (v0 v1 : Value) (l0 l1 : List Nat) (w : World) (r0 : RowA w v0 l0) (r1 : RowA w v1 l1) (hf : fewB l0 l1 = false) :
    Calls Tryd.prog 6 #[v0, v1] w fun e w' => e = .returned (.bool true) ∧ Below w.heap.size w w' := by
  have HF := Lib.hid hf
  clear hf
  go_enter Tryd.func6, Tryd.ntmps6
  have H1 := Lib.hid (awake_any w)
  go_wp2_with fail
  refine H1.out.mono ?_
  rintro e w1 ⟨rfl, hb⟩
  replace r0 := r0.below hb
  replace r1 := r1.below hb
  have hB := hb
  clear hb H1
  have H2 := Lib.hid (few_any v0 v1 l0 l1 w1 r0.row r1.row)
  rw [HF.out] at H2
  go_wp2_with fail
  refine H2.out.mono ?_
  rintro e w2 ⟨rfl, rfl⟩
  clear H2
  have H3 := Lib.hid (awake_any w1)
  go_wp2_with fail
  refine H3.out.mono ?_
  rintro e w3 ⟨rfl, hb⟩
  replace r0 := r0.below hb
  replace r1 := r1.below hb
  replace hB := hB.trans (hb.mono hB.size)
  clear hb H3
  go_wp2_with fail
  go_ret
  exact ⟨rfl, hB⟩

set_option maxRecDepth 100000 in
set_option maxHeartbeats 4000000 in
theorem quotients_zero (v0 : Value) (ad1 : Option Addr) (c1 a b : Nat) (w : World) (r0 : RowA w v0 (L a)) (r1 : RowA w (.slice ad1 0 c1) (L b)) (n0 : (L a).length ≤ 12) (n1 : (L b).length ≤ 12) (hb : b = 0) :
    Calls Tryd.prog 6 #[v0, .slice ad1 0 c1] w fun e w' => e = .returned (.bool true) ∧ Below w.heap.size w w' := by
  have HB := Lib.hid hb
  clear hb
  go_enter Tryd.func6, Tryd.ntmps6
  have H1 := Lib.hid (awake_any w)
  go_wp2_with fail
  refine H1.out.mono ?_
  rintro e w1 ⟨rfl, hb⟩
  replace r0 := r0.below hb
  replace r1 := r1.below hb
  have hB := hb
  clear hb H1
  have H2 := Lib.hid (few_nat v0 (.slice ad1 0 c1) a b w1 r0.row r1.row n0 n1)
  go_wp2_with fail
  refine H2.out.mono ?_
  rintro e w2 ⟨rfl, rfl⟩
  clear H2
  have H3 := Lib.hid (copied_any v0 (L a) w1 r0 (by omega))
  go_wp2_with fail
  refine H3.out.mono ?_
  rintro e w3 ⟨x, rfl, rx, hb⟩
  replace r0 := r0.below hb
  replace r1 := r1.below hb
  replace hB := hB.trans (hb.mono hB.size)
  clear hb H3
  have H4 := Lib.hid (copied_any (.slice ad1 0 c1) (L b) w3 r1 (by omega))
  go_wp2_with fail
  refine H4.out.mono ?_
  rintro e w4 ⟨y, rfl, ry, hb⟩
  replace r0 := r0.below hb
  replace r1 := r1.below hb
  replace rx := rx.below hb
  replace hB := hB.trans (hb.mono hB.size)
  clear hb H4
  have H5 := Lib.hid (DivMod_zero x y a b w4 rx ry (by omega) (by omega) HB.out)
  go_wp2_with fail
  refine H5.out.mono ?_
  rintro e w5 ⟨rfl, hb⟩
  replace r0 := r0.below hb
  replace r1 := r1.below hb
  replace rx := rx.below hb
  replace ry := ry.below hb
  replace hB := hB.trans (hb.mono hB.size)
  clear hb H5
  go_wp2_with fail
  go_ret
  exact ⟨rfl, hB⟩

set_option maxRecDepth 100000 in
set_option maxHeartbeats 4000000 in
theorem quotients_more (v0 : Value) (ad1 : Option Addr) (c1 n a b : Nat) (w : World) (r0 : RowA w v0 (L a)) (r1 : RowA w (.slice ad1 n c1) (L b)) (n0 : (L a).length ≤ 12) (n1 : (L b).length ≤ 12) (hb : b ≠ 0) (hn : 0 < n) :
    Calls Tryd.prog 6 #[v0, .slice ad1 n c1] w fun e w' => e = .returned (.bool true) ∧ Below w.heap.size w w' := by
  have hn0 : ((n : Int) == 0) = false := by rw [beq_eq_false_iff_ne]; omega
  have HB := Lib.hid hb
  have HE : Hid (a / b * b + a % b = a) := Lib.hid (Nat.div_add_mod' a b)
  have k1 := len_mono (Nat.div_le_self a b)
  have k2 := len_mono (Nat.mod_le a b)
  have k3 := len_mul (a / b) b
  have k4 := len_D a
  have k5 := len_D b
  clear hb
  go_enter Tryd.func6, Tryd.ntmps6
  have H1 := Lib.hid (awake_any w)
  go_wp2_with fail
  refine H1.out.mono ?_
  rintro e w1 ⟨rfl, hb⟩
  replace r0 := r0.below hb
  replace r1 := r1.below hb
  have hB := hb
  clear hb H1
  have H2 := Lib.hid (few_nat v0 (.slice ad1 n c1) a b w1 r0.row r1.row n0 n1)
  go_wp2_with fail
  refine H2.out.mono ?_
  rintro e w2 ⟨rfl, rfl⟩
  clear H2
  have H3 := Lib.hid (copied_any v0 (L a) w1 r0 (by omega))
  go_wp2_with fail
  refine H3.out.mono ?_
  rintro e w3 ⟨x, rfl, rx, hb⟩
  replace r0 := r0.below hb
  replace r1 := r1.below hb
  replace hB := hB.trans (hb.mono hB.size)
  clear hb H3
  have H4 := Lib.hid (copied_any (.slice ad1 n c1) (L b) w3 r1 (by omega))
  go_wp2_with fail
  refine H4.out.mono ?_
  rintro e w4 ⟨y, rfl, ry, hb⟩
  replace r0 := r0.below hb
  replace r1 := r1.below hb
  replace rx := rx.below hb
  replace hB := hB.trans (hb.mono hB.size)
  clear hb H4
  have H5 := Lib.hid (divmod_nat x y a b w4 rx ry (by omega) (by omega) HB.out)
  go_wp2_with fail
  refine H5.out.mono ?_
  rintro e w5 ⟨q, r, rfl, rq, rr, hb⟩
  replace r0 := r0.below hb
  replace r1 := r1.below hb
  replace rx := rx.below hb
  replace ry := ry.below hb
  replace hB := hB.trans (hb.mono hB.size)
  clear hb H5
  have H6 := Lib.hid (limbs_nat v0 a w5 r0.row (by omega))
  go_wp2_with fail
  refine H6.out.mono ?_
  rintro e w6 ⟨p, rfl, rp, hb⟩
  replace r0 := r0.below hb
  replace r1 := r1.below hb
  replace rx := rx.below hb
  replace ry := ry.below hb
  replace rq := rq.below hb
  replace rr := rr.below hb
  replace hB := hB.trans (hb.mono hB.size)
  clear hb H6
  have H7 := Lib.hid (limbs_nat (.slice ad1 n c1) b w6 r1.row (by omega))
  go_wp2_with fail
  refine H7.out.mono ?_
  rintro e w7 ⟨s, rfl, rs, hb⟩
  replace r0 := r0.below hb
  replace r1 := r1.below hb
  replace rx := rx.below hb
  replace ry := ry.below hb
  replace rq := rq.below hb
  replace rr := rr.below hb
  replace rp := rp.below hb
  replace hB := hB.trans (hb.mono hB.size)
  clear hb H7
  have H8 := Lib.hid (Div_any p s a b w7 rp rs (by omega) (by omega) HB.out)
  go_wp2_with fail
  refine H8.out.mono ?_
  rintro e w8 ⟨t, u, rfl, rt, ru, hb⟩
  replace r0 := r0.below hb
  replace r1 := r1.below hb
  replace rx := rx.below hb
  replace ry := ry.below hb
  replace rq := rq.below hb
  replace rr := rr.below hb
  replace rp := rp.below hb
  replace rs := rs.below hb
  replace hB := hB.trans (hb.mono hB.size)
  clear hb H8
  have H9 := Lib.hid (Is_true q t (a / b) w8 rq rt (by omega))
  go_wp2_with fail
  refine H9.out.mono ?_
  rintro e w9 ⟨rfl, hb⟩
  replace r0 := r0.below hb
  replace r1 := r1.below hb
  replace rx := rx.below hb
  replace ry := ry.below hb
  replace rq := rq.below hb
  replace rr := rr.below hb
  replace rt := rt.below hb
  replace ru := ru.below hb
  replace hB := hB.trans (hb.mono hB.size)
  clear hb H9
  have H10 := Lib.hid (Is_true r u (a % b) w9 rr ru (by omega))
  go_wp2_with fail
  refine H10.out.mono ?_
  rintro e w10 ⟨rfl, hb⟩
  replace r0 := r0.below hb
  replace r1 := r1.below hb
  replace rx := rx.below hb
  replace ry := ry.below hb
  replace rq := rq.below hb
  replace rr := rr.below hb
  replace ru := ru.below hb
  replace hB := hB.trans (hb.mono hB.size)
  clear hb H10
  have H11 := Lib.hid (mul_nat q y (a / b) b w10 rq ry (by omega) (by omega))
  go_wp2_with fail
  refine H11.out.mono ?_
  rintro e w11 ⟨m, rfl, rm, hb⟩
  replace r0 := r0.below hb
  replace r1 := r1.below hb
  replace rx := rx.below hb
  replace ry := ry.below hb
  replace rq := rq.below hb
  replace rr := rr.below hb
  replace hB := hB.trans (hb.mono hB.size)
  clear hb H11
  have H12 := Lib.hid (add_nat m r (a / b * b) (a % b) w11 rm rr (by omega) (by omega))
  go_wp2_with fail
  refine H12.out.mono ?_
  rintro e w12 ⟨o, rfl, ro, hb⟩
  replace r0 := r0.below hb
  replace r1 := r1.below hb
  replace rx := rx.below hb
  replace ry := ry.below hb
  replace rr := rr.below hb
  replace rm := rm.below hb
  replace hB := hB.trans (hb.mono hB.size)
  clear hb H12
  have H13 := Lib.hid (cmp_same o x (a / b * b + a % b) a w12 ro rx (by rw [HE.out]; omega) HE.out)
  go_wp2_with fail
  refine H13.out.mono ?_
  rintro e w13 ⟨rfl, hb⟩
  replace r0 := r0.below hb
  replace r1 := r1.below hb
  replace rx := rx.below hb
  replace ry := ry.below hb
  replace rr := rr.below hb
  replace ro := ro.below hb
  replace hB := hB.trans (hb.mono hB.size)
  clear hb H13
  have H14 := Lib.hid (cmp_nat r y (a % b) b w13 rr ry (by omega) (by omega))
  rw [cmpZ_lt (Nat.mod_lt a (Nat.pos_of_ne_zero HB.out))] at H14
  go_wp2_with fail
  refine H14.out.mono ?_
  rintro e w14 ⟨rfl, hb⟩
  replace r0 := r0.below hb
  replace r1 := r1.below hb
  replace rx := rx.below hb
  replace ry := ry.below hb
  replace rr := rr.below hb
  replace hB := hB.trans (hb.mono hB.size)
  clear hb H14
  have H15 := Lib.hid (same_true x v0 (L a) w14 rx r0.row (by omega))
  go_wp2_with fail
  refine H15.out.mono ?_
  rintro e w15 ⟨rfl, hb⟩
  replace r0 := r0.below hb
  replace r1 := r1.below hb
  replace rx := rx.below hb
  replace ry := ry.below hb
  replace hB := hB.trans (hb.mono hB.size)
  clear hb H15
  have H16 := Lib.hid (same_true y (.slice ad1 n c1) (L b) w15 ry r1.row (by omega))
  go_wp2_with fail
  refine H16.out.mono ?_
  rintro e w16 ⟨rfl, hb⟩
  replace r0 := r0.below hb
  replace r1 := r1.below hb
  replace ry := ry.below hb
  replace hB := hB.trans (hb.mono hB.size)
  clear hb H16
  go_wp2_with fail
  go_ret
  exact ⟨rfl, hB⟩

theorem quotients_any (v0 v1 : Value) (l0 l1 : List Nat) (w : World) (r0 : RowA w v0 l0) (r1 : RowA w v1 l1) (s0 : SmallU l0) (s1 : SmallU l1) :
    Calls Tryd.prog 6 #[v0, v1] w fun e w' => e = .returned (.bool true) ∧ Below w.heap.size w w' := by
  cases hf : fewB l0 l1
  · exact quotients_no v0 v1 l0 l1 w r0 r1 hf
  · obtain ⟨n0, n1, g0, g1⟩ := few_parts hf
    obtain ⟨a, rfl⟩ := nat_of_good g0 s0
    obtain ⟨b, rfl⟩ := nat_of_good g1 s1
    obtain ⟨ad1, c1, rfl, -, -⟩ := id r1.row
    by_cases hb : b = 0
    · have e : (L b).length = 0 := by rw [hb]; rfl
      rw [e] at r1 ⊢
      exact quotients_zero v0 ad1 c1 a b w r0 r1 n0 n1 hb
    · exact quotients_more v0 ad1 c1 _ a b w r0 r1 n0 n1 hb (len_pos hb)
end Go.Proofs.YtmgopoibofhnlaaDoor
