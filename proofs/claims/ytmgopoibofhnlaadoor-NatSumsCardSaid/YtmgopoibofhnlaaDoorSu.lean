/-
  The walk of NatSums: for every two slices of limbs it answers true and leaves all memory as it was. No condition.
-/
import Derived.Test.YtmgopoibofhnlaaDoorLb
import Derived.Test.YtmgopoibofhnlaaDoorNf
namespace Go.Proofs.YtmgopoibofhnlaaDoor
open Go.RowKit Go.Dig Go.Shelf Go.Proofs

theorem L_add_len (a b : Nat) : (L (a + b)).length ≤ (L a).length + (L b).length + 1 := by
  rw [dig_len (by omega)]
  have h1 : a < 18446744073709551616 ^ (L a).length := dig_lt (B := 18446744073709551616) (by omega) a
  have h2 : b < 18446744073709551616 ^ (L b).length := dig_lt (B := 18446744073709551616) (by omega) b
  have h3 : 18446744073709551616 ^ (L a).length ≤ 18446744073709551616 ^ ((L a).length + (L b).length) := Nat.pow_le_pow_right (by omega) (by omega)
  have h4 : 18446744073709551616 ^ (L b).length ≤ 18446744073709551616 ^ ((L a).length + (L b).length) := Nat.pow_le_pow_right (by omega) (by omega)
  rw [Nat.pow_succ]
  omega
set_option maxRecDepth 100000 in
set_option maxHeartbeats 4000000 in
theorem sums_no (v0 v1 : Value) (l0 l1 : List Nat) (w : World) (r0 : RowA w v0 l0) (r1 : RowA w v1 l1) (hf : fewB l0 l1 = false) :
    Calls Tryd.prog 4 #[v0, v1] w fun e w' => e = .returned (.bool true) ∧ Below w.heap.size w w' := by
  have HF := Lib.hid hf
  clear hf
  go_enter Tryd.func4, Tryd.ntmps4
  have H1 := Lib.hid (awake_any w)
  go_wp2_with fail
  refine H1.out.mono ?_
  rintro e w1 ⟨rfl, hb⟩
  replace r0 := r0.below hb
  replace r1 := r1.below hb
  have hB := hb
  clear hb H1
  have H2 := Lib.hid (few_any v0 v1 l0 l1 w1 r0.row r1.row)
  rw [HF.out] at H2
  go_wp2_with fail
  refine H2.out.mono ?_
  rintro e w2 ⟨rfl, rfl⟩
  clear H2
  have H3 := Lib.hid (awake_any w1)
  go_wp2_with fail
  refine H3.out.mono ?_
  rintro e w3 ⟨rfl, hb⟩
  replace r0 := r0.below hb
  replace r1 := r1.below hb
  replace hB := hB.trans (hb.mono hB.size)
  clear hb H3
  go_wp2_with fail
  go_ret
  exact ⟨rfl, hB⟩

set_option maxRecDepth 100000 in
set_option maxHeartbeats 4000000 in
theorem sums_lt (v0 v1 : Value) (l0 l1 : List Nat) (w : World) (r0 : RowA w v0 l0) (r1 : RowA w v1 l1) (s0 : SmallU l0) (s1 : SmallU l1) (hf : fewB l0 l1 = true) (hlt : V l0 < V l1) :
    Calls Tryd.prog 4 #[v0, v1] w fun e w' => e = .returned (.bool true) ∧ Below w.heap.size w w' := by
  obtain ⟨n0, n1, g0, g1⟩ := few_parts hf
  have HF := Lib.hid hf
  have E0 := Lib.hid (L_of_good g0 s0)
  have E1 := Lib.hid (L_of_good g1 s1)
  have m0 : (L (V l0)).length ≤ 12 := by rw [← E0.out]; exact n0
  have m1 : (L (V l1)).length ≤ 12 := by rw [← E1.out]; exact n1
  have ms := L_add_len (V l0) (V l1)
  have d0 := D_len s0
  have d1 := D_len s1
  have md : (L (V l0 - V l1)).length ≤ 12 := Nat.le_trans (dig_mono (by omega) (by omega)) m0
  clear g0 g1 hf
  have HZ := Lib.hid (cmpZ_lt hlt)
  have HLT := Lib.hid hlt
  clear hlt
  go_enter Tryd.func4, Tryd.ntmps4
  have H1 := Lib.hid (awake_any w)
  go_wp2_with fail
  refine H1.out.mono ?_
  rintro e w1 ⟨rfl, hb⟩
  replace r0 := r0.below hb
  replace r1 := r1.below hb
  have hB := hb
  clear hb H1
  have H2 := Lib.hid (few_any v0 v1 l0 l1 w1 r0.row r1.row)
  rw [HF.out] at H2
  go_wp2_with fail
  refine H2.out.mono ?_
  rintro e w2 ⟨rfl, rfl⟩
  clear H2
  have H3 := Lib.hid (copied_any v0 l0 w1 r0 (by omega))
  go_wp2_with fail
  refine H3.out.mono ?_
  rintro e w3 ⟨x, rfl, rx, hb⟩
  replace r0 := r0.below hb
  replace r1 := r1.below hb
  replace hB := hB.trans (hb.mono hB.size)
  clear hb H3
  have H4 := Lib.hid (copied_any v1 l1 w3 r1 (by omega))
  go_wp2_with fail
  refine H4.out.mono ?_
  rintro e w4 ⟨y, rfl, ry, hb⟩
  replace r0 := r0.below hb
  replace r1 := r1.below hb
  replace rx := rx.below hb
  replace hB := hB.trans (hb.mono hB.size)
  clear hb H4
  have H5 := Lib.hid (Limbs_any v0 l0 w4 r0.row s0 (by omega))
  go_wp2_with fail
  refine H5.out.mono ?_
  rintro e w5 ⟨p, rfl, rp, hb⟩
  replace r0 := r0.below hb
  replace r1 := r1.below hb
  replace rx := rx.below hb
  replace ry := ry.below hb
  replace hB := hB.trans (hb.mono hB.size)
  clear hb H5
  have H6 := Lib.hid (Limbs_any v1 l1 w5 r1.row s1 (by omega))
  go_wp2_with fail
  refine H6.out.mono ?_
  rintro e w6 ⟨q, rfl, rq, hb⟩
  replace r0 := r0.below hb
  replace r1 := r1.below hb
  replace rx := rx.below hb
  replace ry := ry.below hb
  replace rp := rp.below hb
  replace hB := hB.trans (hb.mono hB.size)
  clear hb H6
  have H7 := Lib.hid (Cmp_any p q (V l0) (V l1) w6 rp rq (by omega) (by omega))
  rw [HZ.out] at H7
  go_wp2_with fail
  refine H7.out.mono ?_
  rintro e w7 ⟨rfl, hb⟩
  replace r0 := r0.below hb
  replace r1 := r1.below hb
  replace rx := rx.below hb
  replace ry := ry.below hb
  replace rp := rp.below hb
  replace rq := rq.below hb
  replace hB := hB.trans (hb.mono hB.size)
  clear hb H7
  have H8 := Lib.hid (nSub_less x y (V l0) (V l1) w7 (by rw [← E0.out]; exact rx) (by rw [← E1.out]; exact ry) (by omega) (by omega) HLT.out)
  go_wp2_with fail
  refine H8.out.mono ?_
  rintro e w8 ⟨rfl, hb⟩
  replace r0 := r0.below hb
  replace r1 := r1.below hb
  replace rx := rx.below hb
  replace ry := ry.below hb
  replace rp := rp.below hb
  replace rq := rq.below hb
  replace hB := hB.trans (hb.mono hB.size)
  clear hb H8
  have H9 := Lib.hid (nCmp_any x y l0 l1 w8 rx ry s0 s1 (by omega) (by omega))
  rw [HZ.out] at H9
  go_wp2_with fail
  refine H9.out.mono ?_
  rintro e w9 ⟨rfl, hb⟩
  replace r0 := r0.below hb
  replace r1 := r1.below hb
  replace rx := rx.below hb
  replace ry := ry.below hb
  replace rp := rp.below hb
  replace rq := rq.below hb
  replace hB := hB.trans (hb.mono hB.size)
  clear hb H9
  have H10 := Lib.hid (nAdd_any x y l0 l1 w9 rx ry s0 s1 (by omega) (by omega))
  go_wp2_with fail
  refine H10.out.mono ?_
  rintro e w10 ⟨u, rfl, ru, hb⟩
  replace r0 := r0.below hb
  replace r1 := r1.below hb
  replace rx := rx.below hb
  replace ry := ry.below hb
  replace rp := rp.below hb
  replace rq := rq.below hb
  replace hB := hB.trans (hb.mono hB.size)
  clear hb H10
  have H11 := Lib.hid (Add_any p q (V l0) (V l1) w10 rp rq (by omega) (by omega))
  go_wp2_with fail
  refine H11.out.mono ?_
  rintro e w11 ⟨t, rfl, rt, hb⟩
  replace r0 := r0.below hb
  replace r1 := r1.below hb
  replace rx := rx.below hb
  replace ry := ry.below hb
  replace rp := rp.below hb
  replace rq := rq.below hb
  replace ru := ru.below hb
  replace hB := hB.trans (hb.mono hB.size)
  clear hb H11
  have H12 := Lib.hid (Is_true u t (V l0 + V l1) w11 ru rt (by omega))
  go_wp2_with fail
  refine H12.out.mono ?_
  rintro e w12 ⟨rfl, hb⟩
  replace r0 := r0.below hb
  replace r1 := r1.below hb
  replace rx := rx.below hb
  replace ry := ry.below hb
  replace rp := rp.below hb
  replace rq := rq.below hb
  replace ru := ru.below hb
  replace rt := rt.below hb
  replace hB := hB.trans (hb.mono hB.size)
  clear hb H12
  go_wp2_with fail
  go_ret
  exact ⟨rfl, hB⟩

set_option maxRecDepth 100000 in
set_option maxHeartbeats 4000000 in
theorem sums_ge (v0 v1 : Value) (l0 l1 : List Nat) (w : World) (r0 : RowA w v0 l0) (r1 : RowA w v1 l1) (s0 : SmallU l0) (s1 : SmallU l1) (hf : fewB l0 l1 = true) (hlt : V l1 ≤ V l0) :
    Calls Tryd.prog 4 #[v0, v1] w fun e w' => e = .returned (.bool true) ∧ Below w.heap.size w w' := by
  obtain ⟨n0, n1, g0, g1⟩ := few_parts hf
  have HF := Lib.hid hf
  have E0 := Lib.hid (L_of_good g0 s0)
  have E1 := Lib.hid (L_of_good g1 s1)
  have m0 : (L (V l0)).length ≤ 12 := by rw [← E0.out]; exact n0
  have m1 : (L (V l1)).length ≤ 12 := by rw [← E1.out]; exact n1
  have ms := L_add_len (V l0) (V l1)
  have d0 := D_len s0
  have d1 := D_len s1
  have md : (L (V l0 - V l1)).length ≤ 12 := Nat.le_trans (dig_mono (by omega) (by omega)) m0
  clear g0 g1 hf
  obtain ⟨z, hz, hz0⟩ : ∃ z, cmpZ (V l0) (V l1) = z ∧ 0 ≤ z := ⟨_, rfl, by unfold cmpZ; rw [if_neg (by omega)]; split <;> omega⟩
  have HZ := Lib.hid hz
  have HLT := Lib.hid hlt
  clear hlt hz
  go_enter Tryd.func4, Tryd.ntmps4
  have H1 := Lib.hid (awake_any w)
  go_wp2_with fail
  refine H1.out.mono ?_
  rintro e w1 ⟨rfl, hb⟩
  replace r0 := r0.below hb
  replace r1 := r1.below hb
  have hB := hb
  clear hb H1
  have H2 := Lib.hid (few_any v0 v1 l0 l1 w1 r0.row r1.row)
  rw [HF.out] at H2
  go_wp2_with fail
  refine H2.out.mono ?_
  rintro e w2 ⟨rfl, rfl⟩
  clear H2
  have H3 := Lib.hid (copied_any v0 l0 w1 r0 (by omega))
  go_wp2_with fail
  refine H3.out.mono ?_
  rintro e w3 ⟨x, rfl, rx, hb⟩
  replace r0 := r0.below hb
  replace r1 := r1.below hb
  replace hB := hB.trans (hb.mono hB.size)
  clear hb H3
  have H4 := Lib.hid (copied_any v1 l1 w3 r1 (by omega))
  go_wp2_with fail
  refine H4.out.mono ?_
  rintro e w4 ⟨y, rfl, ry, hb⟩
  replace r0 := r0.below hb
  replace r1 := r1.below hb
  replace rx := rx.below hb
  replace hB := hB.trans (hb.mono hB.size)
  clear hb H4
  have H5 := Lib.hid (Limbs_any v0 l0 w4 r0.row s0 (by omega))
  go_wp2_with fail
  refine H5.out.mono ?_
  rintro e w5 ⟨p, rfl, rp, hb⟩
  replace r0 := r0.below hb
  replace r1 := r1.below hb
  replace rx := rx.below hb
  replace ry := ry.below hb
  replace hB := hB.trans (hb.mono hB.size)
  clear hb H5
  have H6 := Lib.hid (Limbs_any v1 l1 w5 r1.row s1 (by omega))
  go_wp2_with fail
  refine H6.out.mono ?_
  rintro e w6 ⟨q, rfl, rq, hb⟩
  replace r0 := r0.below hb
  replace r1 := r1.below hb
  replace rx := rx.below hb
  replace ry := ry.below hb
  replace rp := rp.below hb
  replace hB := hB.trans (hb.mono hB.size)
  clear hb H6
  have H7 := Lib.hid (Cmp_any p q (V l0) (V l1) w6 rp rq (by omega) (by omega))
  rw [HZ.out] at H7
  go_wp2_with fail
  refine H7.out.mono ?_
  rintro e w7 ⟨rfl, hb⟩
  replace r0 := r0.below hb
  replace r1 := r1.below hb
  replace rx := rx.below hb
  replace ry := ry.below hb
  replace rp := rp.below hb
  replace rq := rq.below hb
  replace hB := hB.trans (hb.mono hB.size)
  clear hb H7
  have H8 := Lib.hid (nSub_any x y (V l0) (V l1) w7 (by rw [← E0.out]; exact rx) (by rw [← E1.out]; exact ry) (by omega) HLT.out)
  go_wp2_with fail
  refine H8.out.mono ?_
  rintro e w8 ⟨d, rfl, rd, hb⟩
  replace r0 := r0.below hb
  replace r1 := r1.below hb
  replace rx := rx.below hb
  replace ry := ry.below hb
  replace rp := rp.below hb
  replace rq := rq.below hb
  replace hB := hB.trans (hb.mono hB.size)
  clear hb H8
  have H9 := Lib.hid (nCmp_any x y l0 l1 w8 rx ry s0 s1 (by omega) (by omega))
  rw [HZ.out] at H9
  go_wp2_with fail
  refine H9.out.mono ?_
  rintro e w9 ⟨rfl, hb⟩
  replace r0 := r0.below hb
  replace r1 := r1.below hb
  replace rx := rx.below hb
  replace ry := ry.below hb
  replace rp := rp.below hb
  replace rq := rq.below hb
  replace rd := rd.below hb
  replace hB := hB.trans (hb.mono hB.size)
  clear hb H9
  have H10 := Lib.hid (nAdd_any x y l0 l1 w9 rx ry s0 s1 (by omega) (by omega))
  go_wp2_with fail
  refine H10.out.mono ?_
  rintro e w10 ⟨u, rfl, ru, hb⟩
  replace r0 := r0.below hb
  replace r1 := r1.below hb
  replace rx := rx.below hb
  replace ry := ry.below hb
  replace rp := rp.below hb
  replace rq := rq.below hb
  replace rd := rd.below hb
  replace hB := hB.trans (hb.mono hB.size)
  clear hb H10
  have H11 := Lib.hid (Add_any p q (V l0) (V l1) w10 rp rq (by omega) (by omega))
  go_wp2_with fail
  refine H11.out.mono ?_
  rintro e w11 ⟨t, rfl, rt, hb⟩
  replace r0 := r0.below hb
  replace r1 := r1.below hb
  replace rx := rx.below hb
  replace ry := ry.below hb
  replace rp := rp.below hb
  replace rq := rq.below hb
  replace rd := rd.below hb
  replace ru := ru.below hb
  replace hB := hB.trans (hb.mono hB.size)
  clear hb H11
  have H12 := Lib.hid (Is_true u t (V l0 + V l1) w11 ru rt (by omega))
  go_wp2_with fail
  refine H12.out.mono ?_
  rintro e w12 ⟨rfl, hb⟩
  replace r0 := r0.below hb
  replace r1 := r1.below hb
  replace rx := rx.below hb
  replace ry := ry.below hb
  replace rp := rp.below hb
  replace rq := rq.below hb
  replace rd := rd.below hb
  replace ru := ru.below hb
  replace rt := rt.below hb
  replace hB := hB.trans (hb.mono hB.size)
  clear hb H12
  have H13 := Lib.hid (Sub_any p q (V l0) (V l1) w12 rp rq (by omega) HLT.out)
  go_wp2_with fail
  refine H13.out.mono ?_
  rintro e w13 ⟨k, rfl, rk, hb⟩
  replace r0 := r0.below hb
  replace r1 := r1.below hb
  replace rx := rx.below hb
  replace ry := ry.below hb
  replace rp := rp.below hb
  replace rq := rq.below hb
  replace rd := rd.below hb
  replace ru := ru.below hb
  replace rt := rt.below hb
  replace hB := hB.trans (hb.mono hB.size)
  clear hb H13
  have H14 := Lib.hid (Is_true d k (V l0 - V l1) w13 rd rk (by omega))
  go_wp2_with fail
  refine H14.out.mono ?_
  rintro e w14 ⟨rfl, hb⟩
  replace r0 := r0.below hb
  replace r1 := r1.below hb
  replace rx := rx.below hb
  replace ry := ry.below hb
  replace rp := rp.below hb
  replace rq := rq.below hb
  replace rd := rd.below hb
  replace ru := ru.below hb
  replace rt := rt.below hb
  replace rk := rk.below hb
  replace hB := hB.trans (hb.mono hB.size)
  clear hb H14
  have H15 := Lib.hid (same_true x v0 l0 w14 rx r0.row (by omega))
  go_wp2_with fail
  refine H15.out.mono ?_
  rintro e w15 ⟨rfl, hb⟩
  replace r0 := r0.below hb
  replace r1 := r1.below hb
  replace rx := rx.below hb
  replace ry := ry.below hb
  replace rp := rp.below hb
  replace rq := rq.below hb
  replace rd := rd.below hb
  replace ru := ru.below hb
  replace rt := rt.below hb
  replace rk := rk.below hb
  replace hB := hB.trans (hb.mono hB.size)
  clear hb H15
  have H16 := Lib.hid (same_true y v1 l1 w15 ry r1.row (by omega))
  go_wp2_with fail
  refine H16.out.mono ?_
  rintro e w16 ⟨rfl, hb⟩
  replace r0 := r0.below hb
  replace r1 := r1.below hb
  replace rx := rx.below hb
  replace ry := ry.below hb
  replace rp := rp.below hb
  replace rq := rq.below hb
  replace rd := rd.below hb
  replace ru := ru.below hb
  replace rt := rt.below hb
  replace rk := rk.below hb
  replace hB := hB.trans (hb.mono hB.size)
  clear hb H16
  go_wp2_with fail
  go_ret
  exact ⟨rfl, hB⟩

theorem sums_any (v0 v1 : Value) (l0 l1 : List Nat) (w : World) (r0 : RowA w v0 l0) (r1 : RowA w v1 l1) (s0 : SmallU l0) (s1 : SmallU l1) :
    Calls Tryd.prog 4 #[v0, v1] w fun e w' => e = .returned (.bool true) ∧ Below w.heap.size w w' := by
  cases hf : fewB l0 l1
  · exact sums_no v0 v1 l0 l1 w r0 r1 hf
  · by_cases hlt : V l0 < V l1
    · exact sums_lt v0 v1 l0 l1 w r0 r1 s0 s1 hf hlt
    · exact sums_ge v0 v1 l0 l1 w r0 r1 s0 s1 hf (by omega)
end Go.Proofs.YtmgopoibofhnlaaDoor
