/-
  The walk of NatGcds: for every two slices of limbs it answers true and leaves all memory as it was. No condition.
-/
import Derived.Test.YtmgopoibofhnlaaDoorNn
import Derived.Test.YtmgopoibofhnlaaDoorRh
namespace Go.Proofs.YtmgopoibofhnlaaDoor
open Go.RowKit Go.Dig Go.Shelf Go.Proofs

theorem gcd_small (a b : Nat) : Nat.gcd a b ≤ a + b := by
  by_cases h : a = 0
  · subst h; rw [Nat.gcd_zero_left]; omega
  · exact Nat.le_trans (Nat.gcd_le_left b (Nat.pos_of_ne_zero h)) (by omega)
theorem len_gcd (a b : Nat) : (L (Nat.gcd a b)).length ≤ (L a).length + (L b).length + 1 := Nat.le_trans (len_mono (gcd_small a b)) (len_add a b)
set_option maxRecDepth 100000 in
set_option maxHeartbeats 4000000 in
theorem gcds_no (v0 v1 : Value) (l0 l1 : List Nat) (w : World) (r0 : RowA w v0 l0) (r1 : RowA w v1 l1) (hf : fewB l0 l1 = false) :
    Calls Tryd.prog 7 #[v0, v1] w fun e w' => e = .returned (.bool true) ∧ Below w.heap.size w w' := by
  have HF := Lib.hid hf
  clear hf
  go_enter Tryd.func7, Tryd.ntmps7
  have H1 := Lib.hid (awake_any w)
  go_wp2_with fail
  refine H1.out.mono ?_
  rintro e w1 ⟨rfl, hb⟩
  replace r0 := r0.below hb
  replace r1 := r1.below hb
  have hB := hb
  clear hb H1
  have H2 := Lib.hid (few_any v0 v1 l0 l1 w1 r0.row r1.row)
  rw [HF.out] at H2
  go_wp2_with fail
  refine H2.out.mono ?_
  rintro e w2 ⟨rfl, rfl⟩
  clear H2
  have H3 := Lib.hid (awake_any w1)
  go_wp2_with fail
  refine H3.out.mono ?_
  rintro e w3 ⟨rfl, hb⟩
  replace r0 := r0.below hb
  replace r1 := r1.below hb
  replace hB := hB.trans (hb.mono hB.size)
  clear hb H3
  go_wp2_with fail
  go_ret
  exact ⟨rfl, hB⟩

set_option maxRecDepth 100000 in
set_option maxHeartbeats 4000000 in
theorem gcds_big (ad0 ad1 : Option Addr) (m c0 n c1 a b : Nat) (w : World) (r0 : RowA w (.slice ad0 m c0) (L a)) (r1 : RowA w (.slice ad1 n c1) (L b)) (n0 : (L a).length ≤ 12) (n1 : (L b).length ≤ 12) (hm : m ≤ 12) (hn : n ≤ 12) (hs : 8 < m + n) :
    Calls Tryd.prog 7 #[.slice ad0 m c0, .slice ad1 n c1] w fun e w' => e = .returned (.bool true) ∧ Below w.heap.size w w' := by
  go_enter Tryd.func7, Tryd.ntmps7
  have H1 := Lib.hid (awake_any w)
  go_wp2_with fail
  refine H1.out.mono ?_
  rintro e w1 ⟨rfl, hb⟩
  replace r0 := r0.below hb
  replace r1 := r1.below hb
  have hB := hb
  clear hb H1
  have H2 := Lib.hid (few_nat (.slice ad0 m c0) (.slice ad1 n c1) a b w1 r0.row r1.row n0 n1)
  go_wp2_with fail
  refine H2.out.mono ?_
  rintro e w2 ⟨rfl, rfl⟩
  clear H2
  have H3 := Lib.hid (awake_any w1)
  go_wp2_with fail
  refine H3.out.mono ?_
  rintro e w3 ⟨rfl, hb⟩
  replace r0 := r0.below hb
  replace r1 := r1.below hb
  replace hB := hB.trans (hb.mono hB.size)
  clear hb H3
  go_wp2_with fail
  go_ret
  exact ⟨rfl, hB⟩

set_option maxRecDepth 100000 in
set_option maxHeartbeats 4000000 in
theorem gcds_yes (ad0 ad1 : Option Addr) (m c0 n c1 a b : Nat) (w : World) (r0 : RowA w (.slice ad0 m c0) (L a)) (r1 : RowA w (.slice ad1 n c1) (L b)) (n0 : (L a).length ≤ 12) (n1 : (L b).length ≤ 12) (hm : m ≤ 12) (hn : n ≤ 12) (hs : m + n ≤ 8) :
    Calls Tryd.prog 7 #[.slice ad0 m c0, .slice ad1 n c1] w fun e w' => e = .returned (.bool true) ∧ Below w.heap.size w w' := by
  have k3 := len_gcd a b
  have k4 := len_D a
  have k5 := len_D b
  go_enter Tryd.func7, Tryd.ntmps7
  have H1 := Lib.hid (awake_any w)
  go_wp2_with fail
  refine H1.out.mono ?_
  rintro e w1 ⟨rfl, hb⟩
  replace r0 := r0.below hb
  replace r1 := r1.below hb
  have hB := hb
  clear hb H1
  have H2 := Lib.hid (few_nat (.slice ad0 m c0) (.slice ad1 n c1) a b w1 r0.row r1.row n0 n1)
  go_wp2_with fail
  refine H2.out.mono ?_
  rintro e w2 ⟨rfl, rfl⟩
  clear H2
  have H3 := Lib.hid (copied_any (.slice ad0 m c0) (L a) w1 r0 (by omega))
  go_wp2_with fail
  refine H3.out.mono ?_
  rintro e w3 ⟨x, rfl, rx, hb⟩
  replace r0 := r0.below hb
  replace r1 := r1.below hb
  replace hB := hB.trans (hb.mono hB.size)
  clear hb H3
  have H4 := Lib.hid (copied_any (.slice ad1 n c1) (L b) w3 r1 (by omega))
  go_wp2_with fail
  refine H4.out.mono ?_
  rintro e w4 ⟨y, rfl, ry, hb⟩
  replace r0 := r0.below hb
  replace r1 := r1.below hb
  replace rx := rx.below hb
  replace hB := hB.trans (hb.mono hB.size)
  clear hb H4
  have H5 := Lib.hid (gcd_nat x y a b w4 rx ry (by omega) (by omega))
  go_wp2_with fail
  refine H5.out.mono ?_
  rintro e w5 ⟨g, rfl, rg, hb⟩
  replace r0 := r0.below hb
  replace r1 := r1.below hb
  replace rx := rx.below hb
  replace ry := ry.below hb
  replace hB := hB.trans (hb.mono hB.size)
  clear hb H5
  have H6 := Lib.hid (limbs_nat (.slice ad0 m c0) a w5 r0.row (by omega))
  go_wp2_with fail
  refine H6.out.mono ?_
  rintro e w6 ⟨p, rfl, rp, hb⟩
  replace r0 := r0.below hb
  replace r1 := r1.below hb
  replace rg := rg.below hb
  replace hB := hB.trans (hb.mono hB.size)
  clear hb H6
  have H7 := Lib.hid (limbs_nat (.slice ad1 n c1) b w6 r1.row (by omega))
  go_wp2_with fail
  refine H7.out.mono ?_
  rintro e w7 ⟨s, rfl, rs, hb⟩
  replace r0 := r0.below hb
  replace r1 := r1.below hb
  replace rg := rg.below hb
  replace rp := rp.below hb
  replace hB := hB.trans (hb.mono hB.size)
  clear hb H7
  have H8 := Lib.hid (Gcd_any p s a b w7 rp rs (by omega) (by omega))
  go_wp2_with fail
  refine H8.out.mono ?_
  rintro e w8 ⟨t, rfl, rt, hb⟩
  replace r0 := r0.below hb
  replace r1 := r1.below hb
  replace rg := rg.below hb
  replace rp := rp.below hb
  replace rs := rs.below hb
  replace hB := hB.trans (hb.mono hB.size)
  clear hb H8
  have H9 := Lib.hid (Is_true g t (Nat.gcd a b) w8 rg rt (by omega))
  go_wp2_with fail
  refine H9.out.mono ?_
  rintro e w9 ⟨rfl, hb⟩
  replace r0 := r0.below hb
  replace r1 := r1.below hb
  replace rg := rg.below hb
  replace rt := rt.below hb
  replace hB := hB.trans (hb.mono hB.size)
  clear hb H9
  go_wp2_with fail
  go_ret
  exact ⟨rfl, hB⟩

theorem gcds_any (v0 v1 : Value) (l0 l1 : List Nat) (w : World) (r0 : RowA w v0 l0) (r1 : RowA w v1 l1) (s0 : SmallU l0) (s1 : SmallU l1) :
    Calls Tryd.prog 7 #[v0, v1] w fun e w' => e = .returned (.bool true) ∧ Below w.heap.size w w' := by
  cases hf : fewB l0 l1
  · exact gcds_no v0 v1 l0 l1 w r0 r1 hf
  · obtain ⟨n0, n1, g0, g1⟩ := few_parts hf
    obtain ⟨a, rfl⟩ := nat_of_good g0 s0
    obtain ⟨b, rfl⟩ := nat_of_good g1 s1
    obtain ⟨ad0, c0, rfl, -, -⟩ := id r0.row
    obtain ⟨ad1, c1, rfl, -, -⟩ := id r1.row
    by_cases hs : (L a).length + (L b).length ≤ 8
    · exact gcds_yes ad0 ad1 _ c0 _ c1 a b w r0 r1 n0 n1 n0 n1 hs
    · exact gcds_big ad0 ad1 _ c0 _ c1 a b w r0 r1 n0 n1 n0 n1 (by omega)
end Go.Proofs.YtmgopoibofhnlaaDoor
