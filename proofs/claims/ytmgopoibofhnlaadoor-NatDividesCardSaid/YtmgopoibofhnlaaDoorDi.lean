/-
  The walk of NatDivides: for every two slices of limbs it answers true and leaves all memory as it was. No condition.
-/
import Derived.Test.YtmgopoibofhnlaaDoorGc
namespace Go.Proofs.YtmgopoibofhnlaaDoor
open Go.RowKit Go.Dig Go.Shelf Go.Proofs

theorem zero_row {w : World} {v : Value} (h : RowU w v (L 0)) : ∃ ad c, v = .slice ad 0 c := by
  obtain ⟨ad, c, rfl, -, -⟩ := h
  exact ⟨ad, c, rfl⟩
set_option maxRecDepth 100000 in
set_option maxHeartbeats 4000000 in
theorem divides_no (v0 v1 : Value) (l0 l1 : List Nat) (w : World) (r0 : RowA w v0 l0) (r1 : RowA w v1 l1) (hf : fewB l0 l1 = false) :
    Calls Tryd.prog 11 #[v0, v1] w fun e w' => e = .returned (.bool true) ∧ Below w.heap.size w w' := by
  have HF := Lib.hid hf
  clear hf
  go_enter Tryd.func11, Tryd.ntmps11
  have H1 := Lib.hid (awake_any w)
  go_wp2_with fail
  refine H1.out.mono ?_
  rintro e w1 ⟨rfl, hb⟩
  replace r0 := r0.below hb
  replace r1 := r1.below hb
  have hB := hb
  clear hb H1
  have H2 := Lib.hid (few_any v0 v1 l0 l1 w1 r0.row r1.row)
  rw [HF.out] at H2
  go_wp2_with fail
  refine H2.out.mono ?_
  rintro e w2 ⟨rfl, rfl⟩
  clear H2
  have H3 := Lib.hid (awake_any w1)
  go_wp2_with fail
  refine H3.out.mono ?_
  rintro e w3 ⟨rfl, hb⟩
  replace r0 := r0.below hb
  replace r1 := r1.below hb
  replace hB := hB.trans (hb.mono hB.size)
  clear hb H3
  go_wp2_with fail
  go_ret
  exact ⟨rfl, hB⟩

set_option maxRecDepth 100000 in
set_option maxHeartbeats 4000000 in
theorem divides_big (ad0 ad1 : Option Addr) (m c0 n c1 a b : Nat) (w : World) (r0 : RowA w (.slice ad0 m c0) (L a)) (r1 : RowA w (.slice ad1 n c1) (L b)) (n0 : (L a).length ≤ 12) (n1 : (L b).length ≤ 12) (hm : m ≤ 12) (hn : n ≤ 12) (hs : 8 < m + n) :
    Calls Tryd.prog 11 #[.slice ad0 m c0, .slice ad1 n c1] w fun e w' => e = .returned (.bool true) ∧ Below w.heap.size w w' := by
  go_enter Tryd.func11, Tryd.ntmps11
  have H1 := Lib.hid (awake_any w)
  go_wp2_with fail
  refine H1.out.mono ?_
  rintro e w1 ⟨rfl, hb⟩
  replace r0 := r0.below hb
  replace r1 := r1.below hb
  have hB := hb
  clear hb H1
  have H2 := Lib.hid (few_nat (.slice ad0 m c0) (.slice ad1 n c1) a b w1 r0.row r1.row n0 n1)
  go_wp2_with fail
  refine H2.out.mono ?_
  rintro e w2 ⟨rfl, rfl⟩
  clear H2
  have H3 := Lib.hid (awake_any w1)
  go_wp2_with fail
  refine H3.out.mono ?_
  rintro e w3 ⟨rfl, hb⟩
  replace r0 := r0.below hb
  replace r1 := r1.below hb
  replace hB := hB.trans (hb.mono hB.size)
  clear hb H3
  go_wp2_with fail
  go_ret
  exact ⟨rfl, hB⟩

set_option maxRecDepth 100000 in
set_option maxHeartbeats 4000000 in
theorem divides_none (ad0 ad1 : Option Addr) (c0 c1 a b : Nat) (w : World) (r0 : RowA w (.slice ad0 0 c0) (L a)) (r1 : RowA w (.slice ad1 0 c1) (L b)) (n0 : (L a).length ≤ 12) (n1 : (L b).length ≤ 12) :
    Calls Tryd.prog 11 #[.slice ad0 0 c0, .slice ad1 0 c1] w fun e w' => e = .returned (.bool true) ∧ Below w.heap.size w w' := by
  go_enter Tryd.func11, Tryd.ntmps11
  have H1 := Lib.hid (awake_any w)
  go_wp2_with fail
  refine H1.out.mono ?_
  rintro e w1 ⟨rfl, hb⟩
  replace r0 := r0.below hb
  replace r1 := r1.below hb
  have hB := hb
  clear hb H1
  have H2 := Lib.hid (few_nat (.slice ad0 0 c0) (.slice ad1 0 c1) a b w1 r0.row r1.row n0 n1)
  go_wp2_with fail
  refine H2.out.mono ?_
  rintro e w2 ⟨rfl, rfl⟩
  clear H2
  have H3 := Lib.hid (awake_any w1)
  go_wp2_with fail
  refine H3.out.mono ?_
  rintro e w3 ⟨rfl, hb⟩
  replace r0 := r0.below hb
  replace r1 := r1.below hb
  replace hB := hB.trans (hb.mono hB.size)
  clear hb H3
  go_wp2_with fail
  go_ret
  exact ⟨rfl, hB⟩

set_option maxRecDepth 100000 in
set_option maxHeartbeats 4000000 in
theorem divides_yes (ad0 ad1 : Option Addr) (m c0 n c1 a b : Nat) (w : World) (r0 : RowA w (.slice ad0 m c0) (L a)) (r1 : RowA w (.slice ad1 n c1) (L b)) (n0 : (L a).length ≤ 12) (n1 : (L b).length ≤ 12) (_hm : m ≤ 12) (_hn : n ≤ 12) (hs : m + n ≤ 8) (hp : 0 < m + n) (hg : Nat.gcd a b ≠ 0) :
    Calls Tryd.prog 11 #[.slice ad0 m c0, .slice ad1 n c1] w fun e w' => e = .returned (.bool true) ∧ Below w.heap.size w w' := by
  have hn0 : (((m : Int) + n) == 0) = false := by rw [beq_eq_false_iff_ne]; omega
  have HG := Lib.hid hg
  have HA : Hid (a % Nat.gcd a b = 0) := Lib.hid (Nat.mod_eq_zero_of_dvd (Nat.gcd_dvd_left a b))
  have HBB : Hid (b % Nat.gcd a b = 0) := Lib.hid (Nat.mod_eq_zero_of_dvd (Nat.gcd_dvd_right a b))
  have HO : Hid (Nat.gcd (a / Nat.gcd a b) (b / Nat.gcd a b) = 1) := Lib.hid (by
    have hp := Nat.pos_of_ne_zero hg
    have e := Nat.gcd_div (Nat.gcd_dvd_left a b) (Nat.gcd_dvd_right a b)
    rw [e, Nat.div_self hp])
  have k3 := len_gcd a b
  have k1 := len_mono (Nat.div_le_self a (Nat.gcd a b))
  have k2 := len_mono (Nat.div_le_self b (Nat.gcd a b))
  clear hg
  go_enter Tryd.func11, Tryd.ntmps11
  have H1 := Lib.hid (awake_any w)
  go_wp2_with fail
  refine H1.out.mono ?_
  rintro e w1 ⟨rfl, hb⟩
  replace r0 := r0.below hb
  replace r1 := r1.below hb
  have hB := hb
  clear hb H1
  have H2 := Lib.hid (few_nat (.slice ad0 m c0) (.slice ad1 n c1) a b w1 r0.row r1.row n0 n1)
  go_wp2_with fail
  refine H2.out.mono ?_
  rintro e w2 ⟨rfl, rfl⟩
  clear H2
  have H3 := Lib.hid (copied_any (.slice ad0 m c0) (L a) w1 r0 (by omega))
  go_wp2_with fail
  refine H3.out.mono ?_
  rintro e w3 ⟨x, rfl, rx, hb⟩
  replace r0 := r0.below hb
  replace r1 := r1.below hb
  replace hB := hB.trans (hb.mono hB.size)
  clear hb H3
  have H4 := Lib.hid (copied_any (.slice ad1 n c1) (L b) w3 r1 (by omega))
  go_wp2_with fail
  refine H4.out.mono ?_
  rintro e w4 ⟨y, rfl, ry, hb⟩
  replace r0 := r0.below hb
  replace r1 := r1.below hb
  replace rx := rx.below hb
  replace hB := hB.trans (hb.mono hB.size)
  clear hb H4
  clear r0 r1
  have H5 := Lib.hid (gcd_nat x y a b w4 rx ry (by omega) (by omega))
  go_wp2_with fail
  refine H5.out.mono ?_
  rintro e w5 ⟨g, rfl, rg, hb⟩
  replace rx := rx.below hb
  replace ry := ry.below hb
  replace hB := hB.trans (hb.mono hB.size)
  clear hb H5
  have H6 := Lib.hid (divmod_nat x g a (Nat.gcd a b) w5 rx rg (by omega) (by omega) HG.out)
  go_wp2_with fail
  refine H6.out.mono ?_
  rintro e w6 ⟨p, r, rfl, rp, rr, hb⟩
  replace rx := rx.below hb
  replace ry := ry.below hb
  replace rg := rg.below hb
  replace hB := hB.trans (hb.mono hB.size)
  clear hb H6
  obtain ⟨adr, cr, rfl⟩ := zero_row (HA.out ▸ rr)
  clear rr
  have H7 := Lib.hid (divmod_nat y g b (Nat.gcd a b) w6 ry rg (by omega) (by omega) HG.out)
  go_wp2_with fail
  refine H7.out.mono ?_
  rintro e w7 ⟨q, s, rfl, rq, rs, hb⟩
  replace ry := ry.below hb
  replace rg := rg.below hb
  replace rp := rp.below hb
  replace hB := hB.trans (hb.mono hB.size)
  clear hb H7
  obtain ⟨ads, cs, rfl⟩ := zero_row (HBB.out ▸ rs)
  clear rs
  have H8 := Lib.hid (gcd_nat p q (a / Nat.gcd a b) (b / Nat.gcd a b) w7 rp rq (by omega) (by omega))
  go_wp2_with fail
  refine H8.out.mono ?_
  rintro e w8 ⟨h, rfl, rh, hb⟩
  replace rp := rp.below hb
  replace rq := rq.below hb
  replace hB := hB.trans (hb.mono hB.size)
  clear hb H8
  have H9 := Lib.hid (nOf_any 1 w8 (by omega))
  go_wp2_with fail
  refine H9.out.mono ?_
  rintro e w9 ⟨o, rfl, ro, hb⟩
  replace rh := rh.below hb
  replace hB := hB.trans (hb.mono hB.size)
  clear hb H9
  have H10 := Lib.hid (cmp_same h o (Nat.gcd (a / Nat.gcd a b) (b / Nat.gcd a b)) 1 w9 rh ro (by rw [HO.out]; show (1 : Nat) ≤ 1000; omega) HO.out)
  go_wp2_with fail
  refine H10.out.mono ?_
  rintro e w10 ⟨rfl, hb⟩
  replace rh := rh.below hb
  replace ro := ro.below hb
  replace hB := hB.trans (hb.mono hB.size)
  clear hb H10
  go_wp2_with fail
  go_ret
  exact ⟨rfl, hB⟩

theorem divides_any (v0 v1 : Value) (l0 l1 : List Nat) (w : World) (r0 : RowA w v0 l0) (r1 : RowA w v1 l1) (s0 : SmallU l0) (s1 : SmallU l1) :
    Calls Tryd.prog 11 #[v0, v1] w fun e w' => e = .returned (.bool true) ∧ Below w.heap.size w w' := by
  cases hf : fewB l0 l1
  · exact divides_no v0 v1 l0 l1 w r0 r1 hf
  · obtain ⟨n0, n1, g0, g1⟩ := few_parts hf
    obtain ⟨a, rfl⟩ := nat_of_good g0 s0
    obtain ⟨b, rfl⟩ := nat_of_good g1 s1
    obtain ⟨ad0, c0, rfl, -, -⟩ := id r0.row
    obtain ⟨ad1, c1, rfl, -, -⟩ := id r1.row
    by_cases hs : (L a).length + (L b).length ≤ 8
    · by_cases hz : (L a).length + (L b).length = 0
      · have e0 : (L a).length = 0 := by omega
        have e1 : (L b).length = 0 := by omega
        rw [e0] at r0 ⊢
        rw [e1] at r1 ⊢
        exact divides_none ad0 ad1 c0 c1 a b w r0 r1 n0 n1
      · refine divides_yes ad0 ad1 _ c0 _ c1 a b w r0 r1 n0 n1 n0 n1 hs (by omega) (fun e => hz ?_)
        obtain ⟨ha, hb⟩ := Nat.gcd_eq_zero_iff.1 e
        subst ha hb
        rfl
    · exact divides_big ad0 ad1 _ c0 _ c1 a b w r0 r1 n0 n1 n0 n1 (by omega)
end Go.Proofs.YtmgopoibofhnlaaDoor
