/-
  The walk of NatTexts: for every slice of limbs it answers true and leaves all memory as it was. No condition.
-/
import Derived.Test.YtmgopoibofhnlaaDoorRt
import Derived.Test.YtmgopoibofhnlaaDoorRi
namespace Go.Proofs.YtmgopoibofhnlaaDoor
open Go.RowKit Go.Dig Go.Shelf Go.Proofs

theorem text_nat (v : Value) (a : Nat) (w : World) (h : RowU w v (L a)) (hl : (L a).length ≤ 1000) :
    Calls Tryd.prog 33 #[v] w fun e w' => e = .returned (.string ⟨(text a).toArray⟩) ∧ Below w.heap.size w w' := by
  have h := nText_any v (L a) w h (small_L a) hl
  rw [V_L] at h
  exact h
theorem read_text (a : Nat) (w : World) (h : (L a).length ≤ 12) :
    Calls Tryd.prog 34 #[.string ⟨(text a).toArray⟩] w fun e w' => ∃ v, e = .returned (.tuple #[v, .int .i64 0]) ∧ RowU w' v (L a) ∧ Below w.heap.size w w' := by
  have h := nRead_yes (text a) (by have := text_len h; omega) (text_is a) w
  rw [readN_text] at h
  exact h
set_option maxRecDepth 100000 in
set_option maxHeartbeats 4000000 in
theorem texts_no (v0 : Value) (l0 : List Nat) (w : World) (r0 : RowA w v0 l0) (hf : fewB l0 [] = false) :
    Calls Tryd.prog 8 #[v0] w fun e w' => e = .returned (.bool true) ∧ Below w.heap.size w w' := by
  have HF := Lib.hid hf
  clear hf
  go_enter Tryd.func8, Tryd.ntmps8
  have H1 := Lib.hid (awake_any w)
  go_wp2_with fail
  refine H1.out.mono ?_
  rintro e w1 ⟨rfl, hb⟩
  replace r0 := r0.below hb
  have hB := hb
  clear hb H1
  have H2 := Lib.hid (few_any v0 (.slice none 0 0) l0 [] w1 r0.row (nil_row w1))
  rw [HF.out] at H2
  go_wp2_with fail
  refine H2.out.mono ?_
  rintro e w2 ⟨rfl, rfl⟩
  clear H2
  have H3 := Lib.hid (awake_any w1)
  go_wp2_with fail
  refine H3.out.mono ?_
  rintro e w3 ⟨rfl, hb⟩
  replace r0 := r0.below hb
  replace hB := hB.trans (hb.mono hB.size)
  clear hb H3
  go_wp2_with fail
  go_ret
  exact ⟨rfl, hB⟩

set_option maxRecDepth 100000 in
set_option maxHeartbeats 4000000 in
theorem texts_zero (ad0 : Option Addr) (c0 a : Nat) (w : World) (r0 : RowA w (.slice ad0 0 c0) (L a)) (n0 : (L a).length ≤ 12) (nn : Nat) (ok : Bool) (ho : ok = decide (a ≤ 4611686018427387904)) (hn : nn = if a ≤ 4611686018427387904 then a else 0) (h0 : a = 0) :
    Calls Tryd.prog 8 #[.slice ad0 0 c0] w fun e w' => e = .returned (.bool true) ∧ Below w.heap.size w w' := by
  have HO := Lib.hid (And.intro ho hn)
  have HV : Hid (nn = 0 ∧ ok = true) := Lib.hid ⟨by rw [hn, h0]; rfl, by rw [ho, h0]; rfl⟩
  clear h0
  clear ho hn
  have k4 := len_D a
  have heq : (text a == text a) = true := beq_self_eq_true _
  go_enter Tryd.func8, Tryd.ntmps8
  have H1 := Lib.hid (awake_any w)
  go_wp2_with fail
  refine H1.out.mono ?_
  rintro e w1 ⟨rfl, hb⟩
  replace r0 := r0.below hb
  have hB := hb
  clear hb H1
  have H2 := Lib.hid (few_nat (.slice ad0 0 c0) (.slice none 0 0) a 0 w1 r0.row (nil_row w1) n0 (by show (0 : Nat) ≤ 12; omega))
  go_wp2_with fail
  refine H2.out.mono ?_
  rintro e w2 ⟨rfl, rfl⟩
  clear H2
  have H3 := Lib.hid (copied_any (.slice ad0 0 c0) (L a) w1 r0 (by omega))
  go_wp2_with fail
  refine H3.out.mono ?_
  rintro e w3 ⟨x, rfl, rx, hb⟩
  replace r0 := r0.below hb
  replace hB := hB.trans (hb.mono hB.size)
  clear hb H3
  have H4 := Lib.hid (text_nat x a w3 rx (by omega))
  go_wp2_with fail
  refine H4.out.mono ?_
  rintro e w4 ⟨rfl, hb⟩
  replace r0 := r0.below hb
  replace rx := rx.below hb
  replace hB := hB.trans (hb.mono hB.size)
  clear hb H4
  have H5 := Lib.hid (read_text a w4 n0)
  go_wp2_with fail
  refine H5.out.mono ?_
  rintro e w5 ⟨y, rfl, ry, hb⟩
  replace r0 := r0.below hb
  replace hB := hB.trans (hb.mono hB.size)
  clear hb H5
  have H6 := Lib.hid (copied_any (.slice ad0 0 c0) (L a) w5 r0 (by omega))
  go_wp2_with fail
  refine H6.out.mono ?_
  rintro e w6 ⟨z, rfl, rz, hb⟩
  replace r0 := r0.below hb
  replace ry := ry.below hb
  replace hB := hB.trans (hb.mono hB.size)
  clear hb H6
  have H7 := Lib.hid (small_nat z a w6 rz (by omega) nn ok HO.out.1 HO.out.2)
  rw [HV.out.1, HV.out.2] at H7
  go_wp2_with fail
  refine H7.out.mono ?_
  rintro e w7 ⟨rfl, hb⟩
  replace r0 := r0.below hb
  replace ry := ry.below hb
  replace rz := rz.below hb
  replace hB := hB.trans (hb.mono hB.size)
  clear hb H7
  have H8 := Lib.hid (limbs_nat (.slice ad0 0 c0) a w7 r0.row (by omega))
  go_wp2_with fail
  refine H8.out.mono ?_
  rintro e w8 ⟨p, rfl, rp, hb⟩
  replace r0 := r0.below hb
  replace ry := ry.below hb
  replace hB := hB.trans (hb.mono hB.size)
  clear hb H8
  have H9 := Lib.hid (rText_all p a w8 rp (by omega))
  go_wp2_with fail
  refine H9.out.mono ?_
  rintro e w9 ⟨rfl, rfl⟩
  clear H9
  have H10 := Lib.hid (same_true y (.slice ad0 0 c0) (L a) w8 ry r0.row (by omega))
  go_wp2_with fail
  refine H10.out.mono ?_
  rintro e w10 ⟨rfl, hb⟩
  replace r0 := r0.below hb
  replace ry := ry.below hb
  replace hB := hB.trans (hb.mono hB.size)
  clear hb H10
  go_wp2_with fail
  go_ret
  exact ⟨rfl, hB⟩

set_option maxRecDepth 100000 in
set_option maxHeartbeats 4000000 in
theorem texts_one (ad0 : Option Addr) (c0 a : Nat) (w : World) (r0 : RowA w (.slice ad0 1 c0) (L a)) (n0 : (L a).length ≤ 12) (nn : Nat) (ok : Bool) (ho : ok = decide (a ≤ 4611686018427387904)) (hn : nn = if a ≤ 4611686018427387904 then a else 0) (hm : (L a).length = 1) (ha : a ≤ 4611686018427387904) :
    Calls Tryd.prog 8 #[.slice ad0 1 c0] w fun e w' => e = .returned (.bool true) ∧ Below w.heap.size w w' := by
  have HO := Lib.hid (And.intro ho hn)
  have HM := Lib.hid hm
  have HV : Hid (nn = a ∧ ok = true) := Lib.hid ⟨by rw [hn, if_pos ha], by rw [ho]; exact decide_eq_true ha⟩
  clear hm
  clear ho hn
  have k4 := len_D a
  have heq : (text a == text a) = true := beq_self_eq_true _
  go_enter Tryd.func8, Tryd.ntmps8
  have H1 := Lib.hid (awake_any w)
  go_wp2_with fail
  refine H1.out.mono ?_
  rintro e w1 ⟨rfl, hb⟩
  replace r0 := r0.below hb
  have hB := hb
  clear hb H1
  have H2 := Lib.hid (few_nat (.slice ad0 1 c0) (.slice none 0 0) a 0 w1 r0.row (nil_row w1) n0 (by show (0 : Nat) ≤ 12; omega))
  go_wp2_with fail
  refine H2.out.mono ?_
  rintro e w2 ⟨rfl, rfl⟩
  clear H2
  have H3 := Lib.hid (copied_any (.slice ad0 1 c0) (L a) w1 r0 (by omega))
  go_wp2_with fail
  refine H3.out.mono ?_
  rintro e w3 ⟨x, rfl, rx, hb⟩
  replace r0 := r0.below hb
  replace hB := hB.trans (hb.mono hB.size)
  clear hb H3
  have H4 := Lib.hid (text_nat x a w3 rx (by omega))
  go_wp2_with fail
  refine H4.out.mono ?_
  rintro e w4 ⟨rfl, hb⟩
  replace r0 := r0.below hb
  replace rx := rx.below hb
  replace hB := hB.trans (hb.mono hB.size)
  clear hb H4
  have H5 := Lib.hid (read_text a w4 n0)
  go_wp2_with fail
  refine H5.out.mono ?_
  rintro e w5 ⟨y, rfl, ry, hb⟩
  replace r0 := r0.below hb
  replace hB := hB.trans (hb.mono hB.size)
  clear hb H5
  have H6 := Lib.hid (copied_any (.slice ad0 1 c0) (L a) w5 r0 (by omega))
  go_wp2_with fail
  refine H6.out.mono ?_
  rintro e w6 ⟨z, rfl, rz, hb⟩
  replace r0 := r0.below hb
  replace ry := ry.below hb
  replace hB := hB.trans (hb.mono hB.size)
  clear hb H6
  have H7 := Lib.hid (small_nat z a w6 rz (by omega) nn ok HO.out.1 HO.out.2)
  rw [HV.out.1, HV.out.2] at H7
  go_wp2_with fail
  refine H7.out.mono ?_
  rintro e w7 ⟨rfl, hb⟩
  replace r0 := r0.below hb
  replace ry := ry.below hb
  replace rz := rz.below hb
  replace hB := hB.trans (hb.mono hB.size)
  clear hb H7
  obtain ⟨bb, off, rfl, hbb, hcc⟩ := r0.row.cell (j := 0) (by have := HM.out; omega)
  rw [small_limb (a := a) (by have := HM.out; omega), Nat.add_zero] at hcc
  have H8 := Lib.hid (limbs_nat (.slice (some ⟨bb, off, none⟩) 1 c0) a w7 r0.row (by omega))
  go_wp2_with fail
  refine H8.out.mono ?_
  rintro e w8 ⟨p, rfl, rp, hb⟩
  replace r0 := r0.below hb
  replace ry := ry.below hb
  replace hB := hB.trans (hb.mono hB.size)
  clear hb H8
  clear hcc
  have H9 := Lib.hid (rText_all p a w8 rp (by omega))
  go_wp2_with fail
  refine H9.out.mono ?_
  rintro e w9 ⟨rfl, rfl⟩
  clear H9
  have H10 := Lib.hid (same_true y (.slice (some ⟨bb, off, none⟩) 1 c0) (L a) w8 ry r0.row (by omega))
  go_wp2_with fail
  refine H10.out.mono ?_
  rintro e w10 ⟨rfl, hb⟩
  replace r0 := r0.below hb
  replace ry := ry.below hb
  replace hB := hB.trans (hb.mono hB.size)
  clear hb H10
  go_wp2_with fail
  go_ret
  exact ⟨rfl, hB⟩

set_option maxRecDepth 100000 in
set_option maxHeartbeats 4000000 in
theorem texts_big (ad0 : Option Addr) (c0 a : Nat) (w : World) (r0 : RowA w (.slice ad0 1 c0) (L a)) (n0 : (L a).length ≤ 12) (nn : Nat) (ok : Bool) (ho : ok = decide (a ≤ 4611686018427387904)) (hn : nn = if a ≤ 4611686018427387904 then a else 0) (hm : (L a).length = 1) (ha : 4611686018427387904 < a) :
    Calls Tryd.prog 8 #[.slice ad0 1 c0] w fun e w' => e = .returned (.bool true) ∧ Below w.heap.size w w' := by
  have HO := Lib.hid (And.intro ho hn)
  have HM := Lib.hid hm
  have HV : Hid (nn = 0 ∧ ok = false) := Lib.hid ⟨by rw [hn, if_neg (by omega)], by rw [ho]; exact decide_eq_false (by omega)⟩
  clear hm
  clear ho hn
  have k4 := len_D a
  have heq : (text a == text a) = true := beq_self_eq_true _
  go_enter Tryd.func8, Tryd.ntmps8
  have H1 := Lib.hid (awake_any w)
  go_wp2_with fail
  refine H1.out.mono ?_
  rintro e w1 ⟨rfl, hb⟩
  replace r0 := r0.below hb
  have hB := hb
  clear hb H1
  have H2 := Lib.hid (few_nat (.slice ad0 1 c0) (.slice none 0 0) a 0 w1 r0.row (nil_row w1) n0 (by show (0 : Nat) ≤ 12; omega))
  go_wp2_with fail
  refine H2.out.mono ?_
  rintro e w2 ⟨rfl, rfl⟩
  clear H2
  have H3 := Lib.hid (copied_any (.slice ad0 1 c0) (L a) w1 r0 (by omega))
  go_wp2_with fail
  refine H3.out.mono ?_
  rintro e w3 ⟨x, rfl, rx, hb⟩
  replace r0 := r0.below hb
  replace hB := hB.trans (hb.mono hB.size)
  clear hb H3
  have H4 := Lib.hid (text_nat x a w3 rx (by omega))
  go_wp2_with fail
  refine H4.out.mono ?_
  rintro e w4 ⟨rfl, hb⟩
  replace r0 := r0.below hb
  replace rx := rx.below hb
  replace hB := hB.trans (hb.mono hB.size)
  clear hb H4
  have H5 := Lib.hid (read_text a w4 n0)
  go_wp2_with fail
  refine H5.out.mono ?_
  rintro e w5 ⟨y, rfl, ry, hb⟩
  replace r0 := r0.below hb
  replace hB := hB.trans (hb.mono hB.size)
  clear hb H5
  have H6 := Lib.hid (copied_any (.slice ad0 1 c0) (L a) w5 r0 (by omega))
  go_wp2_with fail
  refine H6.out.mono ?_
  rintro e w6 ⟨z, rfl, rz, hb⟩
  replace r0 := r0.below hb
  replace ry := ry.below hb
  replace hB := hB.trans (hb.mono hB.size)
  clear hb H6
  have H7 := Lib.hid (small_nat z a w6 rz (by omega) nn ok HO.out.1 HO.out.2)
  rw [HV.out.1, HV.out.2] at H7
  go_wp2_with fail
  refine H7.out.mono ?_
  rintro e w7 ⟨rfl, hb⟩
  replace r0 := r0.below hb
  replace ry := ry.below hb
  replace rz := rz.below hb
  replace hB := hB.trans (hb.mono hB.size)
  clear hb H7
  obtain ⟨bb, off, rfl, hbb, hcc⟩ := r0.row.cell (j := 0) (by have := HM.out; omega)
  rw [small_limb (a := a) (by have := HM.out; omega), Nat.add_zero] at hcc
  have H8 := Lib.hid (limbs_nat (.slice (some ⟨bb, off, none⟩) 1 c0) a w7 r0.row (by omega))
  go_wp2_with fail
  refine H8.out.mono ?_
  rintro e w8 ⟨p, rfl, rp, hb⟩
  replace r0 := r0.below hb
  replace ry := ry.below hb
  replace hB := hB.trans (hb.mono hB.size)
  clear hb H8
  clear hcc
  have H9 := Lib.hid (rText_all p a w8 rp (by omega))
  go_wp2_with fail
  refine H9.out.mono ?_
  rintro e w9 ⟨rfl, rfl⟩
  clear H9
  have H10 := Lib.hid (same_true y (.slice (some ⟨bb, off, none⟩) 1 c0) (L a) w8 ry r0.row (by omega))
  go_wp2_with fail
  refine H10.out.mono ?_
  rintro e w10 ⟨rfl, hb⟩
  replace r0 := r0.below hb
  replace ry := ry.below hb
  replace hB := hB.trans (hb.mono hB.size)
  clear hb H10
  go_wp2_with fail
  go_ret
  exact ⟨rfl, hB⟩

set_option maxRecDepth 100000 in
set_option maxHeartbeats 4000000 in
theorem texts_more (m : Nat) (ad0 : Option Addr) (c0 a : Nat) (w : World) (r0 : RowA w (.slice ad0 m c0) (L a)) (n0 : (L a).length ≤ 12) (nn : Nat) (ok : Bool) (ho : ok = decide (a ≤ 4611686018427387904)) (hn : nn = if a ≤ 4611686018427387904 then a else 0) (hm2 : 2 ≤ m) (ha : 4611686018427387904 < a) :
    Calls Tryd.prog 8 #[.slice ad0 m c0] w fun e w' => e = .returned (.bool true) ∧ Below w.heap.size w w' := by
  have HO := Lib.hid (And.intro ho hn)
  have HV : Hid (nn = 0 ∧ ok = false) := Lib.hid ⟨by rw [hn, if_neg (by omega)], by rw [ho]; exact decide_eq_false (by omega)⟩
  have e0 : ((m : Int) == 0) = false := by rw [beq_eq_false_iff_ne]; omega
  have e1 : ((m : Int) == 1) = false := by rw [beq_eq_false_iff_ne]; omega
  clear ho hn
  have k4 := len_D a
  have heq : (text a == text a) = true := beq_self_eq_true _
  go_enter Tryd.func8, Tryd.ntmps8
  have H1 := Lib.hid (awake_any w)
  go_wp2_with fail
  refine H1.out.mono ?_
  rintro e w1 ⟨rfl, hb⟩
  replace r0 := r0.below hb
  have hB := hb
  clear hb H1
  have H2 := Lib.hid (few_nat (.slice ad0 m c0) (.slice none 0 0) a 0 w1 r0.row (nil_row w1) n0 (by show (0 : Nat) ≤ 12; omega))
  go_wp2_with fail
  refine H2.out.mono ?_
  rintro e w2 ⟨rfl, rfl⟩
  clear H2
  have H3 := Lib.hid (copied_any (.slice ad0 m c0) (L a) w1 r0 (by omega))
  go_wp2_with fail
  refine H3.out.mono ?_
  rintro e w3 ⟨x, rfl, rx, hb⟩
  replace r0 := r0.below hb
  replace hB := hB.trans (hb.mono hB.size)
  clear hb H3
  have H4 := Lib.hid (text_nat x a w3 rx (by omega))
  go_wp2_with fail
  refine H4.out.mono ?_
  rintro e w4 ⟨rfl, hb⟩
  replace r0 := r0.below hb
  replace rx := rx.below hb
  replace hB := hB.trans (hb.mono hB.size)
  clear hb H4
  have H5 := Lib.hid (read_text a w4 n0)
  go_wp2_with fail
  refine H5.out.mono ?_
  rintro e w5 ⟨y, rfl, ry, hb⟩
  replace r0 := r0.below hb
  replace hB := hB.trans (hb.mono hB.size)
  clear hb H5
  have H6 := Lib.hid (copied_any (.slice ad0 m c0) (L a) w5 r0 (by omega))
  go_wp2_with fail
  refine H6.out.mono ?_
  rintro e w6 ⟨z, rfl, rz, hb⟩
  replace r0 := r0.below hb
  replace ry := ry.below hb
  replace hB := hB.trans (hb.mono hB.size)
  clear hb H6
  have H7 := Lib.hid (small_nat z a w6 rz (by omega) nn ok HO.out.1 HO.out.2)
  rw [HV.out.1, HV.out.2] at H7
  go_wp2_with fail
  refine H7.out.mono ?_
  rintro e w7 ⟨rfl, hb⟩
  replace r0 := r0.below hb
  replace ry := ry.below hb
  replace rz := rz.below hb
  replace hB := hB.trans (hb.mono hB.size)
  clear hb H7
  have H8 := Lib.hid (limbs_nat (.slice ad0 m c0) a w7 r0.row (by omega))
  go_wp2_with fail
  refine H8.out.mono ?_
  rintro e w8 ⟨p, rfl, rp, hb⟩
  replace r0 := r0.below hb
  replace ry := ry.below hb
  replace hB := hB.trans (hb.mono hB.size)
  clear hb H8
  have H9 := Lib.hid (rText_all p a w8 rp (by omega))
  go_wp2_with fail
  refine H9.out.mono ?_
  rintro e w9 ⟨rfl, rfl⟩
  clear H9
  have H10 := Lib.hid (same_true y (.slice ad0 m c0) (L a) w8 ry r0.row (by omega))
  go_wp2_with fail
  refine H10.out.mono ?_
  rintro e w10 ⟨rfl, hb⟩
  replace r0 := r0.below hb
  replace ry := ry.below hb
  replace hB := hB.trans (hb.mono hB.size)
  clear hb H10
  go_wp2_with fail
  go_ret
  exact ⟨rfl, hB⟩

theorem texts_any (v0 : Value) (l0 : List Nat) (w : World) (r0 : RowA w v0 l0) (s0 : SmallU l0) :
    Calls Tryd.prog 8 #[v0] w fun e w' => e = .returned (.bool true) ∧ Below w.heap.size w w' := by
  cases hf : fewB l0 []
  · exact texts_no v0 l0 w r0 hf
  · obtain ⟨n0, _, g0, _⟩ := few_parts hf
    obtain ⟨a, rfl⟩ := nat_of_good g0 s0
    obtain ⟨ad0, c0, rfl, -, -⟩ := id r0.row
    by_cases h0 : a = 0
    · have e : (L a).length = 0 := by rw [h0]; rfl
      rw [e] at r0 ⊢
      exact texts_zero ad0 c0 a w r0 n0 _ _ rfl rfl h0
    · by_cases h1 : (L a).length = 1
      · rw [h1] at r0 ⊢
        by_cases ha : a ≤ 4611686018427387904
        · exact texts_one ad0 c0 a w r0 n0 _ _ rfl rfl h1 ha
        · exact texts_big ad0 c0 a w r0 n0 _ _ rfl rfl h1 (by omega)
      · have hp := len_pos h0
        refine texts_more _ ad0 c0 a w r0 n0 _ _ rfl rfl (by omega) ?_
        apply Nat.lt_of_not_le
        intro h9
        have : (L a).length ≤ 1 := (dig_len (by omega) a 1).2 (by omega)
        omega
end Go.Proofs.YtmgopoibofhnlaaDoor
