/-
  Contracts of the law's own functions Is, few, same, awake. Conditions: slices of numbers of 64 bits, not more than a thousand (few: whatever).
-/
import Derived.Test.YtmgopoibofhnlaaDoorLa
import Derived.BigQuiet
namespace Go.Proofs.YtmgopoibofhnlaaDoor
open Go.RowKit Go.Dig Go.Shelf Go.Proofs

theorem goodB_L (n : Nat) : goodB (L n) = true := by
  unfold goodB
  by_cases h0 : n = 0
  · subst h0; rfl
  · have hne : (L n).length ≠ 0 := fun e => h0 ((dig_nil (by omega) n).1 (List.eq_nil_of_length_eq_zero e))
    have hb := dig_big (B := 18446744073709551616) (by omega) h0
    rcases List.eq_nil_or_concat (L n) with e | ⟨l, d, e⟩
    · rw [e] at hne; simp at hne
    · rw [List.concat_eq_append] at e
      have hs := small_L n
      have hv := V_L n
      unfold L at *
      rw [e] at hs hb hv ⊢
      have hd0 : d ≠ 0 := by
        rintro rfl
        unfold V at hv
        rw [val_snoc, Nat.mul_zero, Nat.add_zero] at hv
        have h1 := val_lt (B := 18446744073709551616) (by omega) l (fun x hx => hs x (by simp [hx]))
        rw [List.length_append, List.length_singleton, Nat.add_sub_cancel] at hb
        omega
      simp [List.getD, hd0]
/-- limbs that are a natural are the natural's. -/
theorem L_of_good {l : List Nat} (h : goodB l = true) (s : SmallU l) : l = L (V l) := by
  apply dig_of_big (by omega) l s
  by_cases h0 : l = []
  · exact .inl h0
  · right
    rcases List.eq_nil_or_concat l with e | ⟨l', d, e⟩
    · exact absurd e h0
    · rw [List.concat_eq_append] at e
      subst e
      unfold goodB at h
      have hd : d ≠ 0 := by
        rintro rfl
        simp [List.getD] at h
      rw [val_snoc, List.length_append, List.length_singleton, Nat.add_sub_cancel]
      have : 18446744073709551616 ^ l'.length * 1 ≤ 18446744073709551616 ^ l'.length * d := Nat.mul_le_mul_left _ (by omega)
      omega

set_option maxRecDepth 100000 in
set_option maxHeartbeats 1000000 in
theorem Is_true (va vw : Value) (x : Nat) (w : World) (h1 : RowU w va (L x)) (h2 : Row w vw (D x)) (hl : (L x).length ≤ 1000) :
    Calls Tryd.prog 16 #[va, vw] w fun e w' => e = .returned (.bool true) ∧ Below w.heap.size w w' := by
  have hDl : (D x).length ≤ 5000 := by
    have := D_len (small_L x)
    rw [V_L] at this
    omega
  have H15 := Lib.hid (rGood_any va (L x) w h1 (by omega))
  rw [goodB_L] at H15
  have H18 := Lib.hid (Limbs_any va (L x) w h1 (small_L x) hl)
  rw [V_L] at H18
  have R2 := Lib.hid h2
  clear h1 h2
  go_enter Tryd.func16, Tryd.ntmps16
  go_wp2_with fail
  refine H15.out.mono ?_
  rintro e w1 ⟨rfl, rfl⟩
  go_wp2_with fail
  refine H18.out.mono ?_
  rintro e w1 ⟨v1, rfl, hv1, hb1⟩
  have H20 := Lib.hid (Cmp_any v1 vw x x w1 hv1 (R2.out.below hb1) (by omega) (by omega))
  rw [cmpZ_eq] at H20
  go_wp2_with fail
  refine H20.out.mono ?_
  rintro e w2 ⟨rfl, hb2⟩
  go_wp2_with fail
  go_ret
  exact ⟨rfl, hb1.trans (hb2.mono hb1.size)⟩

/-! ### same -/
set_option maxRecDepth 100000 in
set_option maxHeartbeats 2000000 in
theorem same_true (va vb : Value) (l : List Nat) (w : World) (h1 : RowU w va l) (h2 : RowU w vb l) (hl : l.length ≤ 1000000) :
    Calls Tryd.prog 26 #[va, vb] w fun e w' => e = .returned (.bool true) ∧ Below w.heap.size w w' := by
  have R1 := Lib.hid h1
  have R2 := Lib.hid h2
  obtain ⟨ad1, cap1, rfl, hc1, -⟩ := h1
  obtain ⟨ad2, cap2, rfl, hc2, -⟩ := h2
  have hnn : ((l.length : Int) != (l.length : Int)) = false := by simp
  go_enter Tryd.func26, Tryd.ntmps26
  go_wp2_with fail
  go_loopw [13] (fun a wr => ∃ k : Nat, k ≤ l.length ∧ a = .int .i64 (k : Int) ∧ Below w.heap.size w wr) (fun a _ => l.length - (intOf a).toNat)
  case atStart => exact ⟨0, by omega, rfl, Below.refl _ _⟩
  case round =>
    obtain ⟨k, hk, rfl, hB⟩ := hrel
    by_cases hlt : k < l.length
    · obtain ⟨b1, o1, rfl, hb1, x1⟩ := R1.out.cell hlt
      obtain ⟨b2, o2, rfl, hb2, x2⟩ := R2.out.cell hlt
      replace x1 := (hB.cell (p := ⟨b1, o1 + k, none⟩) hb1).trans x1
      replace x2 := (hB.cell (p := ⟨b2, o2 + k, none⟩) hb2).trans x2
      generalize l.getD k 0 = x at x1 x2
      go_wp2_with fail
      go_region
      have hBd : Below w.heap.size w wr.drew := hB.drew
      clear x1 x2 hB
      generalize wr.drew = W1 at hBd ⊢
      go_wp2_with fail
      go_round
      case rel => exact ⟨k + 1, by omega, by go_num, hBd⟩
      case measure => simp [intOf]; omega
    · go_wp2_with fail
      go_ret
      exact ⟨rfl, hB⟩

/-! ### few -/
/-- naturals of few limbs. -/
def fewB (la lb : List Nat) : Bool := decide (la.length ≤ 12) && decide (lb.length ≤ 12) && goodB la && goodB lb
theorem rGood_big (v : Value) (l : List Nat) (w : World) (h : RowU w v l) (hl : l.length ≤ 12) :
    Calls Tryd.prog 15 #[v] w fun e w' => e = .returned (.bool (goodB l)) ∧ w = w' := rGood_any v l w h (by omega)
set_option maxRecDepth 100000 in
set_option maxHeartbeats 1000000 in
theorem few_any (va vb : Value) (la lb : List Nat) (w : World) (h1 : RowU w va la) (h2 : RowU w vb lb) :
    Calls Tryd.prog 19 #[va, vb] w fun e w' => e = .returned (.bool (fewB la lb)) ∧ w = w' := by
  have R1 := Lib.hid h1
  have R2 := Lib.hid h2
  obtain ⟨ad1, cap1, rfl, hc1, -⟩ := h1
  obtain ⟨ad2, cap2, rfl, hc2, -⟩ := h2
  by_cases l1 : la.length ≤ 12
  · by_cases l2 : lb.length ≤ 12
    · have H1 := Lib.hid (rGood_big _ la w R1.out l1)
      have H2 := Lib.hid (rGood_big _ lb w R2.out l2)
      cases g1 : goodB la
      · have HF : Hid (fewB la lb = false) := Lib.hid (by unfold fewB; rw [g1]; simp)
        rw [g1] at H1
        clear g1
        go_enter Tryd.func19, Tryd.ntmps19
        go_wp2_with fail
        refine H1.out.mono ?_
        rintro e w1 ⟨rfl, rfl⟩
        go_wp2_with fail
        go_ret
        exact ⟨by rw [HF.out]; rfl, rfl⟩
      · have HF : Hid (fewB la lb = goodB lb) := Lib.hid (by unfold fewB; rw [g1]; simp [l1, l2])
        rw [g1] at H1
        rw [← HF.out] at H2
        clear g1
        generalize fewB la lb = z at *
        go_enter Tryd.func19, Tryd.ntmps19
        go_wp2_with fail
        refine H1.out.mono ?_
        rintro e w1 ⟨rfl, rfl⟩
        go_wp2_with fail
        refine H2.out.mono ?_
        rintro e w1 ⟨rfl, rfl⟩
        go_wp2_with fail
        go_ret
        exact ⟨rfl, rfl⟩
    · have HF : Hid (fewB la lb = false) := Lib.hid (by unfold fewB; simp [l2])
      go_enter Tryd.func19, Tryd.ntmps19
      go_wp2_with fail
      go_ret
      exact ⟨by rw [HF.out]; rfl, rfl⟩
  · have HF : Hid (fewB la lb = false) := Lib.hid (by unfold fewB; simp [l1])
    go_enter Tryd.func19, Tryd.ntmps19
    go_wp2_with fail
    go_ret
    exact ⟨by rw [HF.out]; rfl, rfl⟩
theorem few_parts {la lb : List Nat} (h : fewB la lb = true) : la.length ≤ 12 ∧ lb.length ≤ 12 ∧ goodB la = true ∧ goodB lb = true := by
  unfold fewB at h
  simp only [Bool.and_eq_true, decide_eq_true_eq] at h
  exact ⟨h.1.1.1, h.1.1.2, h.1.2, h.2⟩

/-! ### awake -/
theorem text_two : text 18446744073709551616 = [49, 56, 52, 52, 54, 55, 52, 52, 48, 55, 51, 55, 48, 57, 53, 53, 49, 54, 49, 54] := by decide +kernel
set_option maxRecDepth 100000 in
set_option maxHeartbeats 2000000 in
theorem awake_any (w : World) : Calls Tryd.prog 12 #[] w fun e w' => e = .returned (.bool true) ∧ Below w.heap.size w w' := by
  have hrow : RowU (w.alloc (.cells #[.int .u64 0, .int .u64 1] 23)) (.slice (some ⟨w.heap.size, 0, none⟩) 2 2) [0, 1] :=
    RowU.of_owns (B := w.heap.size) (World.ownsRow_lit w #[.int .u64 0, .int .u64 1] 2 (Nat.le_refl _) (by unfold maxLen; omega) rfl)
  have hB : Below w.heap.size w (w.alloc (.cells #[.int .u64 0, .int .u64 1] 23)) := (Below.refl _ w).alloc (Nat.le_refl _) _
  have hs : SmallU [0, 1] := Small.cons (by omega) (Small.cons (by omega) Small.nil)
  have H13 := Lib.hid (nGood_any _ [0, 1] _ hrow (by simp))
  have H33 := Lib.hid (nText_any _ [0, 1] _ hrow hs (by simp))
  rw [show goodB [0, 1] = true from rfl] at H13
  have hv : V [0, 1] = 18446744073709551616 := by simp [V, val]
  rw [hv, text_two] at H33
  clear hrow hs hv
  go_enter Tryd.func12, Tryd.ntmps12
  go_wp2_with fail
  refine H13.out.mono ?_
  rintro e w1 ⟨rfl, rfl⟩
  go_wp2_with fail
  refine H33.out.mono ?_
  rintro e w2 ⟨rfl, hb2⟩
  have hB2 : Below w.heap.size w w2 := hB.trans (hb2.mono hB.size)
  clear H13 H33 hB hb2
  have H3 := Lib.hid (nOf_any 3 w2 (by omega))
  go_wp2_with fail
  refine H3.out.mono ?_
  rintro e w3 ⟨v3, rfl, hv3, hb3⟩
  have hB3 : Below w.heap.size w w3 := hB2.trans (hb3.mono hB2.size)
  have H5 := Lib.hid (nOf_any 5 w3 (by omega))
  go_wp2_with fail
  refine H5.out.mono ?_
  rintro e w4 ⟨v4, rfl, hv4, hb4⟩
  have hB4 : Below w.heap.size w w4 := hB3.trans (hb4.mono hB3.size)
  have hl3 : (L 3).length ≤ 1 := (dig_len (by omega) _ 1).2 (by omega)
  have hl5 : (L 5).length ≤ 1 := (dig_len (by omega) _ 1).2 (by omega)
  have HC := Lib.hid (nCmp_any v3 v4 (L 3) (L 5) w4 (hv3.below hb4) hv4 (small_L 3) (small_L 5) (by omega) (by omega))
  rw [V_L, V_L, cmpZ_lt (by omega)] at HC
  go_wp2_with fail
  refine HC.out.mono ?_
  rintro e w5 ⟨rfl, hb5⟩
  go_wp2_with fail
  go_ret
  exact ⟨rfl, hB4.trans (hb5.mono hB4.size)⟩
end Go.Proofs.YtmgopoibofhnlaaDoor
