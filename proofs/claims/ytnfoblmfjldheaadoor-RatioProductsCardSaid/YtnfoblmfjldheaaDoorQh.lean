/-
  The text of a ratio, the program's and the document's; and the fixed fact of the laws. Condition: not more than five hundred limbs.
-/
import Derived.Test.YtnfoblmfjldheaaDoorQe
import Derived.Test.YtnfoblmfjldheaaDoorRt
namespace Go.Proofs.YtnfoblmfjldheaaDoor
open Go.RowKit Go.Dig Go.Shelf Go.Proofs

theorem text_short {n k : Nat} (h : (L n).length ≤ k) : (text n).length ≤ 20 * k + 1 := by
  unfold text
  split
  · simp
  · have h2 : (Dig.bytes (dig 10 n)).length = (dig 10 n).length := by simp [Dig.bytes]
    have h3 : n < 18446744073709551616 ^ k := (dig_len (by omega) n k).1 h
    have h4 : (18446744073709551616 : Nat) ^ k ≤ 10 ^ (20 * k) := by
      rw [Nat.pow_mul]; exact Nat.pow_le_pow_left (by decide) k
    have h5 : (dig 10 n).length ≤ 20 * k := (dig_len (by omega) n (20 * k)).2 (Nat.lt_of_lt_of_le h3 h4)
    omega
theorem text_nat (v : Value) (x : Nat) (w : World) (h : RowU w v (L x)) (hl : (L x).length ≤ 1000) :
    Calls Tryd.prog 40 #[v] w fun e w' => e = .returned (.string ⟨(text x).toArray⟩) ∧ Below w.heap.size w w' := by
  have h1 := nText_any v (L x) w h (small_L x) hl
  rw [V_L] at h1
  exact h1
theorem rtext_nat (v : Value) (x : Nat) (w : World) (h : Row w v (D x)) (hl : (L x).length ≤ 1000) :
    Calls Tryd.prog 58 #[v] w fun e w' => e = .returned (.string ⟨(text x).toArray⟩) ∧ w = w' := rText_all v x w h (by have := len_D x; omega)
/-- a ratio's text. -/
def qtext (x y : Nat) : List UInt8 := if y = 1 then text x else text x ++ 47 :: text y
theorem qtext_one {x y : Nat} (h : y = 1) : (⟨(text x).toArray⟩ : ByteArray) = ⟨(qtext x y).toArray⟩ := by unfold qtext; rw [if_pos h]
theorem qtext_more {x y : Nat} (h : y ≠ 1) : (⟨(text x).toArray⟩ : ByteArray) ++ (⟨#[47]⟩ : ByteArray) ++ (⟨(text y).toArray⟩ : ByteArray) = ⟨(qtext x y).toArray⟩ := by
  unfold qtext
  rw [if_neg h, show (⟨#[47]⟩ : ByteArray) = ⟨[(47 : UInt8)].toArray⟩ from rfl, str_append, str_append]
  simp
set_option maxRecDepth 100000 in
set_option maxHeartbeats 4000000 in
theorem qtext_whole (a1 b1 : Sl) (a b : Nat) (w : World) (ra1 : RU w a1 a) (rb1 : RU w b1 b) (la : Hid ((L a).length ≤ 500)) (lb : Hid ((L b).length ≤ 500)) (HO : Hid (b = 1)) :
    Calls Tryd.prog 36 #[.agg #[.slice a1.a a1.n a1.c, .slice b1.a b1.n b1.c]] w fun e w' => e = .returned (.string ⟨(qtext a b).toArray⟩) ∧ Below w.heap.size w w' := by
  go_enter Tryd.func36, Tryd.ntmps36
  have hb : Below w.heap.size w (w.alloc (.cells #[.slice a1.a a1.n a1.c, .slice b1.a b1.n b1.c] 30)) := ((Below.refl _ _).alloc (Nat.le_refl _) _)
  replace ra1 := ra1.below hb
  replace rb1 := rb1.below hb
  have hB := hb
  have P1 : Pair (w.alloc (.cells #[.slice a1.a a1.n a1.c, .slice b1.a b1.n b1.c] 30)) (w.heap.size) 30 (.slice a1.a a1.n a1.c) (.slice b1.a b1.n b1.c) := by
    have h := Pair.new w 30 (.slice a1.a a1.n a1.c) (.slice b1.a b1.n b1.c)
    simpa only [World.size_alloc] using h
  clear hb
  have c0P1 := P1.c0
  have c1P1 := P1.c1
  have H2 := Lib.hid (isOne_nat (.slice b1.a b1.n b1.c) (b) (w.alloc (.cells #[.slice a1.a a1.n a1.c, .slice b1.a b1.n b1.c] 30)) rb1 (Nat.le_trans lb.out (by omega)) true (by simp [HO.out]))
  go_wp2_with fail
  clear c0P1 c1P1
  refine H2.out.mono ?_
  rintro e w3 ⟨rfl, hb⟩
  clear H2
  replace P1 := P1.below hb
  replace ra1 := ra1.below hb
  replace rb1 := rb1.below hb
  replace hB := hB.trans (hb.mono hB.size)
  clear hb
  have c0P1 := P1.c0
  have c1P1 := P1.c1
  have H4 := Lib.hid (text_nat (.slice a1.a a1.n a1.c) (a) w3 ra1 (Nat.le_trans la.out (by omega)))
  go_wp2_with fail
  clear c0P1 c1P1
  refine H4.out.mono ?_
  rintro e w5 ⟨rfl, hb⟩
  clear H4
  replace P1 := P1.below hb
  replace ra1 := ra1.below hb
  replace rb1 := rb1.below hb
  replace hB := hB.trans (hb.mono hB.size)
  clear hb
  go_wp2_with fail
  go_ret
  exact ⟨by rw [← qtext_one HO.out]; rfl, hB⟩

set_option maxRecDepth 100000 in
set_option maxHeartbeats 4000000 in
theorem qtext_part (a1 b1 : Sl) (a b : Nat) (w : World) (ra1 : RU w a1 a) (rb1 : RU w b1 b) (la : Hid ((L a).length ≤ 500)) (lb : Hid ((L b).length ≤ 500)) (HO : Hid (b ≠ 1)) :
    Calls Tryd.prog 36 #[.agg #[.slice a1.a a1.n a1.c, .slice b1.a b1.n b1.c]] w fun e w' => e = .returned (.string ⟨(qtext a b).toArray⟩) ∧ Below w.heap.size w w' := by
  go_enter Tryd.func36, Tryd.ntmps36
  have hb : Below w.heap.size w (w.alloc (.cells #[.slice a1.a a1.n a1.c, .slice b1.a b1.n b1.c] 30)) := ((Below.refl _ _).alloc (Nat.le_refl _) _)
  replace ra1 := ra1.below hb
  replace rb1 := rb1.below hb
  have hB := hb
  have P1 : Pair (w.alloc (.cells #[.slice a1.a a1.n a1.c, .slice b1.a b1.n b1.c] 30)) (w.heap.size) 30 (.slice a1.a a1.n a1.c) (.slice b1.a b1.n b1.c) := by
    have h := Pair.new w 30 (.slice a1.a a1.n a1.c) (.slice b1.a b1.n b1.c)
    simpa only [World.size_alloc] using h
  clear hb
  have c0P1 := P1.c0
  have c1P1 := P1.c1
  have H2 := Lib.hid (isOne_nat (.slice b1.a b1.n b1.c) (b) (w.alloc (.cells #[.slice a1.a a1.n a1.c, .slice b1.a b1.n b1.c] 30)) rb1 (Nat.le_trans lb.out (by omega)) false (by simp [HO.out]))
  go_wp2_with fail
  clear c0P1 c1P1
  refine H2.out.mono ?_
  rintro e w3 ⟨rfl, hb⟩
  clear H2
  replace P1 := P1.below hb
  replace ra1 := ra1.below hb
  replace rb1 := rb1.below hb
  replace hB := hB.trans (hb.mono hB.size)
  clear hb
  have hta := text_short la.out
  have htb := text_short lb.out
  have c0P1 := P1.c0
  have c1P1 := P1.c1
  go_wp2_with fail
  clear c0P1 c1P1
  have hb : Below w3.heap.size w3 w3.drew := (Below.refl _ _).drew
  replace P1 := P1.below hb
  replace ra1 := ra1.below hb
  replace rb1 := rb1.below hb
  replace hB := hB.trans (hb.mono hB.size)
  clear hb
  refine Rd.regionT (fun X => Pair X (w.heap.size) 30 (.slice a1.a a1.n a1.c) (.slice b1.a b1.n b1.c)) [0, 1, 3, 4, 5, 7, 8] (.one 0 (.one 1 (.one 4 (.one 5 (.one 2 (.one 3 (.one 6 (.one 7 (.one 8 .done))))))))) (fun ac W => ∃ (y9 y10 y11 y12 y13 y14 y15 y16 : Value), ac = { tmps := List.toArray (.agg #[.slice a1.a a1.n a1.c, .slice b1.a b1.n b1.c] :: .pointer (some ⟨w.heap.size, 0, none⟩) :: .string ⟨(qtext a b).toArray⟩ :: .pointer (some ⟨w.heap.size, 1, none⟩) :: .slice b1.a b1.n b1.c :: .bool false :: undef :: undef :: undef :: y9 :: y10 :: y11 :: y12 :: y13 :: y14 :: y15 :: y16 :: []), defers := [] } ∧ Below w.heap.size w W) (by kernel_rfl) (by kernel_rfl) (by kernel_rfl) P1 ?tree ?next
  case tree =>
    generalize w3.drew = w4 at P1 ra1 rb1 hB ⊢
    refine Rd.tr_float (.pointer (some ⟨w.heap.size, 0, none⟩)) (by simp only [List.getElem?_toArray, List.getElem?_cons_zero]; rfl) rfl (by rfl) (fun X _ => by go_simp) ?_
    simp only [Act.put, List.setIfInBounds_toArray, List.set_cons_succ, List.set_cons_zero]
    refine Rd.tr_float (.slice a1.a a1.n a1.c) (by simp only [List.getElem?_toArray, List.getElem?_cons_succ, List.getElem?_cons_zero]; rfl) rfl (by rfl) (fun X hX => by have h0 := hX.c0; have h1 := hX.c1; go_simp) ?_
    simp only [Act.put, List.setIfInBounds_toArray, List.set_cons_succ, List.set_cons_zero]
    refine Rd.tr_float (.pointer (some ⟨w.heap.size, 1, none⟩)) (by simp only [List.getElem?_toArray, List.getElem?_cons_succ, List.getElem?_cons_zero]; rfl) rfl (by rfl) (fun X _ => by go_simp) ?_
    simp only [Act.put, List.setIfInBounds_toArray, List.set_cons_succ, List.set_cons_zero]
    refine Rd.tr_float (.slice b1.a b1.n b1.c) (by simp only [List.getElem?_toArray, List.getElem?_cons_succ, List.getElem?_cons_zero]; rfl) rfl (by rfl) (fun X hX => by have h0 := hX.c0; have h1 := hX.c1; go_simp) ?_
    simp only [Act.put, List.setIfInBounds_toArray, List.set_cons_succ, List.set_cons_zero]
    refine Rd.tr_move (by simp only [List.getElem?_toArray, List.getElem?_cons_succ, List.getElem?_cons_zero]; rfl) rfl (by rfl) (fun K hK => ?_)
    have H5 := Lib.hid (text_nat (.slice a1.a a1.n a1.c) (a) w4 ra1 (Nat.le_trans la.out (by omega)))
    go_simp
    refine H5.out.mono ?_
    rintro e w6 ⟨rfl, hb⟩
    clear H5
    replace P1 := P1.below hb
    replace ra1 := ra1.below hb
    replace rb1 := rb1.below hb
    replace hB := hB.trans (hb.mono hB.size)
    clear hb
    refine hK _ _ P1 ?_
    clear hK K
    refine Rd.tr_float (.string ((⟨(text a).toArray⟩ : ByteArray) ++ (⟨#[47]⟩ : ByteArray))) (by simp only [List.getElem?_toArray, List.getElem?_cons_succ, List.getElem?_cons_zero]; rfl) rfl (by rfl) (fun X _ => by go_simp; omega) ?_
    simp only [Act.put, List.setIfInBounds_toArray, List.set_cons_succ, List.set_cons_zero]
    refine Rd.tr_move (by simp only [List.getElem?_toArray, List.getElem?_cons_succ, List.getElem?_cons_zero]; rfl) rfl (by rfl) (fun K hK => ?_)
    have H7 := Lib.hid (text_nat (.slice b1.a b1.n b1.c) (b) w6 rb1 (Nat.le_trans lb.out (by omega)))
    go_simp
    refine H7.out.mono ?_
    rintro e w8 ⟨rfl, hb⟩
    clear H7
    replace P1 := P1.below hb
    replace ra1 := ra1.below hb
    replace rb1 := rb1.below hb
    replace hB := hB.trans (hb.mono hB.size)
    clear hb
    refine hK _ _ P1 ?_
    clear hK K
    refine Rd.tr_float (.string (((⟨(text a).toArray⟩ : ByteArray) ++ (⟨#[47]⟩ : ByteArray)) ++ (⟨(text b).toArray⟩ : ByteArray))) (by simp only [List.getElem?_toArray, List.getElem?_cons_succ, List.getElem?_cons_zero]; rfl) rfl (by rfl) (fun X _ => by go_simp; omega) ?_
    simp only [Act.put, List.setIfInBounds_toArray, List.set_cons_succ, List.set_cons_zero]
    refine Rd.tr_float (.string (((⟨(text a).toArray⟩ : ByteArray) ++ (⟨#[47]⟩ : ByteArray)) ++ (⟨(text b).toArray⟩ : ByteArray))) (by simp only [List.getElem?_toArray, List.getElem?_cons_succ, List.getElem?_cons_zero]; rfl) rfl (by rfl) (fun X _ => by go_simp) ?_
    simp only [Act.put, List.setIfInBounds_toArray, List.set_cons_succ, List.set_cons_zero]
    exact Rd.tr_end (by rw [← qtext_more HO.out]; exact ⟨_, _, _, _, _, _, _, _, rfl, hB⟩)
  case next =>
    rintro a3 W ⟨_, _, _, _, _, _, _, _, rfl, hB⟩
    go_wp2_with fail
    go_ret
    exact ⟨rfl, hB⟩

theorem qtext_nat (a1 b1 : Sl) (a b : Nat) (w : World) (ra1 : RU w a1 a) (rb1 : RU w b1 b) (la : Hid ((L a).length ≤ 500)) (lb : Hid ((L b).length ≤ 500)) :
    Calls Tryd.prog 36 #[.agg #[.slice a1.a a1.n a1.c, .slice b1.a b1.n b1.c]] w fun e w' => e = .returned (.string ⟨(qtext a b).toArray⟩) ∧ Below w.heap.size w w' := by
  by_cases h : b = 1
  · exact qtext_whole a1 b1 a b w ra1 rb1 la lb (Lib.hid h)
  · exact qtext_part a1 b1 a b w ra1 rb1 la lb (Lib.hid h)
set_option maxRecDepth 100000 in
set_option maxHeartbeats 4000000 in
theorem rqtext_whole (a1 b1 : Sl) (a b : Nat) (w : World) (ra1 : RD w a1 a) (rb1 : RD w b1 b) (la : Hid ((L a).length ≤ 500)) (lb : Hid ((L b).length ≤ 500)) (HO : Hid (b = 1)) (HC : Hid (cmpZ b 1 = 0)) :
    Calls Tryd.prog 37 #[.agg #[.slice a1.a a1.n a1.c, .slice b1.a b1.n b1.c]] w fun e w' => e = .returned (.string ⟨(qtext a b).toArray⟩) ∧ Below w.heap.size w w' := by
  go_enter Tryd.func37, Tryd.ntmps37
  have hb : Below w.heap.size w (w.alloc (.cells #[.slice a1.a a1.n a1.c, .slice b1.a b1.n b1.c] 35)) := ((Below.refl _ _).alloc (Nat.le_refl _) _)
  replace ra1 := ra1.below hb
  replace rb1 := rb1.below hb
  have hB := hb
  have P1 : Pair (w.alloc (.cells #[.slice a1.a a1.n a1.c, .slice b1.a b1.n b1.c] 35)) (w.heap.size) 35 (.slice a1.a a1.n a1.c) (.slice b1.a b1.n b1.c) := by
    have h := Pair.new w 35 (.slice a1.a a1.n a1.c) (.slice b1.a b1.n b1.c)
    simpa only [World.size_alloc] using h
  clear hb
  have c0P1 := P1.c0
  have c1P1 := P1.c1
  go_wp2_with fail
  clear c0P1 c1P1
  have hb : Below (w.alloc (.cells #[.slice a1.a a1.n a1.c, .slice b1.a b1.n b1.c] 35)).heap.size (w.alloc (.cells #[.slice a1.a a1.n a1.c, .slice b1.a b1.n b1.c] 35)) (w.alloc (.cells #[.slice a1.a a1.n a1.c, .slice b1.a b1.n b1.c] 35)).drew := (Below.refl _ _).drew
  replace P1 := P1.below hb
  replace ra1 := ra1.below hb
  replace rb1 := rb1.below hb
  replace hB := hB.trans (hb.mono hB.size)
  clear hb
  refine Rd.regionT (fun X => Pair X (w.heap.size) 35 (.slice a1.a a1.n a1.c) (.slice b1.a b1.n b1.c)) [0, 1, 4] (.one 0 (.one 1 (.one 2 (.one 3 (.one 4 .done))))) (fun ac W => ∃ (y3 y4 y5 y6 : Value), ac = { tmps := List.toArray (.agg #[.slice a1.a a1.n a1.c, .slice b1.a b1.n b1.c] :: .pointer (some ⟨w.heap.size, 0, none⟩) :: .string (⟨#[]⟩ : ByteArray) :: y3 :: y4 :: y5 :: y6 :: .bool true :: undef :: undef :: undef :: undef :: undef :: undef :: undef :: undef :: undef :: undef :: undef :: []), defers := [] } ∧ Pair W (w.heap.size) 35 (.slice a1.a a1.n a1.c) (.slice b1.a b1.n b1.c) ∧ RD W a1 a ∧ RD W b1 b ∧ Below w.heap.size w W) (by kernel_rfl) (by kernel_rfl) (by kernel_rfl) P1 ?tree ?next
  case tree =>
    generalize (w.alloc (.cells #[.slice a1.a a1.n a1.c, .slice b1.a b1.n b1.c] 35)).drew = w2 at P1 ra1 rb1 hB ⊢
    refine Rd.tr_float (.pointer (some ⟨w.heap.size, 1, none⟩)) (by simp only [List.getElem?_toArray, List.getElem?_cons_zero]; rfl) rfl (by rfl) (fun X _ => by go_simp) ?_
    simp only [Act.put, List.setIfInBounds_toArray, List.set_cons_succ, List.set_cons_zero]
    refine Rd.tr_float (.slice b1.a b1.n b1.c) (by simp only [List.getElem?_toArray, List.getElem?_cons_succ, List.getElem?_cons_zero]; rfl) rfl (by rfl) (fun X hX => by have h0 := hX.c0; have h1 := hX.c1; go_simp) ?_
    simp only [Act.put, List.setIfInBounds_toArray, List.set_cons_succ, List.set_cons_zero]
    refine Rd.tr_move (by simp only [List.getElem?_toArray, List.getElem?_cons_succ, List.getElem?_cons_zero]; rfl) rfl (by rfl) (fun K hK => ?_)
    have H5 := Lib.hid (Of_any (1) w2 (by omega))
    go_simp
    refine H5.out.mono ?_
    rintro e w6 ⟨v4, rfl, rx3, hb⟩
    clear H5
    replace P1 := P1.below hb
    replace ra1 := ra1.below hb
    replace rb1 := rb1.below hb
    replace hB := hB.trans (hb.mono hB.size)
    clear hb
    obtain ⟨x3, rfl, rx3⟩ := rx3.sl
    have HLx3 : Hid ((L (1)).length ≤ 1) := Lib.hid (one_row (1) (by have h : 1 < 9223372036854775808 := (by omega); omega))
    refine hK _ _ P1 ?_
    clear hK K
    refine Rd.tr_move (by simp only [List.getElem?_toArray, List.getElem?_cons_succ, List.getElem?_cons_zero]; rfl) rfl (by rfl) (fun K hK => ?_)
    have H7 := Lib.hid (rcmp_nat (.slice b1.a b1.n b1.c) (.slice x3.a x3.n x3.c) (b) (1) w6 rb1 rx3 (Nat.le_trans lb.out (by omega)) (Nat.le_trans HLx3.out (by omega)))
    rw [HC.out] at H7
    go_simp
    refine H7.out.mono ?_
    rintro e w8 ⟨rfl, hb⟩
    clear H7
    replace P1 := P1.below hb
    replace ra1 := ra1.below hb
    replace rb1 := rb1.below hb
    replace rx3 := rx3.below hb
    replace hB := hB.trans (hb.mono hB.size)
    clear hb
    refine hK _ _ P1 ?_
    clear hK K
    refine Rd.tr_float (.bool true) (by simp only [List.getElem?_toArray, List.getElem?_cons_succ, List.getElem?_cons_zero]; rfl) rfl (by rfl) (fun X _ => by go_simp) ?_
    simp only [Act.put, List.setIfInBounds_toArray, List.set_cons_succ, List.set_cons_zero]
    exact Rd.tr_end (⟨_, _, _, _, rfl, P1, ra1, rb1, hB⟩)
  case next =>
    rintro a3 W ⟨y3, y4, y5, y6, rfl, P1, ra1, rb1, hB⟩
    have c0P1 := P1.c0
    have c1P1 := P1.c1
    have H9 := Lib.hid (rtext_nat (.slice a1.a a1.n a1.c) (a) W ra1 (Nat.le_trans la.out (by omega)))
    go_wp2_with fail
    clear c0P1 c1P1
    refine H9.out.mono ?_
    rintro e w10 ⟨rfl, rfl⟩
    clear H9
    go_wp2_with fail
    go_ret
    exact ⟨by rw [← qtext_one HO.out]; rfl, hB⟩

set_option maxRecDepth 100000 in
set_option maxHeartbeats 4000000 in
theorem rqtext_part (a1 b1 : Sl) (a b : Nat) (w : World) (ra1 : RD w a1 a) (rb1 : RD w b1 b) (la : Hid ((L a).length ≤ 500)) (lb : Hid ((L b).length ≤ 500)) (HO : Hid (b ≠ 1)) (HC : Hid (cmpZ b 1 = 1)) :
    Calls Tryd.prog 37 #[.agg #[.slice a1.a a1.n a1.c, .slice b1.a b1.n b1.c]] w fun e w' => e = .returned (.string ⟨(qtext a b).toArray⟩) ∧ Below w.heap.size w w' := by
  go_enter Tryd.func37, Tryd.ntmps37
  have hb : Below w.heap.size w (w.alloc (.cells #[.slice a1.a a1.n a1.c, .slice b1.a b1.n b1.c] 35)) := ((Below.refl _ _).alloc (Nat.le_refl _) _)
  replace ra1 := ra1.below hb
  replace rb1 := rb1.below hb
  have hB := hb
  have P1 : Pair (w.alloc (.cells #[.slice a1.a a1.n a1.c, .slice b1.a b1.n b1.c] 35)) (w.heap.size) 35 (.slice a1.a a1.n a1.c) (.slice b1.a b1.n b1.c) := by
    have h := Pair.new w 35 (.slice a1.a a1.n a1.c) (.slice b1.a b1.n b1.c)
    simpa only [World.size_alloc] using h
  clear hb
  have c0P1 := P1.c0
  have c1P1 := P1.c1
  go_wp2_with fail
  clear c0P1 c1P1
  have hb : Below (w.alloc (.cells #[.slice a1.a a1.n a1.c, .slice b1.a b1.n b1.c] 35)).heap.size (w.alloc (.cells #[.slice a1.a a1.n a1.c, .slice b1.a b1.n b1.c] 35)) (w.alloc (.cells #[.slice a1.a a1.n a1.c, .slice b1.a b1.n b1.c] 35)).drew := (Below.refl _ _).drew
  replace P1 := P1.below hb
  replace ra1 := ra1.below hb
  replace rb1 := rb1.below hb
  replace hB := hB.trans (hb.mono hB.size)
  clear hb
  refine Rd.regionT (fun X => Pair X (w.heap.size) 35 (.slice a1.a a1.n a1.c) (.slice b1.a b1.n b1.c)) [0, 1, 4] (.one 0 (.one 1 (.one 2 (.one 3 (.one 4 .done))))) (fun ac W => ∃ (y3 y4 y5 y6 : Value), ac = { tmps := List.toArray (.agg #[.slice a1.a a1.n a1.c, .slice b1.a b1.n b1.c] :: .pointer (some ⟨w.heap.size, 0, none⟩) :: .string (⟨#[]⟩ : ByteArray) :: y3 :: y4 :: y5 :: y6 :: .bool false :: undef :: undef :: undef :: undef :: undef :: undef :: undef :: undef :: undef :: undef :: undef :: []), defers := [] } ∧ Pair W (w.heap.size) 35 (.slice a1.a a1.n a1.c) (.slice b1.a b1.n b1.c) ∧ RD W a1 a ∧ RD W b1 b ∧ Below w.heap.size w W) (by kernel_rfl) (by kernel_rfl) (by kernel_rfl) P1 ?tree ?next
  case tree =>
    generalize (w.alloc (.cells #[.slice a1.a a1.n a1.c, .slice b1.a b1.n b1.c] 35)).drew = w2 at P1 ra1 rb1 hB ⊢
    refine Rd.tr_float (.pointer (some ⟨w.heap.size, 1, none⟩)) (by simp only [List.getElem?_toArray, List.getElem?_cons_zero]; rfl) rfl (by rfl) (fun X _ => by go_simp) ?_
    simp only [Act.put, List.setIfInBounds_toArray, List.set_cons_succ, List.set_cons_zero]
    refine Rd.tr_float (.slice b1.a b1.n b1.c) (by simp only [List.getElem?_toArray, List.getElem?_cons_succ, List.getElem?_cons_zero]; rfl) rfl (by rfl) (fun X hX => by have h0 := hX.c0; have h1 := hX.c1; go_simp) ?_
    simp only [Act.put, List.setIfInBounds_toArray, List.set_cons_succ, List.set_cons_zero]
    refine Rd.tr_move (by simp only [List.getElem?_toArray, List.getElem?_cons_succ, List.getElem?_cons_zero]; rfl) rfl (by rfl) (fun K hK => ?_)
    have H5 := Lib.hid (Of_any (1) w2 (by omega))
    go_simp
    refine H5.out.mono ?_
    rintro e w6 ⟨v4, rfl, rx3, hb⟩
    clear H5
    replace P1 := P1.below hb
    replace ra1 := ra1.below hb
    replace rb1 := rb1.below hb
    replace hB := hB.trans (hb.mono hB.size)
    clear hb
    obtain ⟨x3, rfl, rx3⟩ := rx3.sl
    have HLx3 : Hid ((L (1)).length ≤ 1) := Lib.hid (one_row (1) (by have h : 1 < 9223372036854775808 := (by omega); omega))
    refine hK _ _ P1 ?_
    clear hK K
    refine Rd.tr_move (by simp only [List.getElem?_toArray, List.getElem?_cons_succ, List.getElem?_cons_zero]; rfl) rfl (by rfl) (fun K hK => ?_)
    have H7 := Lib.hid (rcmp_nat (.slice b1.a b1.n b1.c) (.slice x3.a x3.n x3.c) (b) (1) w6 rb1 rx3 (Nat.le_trans lb.out (by omega)) (Nat.le_trans HLx3.out (by omega)))
    rw [HC.out] at H7
    go_simp
    refine H7.out.mono ?_
    rintro e w8 ⟨rfl, hb⟩
    clear H7
    replace P1 := P1.below hb
    replace ra1 := ra1.below hb
    replace rb1 := rb1.below hb
    replace rx3 := rx3.below hb
    replace hB := hB.trans (hb.mono hB.size)
    clear hb
    refine hK _ _ P1 ?_
    clear hK K
    refine Rd.tr_float (.bool false) (by simp only [List.getElem?_toArray, List.getElem?_cons_succ, List.getElem?_cons_zero]; rfl) rfl (by rfl) (fun X _ => by go_simp) ?_
    simp only [Act.put, List.setIfInBounds_toArray, List.set_cons_succ, List.set_cons_zero]
    exact Rd.tr_end (⟨_, _, _, _, rfl, P1, ra1, rb1, hB⟩)
  case next =>
    rintro a3 W ⟨y3, y4, y5, y6, rfl, P1, ra1, rb1, hB⟩
    have hta := text_short la.out
    have htb := text_short lb.out
    have c0P1 := P1.c0
    have c1P1 := P1.c1
    go_wp2_with fail
    clear c0P1 c1P1
    have hb : Below W.heap.size W W.drew := (Below.refl _ _).drew
    replace P1 := P1.below hb
    replace ra1 := ra1.below hb
    replace rb1 := rb1.below hb
    replace hB := hB.trans (hb.mono hB.size)
    clear hb
    refine Rd.regionT (fun X => Pair X (w.heap.size) 35 (.slice a1.a a1.n a1.c) (.slice b1.a b1.n b1.c)) [0, 1, 3, 4, 5, 7, 8] (.one 0 (.one 1 (.one 4 (.one 5 (.one 2 (.one 3 (.one 6 (.one 7 (.one 8 .done))))))))) (fun ac W => ∃ (y11 y12 y13 y14 y15 y16 y17 y18 : Value), ac = { tmps := List.toArray (.agg #[.slice a1.a a1.n a1.c, .slice b1.a b1.n b1.c] :: .pointer (some ⟨w.heap.size, 0, none⟩) :: .string ⟨(qtext a b).toArray⟩ :: y3 :: y4 :: y5 :: y6 :: .bool false :: undef :: undef :: undef :: y11 :: y12 :: y13 :: y14 :: y15 :: y16 :: y17 :: y18 :: []), defers := [] } ∧ Below w.heap.size w W) (by kernel_rfl) (by kernel_rfl) (by kernel_rfl) P1 ?tree ?next
    case tree =>
      generalize W.drew = w9 at P1 ra1 rb1 hB ⊢
      refine Rd.tr_float (.pointer (some ⟨w.heap.size, 0, none⟩)) (by simp only [List.getElem?_toArray, List.getElem?_cons_zero]; rfl) rfl (by rfl) (fun X _ => by go_simp) ?_
      simp only [Act.put, List.setIfInBounds_toArray, List.set_cons_succ, List.set_cons_zero]
      refine Rd.tr_float (.slice a1.a a1.n a1.c) (by simp only [List.getElem?_toArray, List.getElem?_cons_succ, List.getElem?_cons_zero]; rfl) rfl (by rfl) (fun X hX => by have h0 := hX.c0; have h1 := hX.c1; go_simp) ?_
      simp only [Act.put, List.setIfInBounds_toArray, List.set_cons_succ, List.set_cons_zero]
      refine Rd.tr_float (.pointer (some ⟨w.heap.size, 1, none⟩)) (by simp only [List.getElem?_toArray, List.getElem?_cons_succ, List.getElem?_cons_zero]; rfl) rfl (by rfl) (fun X _ => by go_simp) ?_
      simp only [Act.put, List.setIfInBounds_toArray, List.set_cons_succ, List.set_cons_zero]
      refine Rd.tr_float (.slice b1.a b1.n b1.c) (by simp only [List.getElem?_toArray, List.getElem?_cons_succ, List.getElem?_cons_zero]; rfl) rfl (by rfl) (fun X hX => by have h0 := hX.c0; have h1 := hX.c1; go_simp) ?_
      simp only [Act.put, List.setIfInBounds_toArray, List.set_cons_succ, List.set_cons_zero]
      refine Rd.tr_move (by simp only [List.getElem?_toArray, List.getElem?_cons_succ, List.getElem?_cons_zero]; rfl) rfl (by rfl) (fun K hK => ?_)
      have H10 := Lib.hid (rtext_nat (.slice a1.a a1.n a1.c) (a) w9 ra1 (Nat.le_trans la.out (by omega)))
      go_simp
      refine H10.out.mono ?_
      rintro e w11 ⟨rfl, rfl⟩
      clear H10
      refine hK _ _ P1 ?_
      clear hK K
      refine Rd.tr_float (.string ((⟨(text a).toArray⟩ : ByteArray) ++ (⟨#[47]⟩ : ByteArray))) (by simp only [List.getElem?_toArray, List.getElem?_cons_succ, List.getElem?_cons_zero]; rfl) rfl (by rfl) (fun X _ => by go_simp; omega) ?_
      simp only [Act.put, List.setIfInBounds_toArray, List.set_cons_succ, List.set_cons_zero]
      refine Rd.tr_move (by simp only [List.getElem?_toArray, List.getElem?_cons_succ, List.getElem?_cons_zero]; rfl) rfl (by rfl) (fun K hK => ?_)
      have H12 := Lib.hid (rtext_nat (.slice b1.a b1.n b1.c) (b) w9 rb1 (Nat.le_trans lb.out (by omega)))
      go_simp
      refine H12.out.mono ?_
      rintro e w13 ⟨rfl, rfl⟩
      clear H12
      refine hK _ _ P1 ?_
      clear hK K
      refine Rd.tr_float (.string (((⟨(text a).toArray⟩ : ByteArray) ++ (⟨#[47]⟩ : ByteArray)) ++ (⟨(text b).toArray⟩ : ByteArray))) (by simp only [List.getElem?_toArray, List.getElem?_cons_succ, List.getElem?_cons_zero]; rfl) rfl (by rfl) (fun X _ => by go_simp; omega) ?_
      simp only [Act.put, List.setIfInBounds_toArray, List.set_cons_succ, List.set_cons_zero]
      refine Rd.tr_float (.string (((⟨(text a).toArray⟩ : ByteArray) ++ (⟨#[47]⟩ : ByteArray)) ++ (⟨(text b).toArray⟩ : ByteArray))) (by simp only [List.getElem?_toArray, List.getElem?_cons_succ, List.getElem?_cons_zero]; rfl) rfl (by rfl) (fun X _ => by go_simp) ?_
      simp only [Act.put, List.setIfInBounds_toArray, List.set_cons_succ, List.set_cons_zero]
      exact Rd.tr_end (by rw [← qtext_more HO.out]; exact ⟨_, _, _, _, _, _, _, _, rfl, hB⟩)
    case next =>
      rintro a3 W ⟨_, _, _, _, _, _, _, _, rfl, hB⟩
      go_wp2_with fail
      go_ret
      exact ⟨rfl, hB⟩

theorem rqtext_nat (a1 b1 : Sl) (a b : Nat) (w : World) (ra1 : RD w a1 a) (rb1 : RD w b1 b) (la : Hid ((L a).length ≤ 500)) (lb : Hid ((L b).length ≤ 500)) (HNE : Hid (b ≠ 0)) :
    Calls Tryd.prog 37 #[.agg #[.slice a1.a a1.n a1.c, .slice b1.a b1.n b1.c]] w fun e w' => e = .returned (.string ⟨(qtext a b).toArray⟩) ∧ Below w.heap.size w w' := by
  by_cases h : b = 1
  · exact rqtext_whole a1 b1 a b w ra1 rb1 la lb (Lib.hid h) (Lib.hid (by rw [h]; exact cmpZ_eq 1))
  · exact rqtext_part a1 b1 a b w ra1 rb1 la lb (Lib.hid h) (Lib.hid (cmpZ_gt (by have := HNE.out; omega)))
theorem of_six (v0 v1 : Value) (w : World) (h0 : RowU w v0 (L 6)) (h1 : RowU w v1 (L 4)) :
    Calls Tryd.prog 16 #[v0, v1] w fun e w' => ∃ p q : Sl, e = .returned (.tuple #[.agg #[.slice p.a p.n p.c, .slice q.a q.n q.c], .int .i64 0]) ∧ RU w' p 3 ∧ RU w' q 2 ∧ Below w.heap.size w w' := by
  have h := of_nat v0 v1 6 4 w h0 h1 (Nat.le_trans (one_row 6 (by omega)) (by omega)) (Nat.le_trans (one_row 4 (by omega)) (by omega)) (by omega)
  rw [show 6 / Nat.gcd 6 4 = 3 by decide, show 4 / Nat.gcd 6 4 = 2 by decide] at h
  exact h
theorem floor_six (a1 b1 : Sl) (w : World) (ra1 : RU w a1 3) (rb1 : RU w b1 2) :
    Calls Tryd.prog 19 #[.agg #[.slice a1.a a1.n a1.c, .slice b1.a b1.n b1.c]] w fun e w' => ∃ p : Sl, e = .returned (.slice p.a p.n p.c) ∧ RU w' p 1 ∧ Below w.heap.size w w' := by
  have h := qfloor_nat a1 b1 3 2 w ra1 rb1 (Lib.hid (Nat.le_trans (one_row 3 (by omega)) (by omega))) (Lib.hid (Nat.le_trans (one_row 2 (by omega)) (by omega))) (Lib.hid (by omega))
  rw [show 3 / 2 = 1 by decide] at h
  exact h
theorem six_text : qtext 3 2 = [51, 47, 50] := by decide +kernel
theorem one_text : text 1 = [49] := by decide +kernel
set_option maxRecDepth 100000 in
set_option maxHeartbeats 4000000 in
theorem awake_any (w : World) : Calls Tryd.prog 10 #[] w fun e w' => e = .returned (.bool true) ∧ Below w.heap.size w w' := by
  go_enter Tryd.func10, Tryd.ntmps10
  have H3 := Lib.hid (nOf_any (6) w (by omega))
  go_wp2_with fail
  refine H3.out.mono ?_
  rintro e w4 ⟨v2, rfl, rx1, hb⟩
  clear H3
  have hB := hb
  clear hb
  obtain ⟨x1, rfl, rx1⟩ := rx1.sl
  have HLx1 : Hid ((L (6)).length ≤ 1) := Lib.hid (one_row (6) (by omega))
  have H7 := Lib.hid (nOf_any (4) w4 (by omega))
  go_wp2_with fail
  refine H7.out.mono ?_
  rintro e w8 ⟨v6, rfl, rx5, hb⟩
  clear H7
  replace rx1 := rx1.below hb
  replace hB := hB.trans (hb.mono hB.size)
  clear hb
  obtain ⟨x5, rfl, rx5⟩ := rx5.sl
  have HLx5 : Hid ((L (4)).length ≤ 1) := Lib.hid (one_row (4) (by omega))
  have H11 := Lib.hid (of_six (.slice x1.a x1.n x1.c) (.slice x5.a x5.n x5.c) w8 rx1 rx5)
  go_wp2_with fail
  refine H11.out.mono ?_
  rintro e w12 ⟨x9, x10, rfl, rx9, rx10, hb⟩
  clear H11
  replace rx1 := rx1.below hb
  replace rx5 := rx5.below hb
  replace hB := hB.trans (hb.mono hB.size)
  clear hb
  have hb : Below w12.heap.size w12 (w12.alloc (.cells #[.slice x9.a x9.n x9.c, .slice x10.a x10.n x10.c] 30)) := ((Below.refl _ _).alloc (Nat.le_refl _) _)
  replace rx1 := rx1.below hb
  replace rx5 := rx5.below hb
  replace rx9 := rx9.below hb
  replace rx10 := rx10.below hb
  replace hB := hB.trans (hb.mono hB.size)
  have P13 : Pair (w12.alloc (.cells #[.slice x9.a x9.n x9.c, .slice x10.a x10.n x10.c] 30)) (w12.heap.size) 30 (.slice x9.a x9.n x9.c) (.slice x10.a x10.n x10.c) := by
    have h := Pair.new w12 30 (.slice x9.a x9.n x9.c) (.slice x10.a x10.n x10.c)
    simpa only [World.size_alloc] using h
  clear hb
  have c0P13 := P13.c0
  have c1P13 := P13.c1
  have H14 := Lib.hid (qtext_nat x9 x10 3 2 (w12.alloc (.cells #[.slice x9.a x9.n x9.c, .slice x10.a x10.n x10.c] 30)) rx9 rx10 (Lib.hid (Nat.le_trans (one_row 3 (by omega)) (by omega))) (Lib.hid (Nat.le_trans (one_row 2 (by omega)) (by omega))))
  rw [six_text] at H14
  go_wp2_with fail
  clear c0P13 c1P13
  refine H14.out.mono ?_
  rintro e w15 ⟨rfl, hb⟩
  clear H14
  replace P13 := P13.below hb
  replace rx1 := rx1.below hb
  replace rx5 := rx5.below hb
  replace rx9 := rx9.below hb
  replace rx10 := rx10.below hb
  replace hB := hB.trans (hb.mono hB.size)
  clear hb
  have c0P13 := P13.c0
  have c1P13 := P13.c1
  have H17 := Lib.hid (floor_six x9 x10 w15 rx9 rx10)
  go_wp2_with fail
  clear c0P13 c1P13
  refine H17.out.mono ?_
  rintro e w18 ⟨x16, rfl, rx16, hb⟩
  clear H17
  replace P13 := P13.below hb
  replace rx1 := rx1.below hb
  replace rx5 := rx5.below hb
  replace rx9 := rx9.below hb
  replace rx10 := rx10.below hb
  replace hB := hB.trans (hb.mono hB.size)
  clear hb
  have c0P13 := P13.c0
  have c1P13 := P13.c1
  have H19 := Lib.hid (text_nat (.slice x16.a x16.n x16.c) 1 w18 rx16 (Nat.le_trans (one_row 1 (by omega)) (by omega)))
  rw [one_text] at H19
  go_wp2_with fail
  clear c0P13 c1P13
  refine H19.out.mono ?_
  rintro e w20 ⟨rfl, hb⟩
  clear H19
  replace P13 := P13.below hb
  replace rx1 := rx1.below hb
  replace rx5 := rx5.below hb
  replace rx9 := rx9.below hb
  replace rx10 := rx10.below hb
  replace rx16 := rx16.below hb
  replace hB := hB.trans (hb.mono hB.size)
  clear hb
  go_wp2_with fail
  go_ret
  exact ⟨rfl, hB⟩
end Go.Proofs.YtnfoblmfjldheaaDoor
