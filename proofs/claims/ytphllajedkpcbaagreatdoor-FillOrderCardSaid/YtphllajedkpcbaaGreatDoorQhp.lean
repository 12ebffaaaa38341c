/-
  The text of a ratio, the program's. Condition: not more than five hundred limbs.
-/
import Derived.Test.YtphllajedkpcbaaGreatDoorQe
import Derived.Test.YtphllajedkpcbaaGreatDoorNd
namespace Go.Proofs.YtphllajedkpcbaaGreatDoor
open Go.RowKit Go.Dig Go.Shelf Go.Proofs

theorem text_short {n k : Nat} (h : (L n).length ≤ k) : (text n).length ≤ 20 * k + 1 := by
  unfold text
  split
  · simp
  · have h2 : (Dig.bytes (dig 10 n)).length = (dig 10 n).length := by simp [Dig.bytes]
    have h3 : n < 18446744073709551616 ^ k := (dig_len (by omega) n k).1 h
    have h4 : (18446744073709551616 : Nat) ^ k ≤ 10 ^ (20 * k) := by
      rw [Nat.pow_mul]; exact Nat.pow_le_pow_left (by decide) k
    have h5 : (dig 10 n).length ≤ 20 * k := (dig_len (by omega) n (20 * k)).2 (Nat.lt_of_lt_of_le h3 h4)
    omega
theorem text_nat (v : Value) (x : Nat) (w : World) (h : RowU w v (L x)) (hl : (L x).length ≤ 1000) :
    Calls Tryz.prog 43 #[v] w fun e w' => e = .returned (.string ⟨(text x).toArray⟩) ∧ Below w.heap.size w w' := by
  have h1 := nText_any v (L x) w h (small_L x) hl
  rw [V_L] at h1
  exact h1
theorem str_app (a b : List UInt8) : (⟨a.toArray⟩ : ByteArray) ++ (⟨b.toArray⟩ : ByteArray) = ⟨(a ++ b).toArray⟩ := by
  apply ByteArray.ext
  rw [ByteArray.data_append]
  simp
/-- a ratio's text. -/
def qtext (x y : Nat) : List UInt8 := if y = 1 then text x else text x ++ 47 :: text y
theorem qtext_one {x y : Nat} (h : y = 1) : (⟨(text x).toArray⟩ : ByteArray) = ⟨(qtext x y).toArray⟩ := by unfold qtext; rw [if_pos h]
theorem qtext_more {x y : Nat} (h : y ≠ 1) : (⟨(text x).toArray⟩ : ByteArray) ++ (⟨#[47]⟩ : ByteArray) ++ (⟨(text y).toArray⟩ : ByteArray) = ⟨(qtext x y).toArray⟩ := by
  unfold qtext
  rw [if_neg h, show (⟨#[47]⟩ : ByteArray) = ⟨[(47 : UInt8)].toArray⟩ from rfl, str_app, str_app]
  simp
set_option maxRecDepth 100000 in
set_option maxHeartbeats 4000000 in
theorem qtext_whole (a1 b1 : Sl) (a b : Nat) (w : World) (ra1 : RU w a1 a) (rb1 : RU w b1 b) (la : Hid ((L a).length ≤ 500)) (lb : Hid ((L b).length ≤ 500)) (HO : Hid (b = 1)) :
    Calls Tryz.prog 19 #[.agg #[.slice a1.a a1.n a1.c, .slice b1.a b1.n b1.c]] w fun e w' => e = .returned (.string ⟨(qtext a b).toArray⟩) ∧ Below w.heap.size w w' := by
  go_enter Tryz.func19, Tryz.ntmps19
  have hb : Below w.heap.size w (w.alloc (.cells #[.slice a1.a a1.n a1.c, .slice b1.a b1.n b1.c] 29)) := ((Below.refl _ _).alloc (Nat.le_refl _) _)
  replace ra1 := ra1.below hb
  replace rb1 := rb1.below hb
  have hB := hb
  have P1 : Pair (w.alloc (.cells #[.slice a1.a a1.n a1.c, .slice b1.a b1.n b1.c] 29)) (w.heap.size) 29 (.slice a1.a a1.n a1.c) (.slice b1.a b1.n b1.c) := by
    have h := Pair.new w 29 (.slice a1.a a1.n a1.c) (.slice b1.a b1.n b1.c)
    simpa only [World.size_alloc] using h
  clear hb
  have c0P1 := P1.c0
  have c1P1 := P1.c1
  have H2 := Lib.hid (isOne_nat (.slice b1.a b1.n b1.c) (b) (w.alloc (.cells #[.slice a1.a a1.n a1.c, .slice b1.a b1.n b1.c] 29)) rb1 (Nat.le_trans lb.out (by omega)) true (by simp [HO.out]))
  go_wp2_with fail
  clear c0P1 c1P1
  refine H2.out.mono ?_
  rintro e w3 ⟨rfl, hb⟩
  clear H2
  replace P1 := P1.below hb
  replace ra1 := ra1.below hb
  replace rb1 := rb1.below hb
  replace hB := hB.trans (hb.mono hB.size)
  clear hb
  have c0P1 := P1.c0
  have c1P1 := P1.c1
  have H4 := Lib.hid (text_nat (.slice a1.a a1.n a1.c) (a) w3 ra1 (Nat.le_trans la.out (by omega)))
  go_wp2_with fail
  clear c0P1 c1P1
  refine H4.out.mono ?_
  rintro e w5 ⟨rfl, hb⟩
  clear H4
  replace P1 := P1.below hb
  replace ra1 := ra1.below hb
  replace rb1 := rb1.below hb
  replace hB := hB.trans (hb.mono hB.size)
  clear hb
  go_wp2_with fail
  go_ret
  exact ⟨by rw [← qtext_one HO.out]; rfl, hB⟩

set_option maxRecDepth 100000 in
set_option maxHeartbeats 4000000 in
theorem qtext_part (a1 b1 : Sl) (a b : Nat) (w : World) (ra1 : RU w a1 a) (rb1 : RU w b1 b) (la : Hid ((L a).length ≤ 500)) (lb : Hid ((L b).length ≤ 500)) (HO : Hid (b ≠ 1)) :
    Calls Tryz.prog 19 #[.agg #[.slice a1.a a1.n a1.c, .slice b1.a b1.n b1.c]] w fun e w' => e = .returned (.string ⟨(qtext a b).toArray⟩) ∧ Below w.heap.size w w' := by
  go_enter Tryz.func19, Tryz.ntmps19
  have hb : Below w.heap.size w (w.alloc (.cells #[.slice a1.a a1.n a1.c, .slice b1.a b1.n b1.c] 29)) := ((Below.refl _ _).alloc (Nat.le_refl _) _)
  replace ra1 := ra1.below hb
  replace rb1 := rb1.below hb
  have hB := hb
  have P1 : Pair (w.alloc (.cells #[.slice a1.a a1.n a1.c, .slice b1.a b1.n b1.c] 29)) (w.heap.size) 29 (.slice a1.a a1.n a1.c) (.slice b1.a b1.n b1.c) := by
    have h := Pair.new w 29 (.slice a1.a a1.n a1.c) (.slice b1.a b1.n b1.c)
    simpa only [World.size_alloc] using h
  clear hb
  have c0P1 := P1.c0
  have c1P1 := P1.c1
  have H2 := Lib.hid (isOne_nat (.slice b1.a b1.n b1.c) (b) (w.alloc (.cells #[.slice a1.a a1.n a1.c, .slice b1.a b1.n b1.c] 29)) rb1 (Nat.le_trans lb.out (by omega)) false (by simp [HO.out]))
  go_wp2_with fail
  clear c0P1 c1P1
  refine H2.out.mono ?_
  rintro e w3 ⟨rfl, hb⟩
  clear H2
  replace P1 := P1.below hb
  replace ra1 := ra1.below hb
  replace rb1 := rb1.below hb
  replace hB := hB.trans (hb.mono hB.size)
  clear hb
  have hta := text_short la.out
  have htb := text_short lb.out
  have c0P1 := P1.c0
  have c1P1 := P1.c1
  go_wp2_with fail
  clear c0P1 c1P1
  have hb : Below w3.heap.size w3 w3.drew := (Below.refl _ _).drew
  replace P1 := P1.below hb
  replace ra1 := ra1.below hb
  replace rb1 := rb1.below hb
  replace hB := hB.trans (hb.mono hB.size)
  clear hb
  refine Rd.regionT (fun X => Pair X (w.heap.size) 29 (.slice a1.a a1.n a1.c) (.slice b1.a b1.n b1.c)) [0, 1, 3, 4, 5, 7, 8] (.one 0 (.one 1 (.one 4 (.one 5 (.one 2 (.one 3 (.one 6 (.one 7 (.one 8 .done))))))))) (fun ac W => ∃ (y9 y10 y11 y12 y13 y14 y15 y16 : Value), ac = { tmps := List.toArray (.agg #[.slice a1.a a1.n a1.c, .slice b1.a b1.n b1.c] :: .pointer (some ⟨w.heap.size, 0, none⟩) :: .string ⟨(qtext a b).toArray⟩ :: .pointer (some ⟨w.heap.size, 1, none⟩) :: .slice b1.a b1.n b1.c :: .bool false :: undef :: undef :: undef :: y9 :: y10 :: y11 :: y12 :: y13 :: y14 :: y15 :: y16 :: []), defers := [] } ∧ Below w.heap.size w W) (by kernel_rfl) (by kernel_rfl) (by kernel_rfl) P1 ?tree ?next
  case tree =>
    generalize w3.drew = w4 at P1 ra1 rb1 hB ⊢
    refine Rd.tr_float (.pointer (some ⟨w.heap.size, 0, none⟩)) (by simp only [List.getElem?_toArray, List.getElem?_cons_zero]; rfl) rfl (by rfl) (fun X _ => by go_simp) ?_
    simp only [Act.put, List.setIfInBounds_toArray, List.set_cons_succ, List.set_cons_zero]
    refine Rd.tr_float (.slice a1.a a1.n a1.c) (by simp only [List.getElem?_toArray, List.getElem?_cons_succ, List.getElem?_cons_zero]; rfl) rfl (by rfl) (fun X hX => by have h0 := hX.c0; have h1 := hX.c1; go_simp) ?_
    simp only [Act.put, List.setIfInBounds_toArray, List.set_cons_succ, List.set_cons_zero]
    refine Rd.tr_float (.pointer (some ⟨w.heap.size, 1, none⟩)) (by simp only [List.getElem?_toArray, List.getElem?_cons_succ, List.getElem?_cons_zero]; rfl) rfl (by rfl) (fun X _ => by go_simp) ?_
    simp only [Act.put, List.setIfInBounds_toArray, List.set_cons_succ, List.set_cons_zero]
    refine Rd.tr_float (.slice b1.a b1.n b1.c) (by simp only [List.getElem?_toArray, List.getElem?_cons_succ, List.getElem?_cons_zero]; rfl) rfl (by rfl) (fun X hX => by have h0 := hX.c0; have h1 := hX.c1; go_simp) ?_
    simp only [Act.put, List.setIfInBounds_toArray, List.set_cons_succ, List.set_cons_zero]
    refine Rd.tr_move (by simp only [List.getElem?_toArray, List.getElem?_cons_succ, List.getElem?_cons_zero]; rfl) rfl (by rfl) (fun K hK => ?_)
    have H5 := Lib.hid (text_nat (.slice a1.a a1.n a1.c) (a) w4 ra1 (Nat.le_trans la.out (by omega)))
    go_simp
    refine H5.out.mono ?_
    rintro e w6 ⟨rfl, hb⟩
    clear H5
    replace P1 := P1.below hb
    replace ra1 := ra1.below hb
    replace rb1 := rb1.below hb
    replace hB := hB.trans (hb.mono hB.size)
    clear hb
    refine hK _ _ P1 ?_
    clear hK K
    refine Rd.tr_float (.string ((⟨(text a).toArray⟩ : ByteArray) ++ (⟨#[47]⟩ : ByteArray))) (by simp only [List.getElem?_toArray, List.getElem?_cons_succ, List.getElem?_cons_zero]; rfl) rfl (by rfl) (fun X _ => by go_simp; omega) ?_
    simp only [Act.put, List.setIfInBounds_toArray, List.set_cons_succ, List.set_cons_zero]
    refine Rd.tr_move (by simp only [List.getElem?_toArray, List.getElem?_cons_succ, List.getElem?_cons_zero]; rfl) rfl (by rfl) (fun K hK => ?_)
    have H7 := Lib.hid (text_nat (.slice b1.a b1.n b1.c) (b) w6 rb1 (Nat.le_trans lb.out (by omega)))
    go_simp
    refine H7.out.mono ?_
    rintro e w8 ⟨rfl, hb⟩
    clear H7
    replace P1 := P1.below hb
    replace ra1 := ra1.below hb
    replace rb1 := rb1.below hb
    replace hB := hB.trans (hb.mono hB.size)
    clear hb
    refine hK _ _ P1 ?_
    clear hK K
    refine Rd.tr_float (.string (((⟨(text a).toArray⟩ : ByteArray) ++ (⟨#[47]⟩ : ByteArray)) ++ (⟨(text b).toArray⟩ : ByteArray))) (by simp only [List.getElem?_toArray, List.getElem?_cons_succ, List.getElem?_cons_zero]; rfl) rfl (by rfl) (fun X _ => by go_simp; omega) ?_
    simp only [Act.put, List.setIfInBounds_toArray, List.set_cons_succ, List.set_cons_zero]
    refine Rd.tr_float (.string (((⟨(text a).toArray⟩ : ByteArray) ++ (⟨#[47]⟩ : ByteArray)) ++ (⟨(text b).toArray⟩ : ByteArray))) (by simp only [List.getElem?_toArray, List.getElem?_cons_succ, List.getElem?_cons_zero]; rfl) rfl (by rfl) (fun X _ => by go_simp) ?_
    simp only [Act.put, List.setIfInBounds_toArray, List.set_cons_succ, List.set_cons_zero]
    exact Rd.tr_end (by rw [← qtext_more HO.out]; exact ⟨_, _, _, _, _, _, _, _, rfl, hB⟩)
  case next =>
    rintro a3 W ⟨_, _, _, _, _, _, _, _, rfl, hB⟩
    go_wp2_with fail
    go_ret
    exact ⟨rfl, hB⟩

theorem qtext_nat (a1 b1 : Sl) (a b : Nat) (w : World) (ra1 : RU w a1 a) (rb1 : RU w b1 b) (la : Hid ((L a).length ≤ 500)) (lb : Hid ((L b).length ≤ 500)) :
    Calls Tryz.prog 19 #[.agg #[.slice a1.a a1.n a1.c, .slice b1.a b1.n b1.c]] w fun e w' => e = .returned (.string ⟨(qtext a b).toArray⟩) ∧ Below w.heap.size w w' := by
  by_cases h : b = 1
  · exact qtext_whole a1 b1 a b w ra1 rb1 la lb (Lib.hid h)
  · exact qtext_part a1 b1 a b w ra1 rb1 la lb (Lib.hid h)
end Go.Proofs.YtphllajedkpcbaaGreatDoor
