/-
  The ratio of a text, the program's and the document's. Condition: not more than 200 bytes.
-/
import Derived.Test.YtnfoblmfjldheaaDoorQn
import Derived.Test.YtnfoblmfjldheaaDoorQr
import Derived.Test.YtnfoblmfjldheaaDoorTy
import Derived.Test.YtnfoblmfjldheaaDoorTz
import Derived.Test.YtnfoblmfjldheaaDoorShei
namespace Go.Proofs.YtnfoblmfjldheaaDoor
open Go.RowKit Go.Dig Go.Shelf Go.Proofs

theorem bytes_pre (s u t : List UInt8) (h : s = u ++ t) : (⟨s.toArray⟩ : ByteArray).extract 0 u.length = ⟨u.toArray⟩ := by
  subst h
  apply ByteArray.ext
  simp [ByteArray.data_extract]
theorem bytes_post (s u t : List UInt8) (h : s = u ++ 47 :: t) : (⟨s.toArray⟩ : ByteArray).extract (u.length + 1) s.length = ⟨t.toArray⟩ := by
  subst h
  apply ByteArray.ext
  rw [ByteArray.data_extract]
  simp
  rw [List.take_of_length_le (by omega)]
theorem index_sl (s : List UInt8) (z : Int) (h : Lib.indexByte s 47 = z) (w : World) : Calls Tryd.prog 92 #[.string ⟨s.toArray⟩, .string ⟨#[47]⟩] w fun e w' => e = .returned (.int .i64 z) ∧ w' = w := by
  have h1 := Tryd.stringslite_Index_one ⟨s.toArray⟩ 47 w
  rw [show ((⟨s.toArray⟩ : ByteArray).data.toList) = s by simp, h] at h1
  exact h1
set_option maxRecDepth 100000 in
theorem cut_no (s : List UInt8) (HN : Hid ((47 : UInt8) ∉ s)) (w : World) :
    Calls Tryd.prog 56 #[.string ⟨s.toArray⟩, .string ⟨#[47]⟩] w fun e w' => e = .returned (.tuple #[.string ⟨s.toArray⟩, .string ⟨#[]⟩, .bool false]) ∧ Below w.heap.size w w' := by
  have H1 := Lib.hid (index_sl s (-1) (index_no HN.out) w)
  have H2 : Hid (Calls Tryd.prog 76 #[.string ⟨s.toArray⟩, .string ⟨#[47]⟩] w fun e w' => e = .returned (.tuple #[.string ⟨s.toArray⟩, .string ⟨#[]⟩, .bool false]) ∧ w' = w) := by
    refine Lib.hid ?_
    go_enter Tryd.func76, Tryd.ntmps76
    go_wp2_with fail
    refine H1.out.mono ?_
    rintro e w1 ⟨rfl, rfl⟩
    go_wp2_with fail
    go_ret3
    exact ⟨rfl, rfl⟩
  go_enter Tryd.func56, Tryd.ntmps56
  go_wp2_with fail
  refine H2.out.mono ?_
  rintro e w1 ⟨rfl, rfl⟩
  go_wp2_with fail
  go_ret3
  exact ⟨rfl, Below.refl _ _⟩
set_option maxRecDepth 100000 in
set_option maxHeartbeats 4000000 in
theorem cut_lite (s u t : List UInt8) (HI : Hid (Lib.indexByte s 47 = (u.length : Int))) (hlt : u.length < s.length) (hll : s.length ≤ 1000) (x1 : (⟨s.toArray⟩ : ByteArray).extract 0 u.length = ⟨u.toArray⟩) (x2 : (⟨s.toArray⟩ : ByteArray).extract (u.length + 1) s.length = ⟨t.toArray⟩) (w : World) :
    Calls Tryd.prog 76 #[.string ⟨s.toArray⟩, .string ⟨#[47]⟩] w fun e w' => e = .returned (.tuple #[.string ⟨u.toArray⟩, .string ⟨t.toArray⟩, .bool true]) ∧ Below w.heap.size w w' := by
  have hw : IntKind.i64.wrap ((u.length : Int) + 1) = (u.length : Int) + 1 := by
    simp [IntKind.wrap, IntKind.signed, IntKind.bits]
    omega
  go_enter Tryd.func76, Tryd.ntmps76
  have H1 := Lib.hid (index_sl s (u.length : Int) HI.out w)
  go_wp2_with fail
  refine H1.out.mono ?_
  rintro e w1 ⟨rfl, rfl⟩
  clear H1
  go_wp2_with fail
  have hb : Below w1.heap.size w1 w1.drew := (Below.refl _ _).drew
  have hB := hb
  clear hb
  refine Rd.regionT (fun X => True) [0, 1, 2, 3, 4, 5, 6, 7, 8, 9, 10, 11] (.one 0 (.one 1 (.one 2 (.one 3 (.one 4 (.one 5 (.one 6 (.one 7 (.one 8 (.one 9 (.one 10 (.one 11 .done)))))))))))) (fun ac W => ∃ (y13 y14 y15 y16 y17 y18 y19 y20 y21 : Value), ac = { tmps := List.toArray (.string (⟨s.toArray⟩ : ByteArray) :: .string (⟨#[47]⟩ : ByteArray) :: undef :: undef :: .string (⟨u.toArray⟩ : ByteArray) :: .string (⟨t.toArray⟩ : ByteArray) :: .bool true :: .int .i64 (u.length : Int) :: .string (⟨s.toArray⟩ : ByteArray) :: .string (⟨#[47]⟩ : ByteArray) :: .int .i64 (u.length : Int) :: .int .i64 (u.length : Int) :: .bool true :: y13 :: y14 :: y15 :: y16 :: y17 :: y18 :: y19 :: y20 :: y21 :: undef :: []), defers := [] } ∧ Below w1.heap.size w1 W) (by kernel_rfl) (by kernel_rfl) (by kernel_rfl) trivial ?tree ?next
  case tree =>
    generalize w1.drew = w1 at hB ⊢
    refine Rd.tr_float (.string (⟨s.toArray⟩ : ByteArray)) (by simp only [List.getElem?_toArray, List.getElem?_cons_zero]; rfl) rfl (by rfl) (fun X _ => by go_simp) ?_
    simp only [Act.put, List.setIfInBounds_toArray, List.set_cons_succ, List.set_cons_zero]
    refine Rd.tr_float (.int .i64 (u.length : Int)) (by simp only [List.getElem?_toArray, List.getElem?_cons_succ, List.getElem?_cons_zero]; rfl) rfl (by rfl) (fun X _ => by go_simp) ?_
    simp only [Act.put, List.setIfInBounds_toArray, List.set_cons_succ, List.set_cons_zero]
    refine Rd.tr_float (.string (⟨u.toArray⟩ : ByteArray)) (by simp only [List.getElem?_toArray, List.getElem?_cons_succ, List.getElem?_cons_zero]; rfl) rfl (by rfl) (fun X _ => by go_simp <;> (intro h9; omega)) ?_
    simp only [Act.put, List.setIfInBounds_toArray, List.set_cons_succ, List.set_cons_zero]
    refine Rd.tr_float (.string (⟨s.toArray⟩ : ByteArray)) (by simp only [List.getElem?_toArray, List.getElem?_cons_succ, List.getElem?_cons_zero]; rfl) rfl (by rfl) (fun X _ => by go_simp) ?_
    simp only [Act.put, List.setIfInBounds_toArray, List.set_cons_succ, List.set_cons_zero]
    refine Rd.tr_float (.int .i64 (u.length : Int)) (by simp only [List.getElem?_toArray, List.getElem?_cons_succ, List.getElem?_cons_zero]; rfl) rfl (by rfl) (fun X _ => by go_simp) ?_
    simp only [Act.put, List.setIfInBounds_toArray, List.set_cons_succ, List.set_cons_zero]
    refine Rd.tr_float (.string (⟨#[47]⟩ : ByteArray)) (by simp only [List.getElem?_toArray, List.getElem?_cons_succ, List.getElem?_cons_zero]; rfl) rfl (by rfl) (fun X _ => by go_simp) ?_
    simp only [Act.put, List.setIfInBounds_toArray, List.set_cons_succ, List.set_cons_zero]
    refine Rd.tr_float (.int .i64 1) (by simp only [List.getElem?_toArray, List.getElem?_cons_succ, List.getElem?_cons_zero]; rfl) rfl (by rfl) (fun X _ => by go_simp) ?_
    simp only [Act.put, List.setIfInBounds_toArray, List.set_cons_succ, List.set_cons_zero]
    refine Rd.tr_float (.int .i64 ((u.length : Int) + 1)) (by simp only [List.getElem?_toArray, List.getElem?_cons_succ, List.getElem?_cons_zero]; rfl) rfl (by rfl) (fun X _ => by go_simp) ?_
    simp only [Act.put, List.setIfInBounds_toArray, List.set_cons_succ, List.set_cons_zero]
    refine Rd.tr_float (.string (⟨t.toArray⟩ : ByteArray)) (by simp only [List.getElem?_toArray, List.getElem?_cons_succ, List.getElem?_cons_zero]; rfl) rfl (by rfl) (fun X _ => by go_simp <;> (intro h9; omega)) ?_
    simp only [Act.put, List.setIfInBounds_toArray, List.set_cons_succ, List.set_cons_zero]
    refine Rd.tr_float (.string (⟨u.toArray⟩ : ByteArray)) (by simp only [List.getElem?_toArray, List.getElem?_cons_succ, List.getElem?_cons_zero]; rfl) rfl (by rfl) (fun X _ => by go_simp <;> (intro h9; omega)) ?_
    simp only [Act.put, List.setIfInBounds_toArray, List.set_cons_succ, List.set_cons_zero]
    refine Rd.tr_float (.string (⟨t.toArray⟩ : ByteArray)) (by simp only [List.getElem?_toArray, List.getElem?_cons_succ, List.getElem?_cons_zero]; rfl) rfl (by rfl) (fun X _ => by go_simp <;> (intro h9; omega)) ?_
    simp only [Act.put, List.setIfInBounds_toArray, List.set_cons_succ, List.set_cons_zero]
    refine Rd.tr_float (.bool true) (by simp only [List.getElem?_toArray, List.getElem?_cons_succ, List.getElem?_cons_zero]; rfl) rfl (by rfl) (fun X _ => by go_simp) ?_
    simp only [Act.put, List.setIfInBounds_toArray, List.set_cons_succ, List.set_cons_zero]
    exact Rd.tr_end (⟨_, _, _, _, _, _, _, _, _, rfl, hB⟩)
  case next =>
    rintro a3 W ⟨_, _, _, _, _, _, _, _, _, rfl, hB⟩
    go_wp2_with fail
    go_ret3
    exact ⟨rfl, hB⟩
set_option maxRecDepth 100000 in
theorem cut_at (s u t : List UInt8) (HU : Hid ((47 : UInt8) ∉ u)) (HS : Hid (s = u ++ 47 :: t)) (HL : Hid (s.length ≤ 1000)) (w : World) :
    Calls Tryd.prog 56 #[.string ⟨s.toArray⟩, .string ⟨#[47]⟩] w fun e w' => e = .returned (.tuple #[.string ⟨u.toArray⟩, .string ⟨t.toArray⟩, .bool true]) ∧ Below w.heap.size w w' := by
  have H2 := Lib.hid (cut_lite s u t (Lib.hid (by rw [HS.out]; exact index_at t HU.out)) (by rw [HS.out]; simp) HL.out (bytes_pre s u (47 :: t) HS.out) (bytes_post s u t HS.out) w)
  go_enter Tryd.func56, Tryd.ntmps56
  go_wp2_with fail
  refine H2.out.mono ?_
  rintro e w1 ⟨rfl, hb⟩
  go_wp2_with fail
  go_ret3
  exact ⟨rfl, hb⟩
theorem nread_nat (x : Nat) (hl : (text x).length ≤ 1000) (w : World) :
    Calls Tryd.prog 57 #[.string ⟨(text x).toArray⟩] w fun e w' => ∃ v, e = .returned (.tuple #[v, .int .i64 0]) ∧ RowU w' v (L x) ∧ Below w.heap.size w w' := by
  have h := nRead_yes (text x) hl (text_is x) w
  rw [readN_text] at h
  exact h
theorem nread_one (w : World) :
    Calls Tryd.prog 57 #[.string ⟨#[49]⟩] w fun e w' => ∃ v, e = .returned (.tuple #[v, .int .i64 0]) ∧ RowU w' v (L 1) ∧ Below w.heap.size w w' := by
  have h := nread_nat 1 (by rw [one_is]; decide) w
  rw [one_is] at h
  exact h
theorem rread_nat (x : Nat) (hl : (text x).length ≤ 1000) (w : World) :
    Calls Tryd.prog 59 #[.string ⟨(text x).toArray⟩] w fun e w' => ∃ v, e = .returned (.tuple #[v, .bool true]) ∧ Row w' v (D x) ∧ Below w.heap.size w w' := by
  have h := rRead_yes (text x) hl (text_is x) w
  rw [readN_text] at h
  exact h
set_option maxRecDepth 100000 in
set_option maxHeartbeats 4000000 in
theorem qread_one (x : Nat) (w : World) (HTx : Hid ((text x).length ≤ 1000)) (HLx : Hid ((L x).length ≤ 200)) (HC : Hid ((47 : UInt8) ∉ (text x))) :
    Calls Tryd.prog 35 #[.string ⟨(text x).toArray⟩] w fun e w' => ∃ p q : Sl, e = .returned (.tuple #[.agg #[.slice p.a p.n p.c, .slice q.a q.n q.c], .int .i64 0]) ∧ RU w' p x ∧ RU w' q 1 ∧ Below w.heap.size w w' := by
  go_enter Tryd.func35, Tryd.ntmps35
  have hb : Below w.heap.size w (w.alloc (.cells #[.slice none 0 0, .slice none 0 0] 30)) := ((Below.refl _ _).alloc (Nat.le_refl _) _)
  have hB := hb
  have P1 : Pair (w.alloc (.cells #[.slice none 0 0, .slice none 0 0] 30)) (w.heap.size) 30 (.slice none 0 0) (.slice none 0 0) := by
    have h := Pair.new w 30 (.slice none 0 0) (.slice none 0 0)
    simpa only [World.size_alloc] using h
  clear hb
  have c0P1 := P1.c0
  have c1P1 := P1.c1
  have H2 := Lib.hid (cut_no _ HC (w.alloc (.cells #[.slice none 0 0, .slice none 0 0] 30)))
  go_wp2_with fail
  clear c0P1 c1P1
  refine H2.out.mono ?_
  rintro e w3 ⟨rfl, hb⟩
  clear H2
  replace P1 := P1.below hb
  replace hB := hB.trans (hb.mono hB.size)
  clear hb
  have c0P1 := P1.c0
  have c1P1 := P1.c1
  have H6 := Lib.hid (nread_nat x HTx.out w3)
  go_wp2_with fail
  clear c0P1 c1P1
  refine H6.out.mono ?_
  rintro e w7 ⟨v5, rfl, rx4, hb⟩
  clear H6
  replace P1 := P1.below hb
  replace hB := hB.trans (hb.mono hB.size)
  clear hb
  obtain ⟨x4, rfl, rx4⟩ := rx4.sl
  have c0P1 := P1.c0
  have c1P1 := P1.c1
  have H10 := Lib.hid (nread_one w7)
  go_wp2_with fail
  clear c0P1 c1P1
  refine H10.out.mono ?_
  rintro e w11 ⟨v9, rfl, rx8, hb⟩
  clear H10
  replace P1 := P1.below hb
  replace rx4 := rx4.below hb
  replace hB := hB.trans (hb.mono hB.size)
  clear hb
  obtain ⟨x8, rfl, rx8⟩ := rx8.sl
  have hb : Below w11.heap.size w11 (w11.alloc (.cells #[.slice x4.a x4.n x4.c, .slice x8.a x8.n x8.c] 30)) := ((Below.refl _ _).alloc (Nat.le_refl _) _)
  replace P1 := P1.below hb
  replace rx4 := rx4.below hb
  replace rx8 := rx8.below hb
  replace hB := hB.trans (hb.mono hB.size)
  have P12 : Pair (w11.alloc (.cells #[.slice x4.a x4.n x4.c, .slice x8.a x8.n x8.c] 30)) (w11.heap.size) 30 (.slice x4.a x4.n x4.c) (.slice x8.a x8.n x8.c) := by
    have h := Pair.new w11 30 (.slice x4.a x4.n x4.c) (.slice x8.a x8.n x8.c)
    simpa only [World.size_alloc] using h
  clear hb
  have c0P1 := P1.c0
  have c1P1 := P1.c1
  have c0P12 := P12.c0
  have c1P12 := P12.c1
  have H13 := Lib.hid (qgood_nat x4 x8 (x) (1) (w11.alloc (.cells #[.slice x4.a x4.n x4.c, .slice x8.a x8.n x8.c] 30)) rx4 rx8 (Lib.hid (Nat.le_trans HLx.out (by omega))) (Lib.hid (Nat.le_trans (one_row 1 (by omega)) (by omega))) (Lib.hid (by omega)) true (Lib.hid (by simp)))
  go_wp2_with fail
  clear c0P1 c1P1 c0P12 c1P12
  refine H13.out.mono ?_
  rintro e w14 ⟨rfl, hb⟩
  clear H13
  replace P1 := P1.below hb
  replace P12 := P12.below hb
  replace rx4 := rx4.below hb
  replace rx8 := rx8.below hb
  replace hB := hB.trans (hb.mono hB.size)
  clear hb
  have c0P1 := P1.c0
  have c1P1 := P1.c1
  have c0P12 := P12.c0
  have c1P12 := P12.c1
  have z0P1 := P1.z0
  have z1P1 := P1.z1
  go_wp2_with fail
  replace rx4 := rx4.pset P1 (.slice x4.a x4.n x4.c) (.slice x8.a x8.n x8.c)
  replace rx8 := rx8.pset P1 (.slice x4.a x4.n x4.c) (.slice x8.a x8.n x8.c)
  replace hB := Below.pset hB (by omega : w.heap.size ≤ w.heap.size) (.slice x4.a x4.n x4.c) (.slice x8.a x8.n x8.c)
  have P1x := P1.set (.slice x4.a x4.n x4.c) (.slice x8.a x8.n x8.c)
  generalize (w14.setCell ⟨w.heap.size, 0, none⟩ (.slice x4.a x4.n x4.c)).setCell ⟨w.heap.size, 1, none⟩ (.slice x8.a x8.n x8.c) = WW at rx4 rx8 P1x hB ⊢
  refine bodyPost_ret (v := .tuple #[.agg #[.slice x4.a x4.n x4.c, .slice x8.a x8.n x8.c], .int .i64 0]) ?_ rfl (⟨x4, x8, rfl, rx4, rx8, hB⟩)
  simp [results, Tryd.f35, go_sem, P1x.c0, P1x.c1]

set_option maxRecDepth 100000 in
set_option maxHeartbeats 4000000 in
theorem qread_n1 (s : List UInt8) (w : World) (HL : Hid (s.length ≤ 1000)) (HN : Hid (¬ IsText s)) (HC : Hid ((47 : UInt8) ∉ s)) :
    Calls Tryd.prog 35 #[.string ⟨s.toArray⟩] w fun e w' => e = .returned (.tuple #[.agg #[.slice none 0 0, .slice none 0 0], .int .i64 17]) ∧ Below w.heap.size w w' := by
  go_enter Tryd.func35, Tryd.ntmps35
  have hb : Below w.heap.size w (w.alloc (.cells #[.slice none 0 0, .slice none 0 0] 30)) := ((Below.refl _ _).alloc (Nat.le_refl _) _)
  have hB := hb
  have P1 : Pair (w.alloc (.cells #[.slice none 0 0, .slice none 0 0] 30)) (w.heap.size) 30 (.slice none 0 0) (.slice none 0 0) := by
    have h := Pair.new w 30 (.slice none 0 0) (.slice none 0 0)
    simpa only [World.size_alloc] using h
  clear hb
  have c0P1 := P1.c0
  have c1P1 := P1.c1
  have H2 := Lib.hid (cut_no _ HC (w.alloc (.cells #[.slice none 0 0, .slice none 0 0] 30)))
  go_wp2_with fail
  clear c0P1 c1P1
  refine H2.out.mono ?_
  rintro e w3 ⟨rfl, hb⟩
  clear H2
  replace P1 := P1.below hb
  replace hB := hB.trans (hb.mono hB.size)
  clear hb
  have c0P1 := P1.c0
  have c1P1 := P1.c1
  have H4 := Lib.hid (nRead_no s HL.out HN.out w3)
  go_wp2_with fail
  clear c0P1 c1P1
  refine H4.out.mono ?_
  rintro e w5 ⟨rfl, rfl⟩
  clear H4
  have c0P1 := P1.c0
  have c1P1 := P1.c1
  have H8 := Lib.hid (nread_one w3)
  go_wp2_with fail
  clear c0P1 c1P1
  refine H8.out.mono ?_
  rintro e w9 ⟨v7, rfl, rx6, hb⟩
  clear H8
  replace P1 := P1.below hb
  replace hB := hB.trans (hb.mono hB.size)
  clear hb
  obtain ⟨x6, rfl, rx6⟩ := rx6.sl
  have hb : Below w9.heap.size w9 (w9.alloc (.cells #[.slice none 0 0, .slice x6.a x6.n x6.c] 30)) := ((Below.refl _ _).alloc (Nat.le_refl _) _)
  replace P1 := P1.below hb
  replace rx6 := rx6.below hb
  replace hB := hB.trans (hb.mono hB.size)
  have P10 : Pair (w9.alloc (.cells #[.slice none 0 0, .slice x6.a x6.n x6.c] 30)) (w9.heap.size) 30 (.slice none 0 0) (.slice x6.a x6.n x6.c) := by
    have h := Pair.new w9 30 (.slice none 0 0) (.slice x6.a x6.n x6.c)
    simpa only [World.size_alloc] using h
  clear hb
  have c0P1 := P1.c0
  have c1P1 := P1.c1
  have c0P10 := P10.c0
  have c1P10 := P10.c1
  have z0P1 := P1.z0
  have z1P1 := P1.z1
  go_wp2_with fail
  replace rx6 := rx6.pset P1 (.slice none 0 0) (.slice none 0 0)
  replace hB := Below.pset hB (by omega : w.heap.size ≤ w.heap.size) (.slice none 0 0) (.slice none 0 0)
  have P1x := P1.set (.slice none 0 0) (.slice none 0 0)
  generalize ((w9.alloc (.cells #[.slice none 0 0, .slice x6.a x6.n x6.c] 30)).setCell ⟨w.heap.size, 0, none⟩ (.slice none 0 0)).setCell ⟨w.heap.size, 1, none⟩ (.slice none 0 0) = WW at rx6 P1x hB ⊢
  refine bodyPost_ret (v := .tuple #[.agg #[.slice none 0 0, .slice none 0 0], .int .i64 17]) ?_ rfl (⟨rfl, hB⟩)
  simp [results, Tryd.f35, go_sem, P1x.c0, P1x.c1]

set_option maxRecDepth 100000 in
set_option maxHeartbeats 4000000 in
theorem qread_n2 (s u : List UInt8) (w : World) (HL : Hid (s.length ≤ 1000)) (HU : Hid ((47 : UInt8) ∉ u)) (HS : Hid (s = u ++ 47 :: [49])) :
    Calls Tryd.prog 35 #[.string ⟨s.toArray⟩] w fun e w' => e = .returned (.tuple #[.agg #[.slice none 0 0, .slice none 0 0], .int .i64 17]) ∧ Below w.heap.size w w' := by
  go_enter Tryd.func35, Tryd.ntmps35
  have hb : Below w.heap.size w (w.alloc (.cells #[.slice none 0 0, .slice none 0 0] 30)) := ((Below.refl _ _).alloc (Nat.le_refl _) _)
  have hB := hb
  have P1 : Pair (w.alloc (.cells #[.slice none 0 0, .slice none 0 0] 30)) (w.heap.size) 30 (.slice none 0 0) (.slice none 0 0) := by
    have h := Pair.new w 30 (.slice none 0 0) (.slice none 0 0)
    simpa only [World.size_alloc] using h
  clear hb
  have c0P1 := P1.c0
  have c1P1 := P1.c1
  have H2 := Lib.hid (cut_at s _ _ HU HS HL (w.alloc (.cells #[.slice none 0 0, .slice none 0 0] 30)))
  go_wp2_with fail
  clear c0P1 c1P1
  refine H2.out.mono ?_
  rintro e w3 ⟨rfl, hb⟩
  clear H2
  replace P1 := P1.below hb
  replace hB := hB.trans (hb.mono hB.size)
  clear hb
  have c0P1 := P1.c0
  have c1P1 := P1.c1
  have z0P1 := P1.z0
  have z1P1 := P1.z1
  go_wp2_with fail
  replace hB := Below.pset hB (by omega : w.heap.size ≤ w.heap.size) (.slice none 0 0) (.slice none 0 0)
  have P1x := P1.set (.slice none 0 0) (.slice none 0 0)
  generalize (w3.setCell ⟨w.heap.size, 0, none⟩ (.slice none 0 0)).setCell ⟨w.heap.size, 1, none⟩ (.slice none 0 0) = WW at P1x hB ⊢
  refine bodyPost_ret (v := .tuple #[.agg #[.slice none 0 0, .slice none 0 0], .int .i64 17]) ?_ rfl (⟨rfl, hB⟩)
  simp [results, Tryd.f35, go_sem, P1x.c0, P1x.c1]

set_option maxRecDepth 100000 in
set_option maxHeartbeats 4000000 in
theorem qread_n3 (s u t : List UInt8) (w : World) (HL : Hid (s.length ≤ 1000)) (HLu : Hid (u.length ≤ 1000)) (HLt : Hid (t.length ≤ 1000)) (HNu : Hid (¬ IsText u)) (HNt : Hid (¬ IsText t)) (ht1 : (t == [49]) = false) (HU : Hid ((47 : UInt8) ∉ u)) (HS : Hid (s = u ++ 47 :: t)) :
    Calls Tryd.prog 35 #[.string ⟨s.toArray⟩] w fun e w' => e = .returned (.tuple #[.agg #[.slice none 0 0, .slice none 0 0], .int .i64 17]) ∧ Below w.heap.size w w' := by
  go_enter Tryd.func35, Tryd.ntmps35
  have hb : Below w.heap.size w (w.alloc (.cells #[.slice none 0 0, .slice none 0 0] 30)) := ((Below.refl _ _).alloc (Nat.le_refl _) _)
  have hB := hb
  have P1 : Pair (w.alloc (.cells #[.slice none 0 0, .slice none 0 0] 30)) (w.heap.size) 30 (.slice none 0 0) (.slice none 0 0) := by
    have h := Pair.new w 30 (.slice none 0 0) (.slice none 0 0)
    simpa only [World.size_alloc] using h
  clear hb
  have c0P1 := P1.c0
  have c1P1 := P1.c1
  have H2 := Lib.hid (cut_at s _ _ HU HS HL (w.alloc (.cells #[.slice none 0 0, .slice none 0 0] 30)))
  go_wp2_with fail
  clear c0P1 c1P1
  refine H2.out.mono ?_
  rintro e w3 ⟨rfl, hb⟩
  clear H2
  replace P1 := P1.below hb
  replace hB := hB.trans (hb.mono hB.size)
  clear hb
  have c0P1 := P1.c0
  have c1P1 := P1.c1
  have H4 := Lib.hid (nRead_no u HLu.out HNu.out w3)
  go_wp2_with fail
  clear c0P1 c1P1
  refine H4.out.mono ?_
  rintro e w5 ⟨rfl, rfl⟩
  clear H4
  have c0P1 := P1.c0
  have c1P1 := P1.c1
  have H6 := Lib.hid (nRead_no t HLt.out HNt.out w3)
  go_wp2_with fail
  clear c0P1 c1P1
  refine H6.out.mono ?_
  rintro e w7 ⟨rfl, rfl⟩
  clear H6
  have hb : Below w3.heap.size w3 (w3.alloc (.cells #[.slice none 0 0, .slice none 0 0] 30)) := ((Below.refl _ _).alloc (Nat.le_refl _) _)
  replace P1 := P1.below hb
  replace hB := hB.trans (hb.mono hB.size)
  have P8 : Pair (w3.alloc (.cells #[.slice none 0 0, .slice none 0 0] 30)) (w3.heap.size) 30 (.slice none 0 0) (.slice none 0 0) := by
    have h := Pair.new w3 30 (.slice none 0 0) (.slice none 0 0)
    simpa only [World.size_alloc] using h
  clear hb
  have c0P1 := P1.c0
  have c1P1 := P1.c1
  have c0P8 := P8.c0
  have c1P8 := P8.c1
  have z0P1 := P1.z0
  have z1P1 := P1.z1
  go_wp2_with fail
  replace hB := Below.pset hB (by omega : w.heap.size ≤ w.heap.size) (.slice none 0 0) (.slice none 0 0)
  have P1x := P1.set (.slice none 0 0) (.slice none 0 0)
  generalize ((w3.alloc (.cells #[.slice none 0 0, .slice none 0 0] 30)).setCell ⟨w.heap.size, 0, none⟩ (.slice none 0 0)).setCell ⟨w.heap.size, 1, none⟩ (.slice none 0 0) = WW at P1x hB ⊢
  refine bodyPost_ret (v := .tuple #[.agg #[.slice none 0 0, .slice none 0 0], .int .i64 17]) ?_ rfl (⟨rfl, hB⟩)
  simp [results, Tryd.f35, go_sem, P1x.c0, P1x.c1]

set_option maxRecDepth 100000 in
set_option maxHeartbeats 4000000 in
theorem qread_n4 (s u : List UInt8) (y : Nat) (w : World) (HL : Hid (s.length ≤ 1000)) (HLu : Hid (u.length ≤ 1000)) (HTy : Hid ((text y).length ≤ 1000)) (HNu : Hid (¬ IsText u)) (ht1 : (text y == [49]) = false) (HU : Hid ((47 : UInt8) ∉ u)) (HS : Hid (s = u ++ 47 :: text y)) :
    Calls Tryd.prog 35 #[.string ⟨s.toArray⟩] w fun e w' => e = .returned (.tuple #[.agg #[.slice none 0 0, .slice none 0 0], .int .i64 17]) ∧ Below w.heap.size w w' := by
  go_enter Tryd.func35, Tryd.ntmps35
  have hb : Below w.heap.size w (w.alloc (.cells #[.slice none 0 0, .slice none 0 0] 30)) := ((Below.refl _ _).alloc (Nat.le_refl _) _)
  have hB := hb
  have P1 : Pair (w.alloc (.cells #[.slice none 0 0, .slice none 0 0] 30)) (w.heap.size) 30 (.slice none 0 0) (.slice none 0 0) := by
    have h := Pair.new w 30 (.slice none 0 0) (.slice none 0 0)
    simpa only [World.size_alloc] using h
  clear hb
  have c0P1 := P1.c0
  have c1P1 := P1.c1
  have H2 := Lib.hid (cut_at s _ _ HU HS HL (w.alloc (.cells #[.slice none 0 0, .slice none 0 0] 30)))
  go_wp2_with fail
  clear c0P1 c1P1
  refine H2.out.mono ?_
  rintro e w3 ⟨rfl, hb⟩
  clear H2
  replace P1 := P1.below hb
  replace hB := hB.trans (hb.mono hB.size)
  clear hb
  have c0P1 := P1.c0
  have c1P1 := P1.c1
  have H4 := Lib.hid (nRead_no u HLu.out HNu.out w3)
  go_wp2_with fail
  clear c0P1 c1P1
  refine H4.out.mono ?_
  rintro e w5 ⟨rfl, rfl⟩
  clear H4
  have c0P1 := P1.c0
  have c1P1 := P1.c1
  have H8 := Lib.hid (nread_nat y HTy.out w3)
  go_wp2_with fail
  clear c0P1 c1P1
  refine H8.out.mono ?_
  rintro e w9 ⟨v7, rfl, rx6, hb⟩
  clear H8
  replace P1 := P1.below hb
  replace hB := hB.trans (hb.mono hB.size)
  clear hb
  obtain ⟨x6, rfl, rx6⟩ := rx6.sl
  have hb : Below w9.heap.size w9 (w9.alloc (.cells #[.slice none 0 0, .slice x6.a x6.n x6.c] 30)) := ((Below.refl _ _).alloc (Nat.le_refl _) _)
  replace P1 := P1.below hb
  replace rx6 := rx6.below hb
  replace hB := hB.trans (hb.mono hB.size)
  have P10 : Pair (w9.alloc (.cells #[.slice none 0 0, .slice x6.a x6.n x6.c] 30)) (w9.heap.size) 30 (.slice none 0 0) (.slice x6.a x6.n x6.c) := by
    have h := Pair.new w9 30 (.slice none 0 0) (.slice x6.a x6.n x6.c)
    simpa only [World.size_alloc] using h
  clear hb
  have c0P1 := P1.c0
  have c1P1 := P1.c1
  have c0P10 := P10.c0
  have c1P10 := P10.c1
  have z0P1 := P1.z0
  have z1P1 := P1.z1
  go_wp2_with fail
  replace rx6 := rx6.pset P1 (.slice none 0 0) (.slice none 0 0)
  replace hB := Below.pset hB (by omega : w.heap.size ≤ w.heap.size) (.slice none 0 0) (.slice none 0 0)
  have P1x := P1.set (.slice none 0 0) (.slice none 0 0)
  generalize ((w9.alloc (.cells #[.slice none 0 0, .slice x6.a x6.n x6.c] 30)).setCell ⟨w.heap.size, 0, none⟩ (.slice none 0 0)).setCell ⟨w.heap.size, 1, none⟩ (.slice none 0 0) = WW at rx6 P1x hB ⊢
  refine bodyPost_ret (v := .tuple #[.agg #[.slice none 0 0, .slice none 0 0], .int .i64 17]) ?_ rfl (⟨rfl, hB⟩)
  simp [results, Tryd.f35, go_sem, P1x.c0, P1x.c1]

set_option maxRecDepth 100000 in
set_option maxHeartbeats 4000000 in
theorem qread_n5 (s t : List UInt8) (x : Nat) (w : World) (HL : Hid (s.length ≤ 1000)) (HLt : Hid (t.length ≤ 1000)) (HTx : Hid ((text x).length ≤ 1000)) (HNt : Hid (¬ IsText t)) (ht1 : (t == [49]) = false) (HU : Hid ((47 : UInt8) ∉ text x)) (HS : Hid (s = text x ++ 47 :: t)) :
    Calls Tryd.prog 35 #[.string ⟨s.toArray⟩] w fun e w' => e = .returned (.tuple #[.agg #[.slice none 0 0, .slice none 0 0], .int .i64 17]) ∧ Below w.heap.size w w' := by
  go_enter Tryd.func35, Tryd.ntmps35
  have hb : Below w.heap.size w (w.alloc (.cells #[.slice none 0 0, .slice none 0 0] 30)) := ((Below.refl _ _).alloc (Nat.le_refl _) _)
  have hB := hb
  have P1 : Pair (w.alloc (.cells #[.slice none 0 0, .slice none 0 0] 30)) (w.heap.size) 30 (.slice none 0 0) (.slice none 0 0) := by
    have h := Pair.new w 30 (.slice none 0 0) (.slice none 0 0)
    simpa only [World.size_alloc] using h
  clear hb
  have c0P1 := P1.c0
  have c1P1 := P1.c1
  have H2 := Lib.hid (cut_at s _ _ HU HS HL (w.alloc (.cells #[.slice none 0 0, .slice none 0 0] 30)))
  go_wp2_with fail
  clear c0P1 c1P1
  refine H2.out.mono ?_
  rintro e w3 ⟨rfl, hb⟩
  clear H2
  replace P1 := P1.below hb
  replace hB := hB.trans (hb.mono hB.size)
  clear hb
  have c0P1 := P1.c0
  have c1P1 := P1.c1
  have H6 := Lib.hid (nread_nat x HTx.out w3)
  go_wp2_with fail
  clear c0P1 c1P1
  refine H6.out.mono ?_
  rintro e w7 ⟨v5, rfl, rx4, hb⟩
  clear H6
  replace P1 := P1.below hb
  replace hB := hB.trans (hb.mono hB.size)
  clear hb
  obtain ⟨x4, rfl, rx4⟩ := rx4.sl
  have c0P1 := P1.c0
  have c1P1 := P1.c1
  have H8 := Lib.hid (nRead_no t HLt.out HNt.out w7)
  go_wp2_with fail
  clear c0P1 c1P1
  refine H8.out.mono ?_
  rintro e w9 ⟨rfl, rfl⟩
  clear H8
  have hb : Below w7.heap.size w7 (w7.alloc (.cells #[.slice x4.a x4.n x4.c, .slice none 0 0] 30)) := ((Below.refl _ _).alloc (Nat.le_refl _) _)
  replace P1 := P1.below hb
  replace rx4 := rx4.below hb
  replace hB := hB.trans (hb.mono hB.size)
  have P10 : Pair (w7.alloc (.cells #[.slice x4.a x4.n x4.c, .slice none 0 0] 30)) (w7.heap.size) 30 (.slice x4.a x4.n x4.c) (.slice none 0 0) := by
    have h := Pair.new w7 30 (.slice x4.a x4.n x4.c) (.slice none 0 0)
    simpa only [World.size_alloc] using h
  clear hb
  have c0P1 := P1.c0
  have c1P1 := P1.c1
  have c0P10 := P10.c0
  have c1P10 := P10.c1
  have z0P1 := P1.z0
  have z1P1 := P1.z1
  go_wp2_with fail
  replace rx4 := rx4.pset P1 (.slice none 0 0) (.slice none 0 0)
  replace hB := Below.pset hB (by omega : w.heap.size ≤ w.heap.size) (.slice none 0 0) (.slice none 0 0)
  have P1x := P1.set (.slice none 0 0) (.slice none 0 0)
  generalize ((w7.alloc (.cells #[.slice x4.a x4.n x4.c, .slice none 0 0] 30)).setCell ⟨w.heap.size, 0, none⟩ (.slice none 0 0)).setCell ⟨w.heap.size, 1, none⟩ (.slice none 0 0) = WW at rx4 P1x hB ⊢
  refine bodyPost_ret (v := .tuple #[.agg #[.slice none 0 0, .slice none 0 0], .int .i64 17]) ?_ rfl (⟨rfl, hB⟩)
  simp [results, Tryd.f35, go_sem, P1x.c0, P1x.c1]

set_option maxRecDepth 100000 in
set_option maxHeartbeats 4000000 in
theorem qread_n6 (s : List UInt8) (x : Nat) (w : World) (HL : Hid (s.length ≤ 1000)) (HTx : Hid ((text x).length ≤ 1000)) (HLx : Hid ((L x).length ≤ 200)) (HT0 : Hid ((text 0).length ≤ 1000)) (ht1 : (text 0 == [49]) = false) (HU : Hid ((47 : UInt8) ∉ text x)) (HS : Hid (s = text x ++ 47 :: text 0)) :
    Calls Tryd.prog 35 #[.string ⟨s.toArray⟩] w fun e w' => e = .returned (.tuple #[.agg #[.slice none 0 0, .slice none 0 0], .int .i64 17]) ∧ Below w.heap.size w w' := by
  go_enter Tryd.func35, Tryd.ntmps35
  have hb : Below w.heap.size w (w.alloc (.cells #[.slice none 0 0, .slice none 0 0] 30)) := ((Below.refl _ _).alloc (Nat.le_refl _) _)
  have hB := hb
  have P1 : Pair (w.alloc (.cells #[.slice none 0 0, .slice none 0 0] 30)) (w.heap.size) 30 (.slice none 0 0) (.slice none 0 0) := by
    have h := Pair.new w 30 (.slice none 0 0) (.slice none 0 0)
    simpa only [World.size_alloc] using h
  clear hb
  have c0P1 := P1.c0
  have c1P1 := P1.c1
  have H2 := Lib.hid (cut_at s _ _ HU HS HL (w.alloc (.cells #[.slice none 0 0, .slice none 0 0] 30)))
  go_wp2_with fail
  clear c0P1 c1P1
  refine H2.out.mono ?_
  rintro e w3 ⟨rfl, hb⟩
  clear H2
  replace P1 := P1.below hb
  replace hB := hB.trans (hb.mono hB.size)
  clear hb
  have c0P1 := P1.c0
  have c1P1 := P1.c1
  have H6 := Lib.hid (nread_nat x HTx.out w3)
  go_wp2_with fail
  clear c0P1 c1P1
  refine H6.out.mono ?_
  rintro e w7 ⟨v5, rfl, rx4, hb⟩
  clear H6
  replace P1 := P1.below hb
  replace hB := hB.trans (hb.mono hB.size)
  clear hb
  obtain ⟨x4, rfl, rx4⟩ := rx4.sl
  have c0P1 := P1.c0
  have c1P1 := P1.c1
  have H10 := Lib.hid (nread_nat 0 HT0.out w7)
  go_wp2_with fail
  clear c0P1 c1P1
  refine H10.out.mono ?_
  rintro e w11 ⟨v9, rfl, rx8, hb⟩
  clear H10
  replace P1 := P1.below hb
  replace rx4 := rx4.below hb
  replace hB := hB.trans (hb.mono hB.size)
  clear hb
  obtain ⟨x8, rfl, rx8⟩ := rx8.sl
  have hb : Below w11.heap.size w11 (w11.alloc (.cells #[.slice x4.a x4.n x4.c, .slice x8.a x8.n x8.c] 30)) := ((Below.refl _ _).alloc (Nat.le_refl _) _)
  replace P1 := P1.below hb
  replace rx4 := rx4.below hb
  replace rx8 := rx8.below hb
  replace hB := hB.trans (hb.mono hB.size)
  have P12 : Pair (w11.alloc (.cells #[.slice x4.a x4.n x4.c, .slice x8.a x8.n x8.c] 30)) (w11.heap.size) 30 (.slice x4.a x4.n x4.c) (.slice x8.a x8.n x8.c) := by
    have h := Pair.new w11 30 (.slice x4.a x4.n x4.c) (.slice x8.a x8.n x8.c)
    simpa only [World.size_alloc] using h
  clear hb
  have c0P1 := P1.c0
  have c1P1 := P1.c1
  have c0P12 := P12.c0
  have c1P12 := P12.c1
  have H13 := Lib.hid (qgood_no3 x4 x8 (L x) (w11.alloc (.cells #[.slice x4.a x4.n x4.c, .slice x8.a x8.n x8.c] 30)) rx4 rx8 (Lib.hid (Nat.le_trans HLx.out (by omega))) (Lib.hid (by show (0 : Nat) ≤ 1000000; omega)) (Lib.hid (goodB_L _)) (Lib.hid (goodB_L _)))
  go_wp2_with fail
  clear c0P1 c1P1 c0P12 c1P12
  refine H13.out.mono ?_
  rintro e w14 ⟨rfl, hb⟩
  clear H13
  replace P1 := P1.below hb
  replace P12 := P12.below hb
  replace rx4 := rx4.below hb
  replace rx8 := rx8.below hb
  replace hB := hB.trans (hb.mono hB.size)
  clear hb
  have c0P1 := P1.c0
  have c1P1 := P1.c1
  have c0P12 := P12.c0
  have c1P12 := P12.c1
  have z0P1 := P1.z0
  have z1P1 := P1.z1
  go_wp2_with fail
  replace rx4 := rx4.pset P1 (.slice none 0 0) (.slice none 0 0)
  replace rx8 := rx8.pset P1 (.slice none 0 0) (.slice none 0 0)
  replace hB := Below.pset hB (by omega : w.heap.size ≤ w.heap.size) (.slice none 0 0) (.slice none 0 0)
  have P1x := P1.set (.slice none 0 0) (.slice none 0 0)
  generalize (w14.setCell ⟨w.heap.size, 0, none⟩ (.slice none 0 0)).setCell ⟨w.heap.size, 1, none⟩ (.slice none 0 0) = WW at rx4 rx8 P1x hB ⊢
  refine bodyPost_ret (v := .tuple #[.agg #[.slice none 0 0, .slice none 0 0], .int .i64 17]) ?_ rfl (⟨rfl, hB⟩)
  simp [results, Tryd.f35, go_sem, P1x.c0, P1x.c1]

set_option maxRecDepth 100000 in
set_option maxHeartbeats 4000000 in
theorem qread_n7 (s : List UInt8) (x y : Nat) (w : World) (HL : Hid (s.length ≤ 1000)) (HTx : Hid ((text x).length ≤ 1000)) (HLx : Hid ((L x).length ≤ 200)) (HTy : Hid ((text y).length ≤ 1000)) (HLy : Hid ((L y).length ≤ 200)) (HNE : Hid (y ≠ 0)) (HG : Hid (false = decide (Nat.gcd x y = 1))) (ht1 : (text y == [49]) = false) (HU : Hid ((47 : UInt8) ∉ text x)) (HS : Hid (s = text x ++ 47 :: text y)) :
    Calls Tryd.prog 35 #[.string ⟨s.toArray⟩] w fun e w' => e = .returned (.tuple #[.agg #[.slice none 0 0, .slice none 0 0], .int .i64 17]) ∧ Below w.heap.size w w' := by
  go_enter Tryd.func35, Tryd.ntmps35
  have hb : Below w.heap.size w (w.alloc (.cells #[.slice none 0 0, .slice none 0 0] 30)) := ((Below.refl _ _).alloc (Nat.le_refl _) _)
  have hB := hb
  have P1 : Pair (w.alloc (.cells #[.slice none 0 0, .slice none 0 0] 30)) (w.heap.size) 30 (.slice none 0 0) (.slice none 0 0) := by
    have h := Pair.new w 30 (.slice none 0 0) (.slice none 0 0)
    simpa only [World.size_alloc] using h
  clear hb
  have c0P1 := P1.c0
  have c1P1 := P1.c1
  have H2 := Lib.hid (cut_at s _ _ HU HS HL (w.alloc (.cells #[.slice none 0 0, .slice none 0 0] 30)))
  go_wp2_with fail
  clear c0P1 c1P1
  refine H2.out.mono ?_
  rintro e w3 ⟨rfl, hb⟩
  clear H2
  replace P1 := P1.below hb
  replace hB := hB.trans (hb.mono hB.size)
  clear hb
  have c0P1 := P1.c0
  have c1P1 := P1.c1
  have H6 := Lib.hid (nread_nat x HTx.out w3)
  go_wp2_with fail
  clear c0P1 c1P1
  refine H6.out.mono ?_
  rintro e w7 ⟨v5, rfl, rx4, hb⟩
  clear H6
  replace P1 := P1.below hb
  replace hB := hB.trans (hb.mono hB.size)
  clear hb
  obtain ⟨x4, rfl, rx4⟩ := rx4.sl
  have c0P1 := P1.c0
  have c1P1 := P1.c1
  have H10 := Lib.hid (nread_nat y HTy.out w7)
  go_wp2_with fail
  clear c0P1 c1P1
  refine H10.out.mono ?_
  rintro e w11 ⟨v9, rfl, rx8, hb⟩
  clear H10
  replace P1 := P1.below hb
  replace rx4 := rx4.below hb
  replace hB := hB.trans (hb.mono hB.size)
  clear hb
  obtain ⟨x8, rfl, rx8⟩ := rx8.sl
  have hb : Below w11.heap.size w11 (w11.alloc (.cells #[.slice x4.a x4.n x4.c, .slice x8.a x8.n x8.c] 30)) := ((Below.refl _ _).alloc (Nat.le_refl _) _)
  replace P1 := P1.below hb
  replace rx4 := rx4.below hb
  replace rx8 := rx8.below hb
  replace hB := hB.trans (hb.mono hB.size)
  have P12 : Pair (w11.alloc (.cells #[.slice x4.a x4.n x4.c, .slice x8.a x8.n x8.c] 30)) (w11.heap.size) 30 (.slice x4.a x4.n x4.c) (.slice x8.a x8.n x8.c) := by
    have h := Pair.new w11 30 (.slice x4.a x4.n x4.c) (.slice x8.a x8.n x8.c)
    simpa only [World.size_alloc] using h
  clear hb
  have c0P1 := P1.c0
  have c1P1 := P1.c1
  have c0P12 := P12.c0
  have c1P12 := P12.c1
  have H13 := Lib.hid (qgood_nat x4 x8 (x) (y) (w11.alloc (.cells #[.slice x4.a x4.n x4.c, .slice x8.a x8.n x8.c] 30)) rx4 rx8 (Lib.hid (Nat.le_trans HLx.out (by omega))) (Lib.hid (Nat.le_trans HLy.out (by omega))) HNE false HG)
  go_wp2_with fail
  clear c0P1 c1P1 c0P12 c1P12
  refine H13.out.mono ?_
  rintro e w14 ⟨rfl, hb⟩
  clear H13
  replace P1 := P1.below hb
  replace P12 := P12.below hb
  replace rx4 := rx4.below hb
  replace rx8 := rx8.below hb
  replace hB := hB.trans (hb.mono hB.size)
  clear hb
  have c0P1 := P1.c0
  have c1P1 := P1.c1
  have c0P12 := P12.c0
  have c1P12 := P12.c1
  have z0P1 := P1.z0
  have z1P1 := P1.z1
  go_wp2_with fail
  replace rx4 := rx4.pset P1 (.slice none 0 0) (.slice none 0 0)
  replace rx8 := rx8.pset P1 (.slice none 0 0) (.slice none 0 0)
  replace hB := Below.pset hB (by omega : w.heap.size ≤ w.heap.size) (.slice none 0 0) (.slice none 0 0)
  have P1x := P1.set (.slice none 0 0) (.slice none 0 0)
  generalize (w14.setCell ⟨w.heap.size, 0, none⟩ (.slice none 0 0)).setCell ⟨w.heap.size, 1, none⟩ (.slice none 0 0) = WW at rx4 rx8 P1x hB ⊢
  refine bodyPost_ret (v := .tuple #[.agg #[.slice none 0 0, .slice none 0 0], .int .i64 17]) ?_ rfl (⟨rfl, hB⟩)
  simp [results, Tryd.f35, go_sem, P1x.c0, P1x.c1]

set_option maxRecDepth 100000 in
set_option maxHeartbeats 4000000 in
theorem qread_two (s : List UInt8) (x y : Nat) (w : World) (HL : Hid (s.length ≤ 1000)) (HTx : Hid ((text x).length ≤ 1000)) (HLx : Hid ((L x).length ≤ 200)) (HTy : Hid ((text y).length ≤ 1000)) (HLy : Hid ((L y).length ≤ 200)) (HNE : Hid (y ≠ 0)) (HG : Hid (true = decide (Nat.gcd x y = 1))) (ht1 : (text y == [49]) = false) (HU : Hid ((47 : UInt8) ∉ text x)) (HS : Hid (s = text x ++ 47 :: text y)) :
    Calls Tryd.prog 35 #[.string ⟨s.toArray⟩] w fun e w' => ∃ p q : Sl, e = .returned (.tuple #[.agg #[.slice p.a p.n p.c, .slice q.a q.n q.c], .int .i64 0]) ∧ RU w' p x ∧ RU w' q y ∧ Below w.heap.size w w' := by
  go_enter Tryd.func35, Tryd.ntmps35
  have hb : Below w.heap.size w (w.alloc (.cells #[.slice none 0 0, .slice none 0 0] 30)) := ((Below.refl _ _).alloc (Nat.le_refl _) _)
  have hB := hb
  have P1 : Pair (w.alloc (.cells #[.slice none 0 0, .slice none 0 0] 30)) (w.heap.size) 30 (.slice none 0 0) (.slice none 0 0) := by
    have h := Pair.new w 30 (.slice none 0 0) (.slice none 0 0)
    simpa only [World.size_alloc] using h
  clear hb
  have c0P1 := P1.c0
  have c1P1 := P1.c1
  have H2 := Lib.hid (cut_at s _ _ HU HS HL (w.alloc (.cells #[.slice none 0 0, .slice none 0 0] 30)))
  go_wp2_with fail
  clear c0P1 c1P1
  refine H2.out.mono ?_
  rintro e w3 ⟨rfl, hb⟩
  clear H2
  replace P1 := P1.below hb
  replace hB := hB.trans (hb.mono hB.size)
  clear hb
  have c0P1 := P1.c0
  have c1P1 := P1.c1
  have H6 := Lib.hid (nread_nat x HTx.out w3)
  go_wp2_with fail
  clear c0P1 c1P1
  refine H6.out.mono ?_
  rintro e w7 ⟨v5, rfl, rx4, hb⟩
  clear H6
  replace P1 := P1.below hb
  replace hB := hB.trans (hb.mono hB.size)
  clear hb
  obtain ⟨x4, rfl, rx4⟩ := rx4.sl
  have c0P1 := P1.c0
  have c1P1 := P1.c1
  have H10 := Lib.hid (nread_nat y HTy.out w7)
  go_wp2_with fail
  clear c0P1 c1P1
  refine H10.out.mono ?_
  rintro e w11 ⟨v9, rfl, rx8, hb⟩
  clear H10
  replace P1 := P1.below hb
  replace rx4 := rx4.below hb
  replace hB := hB.trans (hb.mono hB.size)
  clear hb
  obtain ⟨x8, rfl, rx8⟩ := rx8.sl
  have hb : Below w11.heap.size w11 (w11.alloc (.cells #[.slice x4.a x4.n x4.c, .slice x8.a x8.n x8.c] 30)) := ((Below.refl _ _).alloc (Nat.le_refl _) _)
  replace P1 := P1.below hb
  replace rx4 := rx4.below hb
  replace rx8 := rx8.below hb
  replace hB := hB.trans (hb.mono hB.size)
  have P12 : Pair (w11.alloc (.cells #[.slice x4.a x4.n x4.c, .slice x8.a x8.n x8.c] 30)) (w11.heap.size) 30 (.slice x4.a x4.n x4.c) (.slice x8.a x8.n x8.c) := by
    have h := Pair.new w11 30 (.slice x4.a x4.n x4.c) (.slice x8.a x8.n x8.c)
    simpa only [World.size_alloc] using h
  clear hb
  have c0P1 := P1.c0
  have c1P1 := P1.c1
  have c0P12 := P12.c0
  have c1P12 := P12.c1
  have H13 := Lib.hid (qgood_nat x4 x8 (x) (y) (w11.alloc (.cells #[.slice x4.a x4.n x4.c, .slice x8.a x8.n x8.c] 30)) rx4 rx8 (Lib.hid (Nat.le_trans HLx.out (by omega))) (Lib.hid (Nat.le_trans HLy.out (by omega))) HNE true HG)
  go_wp2_with fail
  clear c0P1 c1P1 c0P12 c1P12
  refine H13.out.mono ?_
  rintro e w14 ⟨rfl, hb⟩
  clear H13
  replace P1 := P1.below hb
  replace P12 := P12.below hb
  replace rx4 := rx4.below hb
  replace rx8 := rx8.below hb
  replace hB := hB.trans (hb.mono hB.size)
  clear hb
  have c0P1 := P1.c0
  have c1P1 := P1.c1
  have c0P12 := P12.c0
  have c1P12 := P12.c1
  have z0P1 := P1.z0
  have z1P1 := P1.z1
  go_wp2_with fail
  replace rx4 := rx4.pset P1 (.slice x4.a x4.n x4.c) (.slice x8.a x8.n x8.c)
  replace rx8 := rx8.pset P1 (.slice x4.a x4.n x4.c) (.slice x8.a x8.n x8.c)
  replace hB := Below.pset hB (by omega : w.heap.size ≤ w.heap.size) (.slice x4.a x4.n x4.c) (.slice x8.a x8.n x8.c)
  have P1x := P1.set (.slice x4.a x4.n x4.c) (.slice x8.a x8.n x8.c)
  generalize (w14.setCell ⟨w.heap.size, 0, none⟩ (.slice x4.a x4.n x4.c)).setCell ⟨w.heap.size, 1, none⟩ (.slice x8.a x8.n x8.c) = WW at rx4 rx8 P1x hB ⊢
  refine bodyPost_ret (v := .tuple #[.agg #[.slice x4.a x4.n x4.c, .slice x8.a x8.n x8.c], .int .i64 0]) ?_ rfl (⟨x4, x8, rfl, rx4, rx8, hB⟩)
  simp [results, Tryd.f35, go_sem, P1x.c0, P1x.c1]

end Go.Proofs.YtnfoblmfjldheaaDoor
