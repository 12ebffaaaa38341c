/-
  The walk of RatioReads: whatever the text, it answers true, and leaves all memory as it was. No condition.
-/
import Derived.Test.YtnfoblmfjldheaaDoorQz
namespace Go.Proofs.YtnfoblmfjldheaaDoor
open Go.RowKit Go.Dig Go.Shelf Go.Proofs

set_option maxRecDepth 100000 in
set_option maxHeartbeats 4000000 in
theorem reads_d (s : List UInt8) (w : World) (h60 : 60 < s.length) :
    Calls Tryd.prog 8 #[.string ⟨s.toArray⟩] w fun e w' => e = .returned (.bool true) ∧ Below w.heap.size w w' := by
  go_enter Tryd.func8, Tryd.ntmps8
  have H1 := Lib.hid (awake_any w)
  go_wp2_with fail
  refine H1.out.mono ?_
  rintro e w2 ⟨rfl, hb⟩
  clear H1
  have hB := hb
  clear hb
  have H3 := Lib.hid (awake_any w2)
  go_wp2_with fail
  refine H3.out.mono ?_
  rintro e w4 ⟨rfl, hb⟩
  clear H3
  replace hB := hB.trans (hb.mono hB.size)
  clear hb
  go_wp2_with fail
  go_ret
  exact ⟨rfl, hB⟩

set_option maxRecDepth 100000 in
set_option maxHeartbeats 4000000 in
theorem reads_n (s : List UInt8) (w : World) (h60 : s.length ≤ 60) (HN : Hid (∀ x y, ¬ IsQ s x y)) :
    Calls Tryd.prog 8 #[.string ⟨s.toArray⟩] w fun e w' => e = .returned (.bool true) ∧ Below w.heap.size w w' := by
  go_enter Tryd.func8, Tryd.ntmps8
  have H1 := Lib.hid (awake_any w)
  go_wp2_with fail
  refine H1.out.mono ?_
  rintro e w2 ⟨rfl, hb⟩
  clear H1
  have hB := hb
  clear hb
  have H3 := Lib.hid (qread_no s HN.out (by omega) w2)
  go_wp2_with fail
  refine H3.out.mono ?_
  rintro e w4 ⟨rfl, hb⟩
  clear H3
  replace hB := hB.trans (hb.mono hB.size)
  clear hb
  have hb : Below w4.heap.size w4 (w4.alloc (.cells #[.slice none 0 0, .slice none 0 0] 30)) := ((Below.refl _ _).alloc (Nat.le_refl _) _)
  replace hB := hB.trans (hb.mono hB.size)
  have P5 : Pair (w4.alloc (.cells #[.slice none 0 0, .slice none 0 0] 30)) (w4.heap.size) 30 (.slice none 0 0) (.slice none 0 0) := by
    have h := Pair.new w4 30 (.slice none 0 0) (.slice none 0 0)
    simpa only [World.size_alloc] using h
  clear hb
  have c0P5 := P5.c0
  have c1P5 := P5.c1
  have H6 := Lib.hid (rread_no s HN.out (by omega) (w4.alloc (.cells #[.slice none 0 0, .slice none 0 0] 30)))
  go_wp2_with fail
  clear c0P5 c1P5
  refine H6.out.mono ?_
  rintro e w7 ⟨rfl, hb⟩
  clear H6
  replace P5 := P5.below hb
  replace hB := hB.trans (hb.mono hB.size)
  clear hb
  have hb : Below w7.heap.size w7 (w7.alloc (.cells #[.slice none 0 0, .slice none 0 0] 35)) := ((Below.refl _ _).alloc (Nat.le_refl _) _)
  replace P5 := P5.below hb
  replace hB := hB.trans (hb.mono hB.size)
  have P8 : Pair (w7.alloc (.cells #[.slice none 0 0, .slice none 0 0] 35)) (w7.heap.size) 35 (.slice none 0 0) (.slice none 0 0) := by
    have h := Pair.new w7 35 (.slice none 0 0) (.slice none 0 0)
    simpa only [World.size_alloc] using h
  clear hb
  have c0P5 := P5.c0
  have c1P5 := P5.c1
  have c0P8 := P8.c0
  have c1P8 := P8.c1
  go_wp2_with fail
  go_ret
  exact ⟨rfl, hB⟩

set_option maxRecDepth 100000 in
set_option maxHeartbeats 4000000 in
theorem reads_y (s : List UInt8) (x y : Nat) (w : World) (h60 : s.length ≤ 60) (HQ : Hid (IsQ s x y)) (HLx : Hid ((L x).length ≤ 200)) (HLy : Hid ((L y).length ≤ 200)) :
    Calls Tryd.prog 8 #[.string ⟨s.toArray⟩] w fun e w' => e = .returned (.bool true) ∧ Below w.heap.size w w' := by
  go_enter Tryd.func8, Tryd.ntmps8
  have H1 := Lib.hid (awake_any w)
  go_wp2_with fail
  refine H1.out.mono ?_
  rintro e w2 ⟨rfl, hb⟩
  clear H1
  have hB := hb
  clear hb
  have H5 := Lib.hid (qread_yes s x y HQ.out (by omega) w2)
  go_wp2_with fail
  refine H5.out.mono ?_
  rintro e w6 ⟨x3, x4, rfl, rx3, rx4, hb⟩
  clear H5
  replace hB := hB.trans (hb.mono hB.size)
  clear hb
  have hb : Below w6.heap.size w6 (w6.alloc (.cells #[.slice x3.a x3.n x3.c, .slice x4.a x4.n x4.c] 30)) := ((Below.refl _ _).alloc (Nat.le_refl _) _)
  replace rx3 := rx3.below hb
  replace rx4 := rx4.below hb
  replace hB := hB.trans (hb.mono hB.size)
  have P7 : Pair (w6.alloc (.cells #[.slice x3.a x3.n x3.c, .slice x4.a x4.n x4.c] 30)) (w6.heap.size) 30 (.slice x3.a x3.n x3.c) (.slice x4.a x4.n x4.c) := by
    have h := Pair.new w6 30 (.slice x3.a x3.n x3.c) (.slice x4.a x4.n x4.c)
    simpa only [World.size_alloc] using h
  clear hb
  have c0P7 := P7.c0
  have c1P7 := P7.c1
  have H10 := Lib.hid (rread_yes s x y HQ.out (by omega) (w6.alloc (.cells #[.slice x3.a x3.n x3.c, .slice x4.a x4.n x4.c] 30)))
  go_wp2_with fail
  clear c0P7 c1P7
  refine H10.out.mono ?_
  rintro e w11 ⟨x8, x9, rfl, rx8, rx9, hb⟩
  clear H10
  replace P7 := P7.below hb
  replace rx3 := rx3.below hb
  replace rx4 := rx4.below hb
  replace hB := hB.trans (hb.mono hB.size)
  clear hb
  have hb : Below w11.heap.size w11 (w11.alloc (.cells #[.slice x8.a x8.n x8.c, .slice x9.a x9.n x9.c] 35)) := ((Below.refl _ _).alloc (Nat.le_refl _) _)
  replace P7 := P7.below hb
  replace rx3 := rx3.below hb
  replace rx4 := rx4.below hb
  replace rx8 := rx8.below hb
  replace rx9 := rx9.below hb
  replace hB := hB.trans (hb.mono hB.size)
  have P12 : Pair (w11.alloc (.cells #[.slice x8.a x8.n x8.c, .slice x9.a x9.n x9.c] 35)) (w11.heap.size) 35 (.slice x8.a x8.n x8.c) (.slice x9.a x9.n x9.c) := by
    have h := Pair.new w11 35 (.slice x8.a x8.n x8.c) (.slice x9.a x9.n x9.c)
    simpa only [World.size_alloc] using h
  clear hb
  have c0P7 := P7.c0
  have c1P7 := P7.c1
  have c0P12 := P12.c0
  have c1P12 := P12.c1
  have H13 := Lib.hid (qis_nat x3 x4 x8 x9 (x) (y) (w11.alloc (.cells #[.slice x8.a x8.n x8.c, .slice x9.a x9.n x9.c] 35)) rx3 rx4 rx8 rx9 (Lib.hid (Nat.le_trans HLx.out (by omega))) (Lib.hid (Nat.le_trans HLy.out (by omega))))
  go_wp2_with fail
  clear c0P7 c1P7 c0P12 c1P12
  refine H13.out.mono ?_
  rintro e w14 ⟨rfl, hb⟩
  clear H13
  replace P7 := P7.below hb
  replace P12 := P12.below hb
  replace rx3 := rx3.below hb
  replace rx4 := rx4.below hb
  replace rx8 := rx8.below hb
  replace rx9 := rx9.below hb
  replace hB := hB.trans (hb.mono hB.size)
  clear hb
  have c0P7 := P7.c0
  have c1P7 := P7.c1
  have c0P12 := P12.c0
  have c1P12 := P12.c1
  go_wp2_with fail
  go_ret
  exact ⟨rfl, hB⟩

theorem isQ_len {s : List UInt8} {x y n : Nat} (h : IsQ s x y) (hl : s.length ≤ n) (hn : 1 ≤ n) : (L x).length ≤ n ∧ (L y).length ≤ n := by
  obtain ⟨rfl, -, -⟩ := h
  by_cases h1 : y = 1
  · subst h1
    rw [show qtext x 1 = text x by unfold qtext; rw [if_pos rfl]] at hl
    exact ⟨len_text hl, Nat.le_trans (one_row 1 (by omega)) hn⟩
  · rw [qtext_ne h1, List.length_append, List.length_cons] at hl
    exact ⟨len_text (by omega), len_text (by omega)⟩
theorem reads_any (s : List UInt8) (w : World) : Calls Tryd.prog 8 #[.string ⟨s.toArray⟩] w fun e w' => e = .returned (.bool true) ∧ Below w.heap.size w w' := by
  by_cases h60 : s.length ≤ 60
  · by_cases hq : ∃ x y, IsQ s x y
    · obtain ⟨x, y, hq⟩ := hq
      have h1 := isQ_len hq h60 (by omega)
      exact reads_y s x y w h60 (Lib.hid hq) (Lib.hid (by omega)) (Lib.hid (by omega))
    · exact reads_n s w h60 (Lib.hid fun x y h => hq ⟨x, y, h⟩)
  · exact reads_d s w (by omega)
end Go.Proofs.YtnfoblmfjldheaaDoor
