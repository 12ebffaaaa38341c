/-
  The walk of RatioOf: whatever the limbs and the number, it answers true, and leaves all memory as it was. No condition.
-/
import Derived.Test.YtnfoblmfjldheaaDoorQi
namespace Go.Proofs.YtnfoblmfjldheaaDoor
open Go.RowKit Go.Dig Go.Shelf Go.Proofs

set_option maxRecDepth 100000 in
set_option maxHeartbeats 4000000 in
theorem of_d1 (f1 f2 : Sl) (l11 l12 : List Nat) (z : Int) (w : World) (rf1 : RA w f1 l11) (rf2 : RA w f2 l12) (h1 : 4 < f1.n) :
    Calls Tryd.prog 3 #[.agg #[.slice f1.a f1.n f1.c, .slice f2.a f2.n f2.c], .int .i64 z] w fun e w' => e = .returned (.bool true) ∧ Below w.heap.size w w' := by
  go_enter Tryd.func3, Tryd.ntmps3
  have hb : Below w.heap.size w (w.alloc (.cells #[.slice f1.a f1.n f1.c, .slice f2.a f2.n f2.c] 24)) := ((Below.refl _ _).alloc (Nat.le_refl _) _)
  replace rf1 := rf1.below hb
  replace rf2 := rf2.below hb
  have hB := hb
  have P1 : Pair (w.alloc (.cells #[.slice f1.a f1.n f1.c, .slice f2.a f2.n f2.c] 24)) (w.heap.size) 24 (.slice f1.a f1.n f1.c) (.slice f2.a f2.n f2.c) := by
    have h := Pair.new w 24 (.slice f1.a f1.n f1.c) (.slice f2.a f2.n f2.c)
    simpa only [World.size_alloc] using h
  clear hb
  have c0P1 := P1.c0
  have c1P1 := P1.c1
  have H2 := Lib.hid (awake_any (w.alloc (.cells #[.slice f1.a f1.n f1.c, .slice f2.a f2.n f2.c] 24)))
  go_wp2_with fail
  clear c0P1 c1P1
  refine H2.out.mono ?_
  rintro e w3 ⟨rfl, hb⟩
  clear H2
  replace P1 := P1.below hb
  replace rf1 := rf1.below hb
  replace rf2 := rf2.below hb
  replace hB := hB.trans (hb.mono hB.size)
  clear hb
  have c0P1 := P1.c0
  have c1P1 := P1.c1
  have H4 := Lib.hid (awake_any w3)
  go_wp2_with fail
  clear c0P1 c1P1
  refine H4.out.mono ?_
  rintro e w5 ⟨rfl, hb⟩
  clear H4
  replace P1 := P1.below hb
  replace rf1 := rf1.below hb
  replace rf2 := rf2.below hb
  replace hB := hB.trans (hb.mono hB.size)
  clear hb
  have c0P1 := P1.c0
  have c1P1 := P1.c1
  go_wp2_with fail
  go_ret
  exact ⟨rfl, hB⟩

set_option maxRecDepth 100000 in
set_option maxHeartbeats 4000000 in
theorem of_d2 (f1 f2 : Sl) (l11 l12 : List Nat) (z : Int) (w : World) (rf1 : RA w f1 l11) (rf2 : RA w f2 l12) (h1 : f1.n ≤ 4) (h2 : 4 < f2.n) :
    Calls Tryd.prog 3 #[.agg #[.slice f1.a f1.n f1.c, .slice f2.a f2.n f2.c], .int .i64 z] w fun e w' => e = .returned (.bool true) ∧ Below w.heap.size w w' := by
  go_enter Tryd.func3, Tryd.ntmps3
  have hb : Below w.heap.size w (w.alloc (.cells #[.slice f1.a f1.n f1.c, .slice f2.a f2.n f2.c] 24)) := ((Below.refl _ _).alloc (Nat.le_refl _) _)
  replace rf1 := rf1.below hb
  replace rf2 := rf2.below hb
  have hB := hb
  have P1 : Pair (w.alloc (.cells #[.slice f1.a f1.n f1.c, .slice f2.a f2.n f2.c] 24)) (w.heap.size) 24 (.slice f1.a f1.n f1.c) (.slice f2.a f2.n f2.c) := by
    have h := Pair.new w 24 (.slice f1.a f1.n f1.c) (.slice f2.a f2.n f2.c)
    simpa only [World.size_alloc] using h
  clear hb
  have c0P1 := P1.c0
  have c1P1 := P1.c1
  have H2 := Lib.hid (awake_any (w.alloc (.cells #[.slice f1.a f1.n f1.c, .slice f2.a f2.n f2.c] 24)))
  go_wp2_with fail
  clear c0P1 c1P1
  refine H2.out.mono ?_
  rintro e w3 ⟨rfl, hb⟩
  clear H2
  replace P1 := P1.below hb
  replace rf1 := rf1.below hb
  replace rf2 := rf2.below hb
  replace hB := hB.trans (hb.mono hB.size)
  clear hb
  have c0P1 := P1.c0
  have c1P1 := P1.c1
  have H4 := Lib.hid (awake_any w3)
  go_wp2_with fail
  clear c0P1 c1P1
  refine H4.out.mono ?_
  rintro e w5 ⟨rfl, hb⟩
  clear H4
  replace P1 := P1.below hb
  replace rf1 := rf1.below hb
  replace rf2 := rf2.below hb
  replace hB := hB.trans (hb.mono hB.size)
  clear hb
  have c0P1 := P1.c0
  have c1P1 := P1.c1
  go_wp2_with fail
  go_ret
  exact ⟨rfl, hB⟩

set_option maxRecDepth 100000 in
set_option maxHeartbeats 4000000 in
theorem of_d3 (f1 f2 : Sl) (l11 l12 : List Nat) (z : Int) (w : World) (rf1 : RA w f1 l11) (rf2 : RA w f2 l12) (h1 : f1.n ≤ 4) (h2 : f2.n ≤ 4) (K1 : Hid (l11.length ≤ 1000000)) (HG1 : Hid (goodB l11 = false)) :
    Calls Tryd.prog 3 #[.agg #[.slice f1.a f1.n f1.c, .slice f2.a f2.n f2.c], .int .i64 z] w fun e w' => e = .returned (.bool true) ∧ Below w.heap.size w w' := by
  go_enter Tryd.func3, Tryd.ntmps3
  have hb : Below w.heap.size w (w.alloc (.cells #[.slice f1.a f1.n f1.c, .slice f2.a f2.n f2.c] 24)) := ((Below.refl _ _).alloc (Nat.le_refl _) _)
  replace rf1 := rf1.below hb
  replace rf2 := rf2.below hb
  have hB := hb
  have P1 : Pair (w.alloc (.cells #[.slice f1.a f1.n f1.c, .slice f2.a f2.n f2.c] 24)) (w.heap.size) 24 (.slice f1.a f1.n f1.c) (.slice f2.a f2.n f2.c) := by
    have h := Pair.new w 24 (.slice f1.a f1.n f1.c) (.slice f2.a f2.n f2.c)
    simpa only [World.size_alloc] using h
  clear hb
  have c0P1 := P1.c0
  have c1P1 := P1.c1
  have H2 := Lib.hid (awake_any (w.alloc (.cells #[.slice f1.a f1.n f1.c, .slice f2.a f2.n f2.c] 24)))
  go_wp2_with fail
  clear c0P1 c1P1
  refine H2.out.mono ?_
  rintro e w3 ⟨rfl, hb⟩
  clear H2
  replace P1 := P1.below hb
  replace rf1 := rf1.below hb
  replace rf2 := rf2.below hb
  replace hB := hB.trans (hb.mono hB.size)
  clear hb
  have c0P1 := P1.c0
  have c1P1 := P1.c1
  have H4 := Lib.hid (rGood_any (.slice f1.a f1.n f1.c) l11 w3 rf1.row K1.out)
  rw [HG1.out] at H4
  go_wp2_with fail
  clear c0P1 c1P1
  refine H4.out.mono ?_
  rintro e w5 ⟨rfl, rfl⟩
  clear H4
  have c0P1 := P1.c0
  have c1P1 := P1.c1
  have H6 := Lib.hid (awake_any w3)
  go_wp2_with fail
  clear c0P1 c1P1
  refine H6.out.mono ?_
  rintro e w7 ⟨rfl, hb⟩
  clear H6
  replace P1 := P1.below hb
  replace rf1 := rf1.below hb
  replace rf2 := rf2.below hb
  replace hB := hB.trans (hb.mono hB.size)
  clear hb
  have c0P1 := P1.c0
  have c1P1 := P1.c1
  go_wp2_with fail
  go_ret
  exact ⟨rfl, hB⟩

set_option maxRecDepth 100000 in
set_option maxHeartbeats 4000000 in
theorem of_d4 (f1 f2 : Sl) (l11 l12 : List Nat) (z : Int) (w : World) (rf1 : RA w f1 l11) (rf2 : RA w f2 l12) (h1 : f1.n ≤ 4) (h2 : f2.n ≤ 4) (K1 : Hid (l11.length ≤ 1000000)) (K2 : Hid (l12.length ≤ 1000000)) (HG1 : Hid (goodB l11 = true)) (HG2 : Hid (goodB l12 = false)) :
    Calls Tryd.prog 3 #[.agg #[.slice f1.a f1.n f1.c, .slice f2.a f2.n f2.c], .int .i64 z] w fun e w' => e = .returned (.bool true) ∧ Below w.heap.size w w' := by
  go_enter Tryd.func3, Tryd.ntmps3
  have hb : Below w.heap.size w (w.alloc (.cells #[.slice f1.a f1.n f1.c, .slice f2.a f2.n f2.c] 24)) := ((Below.refl _ _).alloc (Nat.le_refl _) _)
  replace rf1 := rf1.below hb
  replace rf2 := rf2.below hb
  have hB := hb
  have P1 : Pair (w.alloc (.cells #[.slice f1.a f1.n f1.c, .slice f2.a f2.n f2.c] 24)) (w.heap.size) 24 (.slice f1.a f1.n f1.c) (.slice f2.a f2.n f2.c) := by
    have h := Pair.new w 24 (.slice f1.a f1.n f1.c) (.slice f2.a f2.n f2.c)
    simpa only [World.size_alloc] using h
  clear hb
  have c0P1 := P1.c0
  have c1P1 := P1.c1
  have H2 := Lib.hid (awake_any (w.alloc (.cells #[.slice f1.a f1.n f1.c, .slice f2.a f2.n f2.c] 24)))
  go_wp2_with fail
  clear c0P1 c1P1
  refine H2.out.mono ?_
  rintro e w3 ⟨rfl, hb⟩
  clear H2
  replace P1 := P1.below hb
  replace rf1 := rf1.below hb
  replace rf2 := rf2.below hb
  replace hB := hB.trans (hb.mono hB.size)
  clear hb
  have c0P1 := P1.c0
  have c1P1 := P1.c1
  have H4 := Lib.hid (rGood_any (.slice f1.a f1.n f1.c) l11 w3 rf1.row K1.out)
  rw [HG1.out] at H4
  go_wp2_with fail
  clear c0P1 c1P1
  refine H4.out.mono ?_
  rintro e w5 ⟨rfl, rfl⟩
  clear H4
  have c0P1 := P1.c0
  have c1P1 := P1.c1
  have H6 := Lib.hid (rGood_any (.slice f2.a f2.n f2.c) l12 w3 rf2.row K2.out)
  rw [HG2.out] at H6
  go_wp2_with fail
  clear c0P1 c1P1
  refine H6.out.mono ?_
  rintro e w7 ⟨rfl, rfl⟩
  clear H6
  have c0P1 := P1.c0
  have c1P1 := P1.c1
  have H8 := Lib.hid (awake_any w3)
  go_wp2_with fail
  clear c0P1 c1P1
  refine H8.out.mono ?_
  rintro e w9 ⟨rfl, hb⟩
  clear H8
  replace P1 := P1.below hb
  replace rf1 := rf1.below hb
  replace rf2 := rf2.below hb
  replace hB := hB.trans (hb.mono hB.size)
  clear hb
  have c0P1 := P1.c0
  have c1P1 := P1.c1
  go_wp2_with fail
  go_ret
  exact ⟨rfl, hB⟩

set_option maxRecDepth 100000 in
set_option maxHeartbeats 4000000 in
theorem of_pz (f1 f2 : Sl) (l11 l12 : List Nat) (n : Nat) (w : World) (rf1 : RA w f1 l11) (rf2 : RA w f2 l12) (h1 : f1.n ≤ 4) (h2 : f2.n ≤ 4) (K1 : Hid (l11.length ≤ 1000000)) (K2 : Hid (l12.length ≤ 1000000)) (HG1 : Hid (goodB l11 = true)) (HG2 : Hid (goodB l12 = true)) (hn : Hid (n < 9223372036854775808)) (hf2 : ((f2.n : Int) == 0) = true) :
    Calls Tryd.prog 3 #[.agg #[.slice f1.a f1.n f1.c, .slice f2.a f2.n f2.c], .int .i64 (n : Int)] w fun e w' => e = .returned (.bool true) ∧ Below w.heap.size w w' := by
  have HLN : Hid ((L n).length ≤ 1) := Lib.hid (one_row n (by have := hn.out; omega))
  go_enter Tryd.func3, Tryd.ntmps3
  have hb : Below w.heap.size w (w.alloc (.cells #[.slice f1.a f1.n f1.c, .slice f2.a f2.n f2.c] 24)) := ((Below.refl _ _).alloc (Nat.le_refl _) _)
  replace rf1 := rf1.below hb
  replace rf2 := rf2.below hb
  have hB := hb
  have P1 : Pair (w.alloc (.cells #[.slice f1.a f1.n f1.c, .slice f2.a f2.n f2.c] 24)) (w.heap.size) 24 (.slice f1.a f1.n f1.c) (.slice f2.a f2.n f2.c) := by
    have h := Pair.new w 24 (.slice f1.a f1.n f1.c) (.slice f2.a f2.n f2.c)
    simpa only [World.size_alloc] using h
  clear hb
  have c0P1 := P1.c0
  have c1P1 := P1.c1
  have H2 := Lib.hid (awake_any (w.alloc (.cells #[.slice f1.a f1.n f1.c, .slice f2.a f2.n f2.c] 24)))
  go_wp2_with fail
  clear c0P1 c1P1
  refine H2.out.mono ?_
  rintro e w3 ⟨rfl, hb⟩
  clear H2
  replace P1 := P1.below hb
  replace rf1 := rf1.below hb
  replace rf2 := rf2.below hb
  replace hB := hB.trans (hb.mono hB.size)
  clear hb
  have c0P1 := P1.c0
  have c1P1 := P1.c1
  have H4 := Lib.hid (rGood_any (.slice f1.a f1.n f1.c) l11 w3 rf1.row K1.out)
  rw [HG1.out] at H4
  go_wp2_with fail
  clear c0P1 c1P1
  refine H4.out.mono ?_
  rintro e w5 ⟨rfl, rfl⟩
  clear H4
  have c0P1 := P1.c0
  have c1P1 := P1.c1
  have H6 := Lib.hid (rGood_any (.slice f2.a f2.n f2.c) l12 w3 rf2.row K2.out)
  rw [HG2.out] at H6
  go_wp2_with fail
  clear c0P1 c1P1
  refine H6.out.mono ?_
  rintro e w7 ⟨rfl, rfl⟩
  clear H6
  have c0P1 := P1.c0
  have c1P1 := P1.c1
  have H10 := Lib.hid (qint_pos n hn w3)
  go_wp2_with fail
  clear c0P1 c1P1
  refine H10.out.mono ?_
  rintro e w11 ⟨x8, x9, rfl, rx8, rx9, hb⟩
  clear H10
  replace P1 := P1.below hb
  replace rf1 := rf1.below hb
  replace rf2 := rf2.below hb
  replace hB := hB.trans (hb.mono hB.size)
  clear hb
  have c0P1 := P1.c0
  have c1P1 := P1.c1
  have H14 := Lib.hid (rint_pos n hn w11)
  go_wp2_with fail
  clear c0P1 c1P1
  refine H14.out.mono ?_
  rintro e w15 ⟨x12, x13, rfl, rx12, rx13, hb⟩
  clear H14
  replace P1 := P1.below hb
  replace rf1 := rf1.below hb
  replace rf2 := rf2.below hb
  replace rx8 := rx8.below hb
  replace rx9 := rx9.below hb
  replace hB := hB.trans (hb.mono hB.size)
  clear hb
  have c0P1 := P1.c0
  have c1P1 := P1.c1
  have H16 := Lib.hid (qis_nat x8 x9 x12 x13 (n) (1) w15 rx8 rx9 rx12 rx13 (Lib.hid (Nat.le_trans HLN.out (by omega))) (Lib.hid (Nat.le_trans (one_row 1 (by omega)) (by omega))))
  go_wp2_with fail
  clear c0P1 c1P1
  refine H16.out.mono ?_
  rintro e w17 ⟨rfl, hb⟩
  clear H16
  replace P1 := P1.below hb
  replace rf1 := rf1.below hb
  replace rf2 := rf2.below hb
  replace rx8 := rx8.below hb
  replace rx9 := rx9.below hb
  replace rx12 := rx12.below hb
  replace rx13 := rx13.below hb
  replace hB := hB.trans (hb.mono hB.size)
  clear hb
  have c0P1 := P1.c0
  have c1P1 := P1.c1
  have H20 := Lib.hid (qint_pos n hn w17)
  go_wp2_with fail
  clear c0P1 c1P1
  refine H20.out.mono ?_
  rintro e w21 ⟨x18, x19, rfl, rx18, rx19, hb⟩
  clear H20
  replace P1 := P1.below hb
  replace rf1 := rf1.below hb
  replace rf2 := rf2.below hb
  replace rx8 := rx8.below hb
  replace rx9 := rx9.below hb
  replace rx12 := rx12.below hb
  replace rx13 := rx13.below hb
  replace hB := hB.trans (hb.mono hB.size)
  clear hb
  have c0P1 := P1.c0
  have c1P1 := P1.c1
  have H22 := Lib.hid (qgood_nat x18 x19 (n) (1) w21 rx18 rx19 (Lib.hid (Nat.le_trans HLN.out (by omega))) (Lib.hid (Nat.le_trans (one_row 1 (by omega)) (by omega))) (Lib.hid (by omega)) true (Lib.hid (by simp)))
  go_wp2_with fail
  clear c0P1 c1P1
  refine H22.out.mono ?_
  rintro e w23 ⟨rfl, hb⟩
  clear H22
  replace P1 := P1.below hb
  replace rf1 := rf1.below hb
  replace rf2 := rf2.below hb
  replace rx8 := rx8.below hb
  replace rx9 := rx9.below hb
  replace rx12 := rx12.below hb
  replace rx13 := rx13.below hb
  replace rx18 := rx18.below hb
  replace rx19 := rx19.below hb
  replace hB := hB.trans (hb.mono hB.size)
  clear hb
  obtain ⟨vv, wq, hr, rxx, hb⟩ := copied_run (.slice f1.a f1.n f1.c) l11 w23 rf1 (Nat.le_trans K1.out (by omega)) 28
  have HR := Lib.hid hr
  clear hr
  have c0P1 := P1.c0
  have c1P1 := P1.c1
  have d0P1 := (P1.alloc (.cells #[] 64)).c0
  have d1P1 := (P1.alloc (.cells #[] 64)).c1
  replace P1 := P1.below hb
  replace rf1 := rf1.below hb
  replace rf2 := rf2.below hb
  replace rx8 := rx8.below hb
  replace rx9 := rx9.below hb
  replace rx12 := rx12.below hb
  replace rx13 := rx13.below hb
  replace rx18 := rx18.below hb
  replace rx19 := rx19.below hb
  replace hB := hB.trans (hb.mono hB.size)
  clear hb
  have HO := Lib.hid (of_zero vv (.slice none 0 0) 0 wq (RU.zero rfl) (by show (0 : Nat) ≤ 1000; omega) rfl)
  go_wp2_with (at_builtin; refine wpList_append_run rfl _ _ 28 22 rfl _ _ _ _ rfl rfl HR.out ?_)
  clear c0P1 c1P1
  refine HO.out.mono ?_
  rintro e wr ⟨rfl, hb⟩
  clear HO HR rxx
  replace P1 := P1.below hb
  replace rf1 := rf1.below hb
  replace rf2 := rf2.below hb
  replace hB := hB.trans (hb.mono hB.size)
  clear hb
  have hb : Below wr.heap.size wr (wr.alloc (.cells #[.slice none 0 0, .slice none 0 0] 30)) := ((Below.refl _ _).alloc (Nat.le_refl _) _)
  replace P1 := P1.below hb
  replace rf1 := rf1.below hb
  replace rf2 := rf2.below hb
  replace hB := hB.trans (hb.mono hB.size)
  have P24 : Pair (wr.alloc (.cells #[.slice none 0 0, .slice none 0 0] 30)) (wr.heap.size) 30 (.slice none 0 0) (.slice none 0 0) := by
    have h := Pair.new wr 30 (.slice none 0 0) (.slice none 0 0)
    simpa only [World.size_alloc] using h
  clear hb
  have c0P1 := P1.c0
  have c1P1 := P1.c1
  have c0P24 := P24.c0
  have c1P24 := P24.c1
  go_wp2_with fail
  go_ret
  exact ⟨rfl, hB⟩

set_option maxRecDepth 100000 in
set_option maxHeartbeats 4000000 in
theorem of_nz (f1 f2 : Sl) (l11 l12 : List Nat) (z : Int) (w : World) (rf1 : RA w f1 l11) (rf2 : RA w f2 l12) (h1 : f1.n ≤ 4) (h2 : f2.n ≤ 4) (K1 : Hid (l11.length ≤ 1000000)) (K2 : Hid (l12.length ≤ 1000000)) (HG1 : Hid (goodB l11 = true)) (HG2 : Hid (goodB l12 = true)) (hz : Hid (z < 0)) (hf2 : ((f2.n : Int) == 0) = true) :
    Calls Tryd.prog 3 #[.agg #[.slice f1.a f1.n f1.c, .slice f2.a f2.n f2.c], .int .i64 z] w fun e w' => e = .returned (.bool true) ∧ Below w.heap.size w w' := by
  have HLN : Hid ((L 0).length ≤ 1) := Lib.hid (one_row 0 (by omega))
  go_enter Tryd.func3, Tryd.ntmps3
  have hb : Below w.heap.size w (w.alloc (.cells #[.slice f1.a f1.n f1.c, .slice f2.a f2.n f2.c] 24)) := ((Below.refl _ _).alloc (Nat.le_refl _) _)
  replace rf1 := rf1.below hb
  replace rf2 := rf2.below hb
  have hB := hb
  have P1 : Pair (w.alloc (.cells #[.slice f1.a f1.n f1.c, .slice f2.a f2.n f2.c] 24)) (w.heap.size) 24 (.slice f1.a f1.n f1.c) (.slice f2.a f2.n f2.c) := by
    have h := Pair.new w 24 (.slice f1.a f1.n f1.c) (.slice f2.a f2.n f2.c)
    simpa only [World.size_alloc] using h
  clear hb
  have c0P1 := P1.c0
  have c1P1 := P1.c1
  have H2 := Lib.hid (awake_any (w.alloc (.cells #[.slice f1.a f1.n f1.c, .slice f2.a f2.n f2.c] 24)))
  go_wp2_with fail
  clear c0P1 c1P1
  refine H2.out.mono ?_
  rintro e w3 ⟨rfl, hb⟩
  clear H2
  replace P1 := P1.below hb
  replace rf1 := rf1.below hb
  replace rf2 := rf2.below hb
  replace hB := hB.trans (hb.mono hB.size)
  clear hb
  have c0P1 := P1.c0
  have c1P1 := P1.c1
  have H4 := Lib.hid (rGood_any (.slice f1.a f1.n f1.c) l11 w3 rf1.row K1.out)
  rw [HG1.out] at H4
  go_wp2_with fail
  clear c0P1 c1P1
  refine H4.out.mono ?_
  rintro e w5 ⟨rfl, rfl⟩
  clear H4
  have c0P1 := P1.c0
  have c1P1 := P1.c1
  have H6 := Lib.hid (rGood_any (.slice f2.a f2.n f2.c) l12 w3 rf2.row K2.out)
  rw [HG2.out] at H6
  go_wp2_with fail
  clear c0P1 c1P1
  refine H6.out.mono ?_
  rintro e w7 ⟨rfl, rfl⟩
  clear H6
  have c0P1 := P1.c0
  have c1P1 := P1.c1
  have H10 := Lib.hid (qint_neg z hz w3)
  go_wp2_with fail
  clear c0P1 c1P1
  refine H10.out.mono ?_
  rintro e w11 ⟨x8, x9, rfl, rx8, rx9, hb⟩
  clear H10
  replace P1 := P1.below hb
  replace rf1 := rf1.below hb
  replace rf2 := rf2.below hb
  replace hB := hB.trans (hb.mono hB.size)
  clear hb
  have c0P1 := P1.c0
  have c1P1 := P1.c1
  have H14 := Lib.hid (rint_neg z hz w11)
  go_wp2_with fail
  clear c0P1 c1P1
  refine H14.out.mono ?_
  rintro e w15 ⟨x12, x13, rfl, rx12, rx13, hb⟩
  clear H14
  replace P1 := P1.below hb
  replace rf1 := rf1.below hb
  replace rf2 := rf2.below hb
  replace rx8 := rx8.below hb
  replace rx9 := rx9.below hb
  replace hB := hB.trans (hb.mono hB.size)
  clear hb
  have c0P1 := P1.c0
  have c1P1 := P1.c1
  have H16 := Lib.hid (qis_nat x8 x9 x12 x13 (0) (1) w15 rx8 rx9 rx12 rx13 (Lib.hid (Nat.le_trans HLN.out (by omega))) (Lib.hid (Nat.le_trans (one_row 1 (by omega)) (by omega))))
  go_wp2_with fail
  clear c0P1 c1P1
  refine H16.out.mono ?_
  rintro e w17 ⟨rfl, hb⟩
  clear H16
  replace P1 := P1.below hb
  replace rf1 := rf1.below hb
  replace rf2 := rf2.below hb
  replace rx8 := rx8.below hb
  replace rx9 := rx9.below hb
  replace rx12 := rx12.below hb
  replace rx13 := rx13.below hb
  replace hB := hB.trans (hb.mono hB.size)
  clear hb
  have c0P1 := P1.c0
  have c1P1 := P1.c1
  have H20 := Lib.hid (qint_neg z hz w17)
  go_wp2_with fail
  clear c0P1 c1P1
  refine H20.out.mono ?_
  rintro e w21 ⟨x18, x19, rfl, rx18, rx19, hb⟩
  clear H20
  replace P1 := P1.below hb
  replace rf1 := rf1.below hb
  replace rf2 := rf2.below hb
  replace rx8 := rx8.below hb
  replace rx9 := rx9.below hb
  replace rx12 := rx12.below hb
  replace rx13 := rx13.below hb
  replace hB := hB.trans (hb.mono hB.size)
  clear hb
  have c0P1 := P1.c0
  have c1P1 := P1.c1
  have H22 := Lib.hid (qgood_nat x18 x19 (0) (1) w21 rx18 rx19 (Lib.hid (Nat.le_trans HLN.out (by omega))) (Lib.hid (Nat.le_trans (one_row 1 (by omega)) (by omega))) (Lib.hid (by omega)) true (Lib.hid (by simp)))
  go_wp2_with fail
  clear c0P1 c1P1
  refine H22.out.mono ?_
  rintro e w23 ⟨rfl, hb⟩
  clear H22
  replace P1 := P1.below hb
  replace rf1 := rf1.below hb
  replace rf2 := rf2.below hb
  replace rx8 := rx8.below hb
  replace rx9 := rx9.below hb
  replace rx12 := rx12.below hb
  replace rx13 := rx13.below hb
  replace rx18 := rx18.below hb
  replace rx19 := rx19.below hb
  replace hB := hB.trans (hb.mono hB.size)
  clear hb
  obtain ⟨vv, wq, hr, rxx, hb⟩ := copied_run (.slice f1.a f1.n f1.c) l11 w23 rf1 (Nat.le_trans K1.out (by omega)) 28
  have HR := Lib.hid hr
  clear hr
  have c0P1 := P1.c0
  have c1P1 := P1.c1
  have d0P1 := (P1.alloc (.cells #[] 64)).c0
  have d1P1 := (P1.alloc (.cells #[] 64)).c1
  replace P1 := P1.below hb
  replace rf1 := rf1.below hb
  replace rf2 := rf2.below hb
  replace rx8 := rx8.below hb
  replace rx9 := rx9.below hb
  replace rx12 := rx12.below hb
  replace rx13 := rx13.below hb
  replace rx18 := rx18.below hb
  replace rx19 := rx19.below hb
  replace hB := hB.trans (hb.mono hB.size)
  clear hb
  have HO := Lib.hid (of_zero vv (.slice none 0 0) 0 wq (RU.zero rfl) (by show (0 : Nat) ≤ 1000; omega) rfl)
  go_wp2_with (at_builtin; refine wpList_append_run rfl _ _ 28 22 rfl _ _ _ _ rfl rfl HR.out ?_)
  clear c0P1 c1P1
  refine HO.out.mono ?_
  rintro e wr ⟨rfl, hb⟩
  clear HO HR rxx
  replace P1 := P1.below hb
  replace rf1 := rf1.below hb
  replace rf2 := rf2.below hb
  replace hB := hB.trans (hb.mono hB.size)
  clear hb
  have hb : Below wr.heap.size wr (wr.alloc (.cells #[.slice none 0 0, .slice none 0 0] 30)) := ((Below.refl _ _).alloc (Nat.le_refl _) _)
  replace P1 := P1.below hb
  replace rf1 := rf1.below hb
  replace rf2 := rf2.below hb
  replace hB := hB.trans (hb.mono hB.size)
  have P24 : Pair (wr.alloc (.cells #[.slice none 0 0, .slice none 0 0] 30)) (wr.heap.size) 30 (.slice none 0 0) (.slice none 0 0) := by
    have h := Pair.new wr 30 (.slice none 0 0) (.slice none 0 0)
    simpa only [World.size_alloc] using h
  clear hb
  have c0P1 := P1.c0
  have c1P1 := P1.c1
  have c0P24 := P24.c0
  have c1P24 := P24.c1
  go_wp2_with fail
  go_ret
  exact ⟨rfl, hB⟩

set_option maxRecDepth 100000 in
set_option maxHeartbeats 4000000 in
theorem of_pm (f1 f2 : Sl) (l11 l12 : List Nat) (n : Nat) (w : World) (rf1 : RA w f1 l11) (rf2 : RA w f2 l12) (h1 : f1.n ≤ 4) (h2 : f2.n ≤ 4) (K1 : Hid (l11.length ≤ 1000000)) (K2 : Hid (l12.length ≤ 1000000)) (HG1 : Hid (goodB l11 = true)) (HG2 : Hid (goodB l12 = true)) (hn : Hid (n < 9223372036854775808)) (S11 : Hid (SmallU l11)) (S12 : Hid (SmallU l12)) (HM1 : Hid (madeB l11 l12 = true)) (hf2 : ((f2.n : Int) == 0) = false) :
    Calls Tryd.prog 3 #[.agg #[.slice f1.a f1.n f1.c, .slice f2.a f2.n f2.c], .int .i64 (n : Int)] w fun e w' => e = .returned (.bool true) ∧ Below w.heap.size w w' := by
  have HLN : Hid ((L n).length ≤ 1) := Lib.hid (one_row n (by have := hn.out; omega))
  go_enter Tryd.func3, Tryd.ntmps3
  have hb : Below w.heap.size w (w.alloc (.cells #[.slice f1.a f1.n f1.c, .slice f2.a f2.n f2.c] 24)) := ((Below.refl _ _).alloc (Nat.le_refl _) _)
  replace rf1 := rf1.below hb
  replace rf2 := rf2.below hb
  have hB := hb
  have P1 : Pair (w.alloc (.cells #[.slice f1.a f1.n f1.c, .slice f2.a f2.n f2.c] 24)) (w.heap.size) 24 (.slice f1.a f1.n f1.c) (.slice f2.a f2.n f2.c) := by
    have h := Pair.new w 24 (.slice f1.a f1.n f1.c) (.slice f2.a f2.n f2.c)
    simpa only [World.size_alloc] using h
  clear hb
  have c0P1 := P1.c0
  have c1P1 := P1.c1
  have H2 := Lib.hid (awake_any (w.alloc (.cells #[.slice f1.a f1.n f1.c, .slice f2.a f2.n f2.c] 24)))
  go_wp2_with fail
  clear c0P1 c1P1
  refine H2.out.mono ?_
  rintro e w3 ⟨rfl, hb⟩
  clear H2
  replace P1 := P1.below hb
  replace rf1 := rf1.below hb
  replace rf2 := rf2.below hb
  replace hB := hB.trans (hb.mono hB.size)
  clear hb
  have c0P1 := P1.c0
  have c1P1 := P1.c1
  have H4 := Lib.hid (rGood_any (.slice f1.a f1.n f1.c) l11 w3 rf1.row K1.out)
  rw [HG1.out] at H4
  go_wp2_with fail
  clear c0P1 c1P1
  refine H4.out.mono ?_
  rintro e w5 ⟨rfl, rfl⟩
  clear H4
  have c0P1 := P1.c0
  have c1P1 := P1.c1
  have H6 := Lib.hid (rGood_any (.slice f2.a f2.n f2.c) l12 w3 rf2.row K2.out)
  rw [HG2.out] at H6
  go_wp2_with fail
  clear c0P1 c1P1
  refine H6.out.mono ?_
  rintro e w7 ⟨rfl, rfl⟩
  clear H6
  have c0P1 := P1.c0
  have c1P1 := P1.c1
  have H10 := Lib.hid (qint_pos n hn w3)
  go_wp2_with fail
  clear c0P1 c1P1
  refine H10.out.mono ?_
  rintro e w11 ⟨x8, x9, rfl, rx8, rx9, hb⟩
  clear H10
  replace P1 := P1.below hb
  replace rf1 := rf1.below hb
  replace rf2 := rf2.below hb
  replace hB := hB.trans (hb.mono hB.size)
  clear hb
  have c0P1 := P1.c0
  have c1P1 := P1.c1
  have H14 := Lib.hid (rint_pos n hn w11)
  go_wp2_with fail
  clear c0P1 c1P1
  refine H14.out.mono ?_
  rintro e w15 ⟨x12, x13, rfl, rx12, rx13, hb⟩
  clear H14
  replace P1 := P1.below hb
  replace rf1 := rf1.below hb
  replace rf2 := rf2.below hb
  replace rx8 := rx8.below hb
  replace rx9 := rx9.below hb
  replace hB := hB.trans (hb.mono hB.size)
  clear hb
  have c0P1 := P1.c0
  have c1P1 := P1.c1
  have H16 := Lib.hid (qis_nat x8 x9 x12 x13 (n) (1) w15 rx8 rx9 rx12 rx13 (Lib.hid (Nat.le_trans HLN.out (by omega))) (Lib.hid (Nat.le_trans (one_row 1 (by omega)) (by omega))))
  go_wp2_with fail
  clear c0P1 c1P1
  refine H16.out.mono ?_
  rintro e w17 ⟨rfl, hb⟩
  clear H16
  replace P1 := P1.below hb
  replace rf1 := rf1.below hb
  replace rf2 := rf2.below hb
  replace rx8 := rx8.below hb
  replace rx9 := rx9.below hb
  replace rx12 := rx12.below hb
  replace rx13 := rx13.below hb
  replace hB := hB.trans (hb.mono hB.size)
  clear hb
  have c0P1 := P1.c0
  have c1P1 := P1.c1
  have H20 := Lib.hid (qint_pos n hn w17)
  go_wp2_with fail
  clear c0P1 c1P1
  refine H20.out.mono ?_
  rintro e w21 ⟨x18, x19, rfl, rx18, rx19, hb⟩
  clear H20
  replace P1 := P1.below hb
  replace rf1 := rf1.below hb
  replace rf2 := rf2.below hb
  replace rx8 := rx8.below hb
  replace rx9 := rx9.below hb
  replace rx12 := rx12.below hb
  replace rx13 := rx13.below hb
  replace hB := hB.trans (hb.mono hB.size)
  clear hb
  have c0P1 := P1.c0
  have c1P1 := P1.c1
  have H22 := Lib.hid (qgood_nat x18 x19 (n) (1) w21 rx18 rx19 (Lib.hid (Nat.le_trans HLN.out (by omega))) (Lib.hid (Nat.le_trans (one_row 1 (by omega)) (by omega))) (Lib.hid (by omega)) true (Lib.hid (by simp)))
  go_wp2_with fail
  clear c0P1 c1P1
  refine H22.out.mono ?_
  rintro e w23 ⟨rfl, hb⟩
  clear H22
  replace P1 := P1.below hb
  replace rf1 := rf1.below hb
  replace rf2 := rf2.below hb
  replace rx8 := rx8.below hb
  replace rx9 := rx9.below hb
  replace rx12 := rx12.below hb
  replace rx13 := rx13.below hb
  replace rx18 := rx18.below hb
  replace rx19 := rx19.below hb
  replace hB := hB.trans (hb.mono hB.size)
  clear hb
  have c0P1 := P1.c0
  have c1P1 := P1.c1
  have H24 := Lib.hid (made_true f1 f2 l11 l12 w23 rf1 rf2 S11 S12 HM1)
  go_wp2_with fail
  clear c0P1 c1P1
  refine H24.out.mono ?_
  rintro e w25 ⟨xa, ya, pa, qa, ra, sa, rfl, Lxa, Lya, Hxa, rpa, rqa, rra, rsa, hb⟩
  clear H24
  replace P1 := P1.below hb
  replace rf1 := rf1.below hb
  replace rf2 := rf2.below hb
  replace rx8 := rx8.below hb
  replace rx9 := rx9.below hb
  replace rx12 := rx12.below hb
  replace rx13 := rx13.below hb
  replace rx18 := rx18.below hb
  replace rx19 := rx19.below hb
  replace hB := hB.trans (hb.mono hB.size)
  clear hb
  have hb : Below w25.heap.size w25 ((w25.alloc (.cells #[.slice pa.a pa.n pa.c, .slice qa.a qa.n qa.c] 30)).alloc (.cells #[.slice ra.a ra.n ra.c, .slice sa.a sa.n sa.c] 35)) := (((Below.refl _ _).alloc (Nat.le_refl _) _).alloc (by simp) _)
  replace P1 := P1.below hb
  replace rf1 := rf1.below hb
  replace rf2 := rf2.below hb
  replace rx8 := rx8.below hb
  replace rx9 := rx9.below hb
  replace rx12 := rx12.below hb
  replace rx13 := rx13.below hb
  replace rx18 := rx18.below hb
  replace rx19 := rx19.below hb
  replace rpa := rpa.below hb
  replace rqa := rqa.below hb
  replace rra := rra.below hb
  replace rsa := rsa.below hb
  replace hB := hB.trans (hb.mono hB.size)
  have P26 : Pair ((w25.alloc (.cells #[.slice pa.a pa.n pa.c, .slice qa.a qa.n qa.c] 30)).alloc (.cells #[.slice ra.a ra.n ra.c, .slice sa.a sa.n sa.c] 35)) (w25.heap.size) 30 (.slice pa.a pa.n pa.c) (.slice qa.a qa.n qa.c) := by
    have h := (Pair.new w25 30 (.slice pa.a pa.n pa.c) (.slice qa.a qa.n qa.c)).alloc (.cells #[.slice ra.a ra.n ra.c, .slice sa.a sa.n sa.c] 35)
    simpa only [World.size_alloc] using h
  have P27 : Pair ((w25.alloc (.cells #[.slice pa.a pa.n pa.c, .slice qa.a qa.n qa.c] 30)).alloc (.cells #[.slice ra.a ra.n ra.c, .slice sa.a sa.n sa.c] 35)) (w25.heap.size + 1) 35 (.slice ra.a ra.n ra.c) (.slice sa.a sa.n sa.c) := by
    have h := Pair.new (w25.alloc (.cells #[.slice pa.a pa.n pa.c, .slice qa.a qa.n qa.c] 30)) 35 (.slice ra.a ra.n ra.c) (.slice sa.a sa.n sa.c)
    simpa only [World.size_alloc] using h
  clear hb
  have c0P1 := P1.c0
  have c1P1 := P1.c1
  have c0P26 := P26.c0
  have c1P26 := P26.c1
  have c0P27 := P27.c0
  have c1P27 := P27.c1
  go_wp2_with fail
  clear c0P1 c1P1 c0P26 c1P26 c0P27 c1P27
  have hb : Below ((w25.alloc (.cells #[.slice pa.a pa.n pa.c, .slice qa.a qa.n qa.c] 30)).alloc (.cells #[.slice ra.a ra.n ra.c, .slice sa.a sa.n sa.c] 35)).heap.size ((w25.alloc (.cells #[.slice pa.a pa.n pa.c, .slice qa.a qa.n qa.c] 30)).alloc (.cells #[.slice ra.a ra.n ra.c, .slice sa.a sa.n sa.c] 35)) ((w25.alloc (.cells #[.slice pa.a pa.n pa.c, .slice qa.a qa.n qa.c] 30)).alloc (.cells #[.slice ra.a ra.n ra.c, .slice sa.a sa.n sa.c] 35)).drew := (Below.refl _ _).drew
  replace P1 := P1.below hb
  replace P26 := P26.below hb
  replace P27 := P27.below hb
  replace rf1 := rf1.below hb
  replace rf2 := rf2.below hb
  replace rx8 := rx8.below hb
  replace rx9 := rx9.below hb
  replace rx12 := rx12.below hb
  replace rx13 := rx13.below hb
  replace rx18 := rx18.below hb
  replace rx19 := rx19.below hb
  replace rpa := rpa.below hb
  replace rqa := rqa.below hb
  replace rra := rra.below hb
  replace rsa := rsa.below hb
  replace hB := hB.trans (hb.mono hB.size)
  clear hb
  refine Rd.regionT (fun X => Pair X (w.heap.size) 24 (.slice f1.a f1.n f1.c) (.slice f2.a f2.n f2.c) ∧ Pair X (w25.heap.size) 30 (.slice pa.a pa.n pa.c) (.slice qa.a qa.n qa.c) ∧ Pair X (w25.heap.size + 1) 35 (.slice ra.a ra.n ra.c) (.slice sa.a sa.n sa.c)) [0, 1, 2, 3, 5, 6, 7, 9, 10, 11, 13, 16, 17] (.one 0 (.one 1 (.one 2 (.one 3 (.one 4 (.one 5 (.one 6 (.one 7 (.one 8 (.one 9 (.one 10 (.one 11 (.one 13 (.one 12 (.one 14 (.one 15 (.one 16 (.one 17 .done)))))))))))))))))) (fun ac W => (∃ t : Array Value, ac = { tmps := t, defers := [] } ∧ t[4]?.getD undef = .bool true) ∧ Below w.heap.size w W) (by kernel_rfl) (by kernel_rfl) (by kernel_rfl) ⟨P1, P26, P27⟩ ?tree ?next
  case tree =>
    generalize ((w25.alloc (.cells #[.slice pa.a pa.n pa.c, .slice qa.a qa.n qa.c] 30)).alloc (.cells #[.slice ra.a ra.n ra.c, .slice sa.a sa.n sa.c] 35)).drew = w28 at P1 P26 P27 rf1 rf2 rx8 rx9 rx12 rx13 rx18 rx19 rpa rqa rra rsa hB ⊢
    refine Rd.tr_float (.bool true) (by simp only [List.getElem?_toArray, List.getElem?_cons_zero]; rfl) rfl (by rfl) (fun X _ => by go_simp) ?_
    simp only [Act.put, List.setIfInBounds_toArray, List.set_cons_succ, List.set_cons_zero]
    refine Rd.tr_float (.bool true) (by simp only [List.getElem?_toArray, List.getElem?_cons_succ, List.getElem?_cons_zero]; rfl) rfl (by rfl) (fun X _ => by go_simp) ?_
    simp only [Act.put, List.setIfInBounds_toArray, List.set_cons_succ, List.set_cons_zero]
    refine Rd.tr_float (.agg #[.slice pa.a pa.n pa.c, .slice qa.a qa.n qa.c]) (by simp only [List.getElem?_toArray, List.getElem?_cons_succ, List.getElem?_cons_zero]; rfl) rfl (by rfl) (fun X hX => by have h0 := hX.2.1.c0; have h1 := hX.2.1.c1; go_simp) ?_
    simp only [Act.put, List.setIfInBounds_toArray, List.set_cons_succ, List.set_cons_zero]
    refine Rd.tr_float (.agg #[.slice ra.a ra.n ra.c, .slice sa.a sa.n sa.c]) (by simp only [List.getElem?_toArray, List.getElem?_cons_succ, List.getElem?_cons_zero]; rfl) rfl (by rfl) (fun X hX => by have h0 := hX.2.2.c0; have h1 := hX.2.2.c1; go_simp) ?_
    simp only [Act.put, List.setIfInBounds_toArray, List.set_cons_succ, List.set_cons_zero]
    refine Rd.tr_move (by simp only [List.getElem?_toArray, List.getElem?_cons_succ, List.getElem?_cons_zero]; rfl) rfl (by rfl) (fun K hK => ?_)
    have H29 := Lib.hid (qis_nat pa qa ra sa (xa) (ya) w28 rpa rqa rra rsa (Lib.hid (Nat.le_trans Lxa.out (by omega))) (Lib.hid (Nat.le_trans Lya.out (by omega))))
    go_simp
    refine H29.out.mono ?_
    rintro e w30 ⟨rfl, hb⟩
    clear H29
    replace P1 := P1.below hb
    replace P26 := P26.below hb
    replace P27 := P27.below hb
    replace rf1 := rf1.below hb
    replace rf2 := rf2.below hb
    replace rx8 := rx8.below hb
    replace rx9 := rx9.below hb
    replace rx12 := rx12.below hb
    replace rx13 := rx13.below hb
    replace rx18 := rx18.below hb
    replace rx19 := rx19.below hb
    replace rpa := rpa.below hb
    replace rqa := rqa.below hb
    replace rra := rra.below hb
    replace rsa := rsa.below hb
    replace hB := hB.trans (hb.mono hB.size)
    clear hb
    refine hK _ _ ⟨P1, P26, P27⟩ ?_
    clear hK K
    refine Rd.tr_float (.bool true) (by simp only [List.getElem?_toArray, List.getElem?_cons_succ, List.getElem?_cons_zero]; rfl) rfl (by rfl) (fun X _ => by go_simp) ?_
    simp only [Act.put, List.setIfInBounds_toArray, List.set_cons_succ, List.set_cons_zero]
    refine Rd.tr_float (.bool true) (by simp only [List.getElem?_toArray, List.getElem?_cons_succ, List.getElem?_cons_zero]; rfl) rfl (by rfl) (fun X _ => by go_simp) ?_
    simp only [Act.put, List.setIfInBounds_toArray, List.set_cons_succ, List.set_cons_zero]
    refine Rd.tr_float (.agg #[.slice pa.a pa.n pa.c, .slice qa.a qa.n qa.c]) (by simp only [List.getElem?_toArray, List.getElem?_cons_succ, List.getElem?_cons_zero]; rfl) rfl (by rfl) (fun X hX => by have h0 := hX.2.1.c0; have h1 := hX.2.1.c1; go_simp) ?_
    simp only [Act.put, List.setIfInBounds_toArray, List.set_cons_succ, List.set_cons_zero]
    refine Rd.tr_move (by simp only [List.getElem?_toArray, List.getElem?_cons_succ, List.getElem?_cons_zero]; rfl) rfl (by rfl) (fun K hK => ?_)
    have H31 := Lib.hid (qgood_nat pa qa (xa) (ya) w30 rpa rqa (Lib.hid (Nat.le_trans Lxa.out (by omega))) (Lib.hid (Nat.le_trans Lya.out (by omega))) (Lib.hid Hxa.out.1) true (Lib.hid (by simp [Hxa.out.2])))
    go_simp
    refine H31.out.mono ?_
    rintro e w32 ⟨rfl, hb⟩
    clear H31
    replace P1 := P1.below hb
    replace P26 := P26.below hb
    replace P27 := P27.below hb
    replace rf1 := rf1.below hb
    replace rf2 := rf2.below hb
    replace rx8 := rx8.below hb
    replace rx9 := rx9.below hb
    replace rx12 := rx12.below hb
    replace rx13 := rx13.below hb
    replace rx18 := rx18.below hb
    replace rx19 := rx19.below hb
    replace rpa := rpa.below hb
    replace rqa := rqa.below hb
    replace rra := rra.below hb
    replace rsa := rsa.below hb
    replace hB := hB.trans (hb.mono hB.size)
    clear hb
    refine hK _ _ ⟨P1, P26, P27⟩ ?_
    clear hK K
    refine Rd.tr_float (.bool true) (by simp only [List.getElem?_toArray, List.getElem?_cons_succ, List.getElem?_cons_zero]; rfl) rfl (by rfl) (fun X _ => by go_simp) ?_
    simp only [Act.put, List.setIfInBounds_toArray, List.set_cons_succ, List.set_cons_zero]
    refine Rd.tr_float (.bool true) (by simp only [List.getElem?_toArray, List.getElem?_cons_succ, List.getElem?_cons_zero]; rfl) rfl (by rfl) (fun X _ => by go_simp) ?_
    simp only [Act.put, List.setIfInBounds_toArray, List.set_cons_succ, List.set_cons_zero]
    refine Rd.tr_float (.agg #[.slice pa.a pa.n pa.c, .slice qa.a qa.n qa.c]) (by simp only [List.getElem?_toArray, List.getElem?_cons_succ, List.getElem?_cons_zero]; rfl) rfl (by rfl) (fun X hX => by have h0 := hX.2.1.c0; have h1 := hX.2.1.c1; go_simp) ?_
    simp only [Act.put, List.setIfInBounds_toArray, List.set_cons_succ, List.set_cons_zero]
    refine Rd.tr_float (.agg #[.slice ra.a ra.n ra.c, .slice sa.a sa.n sa.c]) (by simp only [List.getElem?_toArray, List.getElem?_cons_succ, List.getElem?_cons_zero]; rfl) rfl (by rfl) (fun X hX => by have h0 := hX.2.2.c0; have h1 := hX.2.2.c1; go_simp) ?_
    simp only [Act.put, List.setIfInBounds_toArray, List.set_cons_succ, List.set_cons_zero]
    refine Rd.tr_move (by simp only [List.getElem?_toArray, List.getElem?_cons_succ, List.getElem?_cons_zero]; rfl) rfl (by rfl) (fun K hK => ?_)
    have H34 := Lib.hid (qfloor_nat pa qa (xa) (ya) w32 rpa rqa (Lib.hid (Nat.le_trans Lxa.out (by omega))) (Lib.hid (Nat.le_trans Lya.out (by omega))) (Lib.hid Hxa.out.1))
    go_simp
    refine H34.out.mono ?_
    rintro e w35 ⟨x33, rfl, rx33, hb⟩
    clear H34
    replace P1 := P1.below hb
    replace P26 := P26.below hb
    replace P27 := P27.below hb
    replace rf1 := rf1.below hb
    replace rf2 := rf2.below hb
    replace rx8 := rx8.below hb
    replace rx9 := rx9.below hb
    replace rx12 := rx12.below hb
    replace rx13 := rx13.below hb
    replace rx18 := rx18.below hb
    replace rx19 := rx19.below hb
    replace rpa := rpa.below hb
    replace rqa := rqa.below hb
    replace rra := rra.below hb
    replace rsa := rsa.below hb
    replace hB := hB.trans (hb.mono hB.size)
    clear hb
    have HLx33 : Hid ((L (xa / ya)).length ≤ 4) := Lib.hid (len_div_le Lxa.out)
    refine hK _ _ ⟨P1, P26, P27⟩ ?_
    clear hK K
    refine Rd.tr_move (by simp only [List.getElem?_toArray, List.getElem?_cons_succ, List.getElem?_cons_zero]; rfl) rfl (by rfl) (fun K hK => ?_)
    have H37 := Lib.hid (rfloor_nat ra sa (xa) (ya) w35 rra rsa (Lib.hid (Nat.le_trans Lxa.out (by omega))) (Lib.hid (Nat.le_trans Lya.out (by omega))) (Lib.hid Hxa.out.1))
    go_simp
    refine H37.out.mono ?_
    rintro e w38 ⟨x36, rfl, rx36, hb⟩
    clear H37
    replace P1 := P1.below hb
    replace P26 := P26.below hb
    replace P27 := P27.below hb
    replace rf1 := rf1.below hb
    replace rf2 := rf2.below hb
    replace rx8 := rx8.below hb
    replace rx9 := rx9.below hb
    replace rx12 := rx12.below hb
    replace rx13 := rx13.below hb
    replace rx18 := rx18.below hb
    replace rx19 := rx19.below hb
    replace rpa := rpa.below hb
    replace rqa := rqa.below hb
    replace rra := rra.below hb
    replace rsa := rsa.below hb
    replace rx33 := rx33.below hb
    replace hB := hB.trans (hb.mono hB.size)
    clear hb
    refine hK _ _ ⟨P1, P26, P27⟩ ?_
    clear hK K
    refine Rd.tr_move (by simp only [List.getElem?_toArray, List.getElem?_cons_succ, List.getElem?_cons_zero]; rfl) rfl (by rfl) (fun K hK => ?_)
    have H39 := Lib.hid (Is_true (.slice x33.a x33.n x33.c) (.slice x36.a x36.n x36.c) (xa / ya) w38 rx33 rx36 (Nat.le_trans HLx33.out (by omega)))
    go_simp
    refine H39.out.mono ?_
    rintro e w40 ⟨rfl, hb⟩
    clear H39
    replace P1 := P1.below hb
    replace P26 := P26.below hb
    replace P27 := P27.below hb
    replace rf1 := rf1.below hb
    replace rf2 := rf2.below hb
    replace rx8 := rx8.below hb
    replace rx9 := rx9.below hb
    replace rx12 := rx12.below hb
    replace rx13 := rx13.below hb
    replace rx18 := rx18.below hb
    replace rx19 := rx19.below hb
    replace rpa := rpa.below hb
    replace rqa := rqa.below hb
    replace rra := rra.below hb
    replace rsa := rsa.below hb
    replace rx33 := rx33.below hb
    replace rx36 := rx36.below hb
    replace hB := hB.trans (hb.mono hB.size)
    clear hb
    refine hK _ _ ⟨P1, P26, P27⟩ ?_
    clear hK K
    refine Rd.tr_float (.bool true) (by simp only [List.getElem?_toArray, List.getElem?_cons_succ, List.getElem?_cons_zero]; rfl) rfl (by rfl) (fun X _ => by go_simp) ?_
    simp only [Act.put, List.setIfInBounds_toArray, List.set_cons_succ, List.set_cons_zero]
    refine Rd.tr_float (.bool true) (by simp only [List.getElem?_toArray, List.getElem?_cons_succ, List.getElem?_cons_zero]; rfl) rfl (by rfl) (fun X _ => by go_simp) ?_
    simp only [Act.put, List.setIfInBounds_toArray, List.set_cons_succ, List.set_cons_zero]
    exact Rd.tr_end (⟨⟨_, rfl, rfl⟩, hB⟩)
  case next =>
    rintro a3 W ⟨⟨t, rfl, ht⟩, hB⟩
    go_wp2_with fail
    refine bodyPost_ret (v := .bool true) ?_ rfl ⟨rfl, hB⟩
    simp [results, Tryd.f3, go_sem, ht]

set_option maxRecDepth 100000 in
set_option maxHeartbeats 4000000 in
theorem of_nm (f1 f2 : Sl) (l11 l12 : List Nat) (z : Int) (w : World) (rf1 : RA w f1 l11) (rf2 : RA w f2 l12) (h1 : f1.n ≤ 4) (h2 : f2.n ≤ 4) (K1 : Hid (l11.length ≤ 1000000)) (K2 : Hid (l12.length ≤ 1000000)) (HG1 : Hid (goodB l11 = true)) (HG2 : Hid (goodB l12 = true)) (hz : Hid (z < 0)) (S11 : Hid (SmallU l11)) (S12 : Hid (SmallU l12)) (HM1 : Hid (madeB l11 l12 = true)) (hf2 : ((f2.n : Int) == 0) = false) :
    Calls Tryd.prog 3 #[.agg #[.slice f1.a f1.n f1.c, .slice f2.a f2.n f2.c], .int .i64 z] w fun e w' => e = .returned (.bool true) ∧ Below w.heap.size w w' := by
  have HLN : Hid ((L 0).length ≤ 1) := Lib.hid (one_row 0 (by omega))
  go_enter Tryd.func3, Tryd.ntmps3
  have hb : Below w.heap.size w (w.alloc (.cells #[.slice f1.a f1.n f1.c, .slice f2.a f2.n f2.c] 24)) := ((Below.refl _ _).alloc (Nat.le_refl _) _)
  replace rf1 := rf1.below hb
  replace rf2 := rf2.below hb
  have hB := hb
  have P1 : Pair (w.alloc (.cells #[.slice f1.a f1.n f1.c, .slice f2.a f2.n f2.c] 24)) (w.heap.size) 24 (.slice f1.a f1.n f1.c) (.slice f2.a f2.n f2.c) := by
    have h := Pair.new w 24 (.slice f1.a f1.n f1.c) (.slice f2.a f2.n f2.c)
    simpa only [World.size_alloc] using h
  clear hb
  have c0P1 := P1.c0
  have c1P1 := P1.c1
  have H2 := Lib.hid (awake_any (w.alloc (.cells #[.slice f1.a f1.n f1.c, .slice f2.a f2.n f2.c] 24)))
  go_wp2_with fail
  clear c0P1 c1P1
  refine H2.out.mono ?_
  rintro e w3 ⟨rfl, hb⟩
  clear H2
  replace P1 := P1.below hb
  replace rf1 := rf1.below hb
  replace rf2 := rf2.below hb
  replace hB := hB.trans (hb.mono hB.size)
  clear hb
  have c0P1 := P1.c0
  have c1P1 := P1.c1
  have H4 := Lib.hid (rGood_any (.slice f1.a f1.n f1.c) l11 w3 rf1.row K1.out)
  rw [HG1.out] at H4
  go_wp2_with fail
  clear c0P1 c1P1
  refine H4.out.mono ?_
  rintro e w5 ⟨rfl, rfl⟩
  clear H4
  have c0P1 := P1.c0
  have c1P1 := P1.c1
  have H6 := Lib.hid (rGood_any (.slice f2.a f2.n f2.c) l12 w3 rf2.row K2.out)
  rw [HG2.out] at H6
  go_wp2_with fail
  clear c0P1 c1P1
  refine H6.out.mono ?_
  rintro e w7 ⟨rfl, rfl⟩
  clear H6
  have c0P1 := P1.c0
  have c1P1 := P1.c1
  have H10 := Lib.hid (qint_neg z hz w3)
  go_wp2_with fail
  clear c0P1 c1P1
  refine H10.out.mono ?_
  rintro e w11 ⟨x8, x9, rfl, rx8, rx9, hb⟩
  clear H10
  replace P1 := P1.below hb
  replace rf1 := rf1.below hb
  replace rf2 := rf2.below hb
  replace hB := hB.trans (hb.mono hB.size)
  clear hb
  have c0P1 := P1.c0
  have c1P1 := P1.c1
  have H14 := Lib.hid (rint_neg z hz w11)
  go_wp2_with fail
  clear c0P1 c1P1
  refine H14.out.mono ?_
  rintro e w15 ⟨x12, x13, rfl, rx12, rx13, hb⟩
  clear H14
  replace P1 := P1.below hb
  replace rf1 := rf1.below hb
  replace rf2 := rf2.below hb
  replace rx8 := rx8.below hb
  replace rx9 := rx9.below hb
  replace hB := hB.trans (hb.mono hB.size)
  clear hb
  have c0P1 := P1.c0
  have c1P1 := P1.c1
  have H16 := Lib.hid (qis_nat x8 x9 x12 x13 (0) (1) w15 rx8 rx9 rx12 rx13 (Lib.hid (Nat.le_trans HLN.out (by omega))) (Lib.hid (Nat.le_trans (one_row 1 (by omega)) (by omega))))
  go_wp2_with fail
  clear c0P1 c1P1
  refine H16.out.mono ?_
  rintro e w17 ⟨rfl, hb⟩
  clear H16
  replace P1 := P1.below hb
  replace rf1 := rf1.below hb
  replace rf2 := rf2.below hb
  replace rx8 := rx8.below hb
  replace rx9 := rx9.below hb
  replace rx12 := rx12.below hb
  replace rx13 := rx13.below hb
  replace hB := hB.trans (hb.mono hB.size)
  clear hb
  have c0P1 := P1.c0
  have c1P1 := P1.c1
  have H20 := Lib.hid (qint_neg z hz w17)
  go_wp2_with fail
  clear c0P1 c1P1
  refine H20.out.mono ?_
  rintro e w21 ⟨x18, x19, rfl, rx18, rx19, hb⟩
  clear H20
  replace P1 := P1.below hb
  replace rf1 := rf1.below hb
  replace rf2 := rf2.below hb
  replace rx8 := rx8.below hb
  replace rx9 := rx9.below hb
  replace rx12 := rx12.below hb
  replace rx13 := rx13.below hb
  replace hB := hB.trans (hb.mono hB.size)
  clear hb
  have c0P1 := P1.c0
  have c1P1 := P1.c1
  have H22 := Lib.hid (qgood_nat x18 x19 (0) (1) w21 rx18 rx19 (Lib.hid (Nat.le_trans HLN.out (by omega))) (Lib.hid (Nat.le_trans (one_row 1 (by omega)) (by omega))) (Lib.hid (by omega)) true (Lib.hid (by simp)))
  go_wp2_with fail
  clear c0P1 c1P1
  refine H22.out.mono ?_
  rintro e w23 ⟨rfl, hb⟩
  clear H22
  replace P1 := P1.below hb
  replace rf1 := rf1.below hb
  replace rf2 := rf2.below hb
  replace rx8 := rx8.below hb
  replace rx9 := rx9.below hb
  replace rx12 := rx12.below hb
  replace rx13 := rx13.below hb
  replace rx18 := rx18.below hb
  replace rx19 := rx19.below hb
  replace hB := hB.trans (hb.mono hB.size)
  clear hb
  have c0P1 := P1.c0
  have c1P1 := P1.c1
  have H24 := Lib.hid (made_true f1 f2 l11 l12 w23 rf1 rf2 S11 S12 HM1)
  go_wp2_with fail
  clear c0P1 c1P1
  refine H24.out.mono ?_
  rintro e w25 ⟨xa, ya, pa, qa, ra, sa, rfl, Lxa, Lya, Hxa, rpa, rqa, rra, rsa, hb⟩
  clear H24
  replace P1 := P1.below hb
  replace rf1 := rf1.below hb
  replace rf2 := rf2.below hb
  replace rx8 := rx8.below hb
  replace rx9 := rx9.below hb
  replace rx12 := rx12.below hb
  replace rx13 := rx13.below hb
  replace rx18 := rx18.below hb
  replace rx19 := rx19.below hb
  replace hB := hB.trans (hb.mono hB.size)
  clear hb
  have hb : Below w25.heap.size w25 ((w25.alloc (.cells #[.slice pa.a pa.n pa.c, .slice qa.a qa.n qa.c] 30)).alloc (.cells #[.slice ra.a ra.n ra.c, .slice sa.a sa.n sa.c] 35)) := (((Below.refl _ _).alloc (Nat.le_refl _) _).alloc (by simp) _)
  replace P1 := P1.below hb
  replace rf1 := rf1.below hb
  replace rf2 := rf2.below hb
  replace rx8 := rx8.below hb
  replace rx9 := rx9.below hb
  replace rx12 := rx12.below hb
  replace rx13 := rx13.below hb
  replace rx18 := rx18.below hb
  replace rx19 := rx19.below hb
  replace rpa := rpa.below hb
  replace rqa := rqa.below hb
  replace rra := rra.below hb
  replace rsa := rsa.below hb
  replace hB := hB.trans (hb.mono hB.size)
  have P26 : Pair ((w25.alloc (.cells #[.slice pa.a pa.n pa.c, .slice qa.a qa.n qa.c] 30)).alloc (.cells #[.slice ra.a ra.n ra.c, .slice sa.a sa.n sa.c] 35)) (w25.heap.size) 30 (.slice pa.a pa.n pa.c) (.slice qa.a qa.n qa.c) := by
    have h := (Pair.new w25 30 (.slice pa.a pa.n pa.c) (.slice qa.a qa.n qa.c)).alloc (.cells #[.slice ra.a ra.n ra.c, .slice sa.a sa.n sa.c] 35)
    simpa only [World.size_alloc] using h
  have P27 : Pair ((w25.alloc (.cells #[.slice pa.a pa.n pa.c, .slice qa.a qa.n qa.c] 30)).alloc (.cells #[.slice ra.a ra.n ra.c, .slice sa.a sa.n sa.c] 35)) (w25.heap.size + 1) 35 (.slice ra.a ra.n ra.c) (.slice sa.a sa.n sa.c) := by
    have h := Pair.new (w25.alloc (.cells #[.slice pa.a pa.n pa.c, .slice qa.a qa.n qa.c] 30)) 35 (.slice ra.a ra.n ra.c) (.slice sa.a sa.n sa.c)
    simpa only [World.size_alloc] using h
  clear hb
  have c0P1 := P1.c0
  have c1P1 := P1.c1
  have c0P26 := P26.c0
  have c1P26 := P26.c1
  have c0P27 := P27.c0
  have c1P27 := P27.c1
  go_wp2_with fail
  clear c0P1 c1P1 c0P26 c1P26 c0P27 c1P27
  have hb : Below ((w25.alloc (.cells #[.slice pa.a pa.n pa.c, .slice qa.a qa.n qa.c] 30)).alloc (.cells #[.slice ra.a ra.n ra.c, .slice sa.a sa.n sa.c] 35)).heap.size ((w25.alloc (.cells #[.slice pa.a pa.n pa.c, .slice qa.a qa.n qa.c] 30)).alloc (.cells #[.slice ra.a ra.n ra.c, .slice sa.a sa.n sa.c] 35)) ((w25.alloc (.cells #[.slice pa.a pa.n pa.c, .slice qa.a qa.n qa.c] 30)).alloc (.cells #[.slice ra.a ra.n ra.c, .slice sa.a sa.n sa.c] 35)).drew := (Below.refl _ _).drew
  replace P1 := P1.below hb
  replace P26 := P26.below hb
  replace P27 := P27.below hb
  replace rf1 := rf1.below hb
  replace rf2 := rf2.below hb
  replace rx8 := rx8.below hb
  replace rx9 := rx9.below hb
  replace rx12 := rx12.below hb
  replace rx13 := rx13.below hb
  replace rx18 := rx18.below hb
  replace rx19 := rx19.below hb
  replace rpa := rpa.below hb
  replace rqa := rqa.below hb
  replace rra := rra.below hb
  replace rsa := rsa.below hb
  replace hB := hB.trans (hb.mono hB.size)
  clear hb
  refine Rd.regionT (fun X => Pair X (w.heap.size) 24 (.slice f1.a f1.n f1.c) (.slice f2.a f2.n f2.c) ∧ Pair X (w25.heap.size) 30 (.slice pa.a pa.n pa.c) (.slice qa.a qa.n qa.c) ∧ Pair X (w25.heap.size + 1) 35 (.slice ra.a ra.n ra.c) (.slice sa.a sa.n sa.c)) [0, 1, 2, 3, 5, 6, 7, 9, 10, 11, 13, 16, 17] (.one 0 (.one 1 (.one 2 (.one 3 (.one 4 (.one 5 (.one 6 (.one 7 (.one 8 (.one 9 (.one 10 (.one 11 (.one 13 (.one 12 (.one 14 (.one 15 (.one 16 (.one 17 .done)))))))))))))))))) (fun ac W => (∃ t : Array Value, ac = { tmps := t, defers := [] } ∧ t[4]?.getD undef = .bool true) ∧ Below w.heap.size w W) (by kernel_rfl) (by kernel_rfl) (by kernel_rfl) ⟨P1, P26, P27⟩ ?tree ?next
  case tree =>
    generalize ((w25.alloc (.cells #[.slice pa.a pa.n pa.c, .slice qa.a qa.n qa.c] 30)).alloc (.cells #[.slice ra.a ra.n ra.c, .slice sa.a sa.n sa.c] 35)).drew = w28 at P1 P26 P27 rf1 rf2 rx8 rx9 rx12 rx13 rx18 rx19 rpa rqa rra rsa hB ⊢
    refine Rd.tr_float (.bool true) (by simp only [List.getElem?_toArray, List.getElem?_cons_zero]; rfl) rfl (by rfl) (fun X _ => by go_simp) ?_
    simp only [Act.put, List.setIfInBounds_toArray, List.set_cons_succ, List.set_cons_zero]
    refine Rd.tr_float (.bool true) (by simp only [List.getElem?_toArray, List.getElem?_cons_succ, List.getElem?_cons_zero]; rfl) rfl (by rfl) (fun X _ => by go_simp) ?_
    simp only [Act.put, List.setIfInBounds_toArray, List.set_cons_succ, List.set_cons_zero]
    refine Rd.tr_float (.agg #[.slice pa.a pa.n pa.c, .slice qa.a qa.n qa.c]) (by simp only [List.getElem?_toArray, List.getElem?_cons_succ, List.getElem?_cons_zero]; rfl) rfl (by rfl) (fun X hX => by have h0 := hX.2.1.c0; have h1 := hX.2.1.c1; go_simp) ?_
    simp only [Act.put, List.setIfInBounds_toArray, List.set_cons_succ, List.set_cons_zero]
    refine Rd.tr_float (.agg #[.slice ra.a ra.n ra.c, .slice sa.a sa.n sa.c]) (by simp only [List.getElem?_toArray, List.getElem?_cons_succ, List.getElem?_cons_zero]; rfl) rfl (by rfl) (fun X hX => by have h0 := hX.2.2.c0; have h1 := hX.2.2.c1; go_simp) ?_
    simp only [Act.put, List.setIfInBounds_toArray, List.set_cons_succ, List.set_cons_zero]
    refine Rd.tr_move (by simp only [List.getElem?_toArray, List.getElem?_cons_succ, List.getElem?_cons_zero]; rfl) rfl (by rfl) (fun K hK => ?_)
    have H29 := Lib.hid (qis_nat pa qa ra sa (xa) (ya) w28 rpa rqa rra rsa (Lib.hid (Nat.le_trans Lxa.out (by omega))) (Lib.hid (Nat.le_trans Lya.out (by omega))))
    go_simp
    refine H29.out.mono ?_
    rintro e w30 ⟨rfl, hb⟩
    clear H29
    replace P1 := P1.below hb
    replace P26 := P26.below hb
    replace P27 := P27.below hb
    replace rf1 := rf1.below hb
    replace rf2 := rf2.below hb
    replace rx8 := rx8.below hb
    replace rx9 := rx9.below hb
    replace rx12 := rx12.below hb
    replace rx13 := rx13.below hb
    replace rx18 := rx18.below hb
    replace rx19 := rx19.below hb
    replace rpa := rpa.below hb
    replace rqa := rqa.below hb
    replace rra := rra.below hb
    replace rsa := rsa.below hb
    replace hB := hB.trans (hb.mono hB.size)
    clear hb
    refine hK _ _ ⟨P1, P26, P27⟩ ?_
    clear hK K
    refine Rd.tr_float (.bool true) (by simp only [List.getElem?_toArray, List.getElem?_cons_succ, List.getElem?_cons_zero]; rfl) rfl (by rfl) (fun X _ => by go_simp) ?_
    simp only [Act.put, List.setIfInBounds_toArray, List.set_cons_succ, List.set_cons_zero]
    refine Rd.tr_float (.bool true) (by simp only [List.getElem?_toArray, List.getElem?_cons_succ, List.getElem?_cons_zero]; rfl) rfl (by rfl) (fun X _ => by go_simp) ?_
    simp only [Act.put, List.setIfInBounds_toArray, List.set_cons_succ, List.set_cons_zero]
    refine Rd.tr_float (.agg #[.slice pa.a pa.n pa.c, .slice qa.a qa.n qa.c]) (by simp only [List.getElem?_toArray, List.getElem?_cons_succ, List.getElem?_cons_zero]; rfl) rfl (by rfl) (fun X hX => by have h0 := hX.2.1.c0; have h1 := hX.2.1.c1; go_simp) ?_
    simp only [Act.put, List.setIfInBounds_toArray, List.set_cons_succ, List.set_cons_zero]
    refine Rd.tr_move (by simp only [List.getElem?_toArray, List.getElem?_cons_succ, List.getElem?_cons_zero]; rfl) rfl (by rfl) (fun K hK => ?_)
    have H31 := Lib.hid (qgood_nat pa qa (xa) (ya) w30 rpa rqa (Lib.hid (Nat.le_trans Lxa.out (by omega))) (Lib.hid (Nat.le_trans Lya.out (by omega))) (Lib.hid Hxa.out.1) true (Lib.hid (by simp [Hxa.out.2])))
    go_simp
    refine H31.out.mono ?_
    rintro e w32 ⟨rfl, hb⟩
    clear H31
    replace P1 := P1.below hb
    replace P26 := P26.below hb
    replace P27 := P27.below hb
    replace rf1 := rf1.below hb
    replace rf2 := rf2.below hb
    replace rx8 := rx8.below hb
    replace rx9 := rx9.below hb
    replace rx12 := rx12.below hb
    replace rx13 := rx13.below hb
    replace rx18 := rx18.below hb
    replace rx19 := rx19.below hb
    replace rpa := rpa.below hb
    replace rqa := rqa.below hb
    replace rra := rra.below hb
    replace rsa := rsa.below hb
    replace hB := hB.trans (hb.mono hB.size)
    clear hb
    refine hK _ _ ⟨P1, P26, P27⟩ ?_
    clear hK K
    refine Rd.tr_float (.bool true) (by simp only [List.getElem?_toArray, List.getElem?_cons_succ, List.getElem?_cons_zero]; rfl) rfl (by rfl) (fun X _ => by go_simp) ?_
    simp only [Act.put, List.setIfInBounds_toArray, List.set_cons_succ, List.set_cons_zero]
    refine Rd.tr_float (.bool true) (by simp only [List.getElem?_toArray, List.getElem?_cons_succ, List.getElem?_cons_zero]; rfl) rfl (by rfl) (fun X _ => by go_simp) ?_
    simp only [Act.put, List.setIfInBounds_toArray, List.set_cons_succ, List.set_cons_zero]
    refine Rd.tr_float (.agg #[.slice pa.a pa.n pa.c, .slice qa.a qa.n qa.c]) (by simp only [List.getElem?_toArray, List.getElem?_cons_succ, List.getElem?_cons_zero]; rfl) rfl (by rfl) (fun X hX => by have h0 := hX.2.1.c0; have h1 := hX.2.1.c1; go_simp) ?_
    simp only [Act.put, List.setIfInBounds_toArray, List.set_cons_succ, List.set_cons_zero]
    refine Rd.tr_float (.agg #[.slice ra.a ra.n ra.c, .slice sa.a sa.n sa.c]) (by simp only [List.getElem?_toArray, List.getElem?_cons_succ, List.getElem?_cons_zero]; rfl) rfl (by rfl) (fun X hX => by have h0 := hX.2.2.c0; have h1 := hX.2.2.c1; go_simp) ?_
    simp only [Act.put, List.setIfInBounds_toArray, List.set_cons_succ, List.set_cons_zero]
    refine Rd.tr_move (by simp only [List.getElem?_toArray, List.getElem?_cons_succ, List.getElem?_cons_zero]; rfl) rfl (by rfl) (fun K hK => ?_)
    have H34 := Lib.hid (qfloor_nat pa qa (xa) (ya) w32 rpa rqa (Lib.hid (Nat.le_trans Lxa.out (by omega))) (Lib.hid (Nat.le_trans Lya.out (by omega))) (Lib.hid Hxa.out.1))
    go_simp
    refine H34.out.mono ?_
    rintro e w35 ⟨x33, rfl, rx33, hb⟩
    clear H34
    replace P1 := P1.below hb
    replace P26 := P26.below hb
    replace P27 := P27.below hb
    replace rf1 := rf1.below hb
    replace rf2 := rf2.below hb
    replace rx8 := rx8.below hb
    replace rx9 := rx9.below hb
    replace rx12 := rx12.below hb
    replace rx13 := rx13.below hb
    replace rx18 := rx18.below hb
    replace rx19 := rx19.below hb
    replace rpa := rpa.below hb
    replace rqa := rqa.below hb
    replace rra := rra.below hb
    replace rsa := rsa.below hb
    replace hB := hB.trans (hb.mono hB.size)
    clear hb
    have HLx33 : Hid ((L (xa / ya)).length ≤ 4) := Lib.hid (len_div_le Lxa.out)
    refine hK _ _ ⟨P1, P26, P27⟩ ?_
    clear hK K
    refine Rd.tr_move (by simp only [List.getElem?_toArray, List.getElem?_cons_succ, List.getElem?_cons_zero]; rfl) rfl (by rfl) (fun K hK => ?_)
    have H37 := Lib.hid (rfloor_nat ra sa (xa) (ya) w35 rra rsa (Lib.hid (Nat.le_trans Lxa.out (by omega))) (Lib.hid (Nat.le_trans Lya.out (by omega))) (Lib.hid Hxa.out.1))
    go_simp
    refine H37.out.mono ?_
    rintro e w38 ⟨x36, rfl, rx36, hb⟩
    clear H37
    replace P1 := P1.below hb
    replace P26 := P26.below hb
    replace P27 := P27.below hb
    replace rf1 := rf1.below hb
    replace rf2 := rf2.below hb
    replace rx8 := rx8.below hb
    replace rx9 := rx9.below hb
    replace rx12 := rx12.below hb
    replace rx13 := rx13.below hb
    replace rx18 := rx18.below hb
    replace rx19 := rx19.below hb
    replace rpa := rpa.below hb
    replace rqa := rqa.below hb
    replace rra := rra.below hb
    replace rsa := rsa.below hb
    replace rx33 := rx33.below hb
    replace hB := hB.trans (hb.mono hB.size)
    clear hb
    refine hK _ _ ⟨P1, P26, P27⟩ ?_
    clear hK K
    refine Rd.tr_move (by simp only [List.getElem?_toArray, List.getElem?_cons_succ, List.getElem?_cons_zero]; rfl) rfl (by rfl) (fun K hK => ?_)
    have H39 := Lib.hid (Is_true (.slice x33.a x33.n x33.c) (.slice x36.a x36.n x36.c) (xa / ya) w38 rx33 rx36 (Nat.le_trans HLx33.out (by omega)))
    go_simp
    refine H39.out.mono ?_
    rintro e w40 ⟨rfl, hb⟩
    clear H39
    replace P1 := P1.below hb
    replace P26 := P26.below hb
    replace P27 := P27.below hb
    replace rf1 := rf1.below hb
    replace rf2 := rf2.below hb
    replace rx8 := rx8.below hb
    replace rx9 := rx9.below hb
    replace rx12 := rx12.below hb
    replace rx13 := rx13.below hb
    replace rx18 := rx18.below hb
    replace rx19 := rx19.below hb
    replace rpa := rpa.below hb
    replace rqa := rqa.below hb
    replace rra := rra.below hb
    replace rsa := rsa.below hb
    replace rx33 := rx33.below hb
    replace rx36 := rx36.below hb
    replace hB := hB.trans (hb.mono hB.size)
    clear hb
    refine hK _ _ ⟨P1, P26, P27⟩ ?_
    clear hK K
    refine Rd.tr_float (.bool true) (by simp only [List.getElem?_toArray, List.getElem?_cons_succ, List.getElem?_cons_zero]; rfl) rfl (by rfl) (fun X _ => by go_simp) ?_
    simp only [Act.put, List.setIfInBounds_toArray, List.set_cons_succ, List.set_cons_zero]
    refine Rd.tr_float (.bool true) (by simp only [List.getElem?_toArray, List.getElem?_cons_succ, List.getElem?_cons_zero]; rfl) rfl (by rfl) (fun X _ => by go_simp) ?_
    simp only [Act.put, List.setIfInBounds_toArray, List.set_cons_succ, List.set_cons_zero]
    exact Rd.tr_end (⟨⟨_, rfl, rfl⟩, hB⟩)
  case next =>
    rintro a3 W ⟨⟨t, rfl, ht⟩, hB⟩
    go_wp2_with fail
    refine bodyPost_ret (v := .bool true) ?_ rfl ⟨rfl, hB⟩
    simp [results, Tryd.f3, go_sem, ht]

theorem ratioOf_any (f1 f2 : Sl) (l11 l12 : List Nat) (z : Int) (w : World) (rf1 : RA w f1 l11) (rf2 : RA w f2 l12) (S11 : Hid (SmallU l11)) (S12 : Hid (SmallU l12)) (hz0 : -9223372036854775808 ≤ z) (hz1 : z ≤ 9223372036854775807) :
    Calls Tryd.prog 3 #[.agg #[.slice f1.a f1.n f1.c, .slice f2.a f2.n f2.c], .int .i64 z] w fun e w' => e = .returned (.bool true) ∧ Below w.heap.size w w' := by
  have e1 := rf1.len
  have e2 := rf2.len
  by_cases h1 : f1.n ≤ 4
  · by_cases h2 : f2.n ≤ 4
    · have K1 : Hid (l11.length ≤ 1000000) := Lib.hid (by omega)
      have K2 : Hid (l12.length ≤ 1000000) := Lib.hid (by omega)
      cases g1 : goodB l11
      · exact of_d3 f1 f2 l11 l12 z w rf1 rf2 h1 h2 K1 (Lib.hid g1)
      · cases g2 : goodB l12
        · exact of_d4 f1 f2 l11 l12 z w rf1 rf2 h1 h2 K1 K2 (Lib.hid g1) (Lib.hid g2)
        · by_cases h3 : f2.n = 0
          · by_cases hs : 0 ≤ z
            · obtain ⟨n, rfl⟩ := Int.eq_ofNat_of_zero_le hs
              exact of_pz f1 f2 l11 l12 n w rf1 rf2 h1 h2 K1 K2 (Lib.hid g1) (Lib.hid g2) (Lib.hid (by omega)) (eq1 h3)
            · exact of_nz f1 f2 l11 l12 z w rf1 rf2 h1 h2 K1 K2 (Lib.hid g1) (Lib.hid g2) (Lib.hid (by omega)) (eq1 h3)
          · have hm : madeB l11 l12 = true := by
              have h4 : l12 ≠ [] := fun e => h3 (by rw [e2, e]; rfl)
              simp [madeB, g1, g2, h4, show l11.length ≤ 4 by omega, show l12.length ≤ 4 by omega]
            by_cases hs : 0 ≤ z
            · obtain ⟨n, rfl⟩ := Int.eq_ofNat_of_zero_le hs
              exact of_pm f1 f2 l11 l12 n w rf1 rf2 h1 h2 K1 K2 (Lib.hid g1) (Lib.hid g2) (Lib.hid (by omega)) S11 S12 (Lib.hid hm) (eq0 h3)
            · exact of_nm f1 f2 l11 l12 z w rf1 rf2 h1 h2 K1 K2 (Lib.hid g1) (Lib.hid g2) (Lib.hid (by omega)) S11 S12 (Lib.hid hm) (eq0 h3)
    · exact of_d2 f1 f2 l11 l12 z w rf1 rf2 h1 (by omega)
  · exact of_d1 f1 f2 l11 l12 z w rf1 rf2 (by omega)
end Go.Proofs.YtnfoblmfjldheaaDoor
