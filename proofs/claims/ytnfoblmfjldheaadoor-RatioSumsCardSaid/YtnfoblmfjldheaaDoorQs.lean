/-
  The walk of RatioSums: whatever the limbs, it answers true, and leaves all memory as it was. No condition.
-/
import Derived.Test.YtnfoblmfjldheaaDoorQi
namespace Go.Proofs.YtnfoblmfjldheaaDoor
open Go.RowKit Go.Dig Go.Shelf Go.Proofs

set_option maxRecDepth 100000 in
set_option maxHeartbeats 4000000 in
theorem sums_nn0 (f1 f2 g1 g2 : Sl) (l11 l12 l21 l22 : List Nat) (w : World) (rf1 : RA w f1 l11) (rf2 : RA w f2 l12) (rg1 : RA w g1 l21) (rg2 : RA w g2 l22)  (HM1 : Hid (madeB l11 l12 = false)) (HM2 : Hid (madeB l21 l22 = false)) (hf2 : ((f2.n : Int) == 0) = true) :
    Calls Tryd.prog 5 #[.agg #[.slice f1.a f1.n f1.c, .slice f2.a f2.n f2.c], .agg #[.slice g1.a g1.n g1.c, .slice g2.a g2.n g2.c]] w fun e w' => e = .returned (.bool true) ∧ Below w.heap.size w w' := by
  go_enter Tryd.func5, Tryd.ntmps5
  have hb : Below w.heap.size w ((w.alloc (.cells #[.slice f1.a f1.n f1.c, .slice f2.a f2.n f2.c] 24)).alloc (.cells #[.slice g1.a g1.n g1.c, .slice g2.a g2.n g2.c] 24)) := (((Below.refl _ _).alloc (Nat.le_refl _) _).alloc (by simp) _)
  replace rf1 := rf1.below hb
  replace rf2 := rf2.below hb
  replace rg1 := rg1.below hb
  replace rg2 := rg2.below hb
  have hB := hb
  have P1 : Pair ((w.alloc (.cells #[.slice f1.a f1.n f1.c, .slice f2.a f2.n f2.c] 24)).alloc (.cells #[.slice g1.a g1.n g1.c, .slice g2.a g2.n g2.c] 24)) (w.heap.size) 24 (.slice f1.a f1.n f1.c) (.slice f2.a f2.n f2.c) := by
    have h := (Pair.new w 24 (.slice f1.a f1.n f1.c) (.slice f2.a f2.n f2.c)).alloc (.cells #[.slice g1.a g1.n g1.c, .slice g2.a g2.n g2.c] 24)
    simpa only [World.size_alloc] using h
  have P2 : Pair ((w.alloc (.cells #[.slice f1.a f1.n f1.c, .slice f2.a f2.n f2.c] 24)).alloc (.cells #[.slice g1.a g1.n g1.c, .slice g2.a g2.n g2.c] 24)) (w.heap.size + 1) 24 (.slice g1.a g1.n g1.c) (.slice g2.a g2.n g2.c) := by
    have h := Pair.new (w.alloc (.cells #[.slice f1.a f1.n f1.c, .slice f2.a f2.n f2.c] 24)) 24 (.slice g1.a g1.n g1.c) (.slice g2.a g2.n g2.c)
    simpa only [World.size_alloc] using h
  clear hb
  have c0P1 := P1.c0
  have c1P1 := P1.c1
  have c0P2 := P2.c0
  have c1P2 := P2.c1
  have H3 := Lib.hid (made_false f1 f2 l11 l12 ((w.alloc (.cells #[.slice f1.a f1.n f1.c, .slice f2.a f2.n f2.c] 24)).alloc (.cells #[.slice g1.a g1.n g1.c, .slice g2.a g2.n g2.c] 24)) rf1 rf2 HM1)
  go_wp2_with fail
  clear c0P1 c1P1 c0P2 c1P2
  refine H3.out.mono ?_
  rintro e w4 ⟨rfl, hb⟩
  clear H3
  replace P1 := P1.below hb
  replace P2 := P2.below hb
  replace rf1 := rf1.below hb
  replace rf2 := rf2.below hb
  replace rg1 := rg1.below hb
  replace rg2 := rg2.below hb
  replace hB := hB.trans (hb.mono hB.size)
  clear hb
  have hb : Below w4.heap.size w4 ((w4.alloc (.cells #[.slice none 0 0, .slice none 0 0] 30)).alloc (.cells #[.slice none 0 0, .slice none 0 0] 35)) := (((Below.refl _ _).alloc (Nat.le_refl _) _).alloc (by simp) _)
  replace P1 := P1.below hb
  replace P2 := P2.below hb
  replace rf1 := rf1.below hb
  replace rf2 := rf2.below hb
  replace rg1 := rg1.below hb
  replace rg2 := rg2.below hb
  replace hB := hB.trans (hb.mono hB.size)
  have P5 : Pair ((w4.alloc (.cells #[.slice none 0 0, .slice none 0 0] 30)).alloc (.cells #[.slice none 0 0, .slice none 0 0] 35)) (w4.heap.size) 30 (.slice none 0 0) (.slice none 0 0) := by
    have h := (Pair.new w4 30 (.slice none 0 0) (.slice none 0 0)).alloc (.cells #[.slice none 0 0, .slice none 0 0] 35)
    simpa only [World.size_alloc] using h
  have P6 : Pair ((w4.alloc (.cells #[.slice none 0 0, .slice none 0 0] 30)).alloc (.cells #[.slice none 0 0, .slice none 0 0] 35)) (w4.heap.size + 1) 35 (.slice none 0 0) (.slice none 0 0) := by
    have h := Pair.new (w4.alloc (.cells #[.slice none 0 0, .slice none 0 0] 30)) 35 (.slice none 0 0) (.slice none 0 0)
    simpa only [World.size_alloc] using h
  clear hb
  have c0P1 := P1.c0
  have c1P1 := P1.c1
  have c0P2 := P2.c0
  have c1P2 := P2.c1
  have c0P5 := P5.c0
  have c1P5 := P5.c1
  have c0P6 := P6.c0
  have c1P6 := P6.c1
  have H7 := Lib.hid (made_false g1 g2 l21 l22 ((w4.alloc (.cells #[.slice none 0 0, .slice none 0 0] 30)).alloc (.cells #[.slice none 0 0, .slice none 0 0] 35)) rg1 rg2 HM2)
  go_wp2_with fail
  clear c0P1 c1P1 c0P2 c1P2 c0P5 c1P5 c0P6 c1P6
  refine H7.out.mono ?_
  rintro e w8 ⟨rfl, hb⟩
  clear H7
  replace P1 := P1.below hb
  replace P2 := P2.below hb
  replace P5 := P5.below hb
  replace P6 := P6.below hb
  replace rf1 := rf1.below hb
  replace rf2 := rf2.below hb
  replace rg1 := rg1.below hb
  replace rg2 := rg2.below hb
  replace hB := hB.trans (hb.mono hB.size)
  clear hb
  have hb : Below w8.heap.size w8 ((w8.alloc (.cells #[.slice none 0 0, .slice none 0 0] 30)).alloc (.cells #[.slice none 0 0, .slice none 0 0] 35)) := (((Below.refl _ _).alloc (Nat.le_refl _) _).alloc (by simp) _)
  replace P1 := P1.below hb
  replace P2 := P2.below hb
  replace P5 := P5.below hb
  replace P6 := P6.below hb
  replace rf1 := rf1.below hb
  replace rf2 := rf2.below hb
  replace rg1 := rg1.below hb
  replace rg2 := rg2.below hb
  replace hB := hB.trans (hb.mono hB.size)
  have P9 : Pair ((w8.alloc (.cells #[.slice none 0 0, .slice none 0 0] 30)).alloc (.cells #[.slice none 0 0, .slice none 0 0] 35)) (w8.heap.size) 30 (.slice none 0 0) (.slice none 0 0) := by
    have h := (Pair.new w8 30 (.slice none 0 0) (.slice none 0 0)).alloc (.cells #[.slice none 0 0, .slice none 0 0] 35)
    simpa only [World.size_alloc] using h
  have P10 : Pair ((w8.alloc (.cells #[.slice none 0 0, .slice none 0 0] 30)).alloc (.cells #[.slice none 0 0, .slice none 0 0] 35)) (w8.heap.size + 1) 35 (.slice none 0 0) (.slice none 0 0) := by
    have h := Pair.new (w8.alloc (.cells #[.slice none 0 0, .slice none 0 0] 30)) 35 (.slice none 0 0) (.slice none 0 0)
    simpa only [World.size_alloc] using h
  clear hb
  have c0P1 := P1.c0
  have c1P1 := P1.c1
  have c0P2 := P2.c0
  have c1P2 := P2.c1
  have c0P5 := P5.c0
  have c1P5 := P5.c1
  have c0P6 := P6.c0
  have c1P6 := P6.c1
  have c0P9 := P9.c0
  have c1P9 := P9.c1
  have c0P10 := P10.c0
  have c1P10 := P10.c1
  have H11 := Lib.hid (awake_any ((w8.alloc (.cells #[.slice none 0 0, .slice none 0 0] 30)).alloc (.cells #[.slice none 0 0, .slice none 0 0] 35)))
  go_wp2_with fail
  clear c0P1 c1P1 c0P2 c1P2 c0P5 c1P5 c0P6 c1P6 c0P9 c1P9 c0P10 c1P10
  refine H11.out.mono ?_
  rintro e w12 ⟨rfl, hb⟩
  clear H11
  replace P1 := P1.below hb
  replace P2 := P2.below hb
  replace P5 := P5.below hb
  replace P6 := P6.below hb
  replace P9 := P9.below hb
  replace P10 := P10.below hb
  replace rf1 := rf1.below hb
  replace rf2 := rf2.below hb
  replace rg1 := rg1.below hb
  replace rg2 := rg2.below hb
  replace hB := hB.trans (hb.mono hB.size)
  clear hb
  have c0P1 := P1.c0
  have c1P1 := P1.c1
  have c0P2 := P2.c0
  have c1P2 := P2.c1
  have c0P5 := P5.c0
  have c1P5 := P5.c1
  have c0P6 := P6.c0
  have c1P6 := P6.c1
  have c0P9 := P9.c0
  have c1P9 := P9.c1
  have c0P10 := P10.c0
  have c1P10 := P10.c1
  have H13 := Lib.hid (awake_any w12)
  go_wp2_with fail
  clear c0P1 c1P1 c0P2 c1P2 c0P5 c1P5 c0P6 c1P6 c0P9 c1P9 c0P10 c1P10
  refine H13.out.mono ?_
  rintro e w14 ⟨rfl, hb⟩
  clear H13
  replace P1 := P1.below hb
  replace P2 := P2.below hb
  replace P5 := P5.below hb
  replace P6 := P6.below hb
  replace P9 := P9.below hb
  replace P10 := P10.below hb
  replace rf1 := rf1.below hb
  replace rf2 := rf2.below hb
  replace rg1 := rg1.below hb
  replace rg2 := rg2.below hb
  replace hB := hB.trans (hb.mono hB.size)
  clear hb
  have c0P1 := P1.c0
  have c1P1 := P1.c1
  have c0P2 := P2.c0
  have c1P2 := P2.c1
  have c0P5 := P5.c0
  have c1P5 := P5.c1
  have c0P6 := P6.c0
  have c1P6 := P6.c1
  have c0P9 := P9.c0
  have c1P9 := P9.c1
  have c0P10 := P10.c0
  have c1P10 := P10.c1
  go_wp2_with fail
  go_ret
  exact ⟨rfl, hB⟩

set_option maxRecDepth 100000 in
set_option maxHeartbeats 4000000 in
theorem sums_nn1 (f1 f2 g1 g2 : Sl) (l11 l12 l21 l22 : List Nat) (w : World) (rf1 : RA w f1 l11) (rf2 : RA w f2 l12) (rg1 : RA w g1 l21) (rg2 : RA w g2 l22)  (HM1 : Hid (madeB l11 l12 = false)) (HM2 : Hid (madeB l21 l22 = false)) (hf2 : ((f2.n : Int) == 0) = false) (hg2 : ((g2.n : Int) == 0) = true) :
    Calls Tryd.prog 5 #[.agg #[.slice f1.a f1.n f1.c, .slice f2.a f2.n f2.c], .agg #[.slice g1.a g1.n g1.c, .slice g2.a g2.n g2.c]] w fun e w' => e = .returned (.bool true) ∧ Below w.heap.size w w' := by
  go_enter Tryd.func5, Tryd.ntmps5
  have hb : Below w.heap.size w ((w.alloc (.cells #[.slice f1.a f1.n f1.c, .slice f2.a f2.n f2.c] 24)).alloc (.cells #[.slice g1.a g1.n g1.c, .slice g2.a g2.n g2.c] 24)) := (((Below.refl _ _).alloc (Nat.le_refl _) _).alloc (by simp) _)
  replace rf1 := rf1.below hb
  replace rf2 := rf2.below hb
  replace rg1 := rg1.below hb
  replace rg2 := rg2.below hb
  have hB := hb
  have P1 : Pair ((w.alloc (.cells #[.slice f1.a f1.n f1.c, .slice f2.a f2.n f2.c] 24)).alloc (.cells #[.slice g1.a g1.n g1.c, .slice g2.a g2.n g2.c] 24)) (w.heap.size) 24 (.slice f1.a f1.n f1.c) (.slice f2.a f2.n f2.c) := by
    have h := (Pair.new w 24 (.slice f1.a f1.n f1.c) (.slice f2.a f2.n f2.c)).alloc (.cells #[.slice g1.a g1.n g1.c, .slice g2.a g2.n g2.c] 24)
    simpa only [World.size_alloc] using h
  have P2 : Pair ((w.alloc (.cells #[.slice f1.a f1.n f1.c, .slice f2.a f2.n f2.c] 24)).alloc (.cells #[.slice g1.a g1.n g1.c, .slice g2.a g2.n g2.c] 24)) (w.heap.size + 1) 24 (.slice g1.a g1.n g1.c) (.slice g2.a g2.n g2.c) := by
    have h := Pair.new (w.alloc (.cells #[.slice f1.a f1.n f1.c, .slice f2.a f2.n f2.c] 24)) 24 (.slice g1.a g1.n g1.c) (.slice g2.a g2.n g2.c)
    simpa only [World.size_alloc] using h
  clear hb
  have c0P1 := P1.c0
  have c1P1 := P1.c1
  have c0P2 := P2.c0
  have c1P2 := P2.c1
  have H3 := Lib.hid (made_false f1 f2 l11 l12 ((w.alloc (.cells #[.slice f1.a f1.n f1.c, .slice f2.a f2.n f2.c] 24)).alloc (.cells #[.slice g1.a g1.n g1.c, .slice g2.a g2.n g2.c] 24)) rf1 rf2 HM1)
  go_wp2_with fail
  clear c0P1 c1P1 c0P2 c1P2
  refine H3.out.mono ?_
  rintro e w4 ⟨rfl, hb⟩
  clear H3
  replace P1 := P1.below hb
  replace P2 := P2.below hb
  replace rf1 := rf1.below hb
  replace rf2 := rf2.below hb
  replace rg1 := rg1.below hb
  replace rg2 := rg2.below hb
  replace hB := hB.trans (hb.mono hB.size)
  clear hb
  have hb : Below w4.heap.size w4 ((w4.alloc (.cells #[.slice none 0 0, .slice none 0 0] 30)).alloc (.cells #[.slice none 0 0, .slice none 0 0] 35)) := (((Below.refl _ _).alloc (Nat.le_refl _) _).alloc (by simp) _)
  replace P1 := P1.below hb
  replace P2 := P2.below hb
  replace rf1 := rf1.below hb
  replace rf2 := rf2.below hb
  replace rg1 := rg1.below hb
  replace rg2 := rg2.below hb
  replace hB := hB.trans (hb.mono hB.size)
  have P5 : Pair ((w4.alloc (.cells #[.slice none 0 0, .slice none 0 0] 30)).alloc (.cells #[.slice none 0 0, .slice none 0 0] 35)) (w4.heap.size) 30 (.slice none 0 0) (.slice none 0 0) := by
    have h := (Pair.new w4 30 (.slice none 0 0) (.slice none 0 0)).alloc (.cells #[.slice none 0 0, .slice none 0 0] 35)
    simpa only [World.size_alloc] using h
  have P6 : Pair ((w4.alloc (.cells #[.slice none 0 0, .slice none 0 0] 30)).alloc (.cells #[.slice none 0 0, .slice none 0 0] 35)) (w4.heap.size + 1) 35 (.slice none 0 0) (.slice none 0 0) := by
    have h := Pair.new (w4.alloc (.cells #[.slice none 0 0, .slice none 0 0] 30)) 35 (.slice none 0 0) (.slice none 0 0)
    simpa only [World.size_alloc] using h
  clear hb
  have c0P1 := P1.c0
  have c1P1 := P1.c1
  have c0P2 := P2.c0
  have c1P2 := P2.c1
  have c0P5 := P5.c0
  have c1P5 := P5.c1
  have c0P6 := P6.c0
  have c1P6 := P6.c1
  have H7 := Lib.hid (made_false g1 g2 l21 l22 ((w4.alloc (.cells #[.slice none 0 0, .slice none 0 0] 30)).alloc (.cells #[.slice none 0 0, .slice none 0 0] 35)) rg1 rg2 HM2)
  go_wp2_with fail
  clear c0P1 c1P1 c0P2 c1P2 c0P5 c1P5 c0P6 c1P6
  refine H7.out.mono ?_
  rintro e w8 ⟨rfl, hb⟩
  clear H7
  replace P1 := P1.below hb
  replace P2 := P2.below hb
  replace P5 := P5.below hb
  replace P6 := P6.below hb
  replace rf1 := rf1.below hb
  replace rf2 := rf2.below hb
  replace rg1 := rg1.below hb
  replace rg2 := rg2.below hb
  replace hB := hB.trans (hb.mono hB.size)
  clear hb
  have hb : Below w8.heap.size w8 ((w8.alloc (.cells #[.slice none 0 0, .slice none 0 0] 30)).alloc (.cells #[.slice none 0 0, .slice none 0 0] 35)) := (((Below.refl _ _).alloc (Nat.le_refl _) _).alloc (by simp) _)
  replace P1 := P1.below hb
  replace P2 := P2.below hb
  replace P5 := P5.below hb
  replace P6 := P6.below hb
  replace rf1 := rf1.below hb
  replace rf2 := rf2.below hb
  replace rg1 := rg1.below hb
  replace rg2 := rg2.below hb
  replace hB := hB.trans (hb.mono hB.size)
  have P9 : Pair ((w8.alloc (.cells #[.slice none 0 0, .slice none 0 0] 30)).alloc (.cells #[.slice none 0 0, .slice none 0 0] 35)) (w8.heap.size) 30 (.slice none 0 0) (.slice none 0 0) := by
    have h := (Pair.new w8 30 (.slice none 0 0) (.slice none 0 0)).alloc (.cells #[.slice none 0 0, .slice none 0 0] 35)
    simpa only [World.size_alloc] using h
  have P10 : Pair ((w8.alloc (.cells #[.slice none 0 0, .slice none 0 0] 30)).alloc (.cells #[.slice none 0 0, .slice none 0 0] 35)) (w8.heap.size + 1) 35 (.slice none 0 0) (.slice none 0 0) := by
    have h := Pair.new (w8.alloc (.cells #[.slice none 0 0, .slice none 0 0] 30)) 35 (.slice none 0 0) (.slice none 0 0)
    simpa only [World.size_alloc] using h
  clear hb
  have c0P1 := P1.c0
  have c1P1 := P1.c1
  have c0P2 := P2.c0
  have c1P2 := P2.c1
  have c0P5 := P5.c0
  have c1P5 := P5.c1
  have c0P6 := P6.c0
  have c1P6 := P6.c1
  have c0P9 := P9.c0
  have c1P9 := P9.c1
  have c0P10 := P10.c0
  have c1P10 := P10.c1
  have H11 := Lib.hid (awake_any ((w8.alloc (.cells #[.slice none 0 0, .slice none 0 0] 30)).alloc (.cells #[.slice none 0 0, .slice none 0 0] 35)))
  go_wp2_with fail
  clear c0P1 c1P1 c0P2 c1P2 c0P5 c1P5 c0P6 c1P6 c0P9 c1P9 c0P10 c1P10
  refine H11.out.mono ?_
  rintro e w12 ⟨rfl, hb⟩
  clear H11
  replace P1 := P1.below hb
  replace P2 := P2.below hb
  replace P5 := P5.below hb
  replace P6 := P6.below hb
  replace P9 := P9.below hb
  replace P10 := P10.below hb
  replace rf1 := rf1.below hb
  replace rf2 := rf2.below hb
  replace rg1 := rg1.below hb
  replace rg2 := rg2.below hb
  replace hB := hB.trans (hb.mono hB.size)
  clear hb
  have c0P1 := P1.c0
  have c1P1 := P1.c1
  have c0P2 := P2.c0
  have c1P2 := P2.c1
  have c0P5 := P5.c0
  have c1P5 := P5.c1
  have c0P6 := P6.c0
  have c1P6 := P6.c1
  have c0P9 := P9.c0
  have c1P9 := P9.c1
  have c0P10 := P10.c0
  have c1P10 := P10.c1
  have H13 := Lib.hid (awake_any w12)
  go_wp2_with fail
  clear c0P1 c1P1 c0P2 c1P2 c0P5 c1P5 c0P6 c1P6 c0P9 c1P9 c0P10 c1P10
  refine H13.out.mono ?_
  rintro e w14 ⟨rfl, hb⟩
  clear H13
  replace P1 := P1.below hb
  replace P2 := P2.below hb
  replace P5 := P5.below hb
  replace P6 := P6.below hb
  replace P9 := P9.below hb
  replace P10 := P10.below hb
  replace rf1 := rf1.below hb
  replace rf2 := rf2.below hb
  replace rg1 := rg1.below hb
  replace rg2 := rg2.below hb
  replace hB := hB.trans (hb.mono hB.size)
  clear hb
  have c0P1 := P1.c0
  have c1P1 := P1.c1
  have c0P2 := P2.c0
  have c1P2 := P2.c1
  have c0P5 := P5.c0
  have c1P5 := P5.c1
  have c0P6 := P6.c0
  have c1P6 := P6.c1
  have c0P9 := P9.c0
  have c1P9 := P9.c1
  have c0P10 := P10.c0
  have c1P10 := P10.c1
  go_wp2_with fail
  go_ret
  exact ⟨rfl, hB⟩

set_option maxRecDepth 100000 in
set_option maxHeartbeats 4000000 in
theorem sums_nn2 (f1 f2 g1 g2 : Sl) (l11 l12 l21 l22 : List Nat) (w : World) (rf1 : RA w f1 l11) (rf2 : RA w f2 l12) (rg1 : RA w g1 l21) (rg2 : RA w g2 l22)  (HM1 : Hid (madeB l11 l12 = false)) (HM2 : Hid (madeB l21 l22 = false)) (hf2 : ((f2.n : Int) == 0) = false) (hg2 : ((g2.n : Int) == 0) = false) :
    Calls Tryd.prog 5 #[.agg #[.slice f1.a f1.n f1.c, .slice f2.a f2.n f2.c], .agg #[.slice g1.a g1.n g1.c, .slice g2.a g2.n g2.c]] w fun e w' => e = .returned (.bool true) ∧ Below w.heap.size w w' := by
  go_enter Tryd.func5, Tryd.ntmps5
  have hb : Below w.heap.size w ((w.alloc (.cells #[.slice f1.a f1.n f1.c, .slice f2.a f2.n f2.c] 24)).alloc (.cells #[.slice g1.a g1.n g1.c, .slice g2.a g2.n g2.c] 24)) := (((Below.refl _ _).alloc (Nat.le_refl _) _).alloc (by simp) _)
  replace rf1 := rf1.below hb
  replace rf2 := rf2.below hb
  replace rg1 := rg1.below hb
  replace rg2 := rg2.below hb
  have hB := hb
  have P1 : Pair ((w.alloc (.cells #[.slice f1.a f1.n f1.c, .slice f2.a f2.n f2.c] 24)).alloc (.cells #[.slice g1.a g1.n g1.c, .slice g2.a g2.n g2.c] 24)) (w.heap.size) 24 (.slice f1.a f1.n f1.c) (.slice f2.a f2.n f2.c) := by
    have h := (Pair.new w 24 (.slice f1.a f1.n f1.c) (.slice f2.a f2.n f2.c)).alloc (.cells #[.slice g1.a g1.n g1.c, .slice g2.a g2.n g2.c] 24)
    simpa only [World.size_alloc] using h
  have P2 : Pair ((w.alloc (.cells #[.slice f1.a f1.n f1.c, .slice f2.a f2.n f2.c] 24)).alloc (.cells #[.slice g1.a g1.n g1.c, .slice g2.a g2.n g2.c] 24)) (w.heap.size + 1) 24 (.slice g1.a g1.n g1.c) (.slice g2.a g2.n g2.c) := by
    have h := Pair.new (w.alloc (.cells #[.slice f1.a f1.n f1.c, .slice f2.a f2.n f2.c] 24)) 24 (.slice g1.a g1.n g1.c) (.slice g2.a g2.n g2.c)
    simpa only [World.size_alloc] using h
  clear hb
  have c0P1 := P1.c0
  have c1P1 := P1.c1
  have c0P2 := P2.c0
  have c1P2 := P2.c1
  have H3 := Lib.hid (made_false f1 f2 l11 l12 ((w.alloc (.cells #[.slice f1.a f1.n f1.c, .slice f2.a f2.n f2.c] 24)).alloc (.cells #[.slice g1.a g1.n g1.c, .slice g2.a g2.n g2.c] 24)) rf1 rf2 HM1)
  go_wp2_with fail
  clear c0P1 c1P1 c0P2 c1P2
  refine H3.out.mono ?_
  rintro e w4 ⟨rfl, hb⟩
  clear H3
  replace P1 := P1.below hb
  replace P2 := P2.below hb
  replace rf1 := rf1.below hb
  replace rf2 := rf2.below hb
  replace rg1 := rg1.below hb
  replace rg2 := rg2.below hb
  replace hB := hB.trans (hb.mono hB.size)
  clear hb
  have hb : Below w4.heap.size w4 ((w4.alloc (.cells #[.slice none 0 0, .slice none 0 0] 30)).alloc (.cells #[.slice none 0 0, .slice none 0 0] 35)) := (((Below.refl _ _).alloc (Nat.le_refl _) _).alloc (by simp) _)
  replace P1 := P1.below hb
  replace P2 := P2.below hb
  replace rf1 := rf1.below hb
  replace rf2 := rf2.below hb
  replace rg1 := rg1.below hb
  replace rg2 := rg2.below hb
  replace hB := hB.trans (hb.mono hB.size)
  have P5 : Pair ((w4.alloc (.cells #[.slice none 0 0, .slice none 0 0] 30)).alloc (.cells #[.slice none 0 0, .slice none 0 0] 35)) (w4.heap.size) 30 (.slice none 0 0) (.slice none 0 0) := by
    have h := (Pair.new w4 30 (.slice none 0 0) (.slice none 0 0)).alloc (.cells #[.slice none 0 0, .slice none 0 0] 35)
    simpa only [World.size_alloc] using h
  have P6 : Pair ((w4.alloc (.cells #[.slice none 0 0, .slice none 0 0] 30)).alloc (.cells #[.slice none 0 0, .slice none 0 0] 35)) (w4.heap.size + 1) 35 (.slice none 0 0) (.slice none 0 0) := by
    have h := Pair.new (w4.alloc (.cells #[.slice none 0 0, .slice none 0 0] 30)) 35 (.slice none 0 0) (.slice none 0 0)
    simpa only [World.size_alloc] using h
  clear hb
  have c0P1 := P1.c0
  have c1P1 := P1.c1
  have c0P2 := P2.c0
  have c1P2 := P2.c1
  have c0P5 := P5.c0
  have c1P5 := P5.c1
  have c0P6 := P6.c0
  have c1P6 := P6.c1
  have H7 := Lib.hid (made_false g1 g2 l21 l22 ((w4.alloc (.cells #[.slice none 0 0, .slice none 0 0] 30)).alloc (.cells #[.slice none 0 0, .slice none 0 0] 35)) rg1 rg2 HM2)
  go_wp2_with fail
  clear c0P1 c1P1 c0P2 c1P2 c0P5 c1P5 c0P6 c1P6
  refine H7.out.mono ?_
  rintro e w8 ⟨rfl, hb⟩
  clear H7
  replace P1 := P1.below hb
  replace P2 := P2.below hb
  replace P5 := P5.below hb
  replace P6 := P6.below hb
  replace rf1 := rf1.below hb
  replace rf2 := rf2.below hb
  replace rg1 := rg1.below hb
  replace rg2 := rg2.below hb
  replace hB := hB.trans (hb.mono hB.size)
  clear hb
  have hb : Below w8.heap.size w8 ((w8.alloc (.cells #[.slice none 0 0, .slice none 0 0] 30)).alloc (.cells #[.slice none 0 0, .slice none 0 0] 35)) := (((Below.refl _ _).alloc (Nat.le_refl _) _).alloc (by simp) _)
  replace P1 := P1.below hb
  replace P2 := P2.below hb
  replace P5 := P5.below hb
  replace P6 := P6.below hb
  replace rf1 := rf1.below hb
  replace rf2 := rf2.below hb
  replace rg1 := rg1.below hb
  replace rg2 := rg2.below hb
  replace hB := hB.trans (hb.mono hB.size)
  have P9 : Pair ((w8.alloc (.cells #[.slice none 0 0, .slice none 0 0] 30)).alloc (.cells #[.slice none 0 0, .slice none 0 0] 35)) (w8.heap.size) 30 (.slice none 0 0) (.slice none 0 0) := by
    have h := (Pair.new w8 30 (.slice none 0 0) (.slice none 0 0)).alloc (.cells #[.slice none 0 0, .slice none 0 0] 35)
    simpa only [World.size_alloc] using h
  have P10 : Pair ((w8.alloc (.cells #[.slice none 0 0, .slice none 0 0] 30)).alloc (.cells #[.slice none 0 0, .slice none 0 0] 35)) (w8.heap.size + 1) 35 (.slice none 0 0) (.slice none 0 0) := by
    have h := Pair.new (w8.alloc (.cells #[.slice none 0 0, .slice none 0 0] 30)) 35 (.slice none 0 0) (.slice none 0 0)
    simpa only [World.size_alloc] using h
  clear hb
  have c0P1 := P1.c0
  have c1P1 := P1.c1
  have c0P2 := P2.c0
  have c1P2 := P2.c1
  have c0P5 := P5.c0
  have c1P5 := P5.c1
  have c0P6 := P6.c0
  have c1P6 := P6.c1
  have c0P9 := P9.c0
  have c1P9 := P9.c1
  have c0P10 := P10.c0
  have c1P10 := P10.c1
  have H11 := Lib.hid (awake_any ((w8.alloc (.cells #[.slice none 0 0, .slice none 0 0] 30)).alloc (.cells #[.slice none 0 0, .slice none 0 0] 35)))
  go_wp2_with fail
  clear c0P1 c1P1 c0P2 c1P2 c0P5 c1P5 c0P6 c1P6 c0P9 c1P9 c0P10 c1P10
  refine H11.out.mono ?_
  rintro e w12 ⟨rfl, hb⟩
  clear H11
  replace P1 := P1.below hb
  replace P2 := P2.below hb
  replace P5 := P5.below hb
  replace P6 := P6.below hb
  replace P9 := P9.below hb
  replace P10 := P10.below hb
  replace rf1 := rf1.below hb
  replace rf2 := rf2.below hb
  replace rg1 := rg1.below hb
  replace rg2 := rg2.below hb
  replace hB := hB.trans (hb.mono hB.size)
  clear hb
  have c0P1 := P1.c0
  have c1P1 := P1.c1
  have c0P2 := P2.c0
  have c1P2 := P2.c1
  have c0P5 := P5.c0
  have c1P5 := P5.c1
  have c0P6 := P6.c0
  have c1P6 := P6.c1
  have c0P9 := P9.c0
  have c1P9 := P9.c1
  have c0P10 := P10.c0
  have c1P10 := P10.c1
  have H13 := Lib.hid (awake_any w12)
  go_wp2_with fail
  clear c0P1 c1P1 c0P2 c1P2 c0P5 c1P5 c0P6 c1P6 c0P9 c1P9 c0P10 c1P10
  refine H13.out.mono ?_
  rintro e w14 ⟨rfl, hb⟩
  clear H13
  replace P1 := P1.below hb
  replace P2 := P2.below hb
  replace P5 := P5.below hb
  replace P6 := P6.below hb
  replace P9 := P9.below hb
  replace P10 := P10.below hb
  replace rf1 := rf1.below hb
  replace rf2 := rf2.below hb
  replace rg1 := rg1.below hb
  replace rg2 := rg2.below hb
  replace hB := hB.trans (hb.mono hB.size)
  clear hb
  have c0P1 := P1.c0
  have c1P1 := P1.c1
  have c0P2 := P2.c0
  have c1P2 := P2.c1
  have c0P5 := P5.c0
  have c1P5 := P5.c1
  have c0P6 := P6.c0
  have c1P6 := P6.c1
  have c0P9 := P9.c0
  have c1P9 := P9.c1
  have c0P10 := P10.c0
  have c1P10 := P10.c1
  go_wp2_with fail
  go_ret
  exact ⟨rfl, hB⟩

set_option maxRecDepth 100000 in
set_option maxHeartbeats 4000000 in
theorem sums_ny0 (f1 f2 g1 g2 : Sl) (l11 l12 l21 l22 : List Nat) (w : World) (rf1 : RA w f1 l11) (rf2 : RA w f2 l12) (rg1 : RA w g1 l21) (rg2 : RA w g2 l22) (S21 : Hid (SmallU l21)) (S22 : Hid (SmallU l22)) (HM1 : Hid (madeB l11 l12 = false)) (HM2 : Hid (madeB l21 l22 = true)) (hf2 : ((f2.n : Int) == 0) = true) :
    Calls Tryd.prog 5 #[.agg #[.slice f1.a f1.n f1.c, .slice f2.a f2.n f2.c], .agg #[.slice g1.a g1.n g1.c, .slice g2.a g2.n g2.c]] w fun e w' => e = .returned (.bool true) ∧ Below w.heap.size w w' := by
  go_enter Tryd.func5, Tryd.ntmps5
  have hb : Below w.heap.size w ((w.alloc (.cells #[.slice f1.a f1.n f1.c, .slice f2.a f2.n f2.c] 24)).alloc (.cells #[.slice g1.a g1.n g1.c, .slice g2.a g2.n g2.c] 24)) := (((Below.refl _ _).alloc (Nat.le_refl _) _).alloc (by simp) _)
  replace rf1 := rf1.below hb
  replace rf2 := rf2.below hb
  replace rg1 := rg1.below hb
  replace rg2 := rg2.below hb
  have hB := hb
  have P1 : Pair ((w.alloc (.cells #[.slice f1.a f1.n f1.c, .slice f2.a f2.n f2.c] 24)).alloc (.cells #[.slice g1.a g1.n g1.c, .slice g2.a g2.n g2.c] 24)) (w.heap.size) 24 (.slice f1.a f1.n f1.c) (.slice f2.a f2.n f2.c) := by
    have h := (Pair.new w 24 (.slice f1.a f1.n f1.c) (.slice f2.a f2.n f2.c)).alloc (.cells #[.slice g1.a g1.n g1.c, .slice g2.a g2.n g2.c] 24)
    simpa only [World.size_alloc] using h
  have P2 : Pair ((w.alloc (.cells #[.slice f1.a f1.n f1.c, .slice f2.a f2.n f2.c] 24)).alloc (.cells #[.slice g1.a g1.n g1.c, .slice g2.a g2.n g2.c] 24)) (w.heap.size + 1) 24 (.slice g1.a g1.n g1.c) (.slice g2.a g2.n g2.c) := by
    have h := Pair.new (w.alloc (.cells #[.slice f1.a f1.n f1.c, .slice f2.a f2.n f2.c] 24)) 24 (.slice g1.a g1.n g1.c) (.slice g2.a g2.n g2.c)
    simpa only [World.size_alloc] using h
  clear hb
  have c0P1 := P1.c0
  have c1P1 := P1.c1
  have c0P2 := P2.c0
  have c1P2 := P2.c1
  have H3 := Lib.hid (made_false f1 f2 l11 l12 ((w.alloc (.cells #[.slice f1.a f1.n f1.c, .slice f2.a f2.n f2.c] 24)).alloc (.cells #[.slice g1.a g1.n g1.c, .slice g2.a g2.n g2.c] 24)) rf1 rf2 HM1)
  go_wp2_with fail
  clear c0P1 c1P1 c0P2 c1P2
  refine H3.out.mono ?_
  rintro e w4 ⟨rfl, hb⟩
  clear H3
  replace P1 := P1.below hb
  replace P2 := P2.below hb
  replace rf1 := rf1.below hb
  replace rf2 := rf2.below hb
  replace rg1 := rg1.below hb
  replace rg2 := rg2.below hb
  replace hB := hB.trans (hb.mono hB.size)
  clear hb
  have hb : Below w4.heap.size w4 ((w4.alloc (.cells #[.slice none 0 0, .slice none 0 0] 30)).alloc (.cells #[.slice none 0 0, .slice none 0 0] 35)) := (((Below.refl _ _).alloc (Nat.le_refl _) _).alloc (by simp) _)
  replace P1 := P1.below hb
  replace P2 := P2.below hb
  replace rf1 := rf1.below hb
  replace rf2 := rf2.below hb
  replace rg1 := rg1.below hb
  replace rg2 := rg2.below hb
  replace hB := hB.trans (hb.mono hB.size)
  have P5 : Pair ((w4.alloc (.cells #[.slice none 0 0, .slice none 0 0] 30)).alloc (.cells #[.slice none 0 0, .slice none 0 0] 35)) (w4.heap.size) 30 (.slice none 0 0) (.slice none 0 0) := by
    have h := (Pair.new w4 30 (.slice none 0 0) (.slice none 0 0)).alloc (.cells #[.slice none 0 0, .slice none 0 0] 35)
    simpa only [World.size_alloc] using h
  have P6 : Pair ((w4.alloc (.cells #[.slice none 0 0, .slice none 0 0] 30)).alloc (.cells #[.slice none 0 0, .slice none 0 0] 35)) (w4.heap.size + 1) 35 (.slice none 0 0) (.slice none 0 0) := by
    have h := Pair.new (w4.alloc (.cells #[.slice none 0 0, .slice none 0 0] 30)) 35 (.slice none 0 0) (.slice none 0 0)
    simpa only [World.size_alloc] using h
  clear hb
  have c0P1 := P1.c0
  have c1P1 := P1.c1
  have c0P2 := P2.c0
  have c1P2 := P2.c1
  have c0P5 := P5.c0
  have c1P5 := P5.c1
  have c0P6 := P6.c0
  have c1P6 := P6.c1
  have H7 := Lib.hid (made_true g1 g2 l21 l22 ((w4.alloc (.cells #[.slice none 0 0, .slice none 0 0] 30)).alloc (.cells #[.slice none 0 0, .slice none 0 0] 35)) rg1 rg2 S21 S22 HM2)
  go_wp2_with fail
  clear c0P1 c1P1 c0P2 c1P2 c0P5 c1P5 c0P6 c1P6
  refine H7.out.mono ?_
  rintro e w8 ⟨xb, yb, pb, qb, rb, sb, rfl, Lxb, Lyb, Hxb, rpb, rqb, rrb, rsb, hb⟩
  clear H7
  replace P1 := P1.below hb
  replace P2 := P2.below hb
  replace P5 := P5.below hb
  replace P6 := P6.below hb
  replace rf1 := rf1.below hb
  replace rf2 := rf2.below hb
  replace rg1 := rg1.below hb
  replace rg2 := rg2.below hb
  replace hB := hB.trans (hb.mono hB.size)
  clear hb
  have hb : Below w8.heap.size w8 ((w8.alloc (.cells #[.slice pb.a pb.n pb.c, .slice qb.a qb.n qb.c] 30)).alloc (.cells #[.slice rb.a rb.n rb.c, .slice sb.a sb.n sb.c] 35)) := (((Below.refl _ _).alloc (Nat.le_refl _) _).alloc (by simp) _)
  replace P1 := P1.below hb
  replace P2 := P2.below hb
  replace P5 := P5.below hb
  replace P6 := P6.below hb
  replace rf1 := rf1.below hb
  replace rf2 := rf2.below hb
  replace rg1 := rg1.below hb
  replace rg2 := rg2.below hb
  replace rpb := rpb.below hb
  replace rqb := rqb.below hb
  replace rrb := rrb.below hb
  replace rsb := rsb.below hb
  replace hB := hB.trans (hb.mono hB.size)
  have P9 : Pair ((w8.alloc (.cells #[.slice pb.a pb.n pb.c, .slice qb.a qb.n qb.c] 30)).alloc (.cells #[.slice rb.a rb.n rb.c, .slice sb.a sb.n sb.c] 35)) (w8.heap.size) 30 (.slice pb.a pb.n pb.c) (.slice qb.a qb.n qb.c) := by
    have h := (Pair.new w8 30 (.slice pb.a pb.n pb.c) (.slice qb.a qb.n qb.c)).alloc (.cells #[.slice rb.a rb.n rb.c, .slice sb.a sb.n sb.c] 35)
    simpa only [World.size_alloc] using h
  have P10 : Pair ((w8.alloc (.cells #[.slice pb.a pb.n pb.c, .slice qb.a qb.n qb.c] 30)).alloc (.cells #[.slice rb.a rb.n rb.c, .slice sb.a sb.n sb.c] 35)) (w8.heap.size + 1) 35 (.slice rb.a rb.n rb.c) (.slice sb.a sb.n sb.c) := by
    have h := Pair.new (w8.alloc (.cells #[.slice pb.a pb.n pb.c, .slice qb.a qb.n qb.c] 30)) 35 (.slice rb.a rb.n rb.c) (.slice sb.a sb.n sb.c)
    simpa only [World.size_alloc] using h
  clear hb
  have c0P1 := P1.c0
  have c1P1 := P1.c1
  have c0P2 := P2.c0
  have c1P2 := P2.c1
  have c0P5 := P5.c0
  have c1P5 := P5.c1
  have c0P6 := P6.c0
  have c1P6 := P6.c1
  have c0P9 := P9.c0
  have c1P9 := P9.c1
  have c0P10 := P10.c0
  have c1P10 := P10.c1
  have H11 := Lib.hid (awake_any ((w8.alloc (.cells #[.slice pb.a pb.n pb.c, .slice qb.a qb.n qb.c] 30)).alloc (.cells #[.slice rb.a rb.n rb.c, .slice sb.a sb.n sb.c] 35)))
  go_wp2_with fail
  clear c0P1 c1P1 c0P2 c1P2 c0P5 c1P5 c0P6 c1P6 c0P9 c1P9 c0P10 c1P10
  refine H11.out.mono ?_
  rintro e w12 ⟨rfl, hb⟩
  clear H11
  replace P1 := P1.below hb
  replace P2 := P2.below hb
  replace P5 := P5.below hb
  replace P6 := P6.below hb
  replace P9 := P9.below hb
  replace P10 := P10.below hb
  replace rf1 := rf1.below hb
  replace rf2 := rf2.below hb
  replace rg1 := rg1.below hb
  replace rg2 := rg2.below hb
  replace rpb := rpb.below hb
  replace rqb := rqb.below hb
  replace rrb := rrb.below hb
  replace rsb := rsb.below hb
  replace hB := hB.trans (hb.mono hB.size)
  clear hb
  have c0P1 := P1.c0
  have c1P1 := P1.c1
  have c0P2 := P2.c0
  have c1P2 := P2.c1
  have c0P5 := P5.c0
  have c1P5 := P5.c1
  have c0P6 := P6.c0
  have c1P6 := P6.c1
  have c0P9 := P9.c0
  have c1P9 := P9.c1
  have c0P10 := P10.c0
  have c1P10 := P10.c1
  have H13 := Lib.hid (awake_any w12)
  go_wp2_with fail
  clear c0P1 c1P1 c0P2 c1P2 c0P5 c1P5 c0P6 c1P6 c0P9 c1P9 c0P10 c1P10
  refine H13.out.mono ?_
  rintro e w14 ⟨rfl, hb⟩
  clear H13
  replace P1 := P1.below hb
  replace P2 := P2.below hb
  replace P5 := P5.below hb
  replace P6 := P6.below hb
  replace P9 := P9.below hb
  replace P10 := P10.below hb
  replace rf1 := rf1.below hb
  replace rf2 := rf2.below hb
  replace rg1 := rg1.below hb
  replace rg2 := rg2.below hb
  replace rpb := rpb.below hb
  replace rqb := rqb.below hb
  replace rrb := rrb.below hb
  replace rsb := rsb.below hb
  replace hB := hB.trans (hb.mono hB.size)
  clear hb
  have c0P1 := P1.c0
  have c1P1 := P1.c1
  have c0P2 := P2.c0
  have c1P2 := P2.c1
  have c0P5 := P5.c0
  have c1P5 := P5.c1
  have c0P6 := P6.c0
  have c1P6 := P6.c1
  have c0P9 := P9.c0
  have c1P9 := P9.c1
  have c0P10 := P10.c0
  have c1P10 := P10.c1
  go_wp2_with fail
  go_ret
  exact ⟨rfl, hB⟩

set_option maxRecDepth 100000 in
set_option maxHeartbeats 4000000 in
theorem sums_ny1 (f1 f2 g1 g2 : Sl) (l11 l12 l21 l22 : List Nat) (w : World) (rf1 : RA w f1 l11) (rf2 : RA w f2 l12) (rg1 : RA w g1 l21) (rg2 : RA w g2 l22) (S21 : Hid (SmallU l21)) (S22 : Hid (SmallU l22)) (HM1 : Hid (madeB l11 l12 = false)) (HM2 : Hid (madeB l21 l22 = true)) (hf2 : ((f2.n : Int) == 0) = false) (hg2 : ((g2.n : Int) == 0) = false) :
    Calls Tryd.prog 5 #[.agg #[.slice f1.a f1.n f1.c, .slice f2.a f2.n f2.c], .agg #[.slice g1.a g1.n g1.c, .slice g2.a g2.n g2.c]] w fun e w' => e = .returned (.bool true) ∧ Below w.heap.size w w' := by
  go_enter Tryd.func5, Tryd.ntmps5
  have hb : Below w.heap.size w ((w.alloc (.cells #[.slice f1.a f1.n f1.c, .slice f2.a f2.n f2.c] 24)).alloc (.cells #[.slice g1.a g1.n g1.c, .slice g2.a g2.n g2.c] 24)) := (((Below.refl _ _).alloc (Nat.le_refl _) _).alloc (by simp) _)
  replace rf1 := rf1.below hb
  replace rf2 := rf2.below hb
  replace rg1 := rg1.below hb
  replace rg2 := rg2.below hb
  have hB := hb
  have P1 : Pair ((w.alloc (.cells #[.slice f1.a f1.n f1.c, .slice f2.a f2.n f2.c] 24)).alloc (.cells #[.slice g1.a g1.n g1.c, .slice g2.a g2.n g2.c] 24)) (w.heap.size) 24 (.slice f1.a f1.n f1.c) (.slice f2.a f2.n f2.c) := by
    have h := (Pair.new w 24 (.slice f1.a f1.n f1.c) (.slice f2.a f2.n f2.c)).alloc (.cells #[.slice g1.a g1.n g1.c, .slice g2.a g2.n g2.c] 24)
    simpa only [World.size_alloc] using h
  have P2 : Pair ((w.alloc (.cells #[.slice f1.a f1.n f1.c, .slice f2.a f2.n f2.c] 24)).alloc (.cells #[.slice g1.a g1.n g1.c, .slice g2.a g2.n g2.c] 24)) (w.heap.size + 1) 24 (.slice g1.a g1.n g1.c) (.slice g2.a g2.n g2.c) := by
    have h := Pair.new (w.alloc (.cells #[.slice f1.a f1.n f1.c, .slice f2.a f2.n f2.c] 24)) 24 (.slice g1.a g1.n g1.c) (.slice g2.a g2.n g2.c)
    simpa only [World.size_alloc] using h
  clear hb
  have c0P1 := P1.c0
  have c1P1 := P1.c1
  have c0P2 := P2.c0
  have c1P2 := P2.c1
  have H3 := Lib.hid (made_false f1 f2 l11 l12 ((w.alloc (.cells #[.slice f1.a f1.n f1.c, .slice f2.a f2.n f2.c] 24)).alloc (.cells #[.slice g1.a g1.n g1.c, .slice g2.a g2.n g2.c] 24)) rf1 rf2 HM1)
  go_wp2_with fail
  clear c0P1 c1P1 c0P2 c1P2
  refine H3.out.mono ?_
  rintro e w4 ⟨rfl, hb⟩
  clear H3
  replace P1 := P1.below hb
  replace P2 := P2.below hb
  replace rf1 := rf1.below hb
  replace rf2 := rf2.below hb
  replace rg1 := rg1.below hb
  replace rg2 := rg2.below hb
  replace hB := hB.trans (hb.mono hB.size)
  clear hb
  have hb : Below w4.heap.size w4 ((w4.alloc (.cells #[.slice none 0 0, .slice none 0 0] 30)).alloc (.cells #[.slice none 0 0, .slice none 0 0] 35)) := (((Below.refl _ _).alloc (Nat.le_refl _) _).alloc (by simp) _)
  replace P1 := P1.below hb
  replace P2 := P2.below hb
  replace rf1 := rf1.below hb
  replace rf2 := rf2.below hb
  replace rg1 := rg1.below hb
  replace rg2 := rg2.below hb
  replace hB := hB.trans (hb.mono hB.size)
  have P5 : Pair ((w4.alloc (.cells #[.slice none 0 0, .slice none 0 0] 30)).alloc (.cells #[.slice none 0 0, .slice none 0 0] 35)) (w4.heap.size) 30 (.slice none 0 0) (.slice none 0 0) := by
    have h := (Pair.new w4 30 (.slice none 0 0) (.slice none 0 0)).alloc (.cells #[.slice none 0 0, .slice none 0 0] 35)
    simpa only [World.size_alloc] using h
  have P6 : Pair ((w4.alloc (.cells #[.slice none 0 0, .slice none 0 0] 30)).alloc (.cells #[.slice none 0 0, .slice none 0 0] 35)) (w4.heap.size + 1) 35 (.slice none 0 0) (.slice none 0 0) := by
    have h := Pair.new (w4.alloc (.cells #[.slice none 0 0, .slice none 0 0] 30)) 35 (.slice none 0 0) (.slice none 0 0)
    simpa only [World.size_alloc] using h
  clear hb
  have c0P1 := P1.c0
  have c1P1 := P1.c1
  have c0P2 := P2.c0
  have c1P2 := P2.c1
  have c0P5 := P5.c0
  have c1P5 := P5.c1
  have c0P6 := P6.c0
  have c1P6 := P6.c1
  have H7 := Lib.hid (made_true g1 g2 l21 l22 ((w4.alloc (.cells #[.slice none 0 0, .slice none 0 0] 30)).alloc (.cells #[.slice none 0 0, .slice none 0 0] 35)) rg1 rg2 S21 S22 HM2)
  go_wp2_with fail
  clear c0P1 c1P1 c0P2 c1P2 c0P5 c1P5 c0P6 c1P6
  refine H7.out.mono ?_
  rintro e w8 ⟨xb, yb, pb, qb, rb, sb, rfl, Lxb, Lyb, Hxb, rpb, rqb, rrb, rsb, hb⟩
  clear H7
  replace P1 := P1.below hb
  replace P2 := P2.below hb
  replace P5 := P5.below hb
  replace P6 := P6.below hb
  replace rf1 := rf1.below hb
  replace rf2 := rf2.below hb
  replace rg1 := rg1.below hb
  replace rg2 := rg2.below hb
  replace hB := hB.trans (hb.mono hB.size)
  clear hb
  have hb : Below w8.heap.size w8 ((w8.alloc (.cells #[.slice pb.a pb.n pb.c, .slice qb.a qb.n qb.c] 30)).alloc (.cells #[.slice rb.a rb.n rb.c, .slice sb.a sb.n sb.c] 35)) := (((Below.refl _ _).alloc (Nat.le_refl _) _).alloc (by simp) _)
  replace P1 := P1.below hb
  replace P2 := P2.below hb
  replace P5 := P5.below hb
  replace P6 := P6.below hb
  replace rf1 := rf1.below hb
  replace rf2 := rf2.below hb
  replace rg1 := rg1.below hb
  replace rg2 := rg2.below hb
  replace rpb := rpb.below hb
  replace rqb := rqb.below hb
  replace rrb := rrb.below hb
  replace rsb := rsb.below hb
  replace hB := hB.trans (hb.mono hB.size)
  have P9 : Pair ((w8.alloc (.cells #[.slice pb.a pb.n pb.c, .slice qb.a qb.n qb.c] 30)).alloc (.cells #[.slice rb.a rb.n rb.c, .slice sb.a sb.n sb.c] 35)) (w8.heap.size) 30 (.slice pb.a pb.n pb.c) (.slice qb.a qb.n qb.c) := by
    have h := (Pair.new w8 30 (.slice pb.a pb.n pb.c) (.slice qb.a qb.n qb.c)).alloc (.cells #[.slice rb.a rb.n rb.c, .slice sb.a sb.n sb.c] 35)
    simpa only [World.size_alloc] using h
  have P10 : Pair ((w8.alloc (.cells #[.slice pb.a pb.n pb.c, .slice qb.a qb.n qb.c] 30)).alloc (.cells #[.slice rb.a rb.n rb.c, .slice sb.a sb.n sb.c] 35)) (w8.heap.size + 1) 35 (.slice rb.a rb.n rb.c) (.slice sb.a sb.n sb.c) := by
    have h := Pair.new (w8.alloc (.cells #[.slice pb.a pb.n pb.c, .slice qb.a qb.n qb.c] 30)) 35 (.slice rb.a rb.n rb.c) (.slice sb.a sb.n sb.c)
    simpa only [World.size_alloc] using h
  clear hb
  have c0P1 := P1.c0
  have c1P1 := P1.c1
  have c0P2 := P2.c0
  have c1P2 := P2.c1
  have c0P5 := P5.c0
  have c1P5 := P5.c1
  have c0P6 := P6.c0
  have c1P6 := P6.c1
  have c0P9 := P9.c0
  have c1P9 := P9.c1
  have c0P10 := P10.c0
  have c1P10 := P10.c1
  have H11 := Lib.hid (awake_any ((w8.alloc (.cells #[.slice pb.a pb.n pb.c, .slice qb.a qb.n qb.c] 30)).alloc (.cells #[.slice rb.a rb.n rb.c, .slice sb.a sb.n sb.c] 35)))
  go_wp2_with fail
  clear c0P1 c1P1 c0P2 c1P2 c0P5 c1P5 c0P6 c1P6 c0P9 c1P9 c0P10 c1P10
  refine H11.out.mono ?_
  rintro e w12 ⟨rfl, hb⟩
  clear H11
  replace P1 := P1.below hb
  replace P2 := P2.below hb
  replace P5 := P5.below hb
  replace P6 := P6.below hb
  replace P9 := P9.below hb
  replace P10 := P10.below hb
  replace rf1 := rf1.below hb
  replace rf2 := rf2.below hb
  replace rg1 := rg1.below hb
  replace rg2 := rg2.below hb
  replace rpb := rpb.below hb
  replace rqb := rqb.below hb
  replace rrb := rrb.below hb
  replace rsb := rsb.below hb
  replace hB := hB.trans (hb.mono hB.size)
  clear hb
  have c0P1 := P1.c0
  have c1P1 := P1.c1
  have c0P2 := P2.c0
  have c1P2 := P2.c1
  have c0P5 := P5.c0
  have c1P5 := P5.c1
  have c0P6 := P6.c0
  have c1P6 := P6.c1
  have c0P9 := P9.c0
  have c1P9 := P9.c1
  have c0P10 := P10.c0
  have c1P10 := P10.c1
  have H13 := Lib.hid (awake_any w12)
  go_wp2_with fail
  clear c0P1 c1P1 c0P2 c1P2 c0P5 c1P5 c0P6 c1P6 c0P9 c1P9 c0P10 c1P10
  refine H13.out.mono ?_
  rintro e w14 ⟨rfl, hb⟩
  clear H13
  replace P1 := P1.below hb
  replace P2 := P2.below hb
  replace P5 := P5.below hb
  replace P6 := P6.below hb
  replace P9 := P9.below hb
  replace P10 := P10.below hb
  replace rf1 := rf1.below hb
  replace rf2 := rf2.below hb
  replace rg1 := rg1.below hb
  replace rg2 := rg2.below hb
  replace rpb := rpb.below hb
  replace rqb := rqb.below hb
  replace rrb := rrb.below hb
  replace rsb := rsb.below hb
  replace hB := hB.trans (hb.mono hB.size)
  clear hb
  have c0P1 := P1.c0
  have c1P1 := P1.c1
  have c0P2 := P2.c0
  have c1P2 := P2.c1
  have c0P5 := P5.c0
  have c1P5 := P5.c1
  have c0P6 := P6.c0
  have c1P6 := P6.c1
  have c0P9 := P9.c0
  have c1P9 := P9.c1
  have c0P10 := P10.c0
  have c1P10 := P10.c1
  go_wp2_with fail
  go_ret
  exact ⟨rfl, hB⟩

set_option maxRecDepth 100000 in
set_option maxHeartbeats 4000000 in
theorem sums_yn0 (f1 f2 g1 g2 : Sl) (l11 l12 l21 l22 : List Nat) (w : World) (rf1 : RA w f1 l11) (rf2 : RA w f2 l12) (rg1 : RA w g1 l21) (rg2 : RA w g2 l22) (S11 : Hid (SmallU l11)) (S12 : Hid (SmallU l12)) (HM1 : Hid (madeB l11 l12 = true)) (HM2 : Hid (madeB l21 l22 = false)) (hf2 : ((f2.n : Int) == 0) = false) (hg2 : ((g2.n : Int) == 0) = true) :
    Calls Tryd.prog 5 #[.agg #[.slice f1.a f1.n f1.c, .slice f2.a f2.n f2.c], .agg #[.slice g1.a g1.n g1.c, .slice g2.a g2.n g2.c]] w fun e w' => e = .returned (.bool true) ∧ Below w.heap.size w w' := by
  go_enter Tryd.func5, Tryd.ntmps5
  have hb : Below w.heap.size w ((w.alloc (.cells #[.slice f1.a f1.n f1.c, .slice f2.a f2.n f2.c] 24)).alloc (.cells #[.slice g1.a g1.n g1.c, .slice g2.a g2.n g2.c] 24)) := (((Below.refl _ _).alloc (Nat.le_refl _) _).alloc (by simp) _)
  replace rf1 := rf1.below hb
  replace rf2 := rf2.below hb
  replace rg1 := rg1.below hb
  replace rg2 := rg2.below hb
  have hB := hb
  have P1 : Pair ((w.alloc (.cells #[.slice f1.a f1.n f1.c, .slice f2.a f2.n f2.c] 24)).alloc (.cells #[.slice g1.a g1.n g1.c, .slice g2.a g2.n g2.c] 24)) (w.heap.size) 24 (.slice f1.a f1.n f1.c) (.slice f2.a f2.n f2.c) := by
    have h := (Pair.new w 24 (.slice f1.a f1.n f1.c) (.slice f2.a f2.n f2.c)).alloc (.cells #[.slice g1.a g1.n g1.c, .slice g2.a g2.n g2.c] 24)
    simpa only [World.size_alloc] using h
  have P2 : Pair ((w.alloc (.cells #[.slice f1.a f1.n f1.c, .slice f2.a f2.n f2.c] 24)).alloc (.cells #[.slice g1.a g1.n g1.c, .slice g2.a g2.n g2.c] 24)) (w.heap.size + 1) 24 (.slice g1.a g1.n g1.c) (.slice g2.a g2.n g2.c) := by
    have h := Pair.new (w.alloc (.cells #[.slice f1.a f1.n f1.c, .slice f2.a f2.n f2.c] 24)) 24 (.slice g1.a g1.n g1.c) (.slice g2.a g2.n g2.c)
    simpa only [World.size_alloc] using h
  clear hb
  have c0P1 := P1.c0
  have c1P1 := P1.c1
  have c0P2 := P2.c0
  have c1P2 := P2.c1
  have H3 := Lib.hid (made_true f1 f2 l11 l12 ((w.alloc (.cells #[.slice f1.a f1.n f1.c, .slice f2.a f2.n f2.c] 24)).alloc (.cells #[.slice g1.a g1.n g1.c, .slice g2.a g2.n g2.c] 24)) rf1 rf2 S11 S12 HM1)
  go_wp2_with fail
  clear c0P1 c1P1 c0P2 c1P2
  refine H3.out.mono ?_
  rintro e w4 ⟨xa, ya, pa, qa, ra, sa, rfl, Lxa, Lya, Hxa, rpa, rqa, rra, rsa, hb⟩
  clear H3
  replace P1 := P1.below hb
  replace P2 := P2.below hb
  replace rf1 := rf1.below hb
  replace rf2 := rf2.below hb
  replace rg1 := rg1.below hb
  replace rg2 := rg2.below hb
  replace hB := hB.trans (hb.mono hB.size)
  clear hb
  have hb : Below w4.heap.size w4 ((w4.alloc (.cells #[.slice pa.a pa.n pa.c, .slice qa.a qa.n qa.c] 30)).alloc (.cells #[.slice ra.a ra.n ra.c, .slice sa.a sa.n sa.c] 35)) := (((Below.refl _ _).alloc (Nat.le_refl _) _).alloc (by simp) _)
  replace P1 := P1.below hb
  replace P2 := P2.below hb
  replace rf1 := rf1.below hb
  replace rf2 := rf2.below hb
  replace rg1 := rg1.below hb
  replace rg2 := rg2.below hb
  replace rpa := rpa.below hb
  replace rqa := rqa.below hb
  replace rra := rra.below hb
  replace rsa := rsa.below hb
  replace hB := hB.trans (hb.mono hB.size)
  have P5 : Pair ((w4.alloc (.cells #[.slice pa.a pa.n pa.c, .slice qa.a qa.n qa.c] 30)).alloc (.cells #[.slice ra.a ra.n ra.c, .slice sa.a sa.n sa.c] 35)) (w4.heap.size) 30 (.slice pa.a pa.n pa.c) (.slice qa.a qa.n qa.c) := by
    have h := (Pair.new w4 30 (.slice pa.a pa.n pa.c) (.slice qa.a qa.n qa.c)).alloc (.cells #[.slice ra.a ra.n ra.c, .slice sa.a sa.n sa.c] 35)
    simpa only [World.size_alloc] using h
  have P6 : Pair ((w4.alloc (.cells #[.slice pa.a pa.n pa.c, .slice qa.a qa.n qa.c] 30)).alloc (.cells #[.slice ra.a ra.n ra.c, .slice sa.a sa.n sa.c] 35)) (w4.heap.size + 1) 35 (.slice ra.a ra.n ra.c) (.slice sa.a sa.n sa.c) := by
    have h := Pair.new (w4.alloc (.cells #[.slice pa.a pa.n pa.c, .slice qa.a qa.n qa.c] 30)) 35 (.slice ra.a ra.n ra.c) (.slice sa.a sa.n sa.c)
    simpa only [World.size_alloc] using h
  clear hb
  have c0P1 := P1.c0
  have c1P1 := P1.c1
  have c0P2 := P2.c0
  have c1P2 := P2.c1
  have c0P5 := P5.c0
  have c1P5 := P5.c1
  have c0P6 := P6.c0
  have c1P6 := P6.c1
  have H7 := Lib.hid (made_false g1 g2 l21 l22 ((w4.alloc (.cells #[.slice pa.a pa.n pa.c, .slice qa.a qa.n qa.c] 30)).alloc (.cells #[.slice ra.a ra.n ra.c, .slice sa.a sa.n sa.c] 35)) rg1 rg2 HM2)
  go_wp2_with fail
  clear c0P1 c1P1 c0P2 c1P2 c0P5 c1P5 c0P6 c1P6
  refine H7.out.mono ?_
  rintro e w8 ⟨rfl, hb⟩
  clear H7
  replace P1 := P1.below hb
  replace P2 := P2.below hb
  replace P5 := P5.below hb
  replace P6 := P6.below hb
  replace rf1 := rf1.below hb
  replace rf2 := rf2.below hb
  replace rg1 := rg1.below hb
  replace rg2 := rg2.below hb
  replace rpa := rpa.below hb
  replace rqa := rqa.below hb
  replace rra := rra.below hb
  replace rsa := rsa.below hb
  replace hB := hB.trans (hb.mono hB.size)
  clear hb
  have hb : Below w8.heap.size w8 ((w8.alloc (.cells #[.slice none 0 0, .slice none 0 0] 30)).alloc (.cells #[.slice none 0 0, .slice none 0 0] 35)) := (((Below.refl _ _).alloc (Nat.le_refl _) _).alloc (by simp) _)
  replace P1 := P1.below hb
  replace P2 := P2.below hb
  replace P5 := P5.below hb
  replace P6 := P6.below hb
  replace rf1 := rf1.below hb
  replace rf2 := rf2.below hb
  replace rg1 := rg1.below hb
  replace rg2 := rg2.below hb
  replace rpa := rpa.below hb
  replace rqa := rqa.below hb
  replace rra := rra.below hb
  replace rsa := rsa.below hb
  replace hB := hB.trans (hb.mono hB.size)
  have P9 : Pair ((w8.alloc (.cells #[.slice none 0 0, .slice none 0 0] 30)).alloc (.cells #[.slice none 0 0, .slice none 0 0] 35)) (w8.heap.size) 30 (.slice none 0 0) (.slice none 0 0) := by
    have h := (Pair.new w8 30 (.slice none 0 0) (.slice none 0 0)).alloc (.cells #[.slice none 0 0, .slice none 0 0] 35)
    simpa only [World.size_alloc] using h
  have P10 : Pair ((w8.alloc (.cells #[.slice none 0 0, .slice none 0 0] 30)).alloc (.cells #[.slice none 0 0, .slice none 0 0] 35)) (w8.heap.size + 1) 35 (.slice none 0 0) (.slice none 0 0) := by
    have h := Pair.new (w8.alloc (.cells #[.slice none 0 0, .slice none 0 0] 30)) 35 (.slice none 0 0) (.slice none 0 0)
    simpa only [World.size_alloc] using h
  clear hb
  have c0P1 := P1.c0
  have c1P1 := P1.c1
  have c0P2 := P2.c0
  have c1P2 := P2.c1
  have c0P5 := P5.c0
  have c1P5 := P5.c1
  have c0P6 := P6.c0
  have c1P6 := P6.c1
  have c0P9 := P9.c0
  have c1P9 := P9.c1
  have c0P10 := P10.c0
  have c1P10 := P10.c1
  have H11 := Lib.hid (awake_any ((w8.alloc (.cells #[.slice none 0 0, .slice none 0 0] 30)).alloc (.cells #[.slice none 0 0, .slice none 0 0] 35)))
  go_wp2_with fail
  clear c0P1 c1P1 c0P2 c1P2 c0P5 c1P5 c0P6 c1P6 c0P9 c1P9 c0P10 c1P10
  refine H11.out.mono ?_
  rintro e w12 ⟨rfl, hb⟩
  clear H11
  replace P1 := P1.below hb
  replace P2 := P2.below hb
  replace P5 := P5.below hb
  replace P6 := P6.below hb
  replace P9 := P9.below hb
  replace P10 := P10.below hb
  replace rf1 := rf1.below hb
  replace rf2 := rf2.below hb
  replace rg1 := rg1.below hb
  replace rg2 := rg2.below hb
  replace rpa := rpa.below hb
  replace rqa := rqa.below hb
  replace rra := rra.below hb
  replace rsa := rsa.below hb
  replace hB := hB.trans (hb.mono hB.size)
  clear hb
  have c0P1 := P1.c0
  have c1P1 := P1.c1
  have c0P2 := P2.c0
  have c1P2 := P2.c1
  have c0P5 := P5.c0
  have c1P5 := P5.c1
  have c0P6 := P6.c0
  have c1P6 := P6.c1
  have c0P9 := P9.c0
  have c1P9 := P9.c1
  have c0P10 := P10.c0
  have c1P10 := P10.c1
  have H13 := Lib.hid (awake_any w12)
  go_wp2_with fail
  clear c0P1 c1P1 c0P2 c1P2 c0P5 c1P5 c0P6 c1P6 c0P9 c1P9 c0P10 c1P10
  refine H13.out.mono ?_
  rintro e w14 ⟨rfl, hb⟩
  clear H13
  replace P1 := P1.below hb
  replace P2 := P2.below hb
  replace P5 := P5.below hb
  replace P6 := P6.below hb
  replace P9 := P9.below hb
  replace P10 := P10.below hb
  replace rf1 := rf1.below hb
  replace rf2 := rf2.below hb
  replace rg1 := rg1.below hb
  replace rg2 := rg2.below hb
  replace rpa := rpa.below hb
  replace rqa := rqa.below hb
  replace rra := rra.below hb
  replace rsa := rsa.below hb
  replace hB := hB.trans (hb.mono hB.size)
  clear hb
  have c0P1 := P1.c0
  have c1P1 := P1.c1
  have c0P2 := P2.c0
  have c1P2 := P2.c1
  have c0P5 := P5.c0
  have c1P5 := P5.c1
  have c0P6 := P6.c0
  have c1P6 := P6.c1
  have c0P9 := P9.c0
  have c1P9 := P9.c1
  have c0P10 := P10.c0
  have c1P10 := P10.c1
  go_wp2_with fail
  go_ret
  exact ⟨rfl, hB⟩

set_option maxRecDepth 100000 in
set_option maxHeartbeats 4000000 in
theorem sums_yn1 (f1 f2 g1 g2 : Sl) (l11 l12 l21 l22 : List Nat) (w : World) (rf1 : RA w f1 l11) (rf2 : RA w f2 l12) (rg1 : RA w g1 l21) (rg2 : RA w g2 l22) (S11 : Hid (SmallU l11)) (S12 : Hid (SmallU l12)) (HM1 : Hid (madeB l11 l12 = true)) (HM2 : Hid (madeB l21 l22 = false)) (hf2 : ((f2.n : Int) == 0) = false) (hg2 : ((g2.n : Int) == 0) = false) :
    Calls Tryd.prog 5 #[.agg #[.slice f1.a f1.n f1.c, .slice f2.a f2.n f2.c], .agg #[.slice g1.a g1.n g1.c, .slice g2.a g2.n g2.c]] w fun e w' => e = .returned (.bool true) ∧ Below w.heap.size w w' := by
  go_enter Tryd.func5, Tryd.ntmps5
  have hb : Below w.heap.size w ((w.alloc (.cells #[.slice f1.a f1.n f1.c, .slice f2.a f2.n f2.c] 24)).alloc (.cells #[.slice g1.a g1.n g1.c, .slice g2.a g2.n g2.c] 24)) := (((Below.refl _ _).alloc (Nat.le_refl _) _).alloc (by simp) _)
  replace rf1 := rf1.below hb
  replace rf2 := rf2.below hb
  replace rg1 := rg1.below hb
  replace rg2 := rg2.below hb
  have hB := hb
  have P1 : Pair ((w.alloc (.cells #[.slice f1.a f1.n f1.c, .slice f2.a f2.n f2.c] 24)).alloc (.cells #[.slice g1.a g1.n g1.c, .slice g2.a g2.n g2.c] 24)) (w.heap.size) 24 (.slice f1.a f1.n f1.c) (.slice f2.a f2.n f2.c) := by
    have h := (Pair.new w 24 (.slice f1.a f1.n f1.c) (.slice f2.a f2.n f2.c)).alloc (.cells #[.slice g1.a g1.n g1.c, .slice g2.a g2.n g2.c] 24)
    simpa only [World.size_alloc] using h
  have P2 : Pair ((w.alloc (.cells #[.slice f1.a f1.n f1.c, .slice f2.a f2.n f2.c] 24)).alloc (.cells #[.slice g1.a g1.n g1.c, .slice g2.a g2.n g2.c] 24)) (w.heap.size + 1) 24 (.slice g1.a g1.n g1.c) (.slice g2.a g2.n g2.c) := by
    have h := Pair.new (w.alloc (.cells #[.slice f1.a f1.n f1.c, .slice f2.a f2.n f2.c] 24)) 24 (.slice g1.a g1.n g1.c) (.slice g2.a g2.n g2.c)
    simpa only [World.size_alloc] using h
  clear hb
  have c0P1 := P1.c0
  have c1P1 := P1.c1
  have c0P2 := P2.c0
  have c1P2 := P2.c1
  have H3 := Lib.hid (made_true f1 f2 l11 l12 ((w.alloc (.cells #[.slice f1.a f1.n f1.c, .slice f2.a f2.n f2.c] 24)).alloc (.cells #[.slice g1.a g1.n g1.c, .slice g2.a g2.n g2.c] 24)) rf1 rf2 S11 S12 HM1)
  go_wp2_with fail
  clear c0P1 c1P1 c0P2 c1P2
  refine H3.out.mono ?_
  rintro e w4 ⟨xa, ya, pa, qa, ra, sa, rfl, Lxa, Lya, Hxa, rpa, rqa, rra, rsa, hb⟩
  clear H3
  replace P1 := P1.below hb
  replace P2 := P2.below hb
  replace rf1 := rf1.below hb
  replace rf2 := rf2.below hb
  replace rg1 := rg1.below hb
  replace rg2 := rg2.below hb
  replace hB := hB.trans (hb.mono hB.size)
  clear hb
  have hb : Below w4.heap.size w4 ((w4.alloc (.cells #[.slice pa.a pa.n pa.c, .slice qa.a qa.n qa.c] 30)).alloc (.cells #[.slice ra.a ra.n ra.c, .slice sa.a sa.n sa.c] 35)) := (((Below.refl _ _).alloc (Nat.le_refl _) _).alloc (by simp) _)
  replace P1 := P1.below hb
  replace P2 := P2.below hb
  replace rf1 := rf1.below hb
  replace rf2 := rf2.below hb
  replace rg1 := rg1.below hb
  replace rg2 := rg2.below hb
  replace rpa := rpa.below hb
  replace rqa := rqa.below hb
  replace rra := rra.below hb
  replace rsa := rsa.below hb
  replace hB := hB.trans (hb.mono hB.size)
  have P5 : Pair ((w4.alloc (.cells #[.slice pa.a pa.n pa.c, .slice qa.a qa.n qa.c] 30)).alloc (.cells #[.slice ra.a ra.n ra.c, .slice sa.a sa.n sa.c] 35)) (w4.heap.size) 30 (.slice pa.a pa.n pa.c) (.slice qa.a qa.n qa.c) := by
    have h := (Pair.new w4 30 (.slice pa.a pa.n pa.c) (.slice qa.a qa.n qa.c)).alloc (.cells #[.slice ra.a ra.n ra.c, .slice sa.a sa.n sa.c] 35)
    simpa only [World.size_alloc] using h
  have P6 : Pair ((w4.alloc (.cells #[.slice pa.a pa.n pa.c, .slice qa.a qa.n qa.c] 30)).alloc (.cells #[.slice ra.a ra.n ra.c, .slice sa.a sa.n sa.c] 35)) (w4.heap.size + 1) 35 (.slice ra.a ra.n ra.c) (.slice sa.a sa.n sa.c) := by
    have h := Pair.new (w4.alloc (.cells #[.slice pa.a pa.n pa.c, .slice qa.a qa.n qa.c] 30)) 35 (.slice ra.a ra.n ra.c) (.slice sa.a sa.n sa.c)
    simpa only [World.size_alloc] using h
  clear hb
  have c0P1 := P1.c0
  have c1P1 := P1.c1
  have c0P2 := P2.c0
  have c1P2 := P2.c1
  have c0P5 := P5.c0
  have c1P5 := P5.c1
  have c0P6 := P6.c0
  have c1P6 := P6.c1
  have H7 := Lib.hid (made_false g1 g2 l21 l22 ((w4.alloc (.cells #[.slice pa.a pa.n pa.c, .slice qa.a qa.n qa.c] 30)).alloc (.cells #[.slice ra.a ra.n ra.c, .slice sa.a sa.n sa.c] 35)) rg1 rg2 HM2)
  go_wp2_with fail
  clear c0P1 c1P1 c0P2 c1P2 c0P5 c1P5 c0P6 c1P6
  refine H7.out.mono ?_
  rintro e w8 ⟨rfl, hb⟩
  clear H7
  replace P1 := P1.below hb
  replace P2 := P2.below hb
  replace P5 := P5.below hb
  replace P6 := P6.below hb
  replace rf1 := rf1.below hb
  replace rf2 := rf2.below hb
  replace rg1 := rg1.below hb
  replace rg2 := rg2.below hb
  replace rpa := rpa.below hb
  replace rqa := rqa.below hb
  replace rra := rra.below hb
  replace rsa := rsa.below hb
  replace hB := hB.trans (hb.mono hB.size)
  clear hb
  have hb : Below w8.heap.size w8 ((w8.alloc (.cells #[.slice none 0 0, .slice none 0 0] 30)).alloc (.cells #[.slice none 0 0, .slice none 0 0] 35)) := (((Below.refl _ _).alloc (Nat.le_refl _) _).alloc (by simp) _)
  replace P1 := P1.below hb
  replace P2 := P2.below hb
  replace P5 := P5.below hb
  replace P6 := P6.below hb
  replace rf1 := rf1.below hb
  replace rf2 := rf2.below hb
  replace rg1 := rg1.below hb
  replace rg2 := rg2.below hb
  replace rpa := rpa.below hb
  replace rqa := rqa.below hb
  replace rra := rra.below hb
  replace rsa := rsa.below hb
  replace hB := hB.trans (hb.mono hB.size)
  have P9 : Pair ((w8.alloc (.cells #[.slice none 0 0, .slice none 0 0] 30)).alloc (.cells #[.slice none 0 0, .slice none 0 0] 35)) (w8.heap.size) 30 (.slice none 0 0) (.slice none 0 0) := by
    have h := (Pair.new w8 30 (.slice none 0 0) (.slice none 0 0)).alloc (.cells #[.slice none 0 0, .slice none 0 0] 35)
    simpa only [World.size_alloc] using h
  have P10 : Pair ((w8.alloc (.cells #[.slice none 0 0, .slice none 0 0] 30)).alloc (.cells #[.slice none 0 0, .slice none 0 0] 35)) (w8.heap.size + 1) 35 (.slice none 0 0) (.slice none 0 0) := by
    have h := Pair.new (w8.alloc (.cells #[.slice none 0 0, .slice none 0 0] 30)) 35 (.slice none 0 0) (.slice none 0 0)
    simpa only [World.size_alloc] using h
  clear hb
  have c0P1 := P1.c0
  have c1P1 := P1.c1
  have c0P2 := P2.c0
  have c1P2 := P2.c1
  have c0P5 := P5.c0
  have c1P5 := P5.c1
  have c0P6 := P6.c0
  have c1P6 := P6.c1
  have c0P9 := P9.c0
  have c1P9 := P9.c1
  have c0P10 := P10.c0
  have c1P10 := P10.c1
  have H11 := Lib.hid (awake_any ((w8.alloc (.cells #[.slice none 0 0, .slice none 0 0] 30)).alloc (.cells #[.slice none 0 0, .slice none 0 0] 35)))
  go_wp2_with fail
  clear c0P1 c1P1 c0P2 c1P2 c0P5 c1P5 c0P6 c1P6 c0P9 c1P9 c0P10 c1P10
  refine H11.out.mono ?_
  rintro e w12 ⟨rfl, hb⟩
  clear H11
  replace P1 := P1.below hb
  replace P2 := P2.below hb
  replace P5 := P5.below hb
  replace P6 := P6.below hb
  replace P9 := P9.below hb
  replace P10 := P10.below hb
  replace rf1 := rf1.below hb
  replace rf2 := rf2.below hb
  replace rg1 := rg1.below hb
  replace rg2 := rg2.below hb
  replace rpa := rpa.below hb
  replace rqa := rqa.below hb
  replace rra := rra.below hb
  replace rsa := rsa.below hb
  replace hB := hB.trans (hb.mono hB.size)
  clear hb
  have c0P1 := P1.c0
  have c1P1 := P1.c1
  have c0P2 := P2.c0
  have c1P2 := P2.c1
  have c0P5 := P5.c0
  have c1P5 := P5.c1
  have c0P6 := P6.c0
  have c1P6 := P6.c1
  have c0P9 := P9.c0
  have c1P9 := P9.c1
  have c0P10 := P10.c0
  have c1P10 := P10.c1
  have H13 := Lib.hid (awake_any w12)
  go_wp2_with fail
  clear c0P1 c1P1 c0P2 c1P2 c0P5 c1P5 c0P6 c1P6 c0P9 c1P9 c0P10 c1P10
  refine H13.out.mono ?_
  rintro e w14 ⟨rfl, hb⟩
  clear H13
  replace P1 := P1.below hb
  replace P2 := P2.below hb
  replace P5 := P5.below hb
  replace P6 := P6.below hb
  replace P9 := P9.below hb
  replace P10 := P10.below hb
  replace rf1 := rf1.below hb
  replace rf2 := rf2.below hb
  replace rg1 := rg1.below hb
  replace rg2 := rg2.below hb
  replace rpa := rpa.below hb
  replace rqa := rqa.below hb
  replace rra := rra.below hb
  replace rsa := rsa.below hb
  replace hB := hB.trans (hb.mono hB.size)
  clear hb
  have c0P1 := P1.c0
  have c1P1 := P1.c1
  have c0P2 := P2.c0
  have c1P2 := P2.c1
  have c0P5 := P5.c0
  have c1P5 := P5.c1
  have c0P6 := P6.c0
  have c1P6 := P6.c1
  have c0P9 := P9.c0
  have c1P9 := P9.c1
  have c0P10 := P10.c0
  have c1P10 := P10.c1
  go_wp2_with fail
  go_ret
  exact ⟨rfl, hB⟩

set_option maxRecDepth 100000 in
set_option maxHeartbeats 4000000 in
theorem sums_yy (f1 f2 g1 g2 : Sl) (l11 l12 l21 l22 : List Nat) (w : World) (rf1 : RA w f1 l11) (rf2 : RA w f2 l12) (rg1 : RA w g1 l21) (rg2 : RA w g2 l22) (S11 : Hid (SmallU l11)) (S12 : Hid (SmallU l12)) (S21 : Hid (SmallU l21)) (S22 : Hid (SmallU l22)) (HM1 : Hid (madeB l11 l12 = true)) (HM2 : Hid (madeB l21 l22 = true)) (hf2 : ((f2.n : Int) == 0) = false) (hg2 : ((g2.n : Int) == 0) = false) :
    Calls Tryd.prog 5 #[.agg #[.slice f1.a f1.n f1.c, .slice f2.a f2.n f2.c], .agg #[.slice g1.a g1.n g1.c, .slice g2.a g2.n g2.c]] w fun e w' => e = .returned (.bool true) ∧ Below w.heap.size w w' := by
  go_enter Tryd.func5, Tryd.ntmps5
  have hb : Below w.heap.size w ((w.alloc (.cells #[.slice f1.a f1.n f1.c, .slice f2.a f2.n f2.c] 24)).alloc (.cells #[.slice g1.a g1.n g1.c, .slice g2.a g2.n g2.c] 24)) := (((Below.refl _ _).alloc (Nat.le_refl _) _).alloc (by simp) _)
  replace rf1 := rf1.below hb
  replace rf2 := rf2.below hb
  replace rg1 := rg1.below hb
  replace rg2 := rg2.below hb
  have hB := hb
  have P1 : Pair ((w.alloc (.cells #[.slice f1.a f1.n f1.c, .slice f2.a f2.n f2.c] 24)).alloc (.cells #[.slice g1.a g1.n g1.c, .slice g2.a g2.n g2.c] 24)) (w.heap.size) 24 (.slice f1.a f1.n f1.c) (.slice f2.a f2.n f2.c) := by
    have h := (Pair.new w 24 (.slice f1.a f1.n f1.c) (.slice f2.a f2.n f2.c)).alloc (.cells #[.slice g1.a g1.n g1.c, .slice g2.a g2.n g2.c] 24)
    simpa only [World.size_alloc] using h
  have P2 : Pair ((w.alloc (.cells #[.slice f1.a f1.n f1.c, .slice f2.a f2.n f2.c] 24)).alloc (.cells #[.slice g1.a g1.n g1.c, .slice g2.a g2.n g2.c] 24)) (w.heap.size + 1) 24 (.slice g1.a g1.n g1.c) (.slice g2.a g2.n g2.c) := by
    have h := Pair.new (w.alloc (.cells #[.slice f1.a f1.n f1.c, .slice f2.a f2.n f2.c] 24)) 24 (.slice g1.a g1.n g1.c) (.slice g2.a g2.n g2.c)
    simpa only [World.size_alloc] using h
  clear hb
  have c0P1 := P1.c0
  have c1P1 := P1.c1
  have c0P2 := P2.c0
  have c1P2 := P2.c1
  have H3 := Lib.hid (made_true f1 f2 l11 l12 ((w.alloc (.cells #[.slice f1.a f1.n f1.c, .slice f2.a f2.n f2.c] 24)).alloc (.cells #[.slice g1.a g1.n g1.c, .slice g2.a g2.n g2.c] 24)) rf1 rf2 S11 S12 HM1)
  go_wp2_with fail
  clear c0P1 c1P1 c0P2 c1P2
  refine H3.out.mono ?_
  rintro e w4 ⟨xa, ya, pa, qa, ra, sa, rfl, Lxa, Lya, Hxa, rpa, rqa, rra, rsa, hb⟩
  clear H3
  replace P1 := P1.below hb
  replace P2 := P2.below hb
  replace rf1 := rf1.below hb
  replace rf2 := rf2.below hb
  replace rg1 := rg1.below hb
  replace rg2 := rg2.below hb
  replace hB := hB.trans (hb.mono hB.size)
  clear hb
  have hb : Below w4.heap.size w4 ((w4.alloc (.cells #[.slice pa.a pa.n pa.c, .slice qa.a qa.n qa.c] 30)).alloc (.cells #[.slice ra.a ra.n ra.c, .slice sa.a sa.n sa.c] 35)) := (((Below.refl _ _).alloc (Nat.le_refl _) _).alloc (by simp) _)
  replace P1 := P1.below hb
  replace P2 := P2.below hb
  replace rf1 := rf1.below hb
  replace rf2 := rf2.below hb
  replace rg1 := rg1.below hb
  replace rg2 := rg2.below hb
  replace rpa := rpa.below hb
  replace rqa := rqa.below hb
  replace rra := rra.below hb
  replace rsa := rsa.below hb
  replace hB := hB.trans (hb.mono hB.size)
  have P5 : Pair ((w4.alloc (.cells #[.slice pa.a pa.n pa.c, .slice qa.a qa.n qa.c] 30)).alloc (.cells #[.slice ra.a ra.n ra.c, .slice sa.a sa.n sa.c] 35)) (w4.heap.size) 30 (.slice pa.a pa.n pa.c) (.slice qa.a qa.n qa.c) := by
    have h := (Pair.new w4 30 (.slice pa.a pa.n pa.c) (.slice qa.a qa.n qa.c)).alloc (.cells #[.slice ra.a ra.n ra.c, .slice sa.a sa.n sa.c] 35)
    simpa only [World.size_alloc] using h
  have P6 : Pair ((w4.alloc (.cells #[.slice pa.a pa.n pa.c, .slice qa.a qa.n qa.c] 30)).alloc (.cells #[.slice ra.a ra.n ra.c, .slice sa.a sa.n sa.c] 35)) (w4.heap.size + 1) 35 (.slice ra.a ra.n ra.c) (.slice sa.a sa.n sa.c) := by
    have h := Pair.new (w4.alloc (.cells #[.slice pa.a pa.n pa.c, .slice qa.a qa.n qa.c] 30)) 35 (.slice ra.a ra.n ra.c) (.slice sa.a sa.n sa.c)
    simpa only [World.size_alloc] using h
  clear hb
  have c0P1 := P1.c0
  have c1P1 := P1.c1
  have c0P2 := P2.c0
  have c1P2 := P2.c1
  have c0P5 := P5.c0
  have c1P5 := P5.c1
  have c0P6 := P6.c0
  have c1P6 := P6.c1
  have H7 := Lib.hid (made_true g1 g2 l21 l22 ((w4.alloc (.cells #[.slice pa.a pa.n pa.c, .slice qa.a qa.n qa.c] 30)).alloc (.cells #[.slice ra.a ra.n ra.c, .slice sa.a sa.n sa.c] 35)) rg1 rg2 S21 S22 HM2)
  go_wp2_with fail
  clear c0P1 c1P1 c0P2 c1P2 c0P5 c1P5 c0P6 c1P6
  refine H7.out.mono ?_
  rintro e w8 ⟨xb, yb, pb, qb, rb, sb, rfl, Lxb, Lyb, Hxb, rpb, rqb, rrb, rsb, hb⟩
  clear H7
  replace P1 := P1.below hb
  replace P2 := P2.below hb
  replace P5 := P5.below hb
  replace P6 := P6.below hb
  replace rf1 := rf1.below hb
  replace rf2 := rf2.below hb
  replace rg1 := rg1.below hb
  replace rg2 := rg2.below hb
  replace rpa := rpa.below hb
  replace rqa := rqa.below hb
  replace rra := rra.below hb
  replace rsa := rsa.below hb
  replace hB := hB.trans (hb.mono hB.size)
  clear hb
  rcases Nat.lt_trichotomy (xa * yb) (xb * ya) with hc | hc | hc
  · skip
    have HC := Lib.hid (cmpZ_lt hc)
    have HLT := Lib.hid hc
    clear hc
    have hb : Below w8.heap.size w8 ((w8.alloc (.cells #[.slice pb.a pb.n pb.c, .slice qb.a qb.n qb.c] 30)).alloc (.cells #[.slice rb.a rb.n rb.c, .slice sb.a sb.n sb.c] 35)) := (((Below.refl _ _).alloc (Nat.le_refl _) _).alloc (by simp) _)
    replace P1 := P1.below hb
    replace P2 := P2.below hb
    replace P5 := P5.below hb
    replace P6 := P6.below hb
    replace rf1 := rf1.below hb
    replace rf2 := rf2.below hb
    replace rg1 := rg1.below hb
    replace rg2 := rg2.below hb
    replace rpa := rpa.below hb
    replace rqa := rqa.below hb
    replace rra := rra.below hb
    replace rsa := rsa.below hb
    replace rpb := rpb.below hb
    replace rqb := rqb.below hb
    replace rrb := rrb.below hb
    replace rsb := rsb.below hb
    replace hB := hB.trans (hb.mono hB.size)
    have P9 : Pair ((w8.alloc (.cells #[.slice pb.a pb.n pb.c, .slice qb.a qb.n qb.c] 30)).alloc (.cells #[.slice rb.a rb.n rb.c, .slice sb.a sb.n sb.c] 35)) (w8.heap.size) 30 (.slice pb.a pb.n pb.c) (.slice qb.a qb.n qb.c) := by
      have h := (Pair.new w8 30 (.slice pb.a pb.n pb.c) (.slice qb.a qb.n qb.c)).alloc (.cells #[.slice rb.a rb.n rb.c, .slice sb.a sb.n sb.c] 35)
      simpa only [World.size_alloc] using h
    have P10 : Pair ((w8.alloc (.cells #[.slice pb.a pb.n pb.c, .slice qb.a qb.n qb.c] 30)).alloc (.cells #[.slice rb.a rb.n rb.c, .slice sb.a sb.n sb.c] 35)) (w8.heap.size + 1) 35 (.slice rb.a rb.n rb.c) (.slice sb.a sb.n sb.c) := by
      have h := Pair.new (w8.alloc (.cells #[.slice pb.a pb.n pb.c, .slice qb.a qb.n qb.c] 30)) 35 (.slice rb.a rb.n rb.c) (.slice sb.a sb.n sb.c)
      simpa only [World.size_alloc] using h
    clear hb
    have c0P1 := P1.c0
    have c1P1 := P1.c1
    have c0P2 := P2.c0
    have c1P2 := P2.c1
    have c0P5 := P5.c0
    have c1P5 := P5.c1
    have c0P6 := P6.c0
    have c1P6 := P6.c1
    have c0P9 := P9.c0
    have c1P9 := P9.c1
    have c0P10 := P10.c0
    have c1P10 := P10.c1
    have H11 := Lib.hid (awake_any ((w8.alloc (.cells #[.slice pb.a pb.n pb.c, .slice qb.a qb.n qb.c] 30)).alloc (.cells #[.slice rb.a rb.n rb.c, .slice sb.a sb.n sb.c] 35)))
    go_wp2_with fail
    clear c0P1 c1P1 c0P2 c1P2 c0P5 c1P5 c0P6 c1P6 c0P9 c1P9 c0P10 c1P10
    refine H11.out.mono ?_
    rintro e w12 ⟨rfl, hb⟩
    clear H11
    replace P1 := P1.below hb
    replace P2 := P2.below hb
    replace P5 := P5.below hb
    replace P6 := P6.below hb
    replace P9 := P9.below hb
    replace P10 := P10.below hb
    replace rf1 := rf1.below hb
    replace rf2 := rf2.below hb
    replace rg1 := rg1.below hb
    replace rg2 := rg2.below hb
    replace rpa := rpa.below hb
    replace rqa := rqa.below hb
    replace rra := rra.below hb
    replace rsa := rsa.below hb
    replace rpb := rpb.below hb
    replace rqb := rqb.below hb
    replace rrb := rrb.below hb
    replace rsb := rsb.below hb
    replace hB := hB.trans (hb.mono hB.size)
    clear hb
    have c0P1 := P1.c0
    have c1P1 := P1.c1
    have c0P2 := P2.c0
    have c1P2 := P2.c1
    have c0P5 := P5.c0
    have c1P5 := P5.c1
    have c0P6 := P6.c0
    have c1P6 := P6.c1
    have c0P9 := P9.c0
    have c1P9 := P9.c1
    have c0P10 := P10.c0
    have c1P10 := P10.c1
    have H13 := Lib.hid (rqcmp_nat ra sa rb sb (xa) (ya) (xb) (yb) w12 rra rsa rrb rsb (Lib.hid (Nat.le_trans Lxa.out (by omega))) (Lib.hid (Nat.le_trans Lya.out (by omega))) (Lib.hid (Nat.le_trans Lxb.out (by omega))) (Lib.hid (Nat.le_trans Lyb.out (by omega))))
    rw [HC.out] at H13
    go_wp2_with fail
    clear c0P1 c1P1 c0P2 c1P2 c0P5 c1P5 c0P6 c1P6 c0P9 c1P9 c0P10 c1P10
    refine H13.out.mono ?_
    rintro e w14 ⟨rfl, hb⟩
    clear H13
    replace P1 := P1.below hb
    replace P2 := P2.below hb
    replace P5 := P5.below hb
    replace P6 := P6.below hb
    replace P9 := P9.below hb
    replace P10 := P10.below hb
    replace rf1 := rf1.below hb
    replace rf2 := rf2.below hb
    replace rg1 := rg1.below hb
    replace rg2 := rg2.below hb
    replace rpa := rpa.below hb
    replace rqa := rqa.below hb
    replace rra := rra.below hb
    replace rsa := rsa.below hb
    replace rpb := rpb.below hb
    replace rqb := rqb.below hb
    replace rrb := rrb.below hb
    replace rsb := rsb.below hb
    replace hB := hB.trans (hb.mono hB.size)
    clear hb
    have c0P1 := P1.c0
    have c1P1 := P1.c1
    have c0P2 := P2.c0
    have c1P2 := P2.c1
    have c0P5 := P5.c0
    have c1P5 := P5.c1
    have c0P6 := P6.c0
    have c1P6 := P6.c1
    have c0P9 := P9.c0
    have c1P9 := P9.c1
    have c0P10 := P10.c0
    have c1P10 := P10.c1
    have H15 := Lib.hid (qsub_less pa qa pb qb (xa) (ya) (xb) (yb) w14 rpa rqa rpb rqb (Lib.hid (Nat.le_trans Lxa.out (by omega))) (Lib.hid (Nat.le_trans Lya.out (by omega))) (Lib.hid (Nat.le_trans Lxb.out (by omega))) (Lib.hid (Nat.le_trans Lyb.out (by omega))) HLT)
    go_wp2_with fail
    clear c0P1 c1P1 c0P2 c1P2 c0P5 c1P5 c0P6 c1P6 c0P9 c1P9 c0P10 c1P10
    refine H15.out.mono ?_
    rintro e w16 ⟨rfl, hb⟩
    clear H15
    replace P1 := P1.below hb
    replace P2 := P2.below hb
    replace P5 := P5.below hb
    replace P6 := P6.below hb
    replace P9 := P9.below hb
    replace P10 := P10.below hb
    replace rf1 := rf1.below hb
    replace rf2 := rf2.below hb
    replace rg1 := rg1.below hb
    replace rg2 := rg2.below hb
    replace rpa := rpa.below hb
    replace rqa := rqa.below hb
    replace rra := rra.below hb
    replace rsa := rsa.below hb
    replace rpb := rpb.below hb
    replace rqb := rqb.below hb
    replace rrb := rrb.below hb
    replace rsb := rsb.below hb
    replace hB := hB.trans (hb.mono hB.size)
    clear hb
    have hb : Below w16.heap.size w16 (w16.alloc (.cells #[.slice none 0 0, .slice none 0 0] 30)) := ((Below.refl _ _).alloc (Nat.le_refl _) _)
    replace P1 := P1.below hb
    replace P2 := P2.below hb
    replace P5 := P5.below hb
    replace P6 := P6.below hb
    replace P9 := P9.below hb
    replace P10 := P10.below hb
    replace rf1 := rf1.below hb
    replace rf2 := rf2.below hb
    replace rg1 := rg1.below hb
    replace rg2 := rg2.below hb
    replace rpa := rpa.below hb
    replace rqa := rqa.below hb
    replace rra := rra.below hb
    replace rsa := rsa.below hb
    replace rpb := rpb.below hb
    replace rqb := rqb.below hb
    replace rrb := rrb.below hb
    replace rsb := rsb.below hb
    replace hB := hB.trans (hb.mono hB.size)
    have P17 : Pair (w16.alloc (.cells #[.slice none 0 0, .slice none 0 0] 30)) (w16.heap.size) 30 (.slice none 0 0) (.slice none 0 0) := by
      have h := Pair.new w16 30 (.slice none 0 0) (.slice none 0 0)
      simpa only [World.size_alloc] using h
    clear hb
    have c0P1 := P1.c0
    have c1P1 := P1.c1
    have c0P2 := P2.c0
    have c1P2 := P2.c1
    have c0P5 := P5.c0
    have c1P5 := P5.c1
    have c0P6 := P6.c0
    have c1P6 := P6.c1
    have c0P9 := P9.c0
    have c1P9 := P9.c1
    have c0P10 := P10.c0
    have c1P10 := P10.c1
    have c0P17 := P17.c0
    have c1P17 := P17.c1
    go_wp2_with fail
    clear c0P1 c1P1 c0P2 c1P2 c0P5 c1P5 c0P6 c1P6 c0P9 c1P9 c0P10 c1P10 c0P17 c1P17
    have hb : Below (w16.alloc (.cells #[.slice none 0 0, .slice none 0 0] 30)).heap.size (w16.alloc (.cells #[.slice none 0 0, .slice none 0 0] 30)) (w16.alloc (.cells #[.slice none 0 0, .slice none 0 0] 30)).drew := (Below.refl _ _).drew
    replace P1 := P1.below hb
    replace P2 := P2.below hb
    replace P5 := P5.below hb
    replace P6 := P6.below hb
    replace P9 := P9.below hb
    replace P10 := P10.below hb
    replace P17 := P17.below hb
    replace rf1 := rf1.below hb
    replace rf2 := rf2.below hb
    replace rg1 := rg1.below hb
    replace rg2 := rg2.below hb
    replace rpa := rpa.below hb
    replace rqa := rqa.below hb
    replace rra := rra.below hb
    replace rsa := rsa.below hb
    replace rpb := rpb.below hb
    replace rqb := rqb.below hb
    replace rrb := rrb.below hb
    replace rsb := rsb.below hb
    replace hB := hB.trans (hb.mono hB.size)
    clear hb
    refine Rd.regionT (fun X => Pair X (w.heap.size) 24 (.slice f1.a f1.n f1.c) (.slice f2.a f2.n f2.c) ∧ Pair X (w.heap.size + 1) 24 (.slice g1.a g1.n g1.c) (.slice g2.a g2.n g2.c) ∧ Pair X (w4.heap.size) 30 (.slice pa.a pa.n pa.c) (.slice qa.a qa.n qa.c) ∧ Pair X (w4.heap.size + 1) 35 (.slice ra.a ra.n ra.c) (.slice sa.a sa.n sa.c) ∧ Pair X (w8.heap.size) 30 (.slice pb.a pb.n pb.c) (.slice qb.a qb.n qb.c) ∧ Pair X (w8.heap.size + 1) 35 (.slice rb.a rb.n rb.c) (.slice sb.a sb.n sb.c) ∧ Pair X (w16.heap.size) 30 (.slice none 0 0) (.slice none 0 0)) [0, 1, 3, 4, 5, 6, 7, 9, 10, 13, 14] (.one 0 (.one 1 (.one 3 (.one 2 (.one 4 (.one 5 (.one 6 (.one 7 (.one 9 (.one 10 (.one 8 (.one 11 (.one 12 (.one 13 (.one 14 .done))))))))))))))) (fun ac W => ∃ (y58 y59 y60 y61 y62 y63 y64 y65 y66 y67 y68 y69 y70 y71 : Value), ac = { tmps := List.toArray (.agg #[.slice f1.a f1.n f1.c, .slice f2.a f2.n f2.c] :: .agg #[.slice g1.a g1.n g1.c, .slice g2.a g2.n g2.c] :: .pointer (some ⟨w.heap.size, 0, none⟩) :: .pointer (some ⟨w.heap.size + 1, 0, none⟩) :: .bool false :: .pointer (some ⟨w4.heap.size, 0, none⟩) :: .pointer (some ⟨w4.heap.size + 1, 0, none⟩) :: .bool true :: .pointer (some ⟨w8.heap.size, 0, none⟩) :: .pointer (some ⟨w8.heap.size + 1, 0, none⟩) :: .bool true :: .int .i64 (-1) :: .pointer (some ⟨w16.heap.size, 0, none⟩) :: .int .i64 14 :: .tuple #[.agg #[.slice pa.a pa.n pa.c, .slice qa.a qa.n qa.c], .agg #[.slice ra.a ra.n ra.c, .slice sa.a sa.n sa.c], .bool true] :: .agg #[.slice f1.a f1.n f1.c, .slice f2.a f2.n f2.c] :: .tuple #[.agg #[.slice pa.a pa.n pa.c, .slice qa.a qa.n qa.c], .agg #[.slice ra.a ra.n ra.c, .slice sa.a sa.n sa.c], .bool true] :: .agg #[.slice pa.a pa.n pa.c, .slice qa.a qa.n qa.c] :: .agg #[.slice ra.a ra.n ra.c, .slice sa.a sa.n sa.c] :: .bool true :: .tuple #[.agg #[.slice pb.a pb.n pb.c, .slice qb.a qb.n qb.c], .agg #[.slice rb.a rb.n rb.c, .slice sb.a sb.n sb.c], .bool true] :: .agg #[.slice g1.a g1.n g1.c, .slice g2.a g2.n g2.c] :: .tuple #[.agg #[.slice pb.a pb.n pb.c, .slice qb.a qb.n qb.c], .agg #[.slice rb.a rb.n rb.c, .slice sb.a sb.n sb.c], .bool true] :: .agg #[.slice pb.a pb.n pb.c, .slice qb.a qb.n qb.c] :: .agg #[.slice rb.a rb.n rb.c, .slice sb.a sb.n sb.c] :: .bool true :: .bool true :: .bool false :: .bool false :: .pointer (some ⟨w.heap.size, 1, none⟩) :: .slice f2.a f2.n f2.c :: .int .i64 (f2.n : Int) :: .bool false :: .bool false :: .bool false :: .pointer (some ⟨w.heap.size + 1, 1, none⟩) :: .slice g2.a g2.n g2.c :: .int .i64 (g2.n : Int) :: .bool false :: .bool false :: .bool false :: .bool true :: .bool false :: .bool false :: .bool false :: .bool true :: .bool false :: .bool false :: undef :: .agg #[.slice ra.a ra.n ra.c, .slice sa.a sa.n sa.c] :: .agg #[.slice rb.a rb.n rb.c, .slice sb.a sb.n sb.c] :: .int .i64 (-1) :: .tuple #[.agg #[.slice none 0 0, .slice none 0 0], .int .i64 14] :: .agg #[.slice pa.a pa.n pa.c, .slice qa.a qa.n qa.c] :: .agg #[.slice pb.a pb.n pb.c, .slice qb.a qb.n qb.c] :: .tuple #[.agg #[.slice none 0 0, .slice none 0 0], .int .i64 14] :: .agg #[.slice none 0 0, .slice none 0 0] :: .int .i64 14 :: y58 :: y59 :: y60 :: y61 :: y62 :: y63 :: y64 :: y65 :: y66 :: y67 :: y68 :: y69 :: y70 :: y71 :: .bool false :: undef :: undef :: undef :: undef :: undef :: undef :: undef :: undef :: undef :: undef :: undef :: undef :: undef :: undef :: undef :: undef :: undef :: undef :: undef :: undef :: undef :: undef :: undef :: undef :: undef :: undef :: undef :: undef :: undef :: []), defers := [] } ∧ Pair W (w.heap.size) 24 (.slice f1.a f1.n f1.c) (.slice f2.a f2.n f2.c) ∧ Pair W (w.heap.size + 1) 24 (.slice g1.a g1.n g1.c) (.slice g2.a g2.n g2.c) ∧ Pair W (w4.heap.size) 30 (.slice pa.a pa.n pa.c) (.slice qa.a qa.n qa.c) ∧ Pair W (w4.heap.size + 1) 35 (.slice ra.a ra.n ra.c) (.slice sa.a sa.n sa.c) ∧ Pair W (w8.heap.size) 30 (.slice pb.a pb.n pb.c) (.slice qb.a qb.n qb.c) ∧ Pair W (w8.heap.size + 1) 35 (.slice rb.a rb.n rb.c) (.slice sb.a sb.n sb.c) ∧ Pair W (w16.heap.size) 30 (.slice none 0 0) (.slice none 0 0) ∧ RA W f1 l11 ∧ RA W f2 l12 ∧ RA W g1 l21 ∧ RA W g2 l22 ∧ RU W pa xa ∧ RU W qa ya ∧ RD W ra xa ∧ RD W sa ya ∧ RU W pb xb ∧ RU W qb yb ∧ RD W rb xb ∧ RD W sb yb ∧ Below w.heap.size w W) (by kernel_rfl) (by kernel_rfl) (by kernel_rfl) ⟨P1, P2, P5, P6, P9, P10, P17⟩ ?tree ?next
    case tree =>
      generalize (w16.alloc (.cells #[.slice none 0 0, .slice none 0 0] 30)).drew = w18 at P1 P2 P5 P6 P9 P10 P17 rf1 rf2 rg1 rg2 rpa rqa rra rsa rpb rqb rrb rsb hB ⊢
      refine Rd.tr_float (.agg #[.slice pa.a pa.n pa.c, .slice qa.a qa.n qa.c]) (by simp only [List.getElem?_toArray, List.getElem?_cons_zero]; rfl) rfl (by rfl) (fun X hX => by have h0 := hX.2.2.1.c0; have h1 := hX.2.2.1.c1; go_simp) ?_
      simp only [Act.put, List.setIfInBounds_toArray, List.set_cons_succ, List.set_cons_zero]
      refine Rd.tr_float (.agg #[.slice pb.a pb.n pb.c, .slice qb.a qb.n qb.c]) (by simp only [List.getElem?_toArray, List.getElem?_cons_succ, List.getElem?_cons_zero]; rfl) rfl (by rfl) (fun X hX => by have h0 := hX.2.2.2.2.1.c0; have h1 := hX.2.2.2.2.1.c1; go_simp) ?_
      simp only [Act.put, List.setIfInBounds_toArray, List.set_cons_succ, List.set_cons_zero]
      refine Rd.tr_float (.int .i64 (-1)) (by simp only [List.getElem?_toArray, List.getElem?_cons_succ, List.getElem?_cons_zero]; rfl) rfl (by rfl) (fun X _ => by go_simp) ?_
      simp only [Act.put, List.setIfInBounds_toArray, List.set_cons_succ, List.set_cons_zero]
      refine Rd.tr_move (by simp only [List.getElem?_toArray, List.getElem?_cons_succ, List.getElem?_cons_zero]; rfl) rfl (by rfl) (fun K hK => ?_)
      have H19 := Lib.hid (qcmp_nat pa qa pb qb (xa) (ya) (xb) (yb) w18 rpa rqa rpb rqb (Lib.hid (Nat.le_trans Lxa.out (by omega))) (Lib.hid (Nat.le_trans Lya.out (by omega))) (Lib.hid (Nat.le_trans Lxb.out (by omega))) (Lib.hid (Nat.le_trans Lyb.out (by omega))))
      rw [HC.out] at H19
      go_simp
      refine H19.out.mono ?_
      rintro e w20 ⟨rfl, hb⟩
      clear H19
      replace P1 := P1.below hb
      replace P2 := P2.below hb
      replace P5 := P5.below hb
      replace P6 := P6.below hb
      replace P9 := P9.below hb
      replace P10 := P10.below hb
      replace P17 := P17.below hb
      replace rf1 := rf1.below hb
      replace rf2 := rf2.below hb
      replace rg1 := rg1.below hb
      replace rg2 := rg2.below hb
      replace rpa := rpa.below hb
      replace rqa := rqa.below hb
      replace rra := rra.below hb
      replace rsa := rsa.below hb
      replace rpb := rpb.below hb
      replace rqb := rqb.below hb
      replace rrb := rrb.below hb
      replace rsb := rsb.below hb
      replace hB := hB.trans (hb.mono hB.size)
      clear hb
      refine hK _ _ ⟨P1, P2, P5, P6, P9, P10, P17⟩ ?_
      clear hK K
      refine Rd.tr_float (.bool false) (by simp only [List.getElem?_toArray, List.getElem?_cons_succ, List.getElem?_cons_zero]; rfl) rfl (by rfl) (fun X _ => by go_simp) ?_
      simp only [Act.put, List.setIfInBounds_toArray, List.set_cons_succ, List.set_cons_zero]
      refine Rd.tr_float (.bool false) (by simp only [List.getElem?_toArray, List.getElem?_cons_succ, List.getElem?_cons_zero]; rfl) rfl (by rfl) (fun X _ => by go_simp) ?_
      simp only [Act.put, List.setIfInBounds_toArray, List.set_cons_succ, List.set_cons_zero]
      refine Rd.tr_float (.agg #[.slice pa.a pa.n pa.c, .slice qa.a qa.n qa.c]) (by simp only [List.getElem?_toArray, List.getElem?_cons_succ, List.getElem?_cons_zero]; rfl) rfl (by rfl) (fun X hX => by have h0 := hX.2.2.1.c0; have h1 := hX.2.2.1.c1; go_simp) ?_
      simp only [Act.put, List.setIfInBounds_toArray, List.set_cons_succ, List.set_cons_zero]
      refine Rd.tr_float (.agg #[.slice pb.a pb.n pb.c, .slice qb.a qb.n qb.c]) (by simp only [List.getElem?_toArray, List.getElem?_cons_succ, List.getElem?_cons_zero]; rfl) rfl (by rfl) (fun X hX => by have h0 := hX.2.2.2.2.1.c0; have h1 := hX.2.2.2.2.1.c1; go_simp) ?_
      simp only [Act.put, List.setIfInBounds_toArray, List.set_cons_succ, List.set_cons_zero]
      refine Rd.tr_float (.agg #[.slice ra.a ra.n ra.c, .slice sa.a sa.n sa.c]) (by simp only [List.getElem?_toArray, List.getElem?_cons_succ, List.getElem?_cons_zero]; rfl) rfl (by rfl) (fun X hX => by have h0 := hX.2.2.2.1.c0; have h1 := hX.2.2.2.1.c1; go_simp) ?_
      simp only [Act.put, List.setIfInBounds_toArray, List.set_cons_succ, List.set_cons_zero]
      refine Rd.tr_float (.agg #[.slice rb.a rb.n rb.c, .slice sb.a sb.n sb.c]) (by simp only [List.getElem?_toArray, List.getElem?_cons_succ, List.getElem?_cons_zero]; rfl) rfl (by rfl) (fun X hX => by have h0 := hX.2.2.2.2.2.1.c0; have h1 := hX.2.2.2.2.2.1.c1; go_simp) ?_
      simp only [Act.put, List.setIfInBounds_toArray, List.set_cons_succ, List.set_cons_zero]
      refine Rd.tr_move (by simp only [List.getElem?_toArray, List.getElem?_cons_succ, List.getElem?_cons_zero]; rfl) rfl (by rfl) (fun K hK => ?_)
      have H23 := Lib.hid (qadd_nat pa qa pb qb (xa) (ya) (xb) (yb) w20 rpa rqa rpb rqb (Lib.hid (Nat.le_trans Lxa.out (by omega))) (Lib.hid (Nat.le_trans Lya.out (by omega))) (Lib.hid (Nat.le_trans Lxb.out (by omega))) (Lib.hid (Nat.le_trans Lyb.out (by omega))) (Lib.hid (mul_ne Hxa.out.1 Hxb.out.1)))
      go_simp
      refine H23.out.mono ?_
      rintro e w24 ⟨x21, x22, rfl, rx21, rx22, hb⟩
      clear H23
      replace P1 := P1.below hb
      replace P2 := P2.below hb
      replace P5 := P5.below hb
      replace P6 := P6.below hb
      replace P9 := P9.below hb
      replace P10 := P10.below hb
      replace P17 := P17.below hb
      replace rf1 := rf1.below hb
      replace rf2 := rf2.below hb
      replace rg1 := rg1.below hb
      replace rg2 := rg2.below hb
      replace rpa := rpa.below hb
      replace rqa := rqa.below hb
      replace rra := rra.below hb
      replace rsa := rsa.below hb
      replace rpb := rpb.below hb
      replace rqb := rqb.below hb
      replace rrb := rrb.below hb
      replace rsb := rsb.below hb
      replace hB := hB.trans (hb.mono hB.size)
      clear hb
      have HLx21 : Hid ((L (((xa * yb) + (xb * ya)) / Nat.gcd ((xa * yb) + (xb * ya)) (ya * yb))).length ≤ 17) := Lib.hid (len_div_le (len_add_le (len_mul_le Lxa.out Lyb.out) (len_mul_le Lxb.out Lya.out)))
      have HLx22 : Hid ((L ((ya * yb) / Nat.gcd ((xa * yb) + (xb * ya)) (ya * yb))).length ≤ 8) := Lib.hid (len_div_le (len_mul_le Lya.out Lyb.out))
      refine hK _ _ ⟨P1, P2, P5, P6, P9, P10, P17⟩ ?_
      clear hK K
      refine Rd.tr_move (by simp only [List.getElem?_toArray, List.getElem?_cons_succ, List.getElem?_cons_zero]; rfl) rfl (by rfl) (fun K hK => ?_)
      have H27 := Lib.hid (rqadd_nat ra sa rb sb (xa) (ya) (xb) (yb) w24 rra rsa rrb rsb (Lib.hid (Nat.le_trans Lxa.out (by omega))) (Lib.hid (Nat.le_trans Lya.out (by omega))) (Lib.hid (Nat.le_trans Lxb.out (by omega))) (Lib.hid (Nat.le_trans Lyb.out (by omega))) (Lib.hid (mul_ne Hxa.out.1 Hxb.out.1)))
      go_simp
      refine H27.out.mono ?_
      rintro e w28 ⟨x25, x26, rfl, rx25, rx26, hb⟩
      clear H27
      replace P1 := P1.below hb
      replace P2 := P2.below hb
      replace P5 := P5.below hb
      replace P6 := P6.below hb
      replace P9 := P9.below hb
      replace P10 := P10.below hb
      replace P17 := P17.below hb
      replace rf1 := rf1.below hb
      replace rf2 := rf2.below hb
      replace rg1 := rg1.below hb
      replace rg2 := rg2.below hb
      replace rpa := rpa.below hb
      replace rqa := rqa.below hb
      replace rra := rra.below hb
      replace rsa := rsa.below hb
      replace rpb := rpb.below hb
      replace rqb := rqb.below hb
      replace rrb := rrb.below hb
      replace rsb := rsb.below hb
      replace rx21 := rx21.below hb
      replace rx22 := rx22.below hb
      replace hB := hB.trans (hb.mono hB.size)
      clear hb
      refine hK _ _ ⟨P1, P2, P5, P6, P9, P10, P17⟩ ?_
      clear hK K
      refine Rd.tr_move (by simp only [List.getElem?_toArray, List.getElem?_cons_succ, List.getElem?_cons_zero]; rfl) rfl (by rfl) (fun K hK => ?_)
      have H29 := Lib.hid (qis_nat x21 x22 x25 x26 (((xa * yb) + (xb * ya)) / Nat.gcd ((xa * yb) + (xb * ya)) (ya * yb)) ((ya * yb) / Nat.gcd ((xa * yb) + (xb * ya)) (ya * yb)) w28 rx21 rx22 rx25 rx26 (Lib.hid (Nat.le_trans HLx21.out (by omega))) (Lib.hid (Nat.le_trans HLx22.out (by omega))))
      go_simp
      refine H29.out.mono ?_
      rintro e w30 ⟨rfl, hb⟩
      clear H29
      replace P1 := P1.below hb
      replace P2 := P2.below hb
      replace P5 := P5.below hb
      replace P6 := P6.below hb
      replace P9 := P9.below hb
      replace P10 := P10.below hb
      replace P17 := P17.below hb
      replace rf1 := rf1.below hb
      replace rf2 := rf2.below hb
      replace rg1 := rg1.below hb
      replace rg2 := rg2.below hb
      replace rpa := rpa.below hb
      replace rqa := rqa.below hb
      replace rra := rra.below hb
      replace rsa := rsa.below hb
      replace rpb := rpb.below hb
      replace rqb := rqb.below hb
      replace rrb := rrb.below hb
      replace rsb := rsb.below hb
      replace rx21 := rx21.below hb
      replace rx22 := rx22.below hb
      replace rx25 := rx25.below hb
      replace rx26 := rx26.below hb
      replace hB := hB.trans (hb.mono hB.size)
      clear hb
      refine hK _ _ ⟨P1, P2, P5, P6, P9, P10, P17⟩ ?_
      clear hK K
      refine Rd.tr_float (.bool false) (by simp only [List.getElem?_toArray, List.getElem?_cons_succ, List.getElem?_cons_zero]; rfl) rfl (by rfl) (fun X _ => by go_simp) ?_
      simp only [Act.put, List.setIfInBounds_toArray, List.set_cons_succ, List.set_cons_zero]
      refine Rd.tr_float (.bool false) (by simp only [List.getElem?_toArray, List.getElem?_cons_succ, List.getElem?_cons_zero]; rfl) rfl (by rfl) (fun X _ => by go_simp) ?_
      simp only [Act.put, List.setIfInBounds_toArray, List.set_cons_succ, List.set_cons_zero]
      exact Rd.tr_end (⟨_, _, _, _, _, _, _, _, _, _, _, _, _, _, rfl, P1, P2, P5, P6, P9, P10, P17, rf1, rf2, rg1, rg2, rpa, rqa, rra, rsa, rpb, rqb, rrb, rsb, hB⟩)
    case next =>
      rintro a3 W ⟨y58, y59, y60, y61, y62, y63, y64, y65, y66, y67, y68, y69, y70, y71, rfl, P1, P2, P5, P6, P9, P10, P17, rf1, rf2, rg1, rg2, rpa, rqa, rra, rsa, rpb, rqb, rrb, rsb, hB⟩
      have c0P1 := P1.c0
      have c1P1 := P1.c1
      have c0P2 := P2.c0
      have c1P2 := P2.c1
      have c0P5 := P5.c0
      have c1P5 := P5.c1
      have c0P6 := P6.c0
      have c1P6 := P6.c1
      have c0P9 := P9.c0
      have c1P9 := P9.c1
      have c0P10 := P10.c0
      have c1P10 := P10.c1
      have c0P17 := P17.c0
      have c1P17 := P17.c1
      go_wp2_with fail
      go_ret
      exact ⟨rfl, hB⟩
  · skip
    have HC := Lib.hid (cmp_eq hc)
    have HLE : Hid (xb * ya ≤ xa * yb) := Lib.hid (by omega)
    clear hc
    have hb : Below w8.heap.size w8 ((w8.alloc (.cells #[.slice pb.a pb.n pb.c, .slice qb.a qb.n qb.c] 30)).alloc (.cells #[.slice rb.a rb.n rb.c, .slice sb.a sb.n sb.c] 35)) := (((Below.refl _ _).alloc (Nat.le_refl _) _).alloc (by simp) _)
    replace P1 := P1.below hb
    replace P2 := P2.below hb
    replace P5 := P5.below hb
    replace P6 := P6.below hb
    replace rf1 := rf1.below hb
    replace rf2 := rf2.below hb
    replace rg1 := rg1.below hb
    replace rg2 := rg2.below hb
    replace rpa := rpa.below hb
    replace rqa := rqa.below hb
    replace rra := rra.below hb
    replace rsa := rsa.below hb
    replace rpb := rpb.below hb
    replace rqb := rqb.below hb
    replace rrb := rrb.below hb
    replace rsb := rsb.below hb
    replace hB := hB.trans (hb.mono hB.size)
    have P9 : Pair ((w8.alloc (.cells #[.slice pb.a pb.n pb.c, .slice qb.a qb.n qb.c] 30)).alloc (.cells #[.slice rb.a rb.n rb.c, .slice sb.a sb.n sb.c] 35)) (w8.heap.size) 30 (.slice pb.a pb.n pb.c) (.slice qb.a qb.n qb.c) := by
      have h := (Pair.new w8 30 (.slice pb.a pb.n pb.c) (.slice qb.a qb.n qb.c)).alloc (.cells #[.slice rb.a rb.n rb.c, .slice sb.a sb.n sb.c] 35)
      simpa only [World.size_alloc] using h
    have P10 : Pair ((w8.alloc (.cells #[.slice pb.a pb.n pb.c, .slice qb.a qb.n qb.c] 30)).alloc (.cells #[.slice rb.a rb.n rb.c, .slice sb.a sb.n sb.c] 35)) (w8.heap.size + 1) 35 (.slice rb.a rb.n rb.c) (.slice sb.a sb.n sb.c) := by
      have h := Pair.new (w8.alloc (.cells #[.slice pb.a pb.n pb.c, .slice qb.a qb.n qb.c] 30)) 35 (.slice rb.a rb.n rb.c) (.slice sb.a sb.n sb.c)
      simpa only [World.size_alloc] using h
    clear hb
    have c0P1 := P1.c0
    have c1P1 := P1.c1
    have c0P2 := P2.c0
    have c1P2 := P2.c1
    have c0P5 := P5.c0
    have c1P5 := P5.c1
    have c0P6 := P6.c0
    have c1P6 := P6.c1
    have c0P9 := P9.c0
    have c1P9 := P9.c1
    have c0P10 := P10.c0
    have c1P10 := P10.c1
    have H31 := Lib.hid (awake_any ((w8.alloc (.cells #[.slice pb.a pb.n pb.c, .slice qb.a qb.n qb.c] 30)).alloc (.cells #[.slice rb.a rb.n rb.c, .slice sb.a sb.n sb.c] 35)))
    go_wp2_with fail
    clear c0P1 c1P1 c0P2 c1P2 c0P5 c1P5 c0P6 c1P6 c0P9 c1P9 c0P10 c1P10
    refine H31.out.mono ?_
    rintro e w32 ⟨rfl, hb⟩
    clear H31
    replace P1 := P1.below hb
    replace P2 := P2.below hb
    replace P5 := P5.below hb
    replace P6 := P6.below hb
    replace P9 := P9.below hb
    replace P10 := P10.below hb
    replace rf1 := rf1.below hb
    replace rf2 := rf2.below hb
    replace rg1 := rg1.below hb
    replace rg2 := rg2.below hb
    replace rpa := rpa.below hb
    replace rqa := rqa.below hb
    replace rra := rra.below hb
    replace rsa := rsa.below hb
    replace rpb := rpb.below hb
    replace rqb := rqb.below hb
    replace rrb := rrb.below hb
    replace rsb := rsb.below hb
    replace hB := hB.trans (hb.mono hB.size)
    clear hb
    have c0P1 := P1.c0
    have c1P1 := P1.c1
    have c0P2 := P2.c0
    have c1P2 := P2.c1
    have c0P5 := P5.c0
    have c1P5 := P5.c1
    have c0P6 := P6.c0
    have c1P6 := P6.c1
    have c0P9 := P9.c0
    have c1P9 := P9.c1
    have c0P10 := P10.c0
    have c1P10 := P10.c1
    have H33 := Lib.hid (rqcmp_nat ra sa rb sb (xa) (ya) (xb) (yb) w32 rra rsa rrb rsb (Lib.hid (Nat.le_trans Lxa.out (by omega))) (Lib.hid (Nat.le_trans Lya.out (by omega))) (Lib.hid (Nat.le_trans Lxb.out (by omega))) (Lib.hid (Nat.le_trans Lyb.out (by omega))))
    rw [HC.out] at H33
    go_wp2_with fail
    clear c0P1 c1P1 c0P2 c1P2 c0P5 c1P5 c0P6 c1P6 c0P9 c1P9 c0P10 c1P10
    refine H33.out.mono ?_
    rintro e w34 ⟨rfl, hb⟩
    clear H33
    replace P1 := P1.below hb
    replace P2 := P2.below hb
    replace P5 := P5.below hb
    replace P6 := P6.below hb
    replace P9 := P9.below hb
    replace P10 := P10.below hb
    replace rf1 := rf1.below hb
    replace rf2 := rf2.below hb
    replace rg1 := rg1.below hb
    replace rg2 := rg2.below hb
    replace rpa := rpa.below hb
    replace rqa := rqa.below hb
    replace rra := rra.below hb
    replace rsa := rsa.below hb
    replace rpb := rpb.below hb
    replace rqb := rqb.below hb
    replace rrb := rrb.below hb
    replace rsb := rsb.below hb
    replace hB := hB.trans (hb.mono hB.size)
    clear hb
    have c0P1 := P1.c0
    have c1P1 := P1.c1
    have c0P2 := P2.c0
    have c1P2 := P2.c1
    have c0P5 := P5.c0
    have c1P5 := P5.c1
    have c0P6 := P6.c0
    have c1P6 := P6.c1
    have c0P9 := P9.c0
    have c1P9 := P9.c1
    have c0P10 := P10.c0
    have c1P10 := P10.c1
    have H37 := Lib.hid (qsub_nat pa qa pb qb (xa) (ya) (xb) (yb) w34 rpa rqa rpb rqb (Lib.hid (Nat.le_trans Lxa.out (by omega))) (Lib.hid (Nat.le_trans Lya.out (by omega))) (Lib.hid (Nat.le_trans Lxb.out (by omega))) (Lib.hid (Nat.le_trans Lyb.out (by omega))) HLE (Lib.hid (mul_ne Hxa.out.1 Hxb.out.1)))
    go_wp2_with fail
    clear c0P1 c1P1 c0P2 c1P2 c0P5 c1P5 c0P6 c1P6 c0P9 c1P9 c0P10 c1P10
    refine H37.out.mono ?_
    rintro e w38 ⟨x35, x36, rfl, rx35, rx36, hb⟩
    clear H37
    replace P1 := P1.below hb
    replace P2 := P2.below hb
    replace P5 := P5.below hb
    replace P6 := P6.below hb
    replace P9 := P9.below hb
    replace P10 := P10.below hb
    replace rf1 := rf1.below hb
    replace rf2 := rf2.below hb
    replace rg1 := rg1.below hb
    replace rg2 := rg2.below hb
    replace rpa := rpa.below hb
    replace rqa := rqa.below hb
    replace rra := rra.below hb
    replace rsa := rsa.below hb
    replace rpb := rpb.below hb
    replace rqb := rqb.below hb
    replace rrb := rrb.below hb
    replace rsb := rsb.below hb
    replace hB := hB.trans (hb.mono hB.size)
    clear hb
    have HLx35 : Hid ((L (((xa * yb) - (xb * ya)) / Nat.gcd ((xa * yb) - (xb * ya)) (ya * yb))).length ≤ 8) := Lib.hid (len_div_le (len_sub_le (len_mul_le Lxa.out Lyb.out)))
    have HLx36 : Hid ((L ((ya * yb) / Nat.gcd ((xa * yb) - (xb * ya)) (ya * yb))).length ≤ 8) := Lib.hid (len_div_le (len_mul_le Lya.out Lyb.out))
    have hb : Below w38.heap.size w38 (w38.alloc (.cells #[.slice x35.a x35.n x35.c, .slice x36.a x36.n x36.c] 30)) := ((Below.refl _ _).alloc (Nat.le_refl _) _)
    replace P1 := P1.below hb
    replace P2 := P2.below hb
    replace P5 := P5.below hb
    replace P6 := P6.below hb
    replace P9 := P9.below hb
    replace P10 := P10.below hb
    replace rf1 := rf1.below hb
    replace rf2 := rf2.below hb
    replace rg1 := rg1.below hb
    replace rg2 := rg2.below hb
    replace rpa := rpa.below hb
    replace rqa := rqa.below hb
    replace rra := rra.below hb
    replace rsa := rsa.below hb
    replace rpb := rpb.below hb
    replace rqb := rqb.below hb
    replace rrb := rrb.below hb
    replace rsb := rsb.below hb
    replace rx35 := rx35.below hb
    replace rx36 := rx36.below hb
    replace hB := hB.trans (hb.mono hB.size)
    have P39 : Pair (w38.alloc (.cells #[.slice x35.a x35.n x35.c, .slice x36.a x36.n x36.c] 30)) (w38.heap.size) 30 (.slice x35.a x35.n x35.c) (.slice x36.a x36.n x36.c) := by
      have h := Pair.new w38 30 (.slice x35.a x35.n x35.c) (.slice x36.a x36.n x36.c)
      simpa only [World.size_alloc] using h
    clear hb
    have c0P1 := P1.c0
    have c1P1 := P1.c1
    have c0P2 := P2.c0
    have c1P2 := P2.c1
    have c0P5 := P5.c0
    have c1P5 := P5.c1
    have c0P6 := P6.c0
    have c1P6 := P6.c1
    have c0P9 := P9.c0
    have c1P9 := P9.c1
    have c0P10 := P10.c0
    have c1P10 := P10.c1
    have c0P39 := P39.c0
    have c1P39 := P39.c1
    go_wp2_with fail
    clear c0P1 c1P1 c0P2 c1P2 c0P5 c1P5 c0P6 c1P6 c0P9 c1P9 c0P10 c1P10 c0P39 c1P39
    have hb : Below (w38.alloc (.cells #[.slice x35.a x35.n x35.c, .slice x36.a x36.n x36.c] 30)).heap.size (w38.alloc (.cells #[.slice x35.a x35.n x35.c, .slice x36.a x36.n x36.c] 30)) (w38.alloc (.cells #[.slice x35.a x35.n x35.c, .slice x36.a x36.n x36.c] 30)).drew := (Below.refl _ _).drew
    replace P1 := P1.below hb
    replace P2 := P2.below hb
    replace P5 := P5.below hb
    replace P6 := P6.below hb
    replace P9 := P9.below hb
    replace P10 := P10.below hb
    replace P39 := P39.below hb
    replace rf1 := rf1.below hb
    replace rf2 := rf2.below hb
    replace rg1 := rg1.below hb
    replace rg2 := rg2.below hb
    replace rpa := rpa.below hb
    replace rqa := rqa.below hb
    replace rra := rra.below hb
    replace rsa := rsa.below hb
    replace rpb := rpb.below hb
    replace rqb := rqb.below hb
    replace rrb := rrb.below hb
    replace rsb := rsb.below hb
    replace rx35 := rx35.below hb
    replace rx36 := rx36.below hb
    replace hB := hB.trans (hb.mono hB.size)
    clear hb
    refine Rd.regionT (fun X => Pair X (w.heap.size) 24 (.slice f1.a f1.n f1.c) (.slice f2.a f2.n f2.c) ∧ Pair X (w.heap.size + 1) 24 (.slice g1.a g1.n g1.c) (.slice g2.a g2.n g2.c) ∧ Pair X (w4.heap.size) 30 (.slice pa.a pa.n pa.c) (.slice qa.a qa.n qa.c) ∧ Pair X (w4.heap.size + 1) 35 (.slice ra.a ra.n ra.c) (.slice sa.a sa.n sa.c) ∧ Pair X (w8.heap.size) 30 (.slice pb.a pb.n pb.c) (.slice qb.a qb.n qb.c) ∧ Pair X (w8.heap.size + 1) 35 (.slice rb.a rb.n rb.c) (.slice sb.a sb.n sb.c) ∧ Pair X (w38.heap.size) 30 (.slice x35.a x35.n x35.c) (.slice x36.a x36.n x36.c)) [0, 1, 3, 4, 5, 6, 7, 9, 10, 13, 14] (.one 0 (.one 1 (.one 3 (.one 2 (.one 4 (.one 5 (.one 6 (.one 7 (.one 9 (.one 10 (.one 8 (.one 11 (.one 12 (.one 13 (.one 14 .done))))))))))))))) (fun ac W => ∃ (y58 y59 y60 y61 y62 y63 y64 y65 y66 y67 y68 y69 y70 y71 : Value), ac = { tmps := List.toArray (.agg #[.slice f1.a f1.n f1.c, .slice f2.a f2.n f2.c] :: .agg #[.slice g1.a g1.n g1.c, .slice g2.a g2.n g2.c] :: .pointer (some ⟨w.heap.size, 0, none⟩) :: .pointer (some ⟨w.heap.size + 1, 0, none⟩) :: .bool false :: .pointer (some ⟨w4.heap.size, 0, none⟩) :: .pointer (some ⟨w4.heap.size + 1, 0, none⟩) :: .bool true :: .pointer (some ⟨w8.heap.size, 0, none⟩) :: .pointer (some ⟨w8.heap.size + 1, 0, none⟩) :: .bool true :: .int .i64 0 :: .pointer (some ⟨w38.heap.size, 0, none⟩) :: .int .i64 0 :: .tuple #[.agg #[.slice pa.a pa.n pa.c, .slice qa.a qa.n qa.c], .agg #[.slice ra.a ra.n ra.c, .slice sa.a sa.n sa.c], .bool true] :: .agg #[.slice f1.a f1.n f1.c, .slice f2.a f2.n f2.c] :: .tuple #[.agg #[.slice pa.a pa.n pa.c, .slice qa.a qa.n qa.c], .agg #[.slice ra.a ra.n ra.c, .slice sa.a sa.n sa.c], .bool true] :: .agg #[.slice pa.a pa.n pa.c, .slice qa.a qa.n qa.c] :: .agg #[.slice ra.a ra.n ra.c, .slice sa.a sa.n sa.c] :: .bool true :: .tuple #[.agg #[.slice pb.a pb.n pb.c, .slice qb.a qb.n qb.c], .agg #[.slice rb.a rb.n rb.c, .slice sb.a sb.n sb.c], .bool true] :: .agg #[.slice g1.a g1.n g1.c, .slice g2.a g2.n g2.c] :: .tuple #[.agg #[.slice pb.a pb.n pb.c, .slice qb.a qb.n qb.c], .agg #[.slice rb.a rb.n rb.c, .slice sb.a sb.n sb.c], .bool true] :: .agg #[.slice pb.a pb.n pb.c, .slice qb.a qb.n qb.c] :: .agg #[.slice rb.a rb.n rb.c, .slice sb.a sb.n sb.c] :: .bool true :: .bool true :: .bool false :: .bool false :: .pointer (some ⟨w.heap.size, 1, none⟩) :: .slice f2.a f2.n f2.c :: .int .i64 (f2.n : Int) :: .bool false :: .bool false :: .bool false :: .pointer (some ⟨w.heap.size + 1, 1, none⟩) :: .slice g2.a g2.n g2.c :: .int .i64 (g2.n : Int) :: .bool false :: .bool false :: .bool false :: .bool true :: .bool false :: .bool false :: .bool false :: .bool true :: .bool false :: .bool false :: undef :: .agg #[.slice ra.a ra.n ra.c, .slice sa.a sa.n sa.c] :: .agg #[.slice rb.a rb.n rb.c, .slice sb.a sb.n sb.c] :: .int .i64 0 :: .tuple #[.agg #[.slice x35.a x35.n x35.c, .slice x36.a x36.n x36.c], .int .i64 0] :: .agg #[.slice pa.a pa.n pa.c, .slice qa.a qa.n qa.c] :: .agg #[.slice pb.a pb.n pb.c, .slice qb.a qb.n qb.c] :: .tuple #[.agg #[.slice x35.a x35.n x35.c, .slice x36.a x36.n x36.c], .int .i64 0] :: .agg #[.slice x35.a x35.n x35.c, .slice x36.a x36.n x36.c] :: .int .i64 0 :: y58 :: y59 :: y60 :: y61 :: y62 :: y63 :: y64 :: y65 :: y66 :: y67 :: y68 :: y69 :: y70 :: y71 :: .bool false :: undef :: undef :: undef :: undef :: undef :: undef :: undef :: undef :: undef :: undef :: undef :: undef :: undef :: undef :: undef :: undef :: undef :: undef :: undef :: undef :: undef :: undef :: undef :: undef :: undef :: undef :: undef :: undef :: undef :: []), defers := [] } ∧ Pair W (w.heap.size) 24 (.slice f1.a f1.n f1.c) (.slice f2.a f2.n f2.c) ∧ Pair W (w.heap.size + 1) 24 (.slice g1.a g1.n g1.c) (.slice g2.a g2.n g2.c) ∧ Pair W (w4.heap.size) 30 (.slice pa.a pa.n pa.c) (.slice qa.a qa.n qa.c) ∧ Pair W (w4.heap.size + 1) 35 (.slice ra.a ra.n ra.c) (.slice sa.a sa.n sa.c) ∧ Pair W (w8.heap.size) 30 (.slice pb.a pb.n pb.c) (.slice qb.a qb.n qb.c) ∧ Pair W (w8.heap.size + 1) 35 (.slice rb.a rb.n rb.c) (.slice sb.a sb.n sb.c) ∧ Pair W (w38.heap.size) 30 (.slice x35.a x35.n x35.c) (.slice x36.a x36.n x36.c) ∧ RA W f1 l11 ∧ RA W f2 l12 ∧ RA W g1 l21 ∧ RA W g2 l22 ∧ RU W pa xa ∧ RU W qa ya ∧ RD W ra xa ∧ RD W sa ya ∧ RU W pb xb ∧ RU W qb yb ∧ RD W rb xb ∧ RD W sb yb ∧ RU W x35 (((xa * yb) - (xb * ya)) / Nat.gcd ((xa * yb) - (xb * ya)) (ya * yb)) ∧ RU W x36 ((ya * yb) / Nat.gcd ((xa * yb) - (xb * ya)) (ya * yb)) ∧ Below w.heap.size w W) (by kernel_rfl) (by kernel_rfl) (by kernel_rfl) ⟨P1, P2, P5, P6, P9, P10, P39⟩ ?tree ?next
    case tree =>
      generalize (w38.alloc (.cells #[.slice x35.a x35.n x35.c, .slice x36.a x36.n x36.c] 30)).drew = w40 at P1 P2 P5 P6 P9 P10 P39 rf1 rf2 rg1 rg2 rpa rqa rra rsa rpb rqb rrb rsb rx35 rx36 hB ⊢
      refine Rd.tr_float (.agg #[.slice pa.a pa.n pa.c, .slice qa.a qa.n qa.c]) (by simp only [List.getElem?_toArray, List.getElem?_cons_zero]; rfl) rfl (by rfl) (fun X hX => by have h0 := hX.2.2.1.c0; have h1 := hX.2.2.1.c1; go_simp) ?_
      simp only [Act.put, List.setIfInBounds_toArray, List.set_cons_succ, List.set_cons_zero]
      refine Rd.tr_float (.agg #[.slice pb.a pb.n pb.c, .slice qb.a qb.n qb.c]) (by simp only [List.getElem?_toArray, List.getElem?_cons_succ, List.getElem?_cons_zero]; rfl) rfl (by rfl) (fun X hX => by have h0 := hX.2.2.2.2.1.c0; have h1 := hX.2.2.2.2.1.c1; go_simp) ?_
      simp only [Act.put, List.setIfInBounds_toArray, List.set_cons_succ, List.set_cons_zero]
      refine Rd.tr_float (.int .i64 0) (by simp only [List.getElem?_toArray, List.getElem?_cons_succ, List.getElem?_cons_zero]; rfl) rfl (by rfl) (fun X _ => by go_simp) ?_
      simp only [Act.put, List.setIfInBounds_toArray, List.set_cons_succ, List.set_cons_zero]
      refine Rd.tr_move (by simp only [List.getElem?_toArray, List.getElem?_cons_succ, List.getElem?_cons_zero]; rfl) rfl (by rfl) (fun K hK => ?_)
      have H41 := Lib.hid (qcmp_nat pa qa pb qb (xa) (ya) (xb) (yb) w40 rpa rqa rpb rqb (Lib.hid (Nat.le_trans Lxa.out (by omega))) (Lib.hid (Nat.le_trans Lya.out (by omega))) (Lib.hid (Nat.le_trans Lxb.out (by omega))) (Lib.hid (Nat.le_trans Lyb.out (by omega))))
      rw [HC.out] at H41
      go_simp
      refine H41.out.mono ?_
      rintro e w42 ⟨rfl, hb⟩
      clear H41
      replace P1 := P1.below hb
      replace P2 := P2.below hb
      replace P5 := P5.below hb
      replace P6 := P6.below hb
      replace P9 := P9.below hb
      replace P10 := P10.below hb
      replace P39 := P39.below hb
      replace rf1 := rf1.below hb
      replace rf2 := rf2.below hb
      replace rg1 := rg1.below hb
      replace rg2 := rg2.below hb
      replace rpa := rpa.below hb
      replace rqa := rqa.below hb
      replace rra := rra.below hb
      replace rsa := rsa.below hb
      replace rpb := rpb.below hb
      replace rqb := rqb.below hb
      replace rrb := rrb.below hb
      replace rsb := rsb.below hb
      replace rx35 := rx35.below hb
      replace rx36 := rx36.below hb
      replace hB := hB.trans (hb.mono hB.size)
      clear hb
      refine hK _ _ ⟨P1, P2, P5, P6, P9, P10, P39⟩ ?_
      clear hK K
      refine Rd.tr_float (.bool false) (by simp only [List.getElem?_toArray, List.getElem?_cons_succ, List.getElem?_cons_zero]; rfl) rfl (by rfl) (fun X _ => by go_simp) ?_
      simp only [Act.put, List.setIfInBounds_toArray, List.set_cons_succ, List.set_cons_zero]
      refine Rd.tr_float (.bool false) (by simp only [List.getElem?_toArray, List.getElem?_cons_succ, List.getElem?_cons_zero]; rfl) rfl (by rfl) (fun X _ => by go_simp) ?_
      simp only [Act.put, List.setIfInBounds_toArray, List.set_cons_succ, List.set_cons_zero]
      refine Rd.tr_float (.agg #[.slice pa.a pa.n pa.c, .slice qa.a qa.n qa.c]) (by simp only [List.getElem?_toArray, List.getElem?_cons_succ, List.getElem?_cons_zero]; rfl) rfl (by rfl) (fun X hX => by have h0 := hX.2.2.1.c0; have h1 := hX.2.2.1.c1; go_simp) ?_
      simp only [Act.put, List.setIfInBounds_toArray, List.set_cons_succ, List.set_cons_zero]
      refine Rd.tr_float (.agg #[.slice pb.a pb.n pb.c, .slice qb.a qb.n qb.c]) (by simp only [List.getElem?_toArray, List.getElem?_cons_succ, List.getElem?_cons_zero]; rfl) rfl (by rfl) (fun X hX => by have h0 := hX.2.2.2.2.1.c0; have h1 := hX.2.2.2.2.1.c1; go_simp) ?_
      simp only [Act.put, List.setIfInBounds_toArray, List.set_cons_succ, List.set_cons_zero]
      refine Rd.tr_float (.agg #[.slice ra.a ra.n ra.c, .slice sa.a sa.n sa.c]) (by simp only [List.getElem?_toArray, List.getElem?_cons_succ, List.getElem?_cons_zero]; rfl) rfl (by rfl) (fun X hX => by have h0 := hX.2.2.2.1.c0; have h1 := hX.2.2.2.1.c1; go_simp) ?_
      simp only [Act.put, List.setIfInBounds_toArray, List.set_cons_succ, List.set_cons_zero]
      refine Rd.tr_float (.agg #[.slice rb.a rb.n rb.c, .slice sb.a sb.n sb.c]) (by simp only [List.getElem?_toArray, List.getElem?_cons_succ, List.getElem?_cons_zero]; rfl) rfl (by rfl) (fun X hX => by have h0 := hX.2.2.2.2.2.1.c0; have h1 := hX.2.2.2.2.2.1.c1; go_simp) ?_
      simp only [Act.put, List.setIfInBounds_toArray, List.set_cons_succ, List.set_cons_zero]
      refine Rd.tr_move (by simp only [List.getElem?_toArray, List.getElem?_cons_succ, List.getElem?_cons_zero]; rfl) rfl (by rfl) (fun K hK => ?_)
      have H45 := Lib.hid (qadd_nat pa qa pb qb (xa) (ya) (xb) (yb) w42 rpa rqa rpb rqb (Lib.hid (Nat.le_trans Lxa.out (by omega))) (Lib.hid (Nat.le_trans Lya.out (by omega))) (Lib.hid (Nat.le_trans Lxb.out (by omega))) (Lib.hid (Nat.le_trans Lyb.out (by omega))) (Lib.hid (mul_ne Hxa.out.1 Hxb.out.1)))
      go_simp
      refine H45.out.mono ?_
      rintro e w46 ⟨x43, x44, rfl, rx43, rx44, hb⟩
      clear H45
      replace P1 := P1.below hb
      replace P2 := P2.below hb
      replace P5 := P5.below hb
      replace P6 := P6.below hb
      replace P9 := P9.below hb
      replace P10 := P10.below hb
      replace P39 := P39.below hb
      replace rf1 := rf1.below hb
      replace rf2 := rf2.below hb
      replace rg1 := rg1.below hb
      replace rg2 := rg2.below hb
      replace rpa := rpa.below hb
      replace rqa := rqa.below hb
      replace rra := rra.below hb
      replace rsa := rsa.below hb
      replace rpb := rpb.below hb
      replace rqb := rqb.below hb
      replace rrb := rrb.below hb
      replace rsb := rsb.below hb
      replace rx35 := rx35.below hb
      replace rx36 := rx36.below hb
      replace hB := hB.trans (hb.mono hB.size)
      clear hb
      have HLx43 : Hid ((L (((xa * yb) + (xb * ya)) / Nat.gcd ((xa * yb) + (xb * ya)) (ya * yb))).length ≤ 17) := Lib.hid (len_div_le (len_add_le (len_mul_le Lxa.out Lyb.out) (len_mul_le Lxb.out Lya.out)))
      have HLx44 : Hid ((L ((ya * yb) / Nat.gcd ((xa * yb) + (xb * ya)) (ya * yb))).length ≤ 8) := Lib.hid (len_div_le (len_mul_le Lya.out Lyb.out))
      refine hK _ _ ⟨P1, P2, P5, P6, P9, P10, P39⟩ ?_
      clear hK K
      refine Rd.tr_move (by simp only [List.getElem?_toArray, List.getElem?_cons_succ, List.getElem?_cons_zero]; rfl) rfl (by rfl) (fun K hK => ?_)
      have H49 := Lib.hid (rqadd_nat ra sa rb sb (xa) (ya) (xb) (yb) w46 rra rsa rrb rsb (Lib.hid (Nat.le_trans Lxa.out (by omega))) (Lib.hid (Nat.le_trans Lya.out (by omega))) (Lib.hid (Nat.le_trans Lxb.out (by omega))) (Lib.hid (Nat.le_trans Lyb.out (by omega))) (Lib.hid (mul_ne Hxa.out.1 Hxb.out.1)))
      go_simp
      refine H49.out.mono ?_
      rintro e w50 ⟨x47, x48, rfl, rx47, rx48, hb⟩
      clear H49
      replace P1 := P1.below hb
      replace P2 := P2.below hb
      replace P5 := P5.below hb
      replace P6 := P6.below hb
      replace P9 := P9.below hb
      replace P10 := P10.below hb
      replace P39 := P39.below hb
      replace rf1 := rf1.below hb
      replace rf2 := rf2.below hb
      replace rg1 := rg1.below hb
      replace rg2 := rg2.below hb
      replace rpa := rpa.below hb
      replace rqa := rqa.below hb
      replace rra := rra.below hb
      replace rsa := rsa.below hb
      replace rpb := rpb.below hb
      replace rqb := rqb.below hb
      replace rrb := rrb.below hb
      replace rsb := rsb.below hb
      replace rx35 := rx35.below hb
      replace rx36 := rx36.below hb
      replace rx43 := rx43.below hb
      replace rx44 := rx44.below hb
      replace hB := hB.trans (hb.mono hB.size)
      clear hb
      refine hK _ _ ⟨P1, P2, P5, P6, P9, P10, P39⟩ ?_
      clear hK K
      refine Rd.tr_move (by simp only [List.getElem?_toArray, List.getElem?_cons_succ, List.getElem?_cons_zero]; rfl) rfl (by rfl) (fun K hK => ?_)
      have H51 := Lib.hid (qis_nat x43 x44 x47 x48 (((xa * yb) + (xb * ya)) / Nat.gcd ((xa * yb) + (xb * ya)) (ya * yb)) ((ya * yb) / Nat.gcd ((xa * yb) + (xb * ya)) (ya * yb)) w50 rx43 rx44 rx47 rx48 (Lib.hid (Nat.le_trans HLx43.out (by omega))) (Lib.hid (Nat.le_trans HLx44.out (by omega))))
      go_simp
      refine H51.out.mono ?_
      rintro e w52 ⟨rfl, hb⟩
      clear H51
      replace P1 := P1.below hb
      replace P2 := P2.below hb
      replace P5 := P5.below hb
      replace P6 := P6.below hb
      replace P9 := P9.below hb
      replace P10 := P10.below hb
      replace P39 := P39.below hb
      replace rf1 := rf1.below hb
      replace rf2 := rf2.below hb
      replace rg1 := rg1.below hb
      replace rg2 := rg2.below hb
      replace rpa := rpa.below hb
      replace rqa := rqa.below hb
      replace rra := rra.below hb
      replace rsa := rsa.below hb
      replace rpb := rpb.below hb
      replace rqb := rqb.below hb
      replace rrb := rrb.below hb
      replace rsb := rsb.below hb
      replace rx35 := rx35.below hb
      replace rx36 := rx36.below hb
      replace rx43 := rx43.below hb
      replace rx44 := rx44.below hb
      replace rx47 := rx47.below hb
      replace rx48 := rx48.below hb
      replace hB := hB.trans (hb.mono hB.size)
      clear hb
      refine hK _ _ ⟨P1, P2, P5, P6, P9, P10, P39⟩ ?_
      clear hK K
      refine Rd.tr_float (.bool false) (by simp only [List.getElem?_toArray, List.getElem?_cons_succ, List.getElem?_cons_zero]; rfl) rfl (by rfl) (fun X _ => by go_simp) ?_
      simp only [Act.put, List.setIfInBounds_toArray, List.set_cons_succ, List.set_cons_zero]
      refine Rd.tr_float (.bool false) (by simp only [List.getElem?_toArray, List.getElem?_cons_succ, List.getElem?_cons_zero]; rfl) rfl (by rfl) (fun X _ => by go_simp) ?_
      simp only [Act.put, List.setIfInBounds_toArray, List.set_cons_succ, List.set_cons_zero]
      exact Rd.tr_end (⟨_, _, _, _, _, _, _, _, _, _, _, _, _, _, rfl, P1, P2, P5, P6, P9, P10, P39, rf1, rf2, rg1, rg2, rpa, rqa, rra, rsa, rpb, rqb, rrb, rsb, rx35, rx36, hB⟩)
    case next =>
      rintro a3 W ⟨y58, y59, y60, y61, y62, y63, y64, y65, y66, y67, y68, y69, y70, y71, rfl, P1, P2, P5, P6, P9, P10, P39, rf1, rf2, rg1, rg2, rpa, rqa, rra, rsa, rpb, rqb, rrb, rsb, rx35, rx36, hB⟩
      have c0P1 := P1.c0
      have c1P1 := P1.c1
      have c0P2 := P2.c0
      have c1P2 := P2.c1
      have c0P5 := P5.c0
      have c1P5 := P5.c1
      have c0P6 := P6.c0
      have c1P6 := P6.c1
      have c0P9 := P9.c0
      have c1P9 := P9.c1
      have c0P10 := P10.c0
      have c1P10 := P10.c1
      have c0P39 := P39.c0
      have c1P39 := P39.c1
      go_wp2_with fail
      clear c0P1 c1P1 c0P2 c1P2 c0P5 c1P5 c0P6 c1P6 c0P9 c1P9 c0P10 c1P10 c0P39 c1P39
      have hb : Below W.heap.size W W.drew := (Below.refl _ _).drew
      replace P1 := P1.below hb
      replace P2 := P2.below hb
      replace P5 := P5.below hb
      replace P6 := P6.below hb
      replace P9 := P9.below hb
      replace P10 := P10.below hb
      replace P39 := P39.below hb
      replace rf1 := rf1.below hb
      replace rf2 := rf2.below hb
      replace rg1 := rg1.below hb
      replace rg2 := rg2.below hb
      replace rpa := rpa.below hb
      replace rqa := rqa.below hb
      replace rra := rra.below hb
      replace rsa := rsa.below hb
      replace rpb := rpb.below hb
      replace rqb := rqb.below hb
      replace rrb := rrb.below hb
      replace rsb := rsb.below hb
      replace rx35 := rx35.below hb
      replace rx36 := rx36.below hb
      replace hB := hB.trans (hb.mono hB.size)
      clear hb
      refine Rd.regionT (fun X => Pair X (w.heap.size) 24 (.slice f1.a f1.n f1.c) (.slice f2.a f2.n f2.c) ∧ Pair X (w.heap.size + 1) 24 (.slice g1.a g1.n g1.c) (.slice g2.a g2.n g2.c) ∧ Pair X (w4.heap.size) 30 (.slice pa.a pa.n pa.c) (.slice qa.a qa.n qa.c) ∧ Pair X (w4.heap.size + 1) 35 (.slice ra.a ra.n ra.c) (.slice sa.a sa.n sa.c) ∧ Pair X (w8.heap.size) 30 (.slice pb.a pb.n pb.c) (.slice qb.a qb.n qb.c) ∧ Pair X (w8.heap.size + 1) 35 (.slice rb.a rb.n rb.c) (.slice sb.a sb.n sb.c) ∧ Pair X (w38.heap.size) 30 (.slice x35.a x35.n x35.c) (.slice x36.a x36.n x36.c)) [0, 1, 2, 3, 4, 5, 8, 9, 10, 12, 13] (.one 0 (.one 1 (.one 2 (.one 3 (.one 4 (.one 5 (.one 6 (.one 7 (.one 8 (.one 9 (.one 10 (.one 11 (.one 12 (.one 13 .done)))))))))))))) (fun ac W => (∃ t : Array Value, ac = { tmps := t, defers := [] } ∧ t[4]?.getD undef = .bool true) ∧ Below w.heap.size w W) (by kernel_rfl) (by kernel_rfl) (by kernel_rfl) ⟨P1, P2, P5, P6, P9, P10, P39⟩ ?tree ?next
      case tree =>
        generalize W.drew = w53 at P1 P2 P5 P6 P9 P10 P39 rf1 rf2 rg1 rg2 rpa rqa rra rsa rpb rqb rrb rsb rx35 rx36 hB ⊢
        refine Rd.tr_float (.int .i64 0) (by simp only [List.getElem?_toArray, List.getElem?_cons_zero]; rfl) rfl (by rfl) (fun X _ => by go_simp) ?_
        simp only [Act.put, List.setIfInBounds_toArray, List.set_cons_succ, List.set_cons_zero]
        refine Rd.tr_float (.bool true) (by simp only [List.getElem?_toArray, List.getElem?_cons_succ, List.getElem?_cons_zero]; rfl) rfl (by rfl) (fun X _ => by go_simp) ?_
        simp only [Act.put, List.setIfInBounds_toArray, List.set_cons_succ, List.set_cons_zero]
        refine Rd.tr_float (.bool true) (by simp only [List.getElem?_toArray, List.getElem?_cons_succ, List.getElem?_cons_zero]; rfl) rfl (by rfl) (fun X _ => by go_simp) ?_
        simp only [Act.put, List.setIfInBounds_toArray, List.set_cons_succ, List.set_cons_zero]
        refine Rd.tr_float (.agg #[.slice x35.a x35.n x35.c, .slice x36.a x36.n x36.c]) (by simp only [List.getElem?_toArray, List.getElem?_cons_succ, List.getElem?_cons_zero]; rfl) rfl (by rfl) (fun X hX => by have h0 := hX.2.2.2.2.2.2.c0; have h1 := hX.2.2.2.2.2.2.c1; go_simp) ?_
        simp only [Act.put, List.setIfInBounds_toArray, List.set_cons_succ, List.set_cons_zero]
        refine Rd.tr_float (.agg #[.slice ra.a ra.n ra.c, .slice sa.a sa.n sa.c]) (by simp only [List.getElem?_toArray, List.getElem?_cons_succ, List.getElem?_cons_zero]; rfl) rfl (by rfl) (fun X hX => by have h0 := hX.2.2.2.1.c0; have h1 := hX.2.2.2.1.c1; go_simp) ?_
        simp only [Act.put, List.setIfInBounds_toArray, List.set_cons_succ, List.set_cons_zero]
        refine Rd.tr_float (.agg #[.slice rb.a rb.n rb.c, .slice sb.a sb.n sb.c]) (by simp only [List.getElem?_toArray, List.getElem?_cons_succ, List.getElem?_cons_zero]; rfl) rfl (by rfl) (fun X hX => by have h0 := hX.2.2.2.2.2.1.c0; have h1 := hX.2.2.2.2.2.1.c1; go_simp) ?_
        simp only [Act.put, List.setIfInBounds_toArray, List.set_cons_succ, List.set_cons_zero]
        refine Rd.tr_move (by simp only [List.getElem?_toArray, List.getElem?_cons_succ, List.getElem?_cons_zero]; rfl) rfl (by rfl) (fun K hK => ?_)
        have H56 := Lib.hid (rqsub_nat ra sa rb sb (xa) (ya) (xb) (yb) w53 rra rsa rrb rsb (Lib.hid (Nat.le_trans Lxa.out (by omega))) (Lib.hid (Nat.le_trans Lya.out (by omega))) (Lib.hid (Nat.le_trans Lxb.out (by omega))) (Lib.hid (Nat.le_trans Lyb.out (by omega))) HLE (Lib.hid (mul_ne Hxa.out.1 Hxb.out.1)))
        go_simp
        refine H56.out.mono ?_
        rintro e w57 ⟨x54, x55, rfl, rx54, rx55, hb⟩
        clear H56
        replace P1 := P1.below hb
        replace P2 := P2.below hb
        replace P5 := P5.below hb
        replace P6 := P6.below hb
        replace P9 := P9.below hb
        replace P10 := P10.below hb
        replace P39 := P39.below hb
        replace rf1 := rf1.below hb
        replace rf2 := rf2.below hb
        replace rg1 := rg1.below hb
        replace rg2 := rg2.below hb
        replace rpa := rpa.below hb
        replace rqa := rqa.below hb
        replace rra := rra.below hb
        replace rsa := rsa.below hb
        replace rpb := rpb.below hb
        replace rqb := rqb.below hb
        replace rrb := rrb.below hb
        replace rsb := rsb.below hb
        replace rx35 := rx35.below hb
        replace rx36 := rx36.below hb
        replace hB := hB.trans (hb.mono hB.size)
        clear hb
        refine hK _ _ ⟨P1, P2, P5, P6, P9, P10, P39⟩ ?_
        clear hK K
        refine Rd.tr_move (by simp only [List.getElem?_toArray, List.getElem?_cons_succ, List.getElem?_cons_zero]; rfl) rfl (by rfl) (fun K hK => ?_)
        have H58 := Lib.hid (qis_nat x35 x36 x54 x55 (((xa * yb) - (xb * ya)) / Nat.gcd ((xa * yb) - (xb * ya)) (ya * yb)) ((ya * yb) / Nat.gcd ((xa * yb) - (xb * ya)) (ya * yb)) w57 rx35 rx36 rx54 rx55 (Lib.hid (Nat.le_trans HLx35.out (by omega))) (Lib.hid (Nat.le_trans HLx36.out (by omega))))
        go_simp
        refine H58.out.mono ?_
        rintro e w59 ⟨rfl, hb⟩
        clear H58
        replace P1 := P1.below hb
        replace P2 := P2.below hb
        replace P5 := P5.below hb
        replace P6 := P6.below hb
        replace P9 := P9.below hb
        replace P10 := P10.below hb
        replace P39 := P39.below hb
        replace rf1 := rf1.below hb
        replace rf2 := rf2.below hb
        replace rg1 := rg1.below hb
        replace rg2 := rg2.below hb
        replace rpa := rpa.below hb
        replace rqa := rqa.below hb
        replace rra := rra.below hb
        replace rsa := rsa.below hb
        replace rpb := rpb.below hb
        replace rqb := rqb.below hb
        replace rrb := rrb.below hb
        replace rsb := rsb.below hb
        replace rx35 := rx35.below hb
        replace rx36 := rx36.below hb
        replace rx54 := rx54.below hb
        replace rx55 := rx55.below hb
        replace hB := hB.trans (hb.mono hB.size)
        clear hb
        refine hK _ _ ⟨P1, P2, P5, P6, P9, P10, P39⟩ ?_
        clear hK K
        refine Rd.tr_float (.bool true) (by simp only [List.getElem?_toArray, List.getElem?_cons_succ, List.getElem?_cons_zero]; rfl) rfl (by rfl) (fun X _ => by go_simp) ?_
        simp only [Act.put, List.setIfInBounds_toArray, List.set_cons_succ, List.set_cons_zero]
        refine Rd.tr_float (.bool true) (by simp only [List.getElem?_toArray, List.getElem?_cons_succ, List.getElem?_cons_zero]; rfl) rfl (by rfl) (fun X _ => by go_simp) ?_
        simp only [Act.put, List.setIfInBounds_toArray, List.set_cons_succ, List.set_cons_zero]
        refine Rd.tr_float (.agg #[.slice x35.a x35.n x35.c, .slice x36.a x36.n x36.c]) (by simp only [List.getElem?_toArray, List.getElem?_cons_succ, List.getElem?_cons_zero]; rfl) rfl (by rfl) (fun X hX => by have h0 := hX.2.2.2.2.2.2.c0; have h1 := hX.2.2.2.2.2.2.c1; go_simp) ?_
        simp only [Act.put, List.setIfInBounds_toArray, List.set_cons_succ, List.set_cons_zero]
        refine Rd.tr_move (by simp only [List.getElem?_toArray, List.getElem?_cons_succ, List.getElem?_cons_zero]; rfl) rfl (by rfl) (fun K hK => ?_)
        have H60 := Lib.hid (qgood_nat x35 x36 (((xa * yb) - (xb * ya)) / Nat.gcd ((xa * yb) - (xb * ya)) (ya * yb)) ((ya * yb) / Nat.gcd ((xa * yb) - (xb * ya)) (ya * yb)) w59 rx35 rx36 (Lib.hid (Nat.le_trans HLx35.out (by omega))) (Lib.hid (Nat.le_trans HLx36.out (by omega))) (Lib.hid (low_ne _ (mul_ne Hxa.out.1 Hxb.out.1))) true (Lib.hid (low_good _ (mul_ne Hxa.out.1 Hxb.out.1))))
        go_simp
        refine H60.out.mono ?_
        rintro e w61 ⟨rfl, hb⟩
        clear H60
        replace P1 := P1.below hb
        replace P2 := P2.below hb
        replace P5 := P5.below hb
        replace P6 := P6.below hb
        replace P9 := P9.below hb
        replace P10 := P10.below hb
        replace P39 := P39.below hb
        replace rf1 := rf1.below hb
        replace rf2 := rf2.below hb
        replace rg1 := rg1.below hb
        replace rg2 := rg2.below hb
        replace rpa := rpa.below hb
        replace rqa := rqa.below hb
        replace rra := rra.below hb
        replace rsa := rsa.below hb
        replace rpb := rpb.below hb
        replace rqb := rqb.below hb
        replace rrb := rrb.below hb
        replace rsb := rsb.below hb
        replace rx35 := rx35.below hb
        replace rx36 := rx36.below hb
        replace rx54 := rx54.below hb
        replace rx55 := rx55.below hb
        replace hB := hB.trans (hb.mono hB.size)
        clear hb
        refine hK _ _ ⟨P1, P2, P5, P6, P9, P10, P39⟩ ?_
        clear hK K
        refine Rd.tr_float (.bool true) (by simp only [List.getElem?_toArray, List.getElem?_cons_succ, List.getElem?_cons_zero]; rfl) rfl (by rfl) (fun X _ => by go_simp) ?_
        simp only [Act.put, List.setIfInBounds_toArray, List.set_cons_succ, List.set_cons_zero]
        refine Rd.tr_float (.bool true) (by simp only [List.getElem?_toArray, List.getElem?_cons_succ, List.getElem?_cons_zero]; rfl) rfl (by rfl) (fun X _ => by go_simp) ?_
        simp only [Act.put, List.setIfInBounds_toArray, List.set_cons_succ, List.set_cons_zero]
        exact Rd.tr_end (⟨⟨_, rfl, rfl⟩, hB⟩)
      case next =>
        rintro a3 W ⟨⟨t, rfl, ht⟩, hB⟩
        go_wp2_with fail
        refine bodyPost_ret (v := .bool true) ?_ rfl ⟨rfl, hB⟩
        simp [results, Tryd.f5, go_sem, ht]
  · skip
    have HC := Lib.hid (cmpZ_gt hc)
    have HLE : Hid (xb * ya ≤ xa * yb) := Lib.hid (by omega)
    clear hc
    have hb : Below w8.heap.size w8 ((w8.alloc (.cells #[.slice pb.a pb.n pb.c, .slice qb.a qb.n qb.c] 30)).alloc (.cells #[.slice rb.a rb.n rb.c, .slice sb.a sb.n sb.c] 35)) := (((Below.refl _ _).alloc (Nat.le_refl _) _).alloc (by simp) _)
    replace P1 := P1.below hb
    replace P2 := P2.below hb
    replace P5 := P5.below hb
    replace P6 := P6.below hb
    replace rf1 := rf1.below hb
    replace rf2 := rf2.below hb
    replace rg1 := rg1.below hb
    replace rg2 := rg2.below hb
    replace rpa := rpa.below hb
    replace rqa := rqa.below hb
    replace rra := rra.below hb
    replace rsa := rsa.below hb
    replace rpb := rpb.below hb
    replace rqb := rqb.below hb
    replace rrb := rrb.below hb
    replace rsb := rsb.below hb
    replace hB := hB.trans (hb.mono hB.size)
    have P9 : Pair ((w8.alloc (.cells #[.slice pb.a pb.n pb.c, .slice qb.a qb.n qb.c] 30)).alloc (.cells #[.slice rb.a rb.n rb.c, .slice sb.a sb.n sb.c] 35)) (w8.heap.size) 30 (.slice pb.a pb.n pb.c) (.slice qb.a qb.n qb.c) := by
      have h := (Pair.new w8 30 (.slice pb.a pb.n pb.c) (.slice qb.a qb.n qb.c)).alloc (.cells #[.slice rb.a rb.n rb.c, .slice sb.a sb.n sb.c] 35)
      simpa only [World.size_alloc] using h
    have P10 : Pair ((w8.alloc (.cells #[.slice pb.a pb.n pb.c, .slice qb.a qb.n qb.c] 30)).alloc (.cells #[.slice rb.a rb.n rb.c, .slice sb.a sb.n sb.c] 35)) (w8.heap.size + 1) 35 (.slice rb.a rb.n rb.c) (.slice sb.a sb.n sb.c) := by
      have h := Pair.new (w8.alloc (.cells #[.slice pb.a pb.n pb.c, .slice qb.a qb.n qb.c] 30)) 35 (.slice rb.a rb.n rb.c) (.slice sb.a sb.n sb.c)
      simpa only [World.size_alloc] using h
    clear hb
    have c0P1 := P1.c0
    have c1P1 := P1.c1
    have c0P2 := P2.c0
    have c1P2 := P2.c1
    have c0P5 := P5.c0
    have c1P5 := P5.c1
    have c0P6 := P6.c0
    have c1P6 := P6.c1
    have c0P9 := P9.c0
    have c1P9 := P9.c1
    have c0P10 := P10.c0
    have c1P10 := P10.c1
    have H62 := Lib.hid (awake_any ((w8.alloc (.cells #[.slice pb.a pb.n pb.c, .slice qb.a qb.n qb.c] 30)).alloc (.cells #[.slice rb.a rb.n rb.c, .slice sb.a sb.n sb.c] 35)))
    go_wp2_with fail
    clear c0P1 c1P1 c0P2 c1P2 c0P5 c1P5 c0P6 c1P6 c0P9 c1P9 c0P10 c1P10
    refine H62.out.mono ?_
    rintro e w63 ⟨rfl, hb⟩
    clear H62
    replace P1 := P1.below hb
    replace P2 := P2.below hb
    replace P5 := P5.below hb
    replace P6 := P6.below hb
    replace P9 := P9.below hb
    replace P10 := P10.below hb
    replace rf1 := rf1.below hb
    replace rf2 := rf2.below hb
    replace rg1 := rg1.below hb
    replace rg2 := rg2.below hb
    replace rpa := rpa.below hb
    replace rqa := rqa.below hb
    replace rra := rra.below hb
    replace rsa := rsa.below hb
    replace rpb := rpb.below hb
    replace rqb := rqb.below hb
    replace rrb := rrb.below hb
    replace rsb := rsb.below hb
    replace hB := hB.trans (hb.mono hB.size)
    clear hb
    have c0P1 := P1.c0
    have c1P1 := P1.c1
    have c0P2 := P2.c0
    have c1P2 := P2.c1
    have c0P5 := P5.c0
    have c1P5 := P5.c1
    have c0P6 := P6.c0
    have c1P6 := P6.c1
    have c0P9 := P9.c0
    have c1P9 := P9.c1
    have c0P10 := P10.c0
    have c1P10 := P10.c1
    have H64 := Lib.hid (rqcmp_nat ra sa rb sb (xa) (ya) (xb) (yb) w63 rra rsa rrb rsb (Lib.hid (Nat.le_trans Lxa.out (by omega))) (Lib.hid (Nat.le_trans Lya.out (by omega))) (Lib.hid (Nat.le_trans Lxb.out (by omega))) (Lib.hid (Nat.le_trans Lyb.out (by omega))))
    rw [HC.out] at H64
    go_wp2_with fail
    clear c0P1 c1P1 c0P2 c1P2 c0P5 c1P5 c0P6 c1P6 c0P9 c1P9 c0P10 c1P10
    refine H64.out.mono ?_
    rintro e w65 ⟨rfl, hb⟩
    clear H64
    replace P1 := P1.below hb
    replace P2 := P2.below hb
    replace P5 := P5.below hb
    replace P6 := P6.below hb
    replace P9 := P9.below hb
    replace P10 := P10.below hb
    replace rf1 := rf1.below hb
    replace rf2 := rf2.below hb
    replace rg1 := rg1.below hb
    replace rg2 := rg2.below hb
    replace rpa := rpa.below hb
    replace rqa := rqa.below hb
    replace rra := rra.below hb
    replace rsa := rsa.below hb
    replace rpb := rpb.below hb
    replace rqb := rqb.below hb
    replace rrb := rrb.below hb
    replace rsb := rsb.below hb
    replace hB := hB.trans (hb.mono hB.size)
    clear hb
    have c0P1 := P1.c0
    have c1P1 := P1.c1
    have c0P2 := P2.c0
    have c1P2 := P2.c1
    have c0P5 := P5.c0
    have c1P5 := P5.c1
    have c0P6 := P6.c0
    have c1P6 := P6.c1
    have c0P9 := P9.c0
    have c1P9 := P9.c1
    have c0P10 := P10.c0
    have c1P10 := P10.c1
    have H68 := Lib.hid (qsub_nat pa qa pb qb (xa) (ya) (xb) (yb) w65 rpa rqa rpb rqb (Lib.hid (Nat.le_trans Lxa.out (by omega))) (Lib.hid (Nat.le_trans Lya.out (by omega))) (Lib.hid (Nat.le_trans Lxb.out (by omega))) (Lib.hid (Nat.le_trans Lyb.out (by omega))) HLE (Lib.hid (mul_ne Hxa.out.1 Hxb.out.1)))
    go_wp2_with fail
    clear c0P1 c1P1 c0P2 c1P2 c0P5 c1P5 c0P6 c1P6 c0P9 c1P9 c0P10 c1P10
    refine H68.out.mono ?_
    rintro e w69 ⟨x66, x67, rfl, rx66, rx67, hb⟩
    clear H68
    replace P1 := P1.below hb
    replace P2 := P2.below hb
    replace P5 := P5.below hb
    replace P6 := P6.below hb
    replace P9 := P9.below hb
    replace P10 := P10.below hb
    replace rf1 := rf1.below hb
    replace rf2 := rf2.below hb
    replace rg1 := rg1.below hb
    replace rg2 := rg2.below hb
    replace rpa := rpa.below hb
    replace rqa := rqa.below hb
    replace rra := rra.below hb
    replace rsa := rsa.below hb
    replace rpb := rpb.below hb
    replace rqb := rqb.below hb
    replace rrb := rrb.below hb
    replace rsb := rsb.below hb
    replace hB := hB.trans (hb.mono hB.size)
    clear hb
    have HLx66 : Hid ((L (((xa * yb) - (xb * ya)) / Nat.gcd ((xa * yb) - (xb * ya)) (ya * yb))).length ≤ 8) := Lib.hid (len_div_le (len_sub_le (len_mul_le Lxa.out Lyb.out)))
    have HLx67 : Hid ((L ((ya * yb) / Nat.gcd ((xa * yb) - (xb * ya)) (ya * yb))).length ≤ 8) := Lib.hid (len_div_le (len_mul_le Lya.out Lyb.out))
    have hb : Below w69.heap.size w69 (w69.alloc (.cells #[.slice x66.a x66.n x66.c, .slice x67.a x67.n x67.c] 30)) := ((Below.refl _ _).alloc (Nat.le_refl _) _)
    replace P1 := P1.below hb
    replace P2 := P2.below hb
    replace P5 := P5.below hb
    replace P6 := P6.below hb
    replace P9 := P9.below hb
    replace P10 := P10.below hb
    replace rf1 := rf1.below hb
    replace rf2 := rf2.below hb
    replace rg1 := rg1.below hb
    replace rg2 := rg2.below hb
    replace rpa := rpa.below hb
    replace rqa := rqa.below hb
    replace rra := rra.below hb
    replace rsa := rsa.below hb
    replace rpb := rpb.below hb
    replace rqb := rqb.below hb
    replace rrb := rrb.below hb
    replace rsb := rsb.below hb
    replace rx66 := rx66.below hb
    replace rx67 := rx67.below hb
    replace hB := hB.trans (hb.mono hB.size)
    have P70 : Pair (w69.alloc (.cells #[.slice x66.a x66.n x66.c, .slice x67.a x67.n x67.c] 30)) (w69.heap.size) 30 (.slice x66.a x66.n x66.c) (.slice x67.a x67.n x67.c) := by
      have h := Pair.new w69 30 (.slice x66.a x66.n x66.c) (.slice x67.a x67.n x67.c)
      simpa only [World.size_alloc] using h
    clear hb
    have c0P1 := P1.c0
    have c1P1 := P1.c1
    have c0P2 := P2.c0
    have c1P2 := P2.c1
    have c0P5 := P5.c0
    have c1P5 := P5.c1
    have c0P6 := P6.c0
    have c1P6 := P6.c1
    have c0P9 := P9.c0
    have c1P9 := P9.c1
    have c0P10 := P10.c0
    have c1P10 := P10.c1
    have c0P70 := P70.c0
    have c1P70 := P70.c1
    go_wp2_with fail
    clear c0P1 c1P1 c0P2 c1P2 c0P5 c1P5 c0P6 c1P6 c0P9 c1P9 c0P10 c1P10 c0P70 c1P70
    have hb : Below (w69.alloc (.cells #[.slice x66.a x66.n x66.c, .slice x67.a x67.n x67.c] 30)).heap.size (w69.alloc (.cells #[.slice x66.a x66.n x66.c, .slice x67.a x67.n x67.c] 30)) (w69.alloc (.cells #[.slice x66.a x66.n x66.c, .slice x67.a x67.n x67.c] 30)).drew := (Below.refl _ _).drew
    replace P1 := P1.below hb
    replace P2 := P2.below hb
    replace P5 := P5.below hb
    replace P6 := P6.below hb
    replace P9 := P9.below hb
    replace P10 := P10.below hb
    replace P70 := P70.below hb
    replace rf1 := rf1.below hb
    replace rf2 := rf2.below hb
    replace rg1 := rg1.below hb
    replace rg2 := rg2.below hb
    replace rpa := rpa.below hb
    replace rqa := rqa.below hb
    replace rra := rra.below hb
    replace rsa := rsa.below hb
    replace rpb := rpb.below hb
    replace rqb := rqb.below hb
    replace rrb := rrb.below hb
    replace rsb := rsb.below hb
    replace rx66 := rx66.below hb
    replace rx67 := rx67.below hb
    replace hB := hB.trans (hb.mono hB.size)
    clear hb
    refine Rd.regionT (fun X => Pair X (w.heap.size) 24 (.slice f1.a f1.n f1.c) (.slice f2.a f2.n f2.c) ∧ Pair X (w.heap.size + 1) 24 (.slice g1.a g1.n g1.c) (.slice g2.a g2.n g2.c) ∧ Pair X (w4.heap.size) 30 (.slice pa.a pa.n pa.c) (.slice qa.a qa.n qa.c) ∧ Pair X (w4.heap.size + 1) 35 (.slice ra.a ra.n ra.c) (.slice sa.a sa.n sa.c) ∧ Pair X (w8.heap.size) 30 (.slice pb.a pb.n pb.c) (.slice qb.a qb.n qb.c) ∧ Pair X (w8.heap.size + 1) 35 (.slice rb.a rb.n rb.c) (.slice sb.a sb.n sb.c) ∧ Pair X (w69.heap.size) 30 (.slice x66.a x66.n x66.c) (.slice x67.a x67.n x67.c)) [0, 1, 3, 4, 5, 6, 7, 9, 10, 13, 14] (.one 0 (.one 1 (.one 3 (.one 2 (.one 4 (.one 5 (.one 6 (.one 7 (.one 9 (.one 10 (.one 8 (.one 11 (.one 12 (.one 13 (.one 14 .done))))))))))))))) (fun ac W => ∃ (y58 y59 y60 y61 y62 y63 y64 y65 y66 y67 y68 y69 y70 y71 : Value), ac = { tmps := List.toArray (.agg #[.slice f1.a f1.n f1.c, .slice f2.a f2.n f2.c] :: .agg #[.slice g1.a g1.n g1.c, .slice g2.a g2.n g2.c] :: .pointer (some ⟨w.heap.size, 0, none⟩) :: .pointer (some ⟨w.heap.size + 1, 0, none⟩) :: .bool false :: .pointer (some ⟨w4.heap.size, 0, none⟩) :: .pointer (some ⟨w4.heap.size + 1, 0, none⟩) :: .bool true :: .pointer (some ⟨w8.heap.size, 0, none⟩) :: .pointer (some ⟨w8.heap.size + 1, 0, none⟩) :: .bool true :: .int .i64 1 :: .pointer (some ⟨w69.heap.size, 0, none⟩) :: .int .i64 0 :: .tuple #[.agg #[.slice pa.a pa.n pa.c, .slice qa.a qa.n qa.c], .agg #[.slice ra.a ra.n ra.c, .slice sa.a sa.n sa.c], .bool true] :: .agg #[.slice f1.a f1.n f1.c, .slice f2.a f2.n f2.c] :: .tuple #[.agg #[.slice pa.a pa.n pa.c, .slice qa.a qa.n qa.c], .agg #[.slice ra.a ra.n ra.c, .slice sa.a sa.n sa.c], .bool true] :: .agg #[.slice pa.a pa.n pa.c, .slice qa.a qa.n qa.c] :: .agg #[.slice ra.a ra.n ra.c, .slice sa.a sa.n sa.c] :: .bool true :: .tuple #[.agg #[.slice pb.a pb.n pb.c, .slice qb.a qb.n qb.c], .agg #[.slice rb.a rb.n rb.c, .slice sb.a sb.n sb.c], .bool true] :: .agg #[.slice g1.a g1.n g1.c, .slice g2.a g2.n g2.c] :: .tuple #[.agg #[.slice pb.a pb.n pb.c, .slice qb.a qb.n qb.c], .agg #[.slice rb.a rb.n rb.c, .slice sb.a sb.n sb.c], .bool true] :: .agg #[.slice pb.a pb.n pb.c, .slice qb.a qb.n qb.c] :: .agg #[.slice rb.a rb.n rb.c, .slice sb.a sb.n sb.c] :: .bool true :: .bool true :: .bool false :: .bool false :: .pointer (some ⟨w.heap.size, 1, none⟩) :: .slice f2.a f2.n f2.c :: .int .i64 (f2.n : Int) :: .bool false :: .bool false :: .bool false :: .pointer (some ⟨w.heap.size + 1, 1, none⟩) :: .slice g2.a g2.n g2.c :: .int .i64 (g2.n : Int) :: .bool false :: .bool false :: .bool false :: .bool true :: .bool false :: .bool false :: .bool false :: .bool true :: .bool false :: .bool false :: undef :: .agg #[.slice ra.a ra.n ra.c, .slice sa.a sa.n sa.c] :: .agg #[.slice rb.a rb.n rb.c, .slice sb.a sb.n sb.c] :: .int .i64 1 :: .tuple #[.agg #[.slice x66.a x66.n x66.c, .slice x67.a x67.n x67.c], .int .i64 0] :: .agg #[.slice pa.a pa.n pa.c, .slice qa.a qa.n qa.c] :: .agg #[.slice pb.a pb.n pb.c, .slice qb.a qb.n qb.c] :: .tuple #[.agg #[.slice x66.a x66.n x66.c, .slice x67.a x67.n x67.c], .int .i64 0] :: .agg #[.slice x66.a x66.n x66.c, .slice x67.a x67.n x67.c] :: .int .i64 0 :: y58 :: y59 :: y60 :: y61 :: y62 :: y63 :: y64 :: y65 :: y66 :: y67 :: y68 :: y69 :: y70 :: y71 :: .bool false :: undef :: undef :: undef :: undef :: undef :: undef :: undef :: undef :: undef :: undef :: undef :: undef :: undef :: undef :: undef :: undef :: undef :: undef :: undef :: undef :: undef :: undef :: undef :: undef :: undef :: undef :: undef :: undef :: undef :: []), defers := [] } ∧ Pair W (w.heap.size) 24 (.slice f1.a f1.n f1.c) (.slice f2.a f2.n f2.c) ∧ Pair W (w.heap.size + 1) 24 (.slice g1.a g1.n g1.c) (.slice g2.a g2.n g2.c) ∧ Pair W (w4.heap.size) 30 (.slice pa.a pa.n pa.c) (.slice qa.a qa.n qa.c) ∧ Pair W (w4.heap.size + 1) 35 (.slice ra.a ra.n ra.c) (.slice sa.a sa.n sa.c) ∧ Pair W (w8.heap.size) 30 (.slice pb.a pb.n pb.c) (.slice qb.a qb.n qb.c) ∧ Pair W (w8.heap.size + 1) 35 (.slice rb.a rb.n rb.c) (.slice sb.a sb.n sb.c) ∧ Pair W (w69.heap.size) 30 (.slice x66.a x66.n x66.c) (.slice x67.a x67.n x67.c) ∧ RA W f1 l11 ∧ RA W f2 l12 ∧ RA W g1 l21 ∧ RA W g2 l22 ∧ RU W pa xa ∧ RU W qa ya ∧ RD W ra xa ∧ RD W sa ya ∧ RU W pb xb ∧ RU W qb yb ∧ RD W rb xb ∧ RD W sb yb ∧ RU W x66 (((xa * yb) - (xb * ya)) / Nat.gcd ((xa * yb) - (xb * ya)) (ya * yb)) ∧ RU W x67 ((ya * yb) / Nat.gcd ((xa * yb) - (xb * ya)) (ya * yb)) ∧ Below w.heap.size w W) (by kernel_rfl) (by kernel_rfl) (by kernel_rfl) ⟨P1, P2, P5, P6, P9, P10, P70⟩ ?tree ?next
    case tree =>
      generalize (w69.alloc (.cells #[.slice x66.a x66.n x66.c, .slice x67.a x67.n x67.c] 30)).drew = w71 at P1 P2 P5 P6 P9 P10 P70 rf1 rf2 rg1 rg2 rpa rqa rra rsa rpb rqb rrb rsb rx66 rx67 hB ⊢
      refine Rd.tr_float (.agg #[.slice pa.a pa.n pa.c, .slice qa.a qa.n qa.c]) (by simp only [List.getElem?_toArray, List.getElem?_cons_zero]; rfl) rfl (by rfl) (fun X hX => by have h0 := hX.2.2.1.c0; have h1 := hX.2.2.1.c1; go_simp) ?_
      simp only [Act.put, List.setIfInBounds_toArray, List.set_cons_succ, List.set_cons_zero]
      refine Rd.tr_float (.agg #[.slice pb.a pb.n pb.c, .slice qb.a qb.n qb.c]) (by simp only [List.getElem?_toArray, List.getElem?_cons_succ, List.getElem?_cons_zero]; rfl) rfl (by rfl) (fun X hX => by have h0 := hX.2.2.2.2.1.c0; have h1 := hX.2.2.2.2.1.c1; go_simp) ?_
      simp only [Act.put, List.setIfInBounds_toArray, List.set_cons_succ, List.set_cons_zero]
      refine Rd.tr_float (.int .i64 1) (by simp only [List.getElem?_toArray, List.getElem?_cons_succ, List.getElem?_cons_zero]; rfl) rfl (by rfl) (fun X _ => by go_simp) ?_
      simp only [Act.put, List.setIfInBounds_toArray, List.set_cons_succ, List.set_cons_zero]
      refine Rd.tr_move (by simp only [List.getElem?_toArray, List.getElem?_cons_succ, List.getElem?_cons_zero]; rfl) rfl (by rfl) (fun K hK => ?_)
      have H72 := Lib.hid (qcmp_nat pa qa pb qb (xa) (ya) (xb) (yb) w71 rpa rqa rpb rqb (Lib.hid (Nat.le_trans Lxa.out (by omega))) (Lib.hid (Nat.le_trans Lya.out (by omega))) (Lib.hid (Nat.le_trans Lxb.out (by omega))) (Lib.hid (Nat.le_trans Lyb.out (by omega))))
      rw [HC.out] at H72
      go_simp
      refine H72.out.mono ?_
      rintro e w73 ⟨rfl, hb⟩
      clear H72
      replace P1 := P1.below hb
      replace P2 := P2.below hb
      replace P5 := P5.below hb
      replace P6 := P6.below hb
      replace P9 := P9.below hb
      replace P10 := P10.below hb
      replace P70 := P70.below hb
      replace rf1 := rf1.below hb
      replace rf2 := rf2.below hb
      replace rg1 := rg1.below hb
      replace rg2 := rg2.below hb
      replace rpa := rpa.below hb
      replace rqa := rqa.below hb
      replace rra := rra.below hb
      replace rsa := rsa.below hb
      replace rpb := rpb.below hb
      replace rqb := rqb.below hb
      replace rrb := rrb.below hb
      replace rsb := rsb.below hb
      replace rx66 := rx66.below hb
      replace rx67 := rx67.below hb
      replace hB := hB.trans (hb.mono hB.size)
      clear hb
      refine hK _ _ ⟨P1, P2, P5, P6, P9, P10, P70⟩ ?_
      clear hK K
      refine Rd.tr_float (.bool false) (by simp only [List.getElem?_toArray, List.getElem?_cons_succ, List.getElem?_cons_zero]; rfl) rfl (by rfl) (fun X _ => by go_simp) ?_
      simp only [Act.put, List.setIfInBounds_toArray, List.set_cons_succ, List.set_cons_zero]
      refine Rd.tr_float (.bool false) (by simp only [List.getElem?_toArray, List.getElem?_cons_succ, List.getElem?_cons_zero]; rfl) rfl (by rfl) (fun X _ => by go_simp) ?_
      simp only [Act.put, List.setIfInBounds_toArray, List.set_cons_succ, List.set_cons_zero]
      refine Rd.tr_float (.agg #[.slice pa.a pa.n pa.c, .slice qa.a qa.n qa.c]) (by simp only [List.getElem?_toArray, List.getElem?_cons_succ, List.getElem?_cons_zero]; rfl) rfl (by rfl) (fun X hX => by have h0 := hX.2.2.1.c0; have h1 := hX.2.2.1.c1; go_simp) ?_
      simp only [Act.put, List.setIfInBounds_toArray, List.set_cons_succ, List.set_cons_zero]
      refine Rd.tr_float (.agg #[.slice pb.a pb.n pb.c, .slice qb.a qb.n qb.c]) (by simp only [List.getElem?_toArray, List.getElem?_cons_succ, List.getElem?_cons_zero]; rfl) rfl (by rfl) (fun X hX => by have h0 := hX.2.2.2.2.1.c0; have h1 := hX.2.2.2.2.1.c1; go_simp) ?_
      simp only [Act.put, List.setIfInBounds_toArray, List.set_cons_succ, List.set_cons_zero]
      refine Rd.tr_float (.agg #[.slice ra.a ra.n ra.c, .slice sa.a sa.n sa.c]) (by simp only [List.getElem?_toArray, List.getElem?_cons_succ, List.getElem?_cons_zero]; rfl) rfl (by rfl) (fun X hX => by have h0 := hX.2.2.2.1.c0; have h1 := hX.2.2.2.1.c1; go_simp) ?_
      simp only [Act.put, List.setIfInBounds_toArray, List.set_cons_succ, List.set_cons_zero]
      refine Rd.tr_float (.agg #[.slice rb.a rb.n rb.c, .slice sb.a sb.n sb.c]) (by simp only [List.getElem?_toArray, List.getElem?_cons_succ, List.getElem?_cons_zero]; rfl) rfl (by rfl) (fun X hX => by have h0 := hX.2.2.2.2.2.1.c0; have h1 := hX.2.2.2.2.2.1.c1; go_simp) ?_
      simp only [Act.put, List.setIfInBounds_toArray, List.set_cons_succ, List.set_cons_zero]
      refine Rd.tr_move (by simp only [List.getElem?_toArray, List.getElem?_cons_succ, List.getElem?_cons_zero]; rfl) rfl (by rfl) (fun K hK => ?_)
      have H76 := Lib.hid (qadd_nat pa qa pb qb (xa) (ya) (xb) (yb) w73 rpa rqa rpb rqb (Lib.hid (Nat.le_trans Lxa.out (by omega))) (Lib.hid (Nat.le_trans Lya.out (by omega))) (Lib.hid (Nat.le_trans Lxb.out (by omega))) (Lib.hid (Nat.le_trans Lyb.out (by omega))) (Lib.hid (mul_ne Hxa.out.1 Hxb.out.1)))
      go_simp
      refine H76.out.mono ?_
      rintro e w77 ⟨x74, x75, rfl, rx74, rx75, hb⟩
      clear H76
      replace P1 := P1.below hb
      replace P2 := P2.below hb
      replace P5 := P5.below hb
      replace P6 := P6.below hb
      replace P9 := P9.below hb
      replace P10 := P10.below hb
      replace P70 := P70.below hb
      replace rf1 := rf1.below hb
      replace rf2 := rf2.below hb
      replace rg1 := rg1.below hb
      replace rg2 := rg2.below hb
      replace rpa := rpa.below hb
      replace rqa := rqa.below hb
      replace rra := rra.below hb
      replace rsa := rsa.below hb
      replace rpb := rpb.below hb
      replace rqb := rqb.below hb
      replace rrb := rrb.below hb
      replace rsb := rsb.below hb
      replace rx66 := rx66.below hb
      replace rx67 := rx67.below hb
      replace hB := hB.trans (hb.mono hB.size)
      clear hb
      have HLx74 : Hid ((L (((xa * yb) + (xb * ya)) / Nat.gcd ((xa * yb) + (xb * ya)) (ya * yb))).length ≤ 17) := Lib.hid (len_div_le (len_add_le (len_mul_le Lxa.out Lyb.out) (len_mul_le Lxb.out Lya.out)))
      have HLx75 : Hid ((L ((ya * yb) / Nat.gcd ((xa * yb) + (xb * ya)) (ya * yb))).length ≤ 8) := Lib.hid (len_div_le (len_mul_le Lya.out Lyb.out))
      refine hK _ _ ⟨P1, P2, P5, P6, P9, P10, P70⟩ ?_
      clear hK K
      refine Rd.tr_move (by simp only [List.getElem?_toArray, List.getElem?_cons_succ, List.getElem?_cons_zero]; rfl) rfl (by rfl) (fun K hK => ?_)
      have H80 := Lib.hid (rqadd_nat ra sa rb sb (xa) (ya) (xb) (yb) w77 rra rsa rrb rsb (Lib.hid (Nat.le_trans Lxa.out (by omega))) (Lib.hid (Nat.le_trans Lya.out (by omega))) (Lib.hid (Nat.le_trans Lxb.out (by omega))) (Lib.hid (Nat.le_trans Lyb.out (by omega))) (Lib.hid (mul_ne Hxa.out.1 Hxb.out.1)))
      go_simp
      refine H80.out.mono ?_
      rintro e w81 ⟨x78, x79, rfl, rx78, rx79, hb⟩
      clear H80
      replace P1 := P1.below hb
      replace P2 := P2.below hb
      replace P5 := P5.below hb
      replace P6 := P6.below hb
      replace P9 := P9.below hb
      replace P10 := P10.below hb
      replace P70 := P70.below hb
      replace rf1 := rf1.below hb
      replace rf2 := rf2.below hb
      replace rg1 := rg1.below hb
      replace rg2 := rg2.below hb
      replace rpa := rpa.below hb
      replace rqa := rqa.below hb
      replace rra := rra.below hb
      replace rsa := rsa.below hb
      replace rpb := rpb.below hb
      replace rqb := rqb.below hb
      replace rrb := rrb.below hb
      replace rsb := rsb.below hb
      replace rx66 := rx66.below hb
      replace rx67 := rx67.below hb
      replace rx74 := rx74.below hb
      replace rx75 := rx75.below hb
      replace hB := hB.trans (hb.mono hB.size)
      clear hb
      refine hK _ _ ⟨P1, P2, P5, P6, P9, P10, P70⟩ ?_
      clear hK K
      refine Rd.tr_move (by simp only [List.getElem?_toArray, List.getElem?_cons_succ, List.getElem?_cons_zero]; rfl) rfl (by rfl) (fun K hK => ?_)
      have H82 := Lib.hid (qis_nat x74 x75 x78 x79 (((xa * yb) + (xb * ya)) / Nat.gcd ((xa * yb) + (xb * ya)) (ya * yb)) ((ya * yb) / Nat.gcd ((xa * yb) + (xb * ya)) (ya * yb)) w81 rx74 rx75 rx78 rx79 (Lib.hid (Nat.le_trans HLx74.out (by omega))) (Lib.hid (Nat.le_trans HLx75.out (by omega))))
      go_simp
      refine H82.out.mono ?_
      rintro e w83 ⟨rfl, hb⟩
      clear H82
      replace P1 := P1.below hb
      replace P2 := P2.below hb
      replace P5 := P5.below hb
      replace P6 := P6.below hb
      replace P9 := P9.below hb
      replace P10 := P10.below hb
      replace P70 := P70.below hb
      replace rf1 := rf1.below hb
      replace rf2 := rf2.below hb
      replace rg1 := rg1.below hb
      replace rg2 := rg2.below hb
      replace rpa := rpa.below hb
      replace rqa := rqa.below hb
      replace rra := rra.below hb
      replace rsa := rsa.below hb
      replace rpb := rpb.below hb
      replace rqb := rqb.below hb
      replace rrb := rrb.below hb
      replace rsb := rsb.below hb
      replace rx66 := rx66.below hb
      replace rx67 := rx67.below hb
      replace rx74 := rx74.below hb
      replace rx75 := rx75.below hb
      replace rx78 := rx78.below hb
      replace rx79 := rx79.below hb
      replace hB := hB.trans (hb.mono hB.size)
      clear hb
      refine hK _ _ ⟨P1, P2, P5, P6, P9, P10, P70⟩ ?_
      clear hK K
      refine Rd.tr_float (.bool false) (by simp only [List.getElem?_toArray, List.getElem?_cons_succ, List.getElem?_cons_zero]; rfl) rfl (by rfl) (fun X _ => by go_simp) ?_
      simp only [Act.put, List.setIfInBounds_toArray, List.set_cons_succ, List.set_cons_zero]
      refine Rd.tr_float (.bool false) (by simp only [List.getElem?_toArray, List.getElem?_cons_succ, List.getElem?_cons_zero]; rfl) rfl (by rfl) (fun X _ => by go_simp) ?_
      simp only [Act.put, List.setIfInBounds_toArray, List.set_cons_succ, List.set_cons_zero]
      exact Rd.tr_end (⟨_, _, _, _, _, _, _, _, _, _, _, _, _, _, rfl, P1, P2, P5, P6, P9, P10, P70, rf1, rf2, rg1, rg2, rpa, rqa, rra, rsa, rpb, rqb, rrb, rsb, rx66, rx67, hB⟩)
    case next =>
      rintro a3 W ⟨y58, y59, y60, y61, y62, y63, y64, y65, y66, y67, y68, y69, y70, y71, rfl, P1, P2, P5, P6, P9, P10, P70, rf1, rf2, rg1, rg2, rpa, rqa, rra, rsa, rpb, rqb, rrb, rsb, rx66, rx67, hB⟩
      have c0P1 := P1.c0
      have c1P1 := P1.c1
      have c0P2 := P2.c0
      have c1P2 := P2.c1
      have c0P5 := P5.c0
      have c1P5 := P5.c1
      have c0P6 := P6.c0
      have c1P6 := P6.c1
      have c0P9 := P9.c0
      have c1P9 := P9.c1
      have c0P10 := P10.c0
      have c1P10 := P10.c1
      have c0P70 := P70.c0
      have c1P70 := P70.c1
      go_wp2_with fail
      clear c0P1 c1P1 c0P2 c1P2 c0P5 c1P5 c0P6 c1P6 c0P9 c1P9 c0P10 c1P10 c0P70 c1P70
      have hb : Below W.heap.size W W.drew := (Below.refl _ _).drew
      replace P1 := P1.below hb
      replace P2 := P2.below hb
      replace P5 := P5.below hb
      replace P6 := P6.below hb
      replace P9 := P9.below hb
      replace P10 := P10.below hb
      replace P70 := P70.below hb
      replace rf1 := rf1.below hb
      replace rf2 := rf2.below hb
      replace rg1 := rg1.below hb
      replace rg2 := rg2.below hb
      replace rpa := rpa.below hb
      replace rqa := rqa.below hb
      replace rra := rra.below hb
      replace rsa := rsa.below hb
      replace rpb := rpb.below hb
      replace rqb := rqb.below hb
      replace rrb := rrb.below hb
      replace rsb := rsb.below hb
      replace rx66 := rx66.below hb
      replace rx67 := rx67.below hb
      replace hB := hB.trans (hb.mono hB.size)
      clear hb
      refine Rd.regionT (fun X => Pair X (w.heap.size) 24 (.slice f1.a f1.n f1.c) (.slice f2.a f2.n f2.c) ∧ Pair X (w.heap.size + 1) 24 (.slice g1.a g1.n g1.c) (.slice g2.a g2.n g2.c) ∧ Pair X (w4.heap.size) 30 (.slice pa.a pa.n pa.c) (.slice qa.a qa.n qa.c) ∧ Pair X (w4.heap.size + 1) 35 (.slice ra.a ra.n ra.c) (.slice sa.a sa.n sa.c) ∧ Pair X (w8.heap.size) 30 (.slice pb.a pb.n pb.c) (.slice qb.a qb.n qb.c) ∧ Pair X (w8.heap.size + 1) 35 (.slice rb.a rb.n rb.c) (.slice sb.a sb.n sb.c) ∧ Pair X (w69.heap.size) 30 (.slice x66.a x66.n x66.c) (.slice x67.a x67.n x67.c)) [0, 1, 2, 3, 4, 5, 8, 9, 10, 12, 13] (.one 0 (.one 1 (.one 2 (.one 3 (.one 4 (.one 5 (.one 6 (.one 7 (.one 8 (.one 9 (.one 10 (.one 11 (.one 12 (.one 13 .done)))))))))))))) (fun ac W => (∃ t : Array Value, ac = { tmps := t, defers := [] } ∧ t[4]?.getD undef = .bool true) ∧ Below w.heap.size w W) (by kernel_rfl) (by kernel_rfl) (by kernel_rfl) ⟨P1, P2, P5, P6, P9, P10, P70⟩ ?tree ?next
      case tree =>
        generalize W.drew = w84 at P1 P2 P5 P6 P9 P10 P70 rf1 rf2 rg1 rg2 rpa rqa rra rsa rpb rqb rrb rsb rx66 rx67 hB ⊢
        refine Rd.tr_float (.int .i64 0) (by simp only [List.getElem?_toArray, List.getElem?_cons_zero]; rfl) rfl (by rfl) (fun X _ => by go_simp) ?_
        simp only [Act.put, List.setIfInBounds_toArray, List.set_cons_succ, List.set_cons_zero]
        refine Rd.tr_float (.bool true) (by simp only [List.getElem?_toArray, List.getElem?_cons_succ, List.getElem?_cons_zero]; rfl) rfl (by rfl) (fun X _ => by go_simp) ?_
        simp only [Act.put, List.setIfInBounds_toArray, List.set_cons_succ, List.set_cons_zero]
        refine Rd.tr_float (.bool true) (by simp only [List.getElem?_toArray, List.getElem?_cons_succ, List.getElem?_cons_zero]; rfl) rfl (by rfl) (fun X _ => by go_simp) ?_
        simp only [Act.put, List.setIfInBounds_toArray, List.set_cons_succ, List.set_cons_zero]
        refine Rd.tr_float (.agg #[.slice x66.a x66.n x66.c, .slice x67.a x67.n x67.c]) (by simp only [List.getElem?_toArray, List.getElem?_cons_succ, List.getElem?_cons_zero]; rfl) rfl (by rfl) (fun X hX => by have h0 := hX.2.2.2.2.2.2.c0; have h1 := hX.2.2.2.2.2.2.c1; go_simp) ?_
        simp only [Act.put, List.setIfInBounds_toArray, List.set_cons_succ, List.set_cons_zero]
        refine Rd.tr_float (.agg #[.slice ra.a ra.n ra.c, .slice sa.a sa.n sa.c]) (by simp only [List.getElem?_toArray, List.getElem?_cons_succ, List.getElem?_cons_zero]; rfl) rfl (by rfl) (fun X hX => by have h0 := hX.2.2.2.1.c0; have h1 := hX.2.2.2.1.c1; go_simp) ?_
        simp only [Act.put, List.setIfInBounds_toArray, List.set_cons_succ, List.set_cons_zero]
        refine Rd.tr_float (.agg #[.slice rb.a rb.n rb.c, .slice sb.a sb.n sb.c]) (by simp only [List.getElem?_toArray, List.getElem?_cons_succ, List.getElem?_cons_zero]; rfl) rfl (by rfl) (fun X hX => by have h0 := hX.2.2.2.2.2.1.c0; have h1 := hX.2.2.2.2.2.1.c1; go_simp) ?_
        simp only [Act.put, List.setIfInBounds_toArray, List.set_cons_succ, List.set_cons_zero]
        refine Rd.tr_move (by simp only [List.getElem?_toArray, List.getElem?_cons_succ, List.getElem?_cons_zero]; rfl) rfl (by rfl) (fun K hK => ?_)
        have H87 := Lib.hid (rqsub_nat ra sa rb sb (xa) (ya) (xb) (yb) w84 rra rsa rrb rsb (Lib.hid (Nat.le_trans Lxa.out (by omega))) (Lib.hid (Nat.le_trans Lya.out (by omega))) (Lib.hid (Nat.le_trans Lxb.out (by omega))) (Lib.hid (Nat.le_trans Lyb.out (by omega))) HLE (Lib.hid (mul_ne Hxa.out.1 Hxb.out.1)))
        go_simp
        refine H87.out.mono ?_
        rintro e w88 ⟨x85, x86, rfl, rx85, rx86, hb⟩
        clear H87
        replace P1 := P1.below hb
        replace P2 := P2.below hb
        replace P5 := P5.below hb
        replace P6 := P6.below hb
        replace P9 := P9.below hb
        replace P10 := P10.below hb
        replace P70 := P70.below hb
        replace rf1 := rf1.below hb
        replace rf2 := rf2.below hb
        replace rg1 := rg1.below hb
        replace rg2 := rg2.below hb
        replace rpa := rpa.below hb
        replace rqa := rqa.below hb
        replace rra := rra.below hb
        replace rsa := rsa.below hb
        replace rpb := rpb.below hb
        replace rqb := rqb.below hb
        replace rrb := rrb.below hb
        replace rsb := rsb.below hb
        replace rx66 := rx66.below hb
        replace rx67 := rx67.below hb
        replace hB := hB.trans (hb.mono hB.size)
        clear hb
        refine hK _ _ ⟨P1, P2, P5, P6, P9, P10, P70⟩ ?_
        clear hK K
        refine Rd.tr_move (by simp only [List.getElem?_toArray, List.getElem?_cons_succ, List.getElem?_cons_zero]; rfl) rfl (by rfl) (fun K hK => ?_)
        have H89 := Lib.hid (qis_nat x66 x67 x85 x86 (((xa * yb) - (xb * ya)) / Nat.gcd ((xa * yb) - (xb * ya)) (ya * yb)) ((ya * yb) / Nat.gcd ((xa * yb) - (xb * ya)) (ya * yb)) w88 rx66 rx67 rx85 rx86 (Lib.hid (Nat.le_trans HLx66.out (by omega))) (Lib.hid (Nat.le_trans HLx67.out (by omega))))
        go_simp
        refine H89.out.mono ?_
        rintro e w90 ⟨rfl, hb⟩
        clear H89
        replace P1 := P1.below hb
        replace P2 := P2.below hb
        replace P5 := P5.below hb
        replace P6 := P6.below hb
        replace P9 := P9.below hb
        replace P10 := P10.below hb
        replace P70 := P70.below hb
        replace rf1 := rf1.below hb
        replace rf2 := rf2.below hb
        replace rg1 := rg1.below hb
        replace rg2 := rg2.below hb
        replace rpa := rpa.below hb
        replace rqa := rqa.below hb
        replace rra := rra.below hb
        replace rsa := rsa.below hb
        replace rpb := rpb.below hb
        replace rqb := rqb.below hb
        replace rrb := rrb.below hb
        replace rsb := rsb.below hb
        replace rx66 := rx66.below hb
        replace rx67 := rx67.below hb
        replace rx85 := rx85.below hb
        replace rx86 := rx86.below hb
        replace hB := hB.trans (hb.mono hB.size)
        clear hb
        refine hK _ _ ⟨P1, P2, P5, P6, P9, P10, P70⟩ ?_
        clear hK K
        refine Rd.tr_float (.bool true) (by simp only [List.getElem?_toArray, List.getElem?_cons_succ, List.getElem?_cons_zero]; rfl) rfl (by rfl) (fun X _ => by go_simp) ?_
        simp only [Act.put, List.setIfInBounds_toArray, List.set_cons_succ, List.set_cons_zero]
        refine Rd.tr_float (.bool true) (by simp only [List.getElem?_toArray, List.getElem?_cons_succ, List.getElem?_cons_zero]; rfl) rfl (by rfl) (fun X _ => by go_simp) ?_
        simp only [Act.put, List.setIfInBounds_toArray, List.set_cons_succ, List.set_cons_zero]
        refine Rd.tr_float (.agg #[.slice x66.a x66.n x66.c, .slice x67.a x67.n x67.c]) (by simp only [List.getElem?_toArray, List.getElem?_cons_succ, List.getElem?_cons_zero]; rfl) rfl (by rfl) (fun X hX => by have h0 := hX.2.2.2.2.2.2.c0; have h1 := hX.2.2.2.2.2.2.c1; go_simp) ?_
        simp only [Act.put, List.setIfInBounds_toArray, List.set_cons_succ, List.set_cons_zero]
        refine Rd.tr_move (by simp only [List.getElem?_toArray, List.getElem?_cons_succ, List.getElem?_cons_zero]; rfl) rfl (by rfl) (fun K hK => ?_)
        have H91 := Lib.hid (qgood_nat x66 x67 (((xa * yb) - (xb * ya)) / Nat.gcd ((xa * yb) - (xb * ya)) (ya * yb)) ((ya * yb) / Nat.gcd ((xa * yb) - (xb * ya)) (ya * yb)) w90 rx66 rx67 (Lib.hid (Nat.le_trans HLx66.out (by omega))) (Lib.hid (Nat.le_trans HLx67.out (by omega))) (Lib.hid (low_ne _ (mul_ne Hxa.out.1 Hxb.out.1))) true (Lib.hid (low_good _ (mul_ne Hxa.out.1 Hxb.out.1))))
        go_simp
        refine H91.out.mono ?_
        rintro e w92 ⟨rfl, hb⟩
        clear H91
        replace P1 := P1.below hb
        replace P2 := P2.below hb
        replace P5 := P5.below hb
        replace P6 := P6.below hb
        replace P9 := P9.below hb
        replace P10 := P10.below hb
        replace P70 := P70.below hb
        replace rf1 := rf1.below hb
        replace rf2 := rf2.below hb
        replace rg1 := rg1.below hb
        replace rg2 := rg2.below hb
        replace rpa := rpa.below hb
        replace rqa := rqa.below hb
        replace rra := rra.below hb
        replace rsa := rsa.below hb
        replace rpb := rpb.below hb
        replace rqb := rqb.below hb
        replace rrb := rrb.below hb
        replace rsb := rsb.below hb
        replace rx66 := rx66.below hb
        replace rx67 := rx67.below hb
        replace rx85 := rx85.below hb
        replace rx86 := rx86.below hb
        replace hB := hB.trans (hb.mono hB.size)
        clear hb
        refine hK _ _ ⟨P1, P2, P5, P6, P9, P10, P70⟩ ?_
        clear hK K
        refine Rd.tr_float (.bool true) (by simp only [List.getElem?_toArray, List.getElem?_cons_succ, List.getElem?_cons_zero]; rfl) rfl (by rfl) (fun X _ => by go_simp) ?_
        simp only [Act.put, List.setIfInBounds_toArray, List.set_cons_succ, List.set_cons_zero]
        refine Rd.tr_float (.bool true) (by simp only [List.getElem?_toArray, List.getElem?_cons_succ, List.getElem?_cons_zero]; rfl) rfl (by rfl) (fun X _ => by go_simp) ?_
        simp only [Act.put, List.setIfInBounds_toArray, List.set_cons_succ, List.set_cons_zero]
        exact Rd.tr_end (⟨⟨_, rfl, rfl⟩, hB⟩)
      case next =>
        rintro a3 W ⟨⟨t, rfl, ht⟩, hB⟩
        go_wp2_with fail
        refine bodyPost_ret (v := .bool true) ?_ rfl ⟨rfl, hB⟩
        simp [results, Tryd.f5, go_sem, ht]

theorem made_len {l1 l2 : List Nat} (h : madeB l1 l2 = true) : l2.length ≠ 0 := by
  have := List.length_pos_iff.2 (made_parts h).2.2.1
  omega
theorem sums_any (f1 f2 g1 g2 : Sl) (l11 l12 l21 l22 : List Nat) (w : World) (rf1 : RA w f1 l11) (rf2 : RA w f2 l12) (rg1 : RA w g1 l21) (rg2 : RA w g2 l22) (S11 : Hid (SmallU l11)) (S12 : Hid (SmallU l12)) (S21 : Hid (SmallU l21)) (S22 : Hid (SmallU l22)) :
    Calls Tryd.prog 5 #[.agg #[.slice f1.a f1.n f1.c, .slice f2.a f2.n f2.c], .agg #[.slice g1.a g1.n g1.c, .slice g2.a g2.n g2.c]] w fun e w' => e = .returned (.bool true) ∧ Below w.heap.size w w' := by
  have e1 := rf2.len
  have e2 := rg2.len
  cases h1 : madeB l11 l12 <;> cases h2 : madeB l21 l22
  · by_cases z1 : f2.n = 0
    · exact sums_nn0 f1 f2 g1 g2 l11 l12 l21 l22 w rf1 rf2 rg1 rg2 (Lib.hid h1) (Lib.hid h2) (eq1 z1)
    · by_cases z2 : g2.n = 0
      · exact sums_nn1 f1 f2 g1 g2 l11 l12 l21 l22 w rf1 rf2 rg1 rg2 (Lib.hid h1) (Lib.hid h2) (eq0 z1) (eq1 z2)
      · exact sums_nn2 f1 f2 g1 g2 l11 l12 l21 l22 w rf1 rf2 rg1 rg2 (Lib.hid h1) (Lib.hid h2) (eq0 z1) (eq0 z2)
  · by_cases z1 : f2.n = 0
    · exact sums_ny0 f1 f2 g1 g2 l11 l12 l21 l22 w rf1 rf2 rg1 rg2 S21 S22 (Lib.hid h1) (Lib.hid h2) (eq1 z1)
    · exact sums_ny1 f1 f2 g1 g2 l11 l12 l21 l22 w rf1 rf2 rg1 rg2 S21 S22 (Lib.hid h1) (Lib.hid h2) (eq0 z1) (eq0 (by rw [e2]; exact made_len h2))
  · by_cases z2 : g2.n = 0
    · exact sums_yn0 f1 f2 g1 g2 l11 l12 l21 l22 w rf1 rf2 rg1 rg2 S11 S12 (Lib.hid h1) (Lib.hid h2) (eq0 (by rw [e1]; exact made_len h1)) (eq1 z2)
    · exact sums_yn1 f1 f2 g1 g2 l11 l12 l21 l22 w rf1 rf2 rg1 rg2 S11 S12 (Lib.hid h1) (Lib.hid h2) (eq0 (by rw [e1]; exact made_len h1)) (eq0 z2)
  · exact sums_yy f1 f2 g1 g2 l11 l12 l21 l22 w rf1 rf2 rg1 rg2 S11 S12 S21 S22 (Lib.hid h1) (Lib.hid h2) (eq0 (by rw [e1]; exact made_len h1)) (eq0 (by rw [e2]; exact made_len h2))
end Go.Proofs.YtnfoblmfjldheaaDoor
