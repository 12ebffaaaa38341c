/-
  The walk of RatioBack: whatever the limbs, it answers true, and leaves all memory as it was. No condition.
-/
import Derived.Test.YtnfoblmfjldheaaDoorQi
namespace Go.Proofs.YtnfoblmfjldheaaDoor
open Go.RowKit Go.Dig Go.Shelf Go.Proofs

set_option maxRecDepth 100000 in
set_option maxHeartbeats 4000000 in
theorem back_nn (f1 f2 g1 g2 : Sl) (l11 l12 l21 l22 : List Nat) (w : World) (rf1 : RA w f1 l11) (rf2 : RA w f2 l12) (rg1 : RA w g1 l21) (rg2 : RA w g2 l22)  (HM1 : Hid (madeB l11 l12 = false)) (HM2 : Hid (madeB l21 l22 = false)) :
    Calls Tryd.prog 9 #[.agg #[.slice f1.a f1.n f1.c, .slice f2.a f2.n f2.c], .agg #[.slice g1.a g1.n g1.c, .slice g2.a g2.n g2.c]] w fun e w' => e = .returned (.bool true) ∧ Below w.heap.size w w' := by
  go_enter Tryd.func9, Tryd.ntmps9
  have hb : Below w.heap.size w ((w.alloc (.cells #[.slice f1.a f1.n f1.c, .slice f2.a f2.n f2.c] 24)).alloc (.cells #[.slice g1.a g1.n g1.c, .slice g2.a g2.n g2.c] 24)) := (((Below.refl _ _).alloc (Nat.le_refl _) _).alloc (by simp) _)
  replace rf1 := rf1.below hb
  replace rf2 := rf2.below hb
  replace rg1 := rg1.below hb
  replace rg2 := rg2.below hb
  have hB := hb
  have P1 : Pair ((w.alloc (.cells #[.slice f1.a f1.n f1.c, .slice f2.a f2.n f2.c] 24)).alloc (.cells #[.slice g1.a g1.n g1.c, .slice g2.a g2.n g2.c] 24)) (w.heap.size) 24 (.slice f1.a f1.n f1.c) (.slice f2.a f2.n f2.c) := by
    have h := (Pair.new w 24 (.slice f1.a f1.n f1.c) (.slice f2.a f2.n f2.c)).alloc (.cells #[.slice g1.a g1.n g1.c, .slice g2.a g2.n g2.c] 24)
    simpa only [World.size_alloc] using h
  have P2 : Pair ((w.alloc (.cells #[.slice f1.a f1.n f1.c, .slice f2.a f2.n f2.c] 24)).alloc (.cells #[.slice g1.a g1.n g1.c, .slice g2.a g2.n g2.c] 24)) (w.heap.size + 1) 24 (.slice g1.a g1.n g1.c) (.slice g2.a g2.n g2.c) := by
    have h := Pair.new (w.alloc (.cells #[.slice f1.a f1.n f1.c, .slice f2.a f2.n f2.c] 24)) 24 (.slice g1.a g1.n g1.c) (.slice g2.a g2.n g2.c)
    simpa only [World.size_alloc] using h
  clear hb
  have c0P1 := P1.c0
  have c1P1 := P1.c1
  have c0P2 := P2.c0
  have c1P2 := P2.c1
  have H3 := Lib.hid (made_false f1 f2 l11 l12 ((w.alloc (.cells #[.slice f1.a f1.n f1.c, .slice f2.a f2.n f2.c] 24)).alloc (.cells #[.slice g1.a g1.n g1.c, .slice g2.a g2.n g2.c] 24)) rf1 rf2 HM1)
  go_wp2_with fail
  clear c0P1 c1P1 c0P2 c1P2
  refine H3.out.mono ?_
  rintro e w4 ⟨rfl, hb⟩
  clear H3
  replace P1 := P1.below hb
  replace P2 := P2.below hb
  replace rf1 := rf1.below hb
  replace rf2 := rf2.below hb
  replace rg1 := rg1.below hb
  replace rg2 := rg2.below hb
  replace hB := hB.trans (hb.mono hB.size)
  clear hb
  have hb : Below w4.heap.size w4 ((w4.alloc (.cells #[.slice none 0 0, .slice none 0 0] 30)).alloc (.cells #[.slice none 0 0, .slice none 0 0] 35)) := (((Below.refl _ _).alloc (Nat.le_refl _) _).alloc (by simp) _)
  replace P1 := P1.below hb
  replace P2 := P2.below hb
  replace rf1 := rf1.below hb
  replace rf2 := rf2.below hb
  replace rg1 := rg1.below hb
  replace rg2 := rg2.below hb
  replace hB := hB.trans (hb.mono hB.size)
  have P5 : Pair ((w4.alloc (.cells #[.slice none 0 0, .slice none 0 0] 30)).alloc (.cells #[.slice none 0 0, .slice none 0 0] 35)) (w4.heap.size) 30 (.slice none 0 0) (.slice none 0 0) := by
    have h := (Pair.new w4 30 (.slice none 0 0) (.slice none 0 0)).alloc (.cells #[.slice none 0 0, .slice none 0 0] 35)
    simpa only [World.size_alloc] using h
  have P6 : Pair ((w4.alloc (.cells #[.slice none 0 0, .slice none 0 0] 30)).alloc (.cells #[.slice none 0 0, .slice none 0 0] 35)) (w4.heap.size + 1) 35 (.slice none 0 0) (.slice none 0 0) := by
    have h := Pair.new (w4.alloc (.cells #[.slice none 0 0, .slice none 0 0] 30)) 35 (.slice none 0 0) (.slice none 0 0)
    simpa only [World.size_alloc] using h
  clear hb
  have c0P1 := P1.c0
  have c1P1 := P1.c1
  have c0P2 := P2.c0
  have c1P2 := P2.c1
  have c0P5 := P5.c0
  have c1P5 := P5.c1
  have c0P6 := P6.c0
  have c1P6 := P6.c1
  have H7 := Lib.hid (made_false g1 g2 l21 l22 ((w4.alloc (.cells #[.slice none 0 0, .slice none 0 0] 30)).alloc (.cells #[.slice none 0 0, .slice none 0 0] 35)) rg1 rg2 HM2)
  go_wp2_with fail
  clear c0P1 c1P1 c0P2 c1P2 c0P5 c1P5 c0P6 c1P6
  refine H7.out.mono ?_
  rintro e w8 ⟨rfl, hb⟩
  clear H7
  replace P1 := P1.below hb
  replace P2 := P2.below hb
  replace P5 := P5.below hb
  replace P6 := P6.below hb
  replace rf1 := rf1.below hb
  replace rf2 := rf2.below hb
  replace rg1 := rg1.below hb
  replace rg2 := rg2.below hb
  replace hB := hB.trans (hb.mono hB.size)
  clear hb
  have hb : Below w8.heap.size w8 ((w8.alloc (.cells #[.slice none 0 0, .slice none 0 0] 30)).alloc (.cells #[.slice none 0 0, .slice none 0 0] 35)) := (((Below.refl _ _).alloc (Nat.le_refl _) _).alloc (by simp) _)
  replace P1 := P1.below hb
  replace P2 := P2.below hb
  replace P5 := P5.below hb
  replace P6 := P6.below hb
  replace rf1 := rf1.below hb
  replace rf2 := rf2.below hb
  replace rg1 := rg1.below hb
  replace rg2 := rg2.below hb
  replace hB := hB.trans (hb.mono hB.size)
  have P9 : Pair ((w8.alloc (.cells #[.slice none 0 0, .slice none 0 0] 30)).alloc (.cells #[.slice none 0 0, .slice none 0 0] 35)) (w8.heap.size) 30 (.slice none 0 0) (.slice none 0 0) := by
    have h := (Pair.new w8 30 (.slice none 0 0) (.slice none 0 0)).alloc (.cells #[.slice none 0 0, .slice none 0 0] 35)
    simpa only [World.size_alloc] using h
  have P10 : Pair ((w8.alloc (.cells #[.slice none 0 0, .slice none 0 0] 30)).alloc (.cells #[.slice none 0 0, .slice none 0 0] 35)) (w8.heap.size + 1) 35 (.slice none 0 0) (.slice none 0 0) := by
    have h := Pair.new (w8.alloc (.cells #[.slice none 0 0, .slice none 0 0] 30)) 35 (.slice none 0 0) (.slice none 0 0)
    simpa only [World.size_alloc] using h
  clear hb
  have c0P1 := P1.c0
  have c1P1 := P1.c1
  have c0P2 := P2.c0
  have c1P2 := P2.c1
  have c0P5 := P5.c0
  have c1P5 := P5.c1
  have c0P6 := P6.c0
  have c1P6 := P6.c1
  have c0P9 := P9.c0
  have c1P9 := P9.c1
  have c0P10 := P10.c0
  have c1P10 := P10.c1
  have H11 := Lib.hid (awake_any ((w8.alloc (.cells #[.slice none 0 0, .slice none 0 0] 30)).alloc (.cells #[.slice none 0 0, .slice none 0 0] 35)))
  go_wp2_with fail
  clear c0P1 c1P1 c0P2 c1P2 c0P5 c1P5 c0P6 c1P6 c0P9 c1P9 c0P10 c1P10
  refine H11.out.mono ?_
  rintro e w12 ⟨rfl, hb⟩
  clear H11
  replace P1 := P1.below hb
  replace P2 := P2.below hb
  replace P5 := P5.below hb
  replace P6 := P6.below hb
  replace P9 := P9.below hb
  replace P10 := P10.below hb
  replace rf1 := rf1.below hb
  replace rf2 := rf2.below hb
  replace rg1 := rg1.below hb
  replace rg2 := rg2.below hb
  replace hB := hB.trans (hb.mono hB.size)
  clear hb
  have c0P1 := P1.c0
  have c1P1 := P1.c1
  have c0P2 := P2.c0
  have c1P2 := P2.c1
  have c0P5 := P5.c0
  have c1P5 := P5.c1
  have c0P6 := P6.c0
  have c1P6 := P6.c1
  have c0P9 := P9.c0
  have c1P9 := P9.c1
  have c0P10 := P10.c0
  have c1P10 := P10.c1
  have H13 := Lib.hid (awake_any w12)
  go_wp2_with fail
  clear c0P1 c1P1 c0P2 c1P2 c0P5 c1P5 c0P6 c1P6 c0P9 c1P9 c0P10 c1P10
  refine H13.out.mono ?_
  rintro e w14 ⟨rfl, hb⟩
  clear H13
  replace P1 := P1.below hb
  replace P2 := P2.below hb
  replace P5 := P5.below hb
  replace P6 := P6.below hb
  replace P9 := P9.below hb
  replace P10 := P10.below hb
  replace rf1 := rf1.below hb
  replace rf2 := rf2.below hb
  replace rg1 := rg1.below hb
  replace rg2 := rg2.below hb
  replace hB := hB.trans (hb.mono hB.size)
  clear hb
  have c0P1 := P1.c0
  have c1P1 := P1.c1
  have c0P2 := P2.c0
  have c1P2 := P2.c1
  have c0P5 := P5.c0
  have c1P5 := P5.c1
  have c0P6 := P6.c0
  have c1P6 := P6.c1
  have c0P9 := P9.c0
  have c1P9 := P9.c1
  have c0P10 := P10.c0
  have c1P10 := P10.c1
  go_wp2_with fail
  go_ret
  exact ⟨rfl, hB⟩

set_option maxRecDepth 100000 in
set_option maxHeartbeats 4000000 in
theorem back_ny (f1 f2 g1 g2 : Sl) (l11 l12 l21 l22 : List Nat) (w : World) (rf1 : RA w f1 l11) (rf2 : RA w f2 l12) (rg1 : RA w g1 l21) (rg2 : RA w g2 l22) (S21 : Hid (SmallU l21)) (S22 : Hid (SmallU l22)) (HM1 : Hid (madeB l11 l12 = false)) (HM2 : Hid (madeB l21 l22 = true)) :
    Calls Tryd.prog 9 #[.agg #[.slice f1.a f1.n f1.c, .slice f2.a f2.n f2.c], .agg #[.slice g1.a g1.n g1.c, .slice g2.a g2.n g2.c]] w fun e w' => e = .returned (.bool true) ∧ Below w.heap.size w w' := by
  go_enter Tryd.func9, Tryd.ntmps9
  have hb : Below w.heap.size w ((w.alloc (.cells #[.slice f1.a f1.n f1.c, .slice f2.a f2.n f2.c] 24)).alloc (.cells #[.slice g1.a g1.n g1.c, .slice g2.a g2.n g2.c] 24)) := (((Below.refl _ _).alloc (Nat.le_refl _) _).alloc (by simp) _)
  replace rf1 := rf1.below hb
  replace rf2 := rf2.below hb
  replace rg1 := rg1.below hb
  replace rg2 := rg2.below hb
  have hB := hb
  have P1 : Pair ((w.alloc (.cells #[.slice f1.a f1.n f1.c, .slice f2.a f2.n f2.c] 24)).alloc (.cells #[.slice g1.a g1.n g1.c, .slice g2.a g2.n g2.c] 24)) (w.heap.size) 24 (.slice f1.a f1.n f1.c) (.slice f2.a f2.n f2.c) := by
    have h := (Pair.new w 24 (.slice f1.a f1.n f1.c) (.slice f2.a f2.n f2.c)).alloc (.cells #[.slice g1.a g1.n g1.c, .slice g2.a g2.n g2.c] 24)
    simpa only [World.size_alloc] using h
  have P2 : Pair ((w.alloc (.cells #[.slice f1.a f1.n f1.c, .slice f2.a f2.n f2.c] 24)).alloc (.cells #[.slice g1.a g1.n g1.c, .slice g2.a g2.n g2.c] 24)) (w.heap.size + 1) 24 (.slice g1.a g1.n g1.c) (.slice g2.a g2.n g2.c) := by
    have h := Pair.new (w.alloc (.cells #[.slice f1.a f1.n f1.c, .slice f2.a f2.n f2.c] 24)) 24 (.slice g1.a g1.n g1.c) (.slice g2.a g2.n g2.c)
    simpa only [World.size_alloc] using h
  clear hb
  have c0P1 := P1.c0
  have c1P1 := P1.c1
  have c0P2 := P2.c0
  have c1P2 := P2.c1
  have H3 := Lib.hid (made_false f1 f2 l11 l12 ((w.alloc (.cells #[.slice f1.a f1.n f1.c, .slice f2.a f2.n f2.c] 24)).alloc (.cells #[.slice g1.a g1.n g1.c, .slice g2.a g2.n g2.c] 24)) rf1 rf2 HM1)
  go_wp2_with fail
  clear c0P1 c1P1 c0P2 c1P2
  refine H3.out.mono ?_
  rintro e w4 ⟨rfl, hb⟩
  clear H3
  replace P1 := P1.below hb
  replace P2 := P2.below hb
  replace rf1 := rf1.below hb
  replace rf2 := rf2.below hb
  replace rg1 := rg1.below hb
  replace rg2 := rg2.below hb
  replace hB := hB.trans (hb.mono hB.size)
  clear hb
  have hb : Below w4.heap.size w4 ((w4.alloc (.cells #[.slice none 0 0, .slice none 0 0] 30)).alloc (.cells #[.slice none 0 0, .slice none 0 0] 35)) := (((Below.refl _ _).alloc (Nat.le_refl _) _).alloc (by simp) _)
  replace P1 := P1.below hb
  replace P2 := P2.below hb
  replace rf1 := rf1.below hb
  replace rf2 := rf2.below hb
  replace rg1 := rg1.below hb
  replace rg2 := rg2.below hb
  replace hB := hB.trans (hb.mono hB.size)
  have P5 : Pair ((w4.alloc (.cells #[.slice none 0 0, .slice none 0 0] 30)).alloc (.cells #[.slice none 0 0, .slice none 0 0] 35)) (w4.heap.size) 30 (.slice none 0 0) (.slice none 0 0) := by
    have h := (Pair.new w4 30 (.slice none 0 0) (.slice none 0 0)).alloc (.cells #[.slice none 0 0, .slice none 0 0] 35)
    simpa only [World.size_alloc] using h
  have P6 : Pair ((w4.alloc (.cells #[.slice none 0 0, .slice none 0 0] 30)).alloc (.cells #[.slice none 0 0, .slice none 0 0] 35)) (w4.heap.size + 1) 35 (.slice none 0 0) (.slice none 0 0) := by
    have h := Pair.new (w4.alloc (.cells #[.slice none 0 0, .slice none 0 0] 30)) 35 (.slice none 0 0) (.slice none 0 0)
    simpa only [World.size_alloc] using h
  clear hb
  have c0P1 := P1.c0
  have c1P1 := P1.c1
  have c0P2 := P2.c0
  have c1P2 := P2.c1
  have c0P5 := P5.c0
  have c1P5 := P5.c1
  have c0P6 := P6.c0
  have c1P6 := P6.c1
  have H7 := Lib.hid (made_true g1 g2 l21 l22 ((w4.alloc (.cells #[.slice none 0 0, .slice none 0 0] 30)).alloc (.cells #[.slice none 0 0, .slice none 0 0] 35)) rg1 rg2 S21 S22 HM2)
  go_wp2_with fail
  clear c0P1 c1P1 c0P2 c1P2 c0P5 c1P5 c0P6 c1P6
  refine H7.out.mono ?_
  rintro e w8 ⟨xb, yb, pb, qb, rb, sb, rfl, Lxb, Lyb, Hxb, rpb, rqb, rrb, rsb, hb⟩
  clear H7
  replace P1 := P1.below hb
  replace P2 := P2.below hb
  replace P5 := P5.below hb
  replace P6 := P6.below hb
  replace rf1 := rf1.below hb
  replace rf2 := rf2.below hb
  replace rg1 := rg1.below hb
  replace rg2 := rg2.below hb
  replace hB := hB.trans (hb.mono hB.size)
  clear hb
  have hb : Below w8.heap.size w8 ((w8.alloc (.cells #[.slice pb.a pb.n pb.c, .slice qb.a qb.n qb.c] 30)).alloc (.cells #[.slice rb.a rb.n rb.c, .slice sb.a sb.n sb.c] 35)) := (((Below.refl _ _).alloc (Nat.le_refl _) _).alloc (by simp) _)
  replace P1 := P1.below hb
  replace P2 := P2.below hb
  replace P5 := P5.below hb
  replace P6 := P6.below hb
  replace rf1 := rf1.below hb
  replace rf2 := rf2.below hb
  replace rg1 := rg1.below hb
  replace rg2 := rg2.below hb
  replace rpb := rpb.below hb
  replace rqb := rqb.below hb
  replace rrb := rrb.below hb
  replace rsb := rsb.below hb
  replace hB := hB.trans (hb.mono hB.size)
  have P9 : Pair ((w8.alloc (.cells #[.slice pb.a pb.n pb.c, .slice qb.a qb.n qb.c] 30)).alloc (.cells #[.slice rb.a rb.n rb.c, .slice sb.a sb.n sb.c] 35)) (w8.heap.size) 30 (.slice pb.a pb.n pb.c) (.slice qb.a qb.n qb.c) := by
    have h := (Pair.new w8 30 (.slice pb.a pb.n pb.c) (.slice qb.a qb.n qb.c)).alloc (.cells #[.slice rb.a rb.n rb.c, .slice sb.a sb.n sb.c] 35)
    simpa only [World.size_alloc] using h
  have P10 : Pair ((w8.alloc (.cells #[.slice pb.a pb.n pb.c, .slice qb.a qb.n qb.c] 30)).alloc (.cells #[.slice rb.a rb.n rb.c, .slice sb.a sb.n sb.c] 35)) (w8.heap.size + 1) 35 (.slice rb.a rb.n rb.c) (.slice sb.a sb.n sb.c) := by
    have h := Pair.new (w8.alloc (.cells #[.slice pb.a pb.n pb.c, .slice qb.a qb.n qb.c] 30)) 35 (.slice rb.a rb.n rb.c) (.slice sb.a sb.n sb.c)
    simpa only [World.size_alloc] using h
  clear hb
  have c0P1 := P1.c0
  have c1P1 := P1.c1
  have c0P2 := P2.c0
  have c1P2 := P2.c1
  have c0P5 := P5.c0
  have c1P5 := P5.c1
  have c0P6 := P6.c0
  have c1P6 := P6.c1
  have c0P9 := P9.c0
  have c1P9 := P9.c1
  have c0P10 := P10.c0
  have c1P10 := P10.c1
  have H11 := Lib.hid (awake_any ((w8.alloc (.cells #[.slice pb.a pb.n pb.c, .slice qb.a qb.n qb.c] 30)).alloc (.cells #[.slice rb.a rb.n rb.c, .slice sb.a sb.n sb.c] 35)))
  go_wp2_with fail
  clear c0P1 c1P1 c0P2 c1P2 c0P5 c1P5 c0P6 c1P6 c0P9 c1P9 c0P10 c1P10
  refine H11.out.mono ?_
  rintro e w12 ⟨rfl, hb⟩
  clear H11
  replace P1 := P1.below hb
  replace P2 := P2.below hb
  replace P5 := P5.below hb
  replace P6 := P6.below hb
  replace P9 := P9.below hb
  replace P10 := P10.below hb
  replace rf1 := rf1.below hb
  replace rf2 := rf2.below hb
  replace rg1 := rg1.below hb
  replace rg2 := rg2.below hb
  replace rpb := rpb.below hb
  replace rqb := rqb.below hb
  replace rrb := rrb.below hb
  replace rsb := rsb.below hb
  replace hB := hB.trans (hb.mono hB.size)
  clear hb
  have c0P1 := P1.c0
  have c1P1 := P1.c1
  have c0P2 := P2.c0
  have c1P2 := P2.c1
  have c0P5 := P5.c0
  have c1P5 := P5.c1
  have c0P6 := P6.c0
  have c1P6 := P6.c1
  have c0P9 := P9.c0
  have c1P9 := P9.c1
  have c0P10 := P10.c0
  have c1P10 := P10.c1
  have H13 := Lib.hid (awake_any w12)
  go_wp2_with fail
  clear c0P1 c1P1 c0P2 c1P2 c0P5 c1P5 c0P6 c1P6 c0P9 c1P9 c0P10 c1P10
  refine H13.out.mono ?_
  rintro e w14 ⟨rfl, hb⟩
  clear H13
  replace P1 := P1.below hb
  replace P2 := P2.below hb
  replace P5 := P5.below hb
  replace P6 := P6.below hb
  replace P9 := P9.below hb
  replace P10 := P10.below hb
  replace rf1 := rf1.below hb
  replace rf2 := rf2.below hb
  replace rg1 := rg1.below hb
  replace rg2 := rg2.below hb
  replace rpb := rpb.below hb
  replace rqb := rqb.below hb
  replace rrb := rrb.below hb
  replace rsb := rsb.below hb
  replace hB := hB.trans (hb.mono hB.size)
  clear hb
  have c0P1 := P1.c0
  have c1P1 := P1.c1
  have c0P2 := P2.c0
  have c1P2 := P2.c1
  have c0P5 := P5.c0
  have c1P5 := P5.c1
  have c0P6 := P6.c0
  have c1P6 := P6.c1
  have c0P9 := P9.c0
  have c1P9 := P9.c1
  have c0P10 := P10.c0
  have c1P10 := P10.c1
  go_wp2_with fail
  go_ret
  exact ⟨rfl, hB⟩

set_option maxRecDepth 100000 in
set_option maxHeartbeats 4000000 in
theorem back_yn (f1 f2 g1 g2 : Sl) (l11 l12 l21 l22 : List Nat) (w : World) (rf1 : RA w f1 l11) (rf2 : RA w f2 l12) (rg1 : RA w g1 l21) (rg2 : RA w g2 l22) (S11 : Hid (SmallU l11)) (S12 : Hid (SmallU l12)) (HM1 : Hid (madeB l11 l12 = true)) (HM2 : Hid (madeB l21 l22 = false)) :
    Calls Tryd.prog 9 #[.agg #[.slice f1.a f1.n f1.c, .slice f2.a f2.n f2.c], .agg #[.slice g1.a g1.n g1.c, .slice g2.a g2.n g2.c]] w fun e w' => e = .returned (.bool true) ∧ Below w.heap.size w w' := by
  go_enter Tryd.func9, Tryd.ntmps9
  have hb : Below w.heap.size w ((w.alloc (.cells #[.slice f1.a f1.n f1.c, .slice f2.a f2.n f2.c] 24)).alloc (.cells #[.slice g1.a g1.n g1.c, .slice g2.a g2.n g2.c] 24)) := (((Below.refl _ _).alloc (Nat.le_refl _) _).alloc (by simp) _)
  replace rf1 := rf1.below hb
  replace rf2 := rf2.below hb
  replace rg1 := rg1.below hb
  replace rg2 := rg2.below hb
  have hB := hb
  have P1 : Pair ((w.alloc (.cells #[.slice f1.a f1.n f1.c, .slice f2.a f2.n f2.c] 24)).alloc (.cells #[.slice g1.a g1.n g1.c, .slice g2.a g2.n g2.c] 24)) (w.heap.size) 24 (.slice f1.a f1.n f1.c) (.slice f2.a f2.n f2.c) := by
    have h := (Pair.new w 24 (.slice f1.a f1.n f1.c) (.slice f2.a f2.n f2.c)).alloc (.cells #[.slice g1.a g1.n g1.c, .slice g2.a g2.n g2.c] 24)
    simpa only [World.size_alloc] using h
  have P2 : Pair ((w.alloc (.cells #[.slice f1.a f1.n f1.c, .slice f2.a f2.n f2.c] 24)).alloc (.cells #[.slice g1.a g1.n g1.c, .slice g2.a g2.n g2.c] 24)) (w.heap.size + 1) 24 (.slice g1.a g1.n g1.c) (.slice g2.a g2.n g2.c) := by
    have h := Pair.new (w.alloc (.cells #[.slice f1.a f1.n f1.c, .slice f2.a f2.n f2.c] 24)) 24 (.slice g1.a g1.n g1.c) (.slice g2.a g2.n g2.c)
    simpa only [World.size_alloc] using h
  clear hb
  have c0P1 := P1.c0
  have c1P1 := P1.c1
  have c0P2 := P2.c0
  have c1P2 := P2.c1
  have H3 := Lib.hid (made_true f1 f2 l11 l12 ((w.alloc (.cells #[.slice f1.a f1.n f1.c, .slice f2.a f2.n f2.c] 24)).alloc (.cells #[.slice g1.a g1.n g1.c, .slice g2.a g2.n g2.c] 24)) rf1 rf2 S11 S12 HM1)
  go_wp2_with fail
  clear c0P1 c1P1 c0P2 c1P2
  refine H3.out.mono ?_
  rintro e w4 ⟨xa, ya, pa, qa, ra, sa, rfl, Lxa, Lya, Hxa, rpa, rqa, rra, rsa, hb⟩
  clear H3
  replace P1 := P1.below hb
  replace P2 := P2.below hb
  replace rf1 := rf1.below hb
  replace rf2 := rf2.below hb
  replace rg1 := rg1.below hb
  replace rg2 := rg2.below hb
  replace hB := hB.trans (hb.mono hB.size)
  clear hb
  have hb : Below w4.heap.size w4 ((w4.alloc (.cells #[.slice pa.a pa.n pa.c, .slice qa.a qa.n qa.c] 30)).alloc (.cells #[.slice ra.a ra.n ra.c, .slice sa.a sa.n sa.c] 35)) := (((Below.refl _ _).alloc (Nat.le_refl _) _).alloc (by simp) _)
  replace P1 := P1.below hb
  replace P2 := P2.below hb
  replace rf1 := rf1.below hb
  replace rf2 := rf2.below hb
  replace rg1 := rg1.below hb
  replace rg2 := rg2.below hb
  replace rpa := rpa.below hb
  replace rqa := rqa.below hb
  replace rra := rra.below hb
  replace rsa := rsa.below hb
  replace hB := hB.trans (hb.mono hB.size)
  have P5 : Pair ((w4.alloc (.cells #[.slice pa.a pa.n pa.c, .slice qa.a qa.n qa.c] 30)).alloc (.cells #[.slice ra.a ra.n ra.c, .slice sa.a sa.n sa.c] 35)) (w4.heap.size) 30 (.slice pa.a pa.n pa.c) (.slice qa.a qa.n qa.c) := by
    have h := (Pair.new w4 30 (.slice pa.a pa.n pa.c) (.slice qa.a qa.n qa.c)).alloc (.cells #[.slice ra.a ra.n ra.c, .slice sa.a sa.n sa.c] 35)
    simpa only [World.size_alloc] using h
  have P6 : Pair ((w4.alloc (.cells #[.slice pa.a pa.n pa.c, .slice qa.a qa.n qa.c] 30)).alloc (.cells #[.slice ra.a ra.n ra.c, .slice sa.a sa.n sa.c] 35)) (w4.heap.size + 1) 35 (.slice ra.a ra.n ra.c) (.slice sa.a sa.n sa.c) := by
    have h := Pair.new (w4.alloc (.cells #[.slice pa.a pa.n pa.c, .slice qa.a qa.n qa.c] 30)) 35 (.slice ra.a ra.n ra.c) (.slice sa.a sa.n sa.c)
    simpa only [World.size_alloc] using h
  clear hb
  have c0P1 := P1.c0
  have c1P1 := P1.c1
  have c0P2 := P2.c0
  have c1P2 := P2.c1
  have c0P5 := P5.c0
  have c1P5 := P5.c1
  have c0P6 := P6.c0
  have c1P6 := P6.c1
  have H7 := Lib.hid (made_false g1 g2 l21 l22 ((w4.alloc (.cells #[.slice pa.a pa.n pa.c, .slice qa.a qa.n qa.c] 30)).alloc (.cells #[.slice ra.a ra.n ra.c, .slice sa.a sa.n sa.c] 35)) rg1 rg2 HM2)
  go_wp2_with fail
  clear c0P1 c1P1 c0P2 c1P2 c0P5 c1P5 c0P6 c1P6
  refine H7.out.mono ?_
  rintro e w8 ⟨rfl, hb⟩
  clear H7
  replace P1 := P1.below hb
  replace P2 := P2.below hb
  replace P5 := P5.below hb
  replace P6 := P6.below hb
  replace rf1 := rf1.below hb
  replace rf2 := rf2.below hb
  replace rg1 := rg1.below hb
  replace rg2 := rg2.below hb
  replace rpa := rpa.below hb
  replace rqa := rqa.below hb
  replace rra := rra.below hb
  replace rsa := rsa.below hb
  replace hB := hB.trans (hb.mono hB.size)
  clear hb
  have hb : Below w8.heap.size w8 ((w8.alloc (.cells #[.slice none 0 0, .slice none 0 0] 30)).alloc (.cells #[.slice none 0 0, .slice none 0 0] 35)) := (((Below.refl _ _).alloc (Nat.le_refl _) _).alloc (by simp) _)
  replace P1 := P1.below hb
  replace P2 := P2.below hb
  replace P5 := P5.below hb
  replace P6 := P6.below hb
  replace rf1 := rf1.below hb
  replace rf2 := rf2.below hb
  replace rg1 := rg1.below hb
  replace rg2 := rg2.below hb
  replace rpa := rpa.below hb
  replace rqa := rqa.below hb
  replace rra := rra.below hb
  replace rsa := rsa.below hb
  replace hB := hB.trans (hb.mono hB.size)
  have P9 : Pair ((w8.alloc (.cells #[.slice none 0 0, .slice none 0 0] 30)).alloc (.cells #[.slice none 0 0, .slice none 0 0] 35)) (w8.heap.size) 30 (.slice none 0 0) (.slice none 0 0) := by
    have h := (Pair.new w8 30 (.slice none 0 0) (.slice none 0 0)).alloc (.cells #[.slice none 0 0, .slice none 0 0] 35)
    simpa only [World.size_alloc] using h
  have P10 : Pair ((w8.alloc (.cells #[.slice none 0 0, .slice none 0 0] 30)).alloc (.cells #[.slice none 0 0, .slice none 0 0] 35)) (w8.heap.size + 1) 35 (.slice none 0 0) (.slice none 0 0) := by
    have h := Pair.new (w8.alloc (.cells #[.slice none 0 0, .slice none 0 0] 30)) 35 (.slice none 0 0) (.slice none 0 0)
    simpa only [World.size_alloc] using h
  clear hb
  have c0P1 := P1.c0
  have c1P1 := P1.c1
  have c0P2 := P2.c0
  have c1P2 := P2.c1
  have c0P5 := P5.c0
  have c1P5 := P5.c1
  have c0P6 := P6.c0
  have c1P6 := P6.c1
  have c0P9 := P9.c0
  have c1P9 := P9.c1
  have c0P10 := P10.c0
  have c1P10 := P10.c1
  have H11 := Lib.hid (awake_any ((w8.alloc (.cells #[.slice none 0 0, .slice none 0 0] 30)).alloc (.cells #[.slice none 0 0, .slice none 0 0] 35)))
  go_wp2_with fail
  clear c0P1 c1P1 c0P2 c1P2 c0P5 c1P5 c0P6 c1P6 c0P9 c1P9 c0P10 c1P10
  refine H11.out.mono ?_
  rintro e w12 ⟨rfl, hb⟩
  clear H11
  replace P1 := P1.below hb
  replace P2 := P2.below hb
  replace P5 := P5.below hb
  replace P6 := P6.below hb
  replace P9 := P9.below hb
  replace P10 := P10.below hb
  replace rf1 := rf1.below hb
  replace rf2 := rf2.below hb
  replace rg1 := rg1.below hb
  replace rg2 := rg2.below hb
  replace rpa := rpa.below hb
  replace rqa := rqa.below hb
  replace rra := rra.below hb
  replace rsa := rsa.below hb
  replace hB := hB.trans (hb.mono hB.size)
  clear hb
  have c0P1 := P1.c0
  have c1P1 := P1.c1
  have c0P2 := P2.c0
  have c1P2 := P2.c1
  have c0P5 := P5.c0
  have c1P5 := P5.c1
  have c0P6 := P6.c0
  have c1P6 := P6.c1
  have c0P9 := P9.c0
  have c1P9 := P9.c1
  have c0P10 := P10.c0
  have c1P10 := P10.c1
  have H13 := Lib.hid (awake_any w12)
  go_wp2_with fail
  clear c0P1 c1P1 c0P2 c1P2 c0P5 c1P5 c0P6 c1P6 c0P9 c1P9 c0P10 c1P10
  refine H13.out.mono ?_
  rintro e w14 ⟨rfl, hb⟩
  clear H13
  replace P1 := P1.below hb
  replace P2 := P2.below hb
  replace P5 := P5.below hb
  replace P6 := P6.below hb
  replace P9 := P9.below hb
  replace P10 := P10.below hb
  replace rf1 := rf1.below hb
  replace rf2 := rf2.below hb
  replace rg1 := rg1.below hb
  replace rg2 := rg2.below hb
  replace rpa := rpa.below hb
  replace rqa := rqa.below hb
  replace rra := rra.below hb
  replace rsa := rsa.below hb
  replace hB := hB.trans (hb.mono hB.size)
  clear hb
  have c0P1 := P1.c0
  have c1P1 := P1.c1
  have c0P2 := P2.c0
  have c1P2 := P2.c1
  have c0P5 := P5.c0
  have c1P5 := P5.c1
  have c0P6 := P6.c0
  have c1P6 := P6.c1
  have c0P9 := P9.c0
  have c1P9 := P9.c1
  have c0P10 := P10.c0
  have c1P10 := P10.c1
  go_wp2_with fail
  go_ret
  exact ⟨rfl, hB⟩

set_option maxRecDepth 100000 in
set_option maxHeartbeats 4000000 in
theorem back_yy (f1 f2 g1 g2 : Sl) (l11 l12 l21 l22 : List Nat) (w : World) (rf1 : RA w f1 l11) (rf2 : RA w f2 l12) (rg1 : RA w g1 l21) (rg2 : RA w g2 l22) (S11 : Hid (SmallU l11)) (S12 : Hid (SmallU l12)) (S21 : Hid (SmallU l21)) (S22 : Hid (SmallU l22)) (HM1 : Hid (madeB l11 l12 = true)) (HM2 : Hid (madeB l21 l22 = true)) :
    Calls Tryd.prog 9 #[.agg #[.slice f1.a f1.n f1.c, .slice f2.a f2.n f2.c], .agg #[.slice g1.a g1.n g1.c, .slice g2.a g2.n g2.c]] w fun e w' => e = .returned (.bool true) ∧ Below w.heap.size w w' := by
  go_enter Tryd.func9, Tryd.ntmps9
  have hb : Below w.heap.size w ((w.alloc (.cells #[.slice f1.a f1.n f1.c, .slice f2.a f2.n f2.c] 24)).alloc (.cells #[.slice g1.a g1.n g1.c, .slice g2.a g2.n g2.c] 24)) := (((Below.refl _ _).alloc (Nat.le_refl _) _).alloc (by simp) _)
  replace rf1 := rf1.below hb
  replace rf2 := rf2.below hb
  replace rg1 := rg1.below hb
  replace rg2 := rg2.below hb
  have hB := hb
  have P1 : Pair ((w.alloc (.cells #[.slice f1.a f1.n f1.c, .slice f2.a f2.n f2.c] 24)).alloc (.cells #[.slice g1.a g1.n g1.c, .slice g2.a g2.n g2.c] 24)) (w.heap.size) 24 (.slice f1.a f1.n f1.c) (.slice f2.a f2.n f2.c) := by
    have h := (Pair.new w 24 (.slice f1.a f1.n f1.c) (.slice f2.a f2.n f2.c)).alloc (.cells #[.slice g1.a g1.n g1.c, .slice g2.a g2.n g2.c] 24)
    simpa only [World.size_alloc] using h
  have P2 : Pair ((w.alloc (.cells #[.slice f1.a f1.n f1.c, .slice f2.a f2.n f2.c] 24)).alloc (.cells #[.slice g1.a g1.n g1.c, .slice g2.a g2.n g2.c] 24)) (w.heap.size + 1) 24 (.slice g1.a g1.n g1.c) (.slice g2.a g2.n g2.c) := by
    have h := Pair.new (w.alloc (.cells #[.slice f1.a f1.n f1.c, .slice f2.a f2.n f2.c] 24)) 24 (.slice g1.a g1.n g1.c) (.slice g2.a g2.n g2.c)
    simpa only [World.size_alloc] using h
  clear hb
  have c0P1 := P1.c0
  have c1P1 := P1.c1
  have c0P2 := P2.c0
  have c1P2 := P2.c1
  have H3 := Lib.hid (made_true f1 f2 l11 l12 ((w.alloc (.cells #[.slice f1.a f1.n f1.c, .slice f2.a f2.n f2.c] 24)).alloc (.cells #[.slice g1.a g1.n g1.c, .slice g2.a g2.n g2.c] 24)) rf1 rf2 S11 S12 HM1)
  go_wp2_with fail
  clear c0P1 c1P1 c0P2 c1P2
  refine H3.out.mono ?_
  rintro e w4 ⟨xa, ya, pa, qa, ra, sa, rfl, Lxa, Lya, Hxa, rpa, rqa, rra, rsa, hb⟩
  clear H3
  replace P1 := P1.below hb
  replace P2 := P2.below hb
  replace rf1 := rf1.below hb
  replace rf2 := rf2.below hb
  replace rg1 := rg1.below hb
  replace rg2 := rg2.below hb
  replace hB := hB.trans (hb.mono hB.size)
  clear hb
  have hb : Below w4.heap.size w4 ((w4.alloc (.cells #[.slice pa.a pa.n pa.c, .slice qa.a qa.n qa.c] 30)).alloc (.cells #[.slice ra.a ra.n ra.c, .slice sa.a sa.n sa.c] 35)) := (((Below.refl _ _).alloc (Nat.le_refl _) _).alloc (by simp) _)
  replace P1 := P1.below hb
  replace P2 := P2.below hb
  replace rf1 := rf1.below hb
  replace rf2 := rf2.below hb
  replace rg1 := rg1.below hb
  replace rg2 := rg2.below hb
  replace rpa := rpa.below hb
  replace rqa := rqa.below hb
  replace rra := rra.below hb
  replace rsa := rsa.below hb
  replace hB := hB.trans (hb.mono hB.size)
  have P5 : Pair ((w4.alloc (.cells #[.slice pa.a pa.n pa.c, .slice qa.a qa.n qa.c] 30)).alloc (.cells #[.slice ra.a ra.n ra.c, .slice sa.a sa.n sa.c] 35)) (w4.heap.size) 30 (.slice pa.a pa.n pa.c) (.slice qa.a qa.n qa.c) := by
    have h := (Pair.new w4 30 (.slice pa.a pa.n pa.c) (.slice qa.a qa.n qa.c)).alloc (.cells #[.slice ra.a ra.n ra.c, .slice sa.a sa.n sa.c] 35)
    simpa only [World.size_alloc] using h
  have P6 : Pair ((w4.alloc (.cells #[.slice pa.a pa.n pa.c, .slice qa.a qa.n qa.c] 30)).alloc (.cells #[.slice ra.a ra.n ra.c, .slice sa.a sa.n sa.c] 35)) (w4.heap.size + 1) 35 (.slice ra.a ra.n ra.c) (.slice sa.a sa.n sa.c) := by
    have h := Pair.new (w4.alloc (.cells #[.slice pa.a pa.n pa.c, .slice qa.a qa.n qa.c] 30)) 35 (.slice ra.a ra.n ra.c) (.slice sa.a sa.n sa.c)
    simpa only [World.size_alloc] using h
  clear hb
  have c0P1 := P1.c0
  have c1P1 := P1.c1
  have c0P2 := P2.c0
  have c1P2 := P2.c1
  have c0P5 := P5.c0
  have c1P5 := P5.c1
  have c0P6 := P6.c0
  have c1P6 := P6.c1
  have H7 := Lib.hid (made_true g1 g2 l21 l22 ((w4.alloc (.cells #[.slice pa.a pa.n pa.c, .slice qa.a qa.n qa.c] 30)).alloc (.cells #[.slice ra.a ra.n ra.c, .slice sa.a sa.n sa.c] 35)) rg1 rg2 S21 S22 HM2)
  go_wp2_with fail
  clear c0P1 c1P1 c0P2 c1P2 c0P5 c1P5 c0P6 c1P6
  refine H7.out.mono ?_
  rintro e w8 ⟨xb, yb, pb, qb, rb, sb, rfl, Lxb, Lyb, Hxb, rpb, rqb, rrb, rsb, hb⟩
  clear H7
  replace P1 := P1.below hb
  replace P2 := P2.below hb
  replace P5 := P5.below hb
  replace P6 := P6.below hb
  replace rf1 := rf1.below hb
  replace rf2 := rf2.below hb
  replace rg1 := rg1.below hb
  replace rg2 := rg2.below hb
  replace rpa := rpa.below hb
  replace rqa := rqa.below hb
  replace rra := rra.below hb
  replace rsa := rsa.below hb
  replace hB := hB.trans (hb.mono hB.size)
  clear hb
  by_cases hc : xb = 0
  · skip
    have hpn : ¬ 0 < pb.n := by rw [RU.len rpb, hc]; exact Nat.lt_irrefl 0
    clear hc
    have hb : Below w8.heap.size w8 ((w8.alloc (.cells #[.slice pb.a pb.n pb.c, .slice qb.a qb.n qb.c] 30)).alloc (.cells #[.slice rb.a rb.n rb.c, .slice sb.a sb.n sb.c] 35)) := (((Below.refl _ _).alloc (Nat.le_refl _) _).alloc (by simp) _)
    replace P1 := P1.below hb
    replace P2 := P2.below hb
    replace P5 := P5.below hb
    replace P6 := P6.below hb
    replace rf1 := rf1.below hb
    replace rf2 := rf2.below hb
    replace rg1 := rg1.below hb
    replace rg2 := rg2.below hb
    replace rpa := rpa.below hb
    replace rqa := rqa.below hb
    replace rra := rra.below hb
    replace rsa := rsa.below hb
    replace rpb := rpb.below hb
    replace rqb := rqb.below hb
    replace rrb := rrb.below hb
    replace rsb := rsb.below hb
    replace hB := hB.trans (hb.mono hB.size)
    have P9 : Pair ((w8.alloc (.cells #[.slice pb.a pb.n pb.c, .slice qb.a qb.n qb.c] 30)).alloc (.cells #[.slice rb.a rb.n rb.c, .slice sb.a sb.n sb.c] 35)) (w8.heap.size) 30 (.slice pb.a pb.n pb.c) (.slice qb.a qb.n qb.c) := by
      have h := (Pair.new w8 30 (.slice pb.a pb.n pb.c) (.slice qb.a qb.n qb.c)).alloc (.cells #[.slice rb.a rb.n rb.c, .slice sb.a sb.n sb.c] 35)
      simpa only [World.size_alloc] using h
    have P10 : Pair ((w8.alloc (.cells #[.slice pb.a pb.n pb.c, .slice qb.a qb.n qb.c] 30)).alloc (.cells #[.slice rb.a rb.n rb.c, .slice sb.a sb.n sb.c] 35)) (w8.heap.size + 1) 35 (.slice rb.a rb.n rb.c) (.slice sb.a sb.n sb.c) := by
      have h := Pair.new (w8.alloc (.cells #[.slice pb.a pb.n pb.c, .slice qb.a qb.n qb.c] 30)) 35 (.slice rb.a rb.n rb.c) (.slice sb.a sb.n sb.c)
      simpa only [World.size_alloc] using h
    clear hb
    have c0P1 := P1.c0
    have c1P1 := P1.c1
    have c0P2 := P2.c0
    have c1P2 := P2.c1
    have c0P5 := P5.c0
    have c1P5 := P5.c1
    have c0P6 := P6.c0
    have c1P6 := P6.c1
    have c0P9 := P9.c0
    have c1P9 := P9.c1
    have c0P10 := P10.c0
    have c1P10 := P10.c1
    have H11 := Lib.hid (awake_any ((w8.alloc (.cells #[.slice pb.a pb.n pb.c, .slice qb.a qb.n qb.c] 30)).alloc (.cells #[.slice rb.a rb.n rb.c, .slice sb.a sb.n sb.c] 35)))
    go_wp2_with fail
    clear c0P1 c1P1 c0P2 c1P2 c0P5 c1P5 c0P6 c1P6 c0P9 c1P9 c0P10 c1P10
    refine H11.out.mono ?_
    rintro e w12 ⟨rfl, hb⟩
    clear H11
    replace P1 := P1.below hb
    replace P2 := P2.below hb
    replace P5 := P5.below hb
    replace P6 := P6.below hb
    replace P9 := P9.below hb
    replace P10 := P10.below hb
    replace rf1 := rf1.below hb
    replace rf2 := rf2.below hb
    replace rg1 := rg1.below hb
    replace rg2 := rg2.below hb
    replace rpa := rpa.below hb
    replace rqa := rqa.below hb
    replace rra := rra.below hb
    replace rsa := rsa.below hb
    replace rpb := rpb.below hb
    replace rqb := rqb.below hb
    replace rrb := rrb.below hb
    replace rsb := rsb.below hb
    replace hB := hB.trans (hb.mono hB.size)
    clear hb
    have c0P1 := P1.c0
    have c1P1 := P1.c1
    have c0P2 := P2.c0
    have c1P2 := P2.c1
    have c0P5 := P5.c0
    have c1P5 := P5.c1
    have c0P6 := P6.c0
    have c1P6 := P6.c1
    have c0P9 := P9.c0
    have c1P9 := P9.c1
    have c0P10 := P10.c0
    have c1P10 := P10.c1
    go_wp2_with fail
    clear c0P1 c1P1 c0P2 c1P2 c0P5 c1P5 c0P6 c1P6 c0P9 c1P9 c0P10 c1P10
    have hb : Below w12.heap.size w12 w12.drew := (Below.refl _ _).drew
    replace P1 := P1.below hb
    replace P2 := P2.below hb
    replace P5 := P5.below hb
    replace P6 := P6.below hb
    replace P9 := P9.below hb
    replace P10 := P10.below hb
    replace rf1 := rf1.below hb
    replace rf2 := rf2.below hb
    replace rg1 := rg1.below hb
    replace rg2 := rg2.below hb
    replace rpa := rpa.below hb
    replace rqa := rqa.below hb
    replace rra := rra.below hb
    replace rsa := rsa.below hb
    replace rpb := rpb.below hb
    replace rqb := rqb.below hb
    replace rrb := rrb.below hb
    replace rsb := rsb.below hb
    replace hB := hB.trans (hb.mono hB.size)
    clear hb
    refine Rd.regionT (fun X => Pair X (w.heap.size) 24 (.slice f1.a f1.n f1.c) (.slice f2.a f2.n f2.c) ∧ Pair X (w.heap.size + 1) 24 (.slice g1.a g1.n g1.c) (.slice g2.a g2.n g2.c) ∧ Pair X (w4.heap.size) 30 (.slice pa.a pa.n pa.c) (.slice qa.a qa.n qa.c) ∧ Pair X (w4.heap.size + 1) 35 (.slice ra.a ra.n ra.c) (.slice sa.a sa.n sa.c) ∧ Pair X (w8.heap.size) 30 (.slice pb.a pb.n pb.c) (.slice qb.a qb.n qb.c) ∧ Pair X (w8.heap.size + 1) 35 (.slice rb.a rb.n rb.c) (.slice sb.a sb.n sb.c)) [0, 1, 3, 5, 6, 7, 10] (.one 0 (.one 1 (.one 3 (.two 2 (.two 4 (.one 5 (.one 6 (.one 7 (.one 8 (.one 9 (.one 10 .done)))))) 8 (.one 4 (.one 5 (.one 6 (.one 7 (.one 9 (.one 10 .done))))))) 8 (.one 2 (.one 4 (.one 5 (.one 6 (.one 7 (.one 9 (.one 10 .done))))))))))) (fun ac W => ∃ (BB1 : Nat) (dp1 : Sl) (dq1 : Sl) (y39 y40 y41 y42 y43 y44 y45 y46 : Value), ac = { tmps := List.toArray (.agg #[.slice f1.a f1.n f1.c, .slice f2.a f2.n f2.c] :: .agg #[.slice g1.a g1.n g1.c, .slice g2.a g2.n g2.c] :: .pointer (some ⟨w.heap.size, 0, none⟩) :: .pointer (some ⟨w.heap.size + 1, 0, none⟩) :: .bool false :: .pointer (some ⟨w4.heap.size, 0, none⟩) :: .pointer (some ⟨w4.heap.size + 1, 0, none⟩) :: .bool true :: .pointer (some ⟨w8.heap.size, 0, none⟩) :: .pointer (some ⟨w8.heap.size + 1, 0, none⟩) :: .bool true :: .pointer (some ⟨BB1, 0, none⟩) :: .int .i64 0 :: undef :: undef :: undef :: .tuple #[.agg #[.slice pa.a pa.n pa.c, .slice qa.a qa.n qa.c], .agg #[.slice ra.a ra.n ra.c, .slice sa.a sa.n sa.c], .bool true] :: .agg #[.slice f1.a f1.n f1.c, .slice f2.a f2.n f2.c] :: .tuple #[.agg #[.slice pa.a pa.n pa.c, .slice qa.a qa.n qa.c], .agg #[.slice ra.a ra.n ra.c, .slice sa.a sa.n sa.c], .bool true] :: .agg #[.slice pa.a pa.n pa.c, .slice qa.a qa.n qa.c] :: .agg #[.slice ra.a ra.n ra.c, .slice sa.a sa.n sa.c] :: .bool true :: .tuple #[.agg #[.slice pb.a pb.n pb.c, .slice qb.a qb.n qb.c], .agg #[.slice rb.a rb.n rb.c, .slice sb.a sb.n sb.c], .bool true] :: .agg #[.slice g1.a g1.n g1.c, .slice g2.a g2.n g2.c] :: .tuple #[.agg #[.slice pb.a pb.n pb.c, .slice qb.a qb.n qb.c], .agg #[.slice rb.a rb.n rb.c, .slice sb.a sb.n sb.c], .bool true] :: .agg #[.slice pb.a pb.n pb.c, .slice qb.a qb.n qb.c] :: .agg #[.slice rb.a rb.n rb.c, .slice sb.a sb.n sb.c] :: .bool true :: .bool true :: .bool false :: .bool false :: .bool true :: .bool false :: .bool false :: .bool false :: .bool true :: .bool false :: .bool false :: undef :: y39 :: y40 :: y41 :: y42 :: y43 :: y44 :: y45 :: y46 :: undef :: undef :: undef :: undef :: undef :: undef :: undef :: undef :: undef :: undef :: undef :: undef :: undef :: undef :: undef :: undef :: undef :: undef :: undef :: undef :: undef :: undef :: undef :: undef :: undef :: undef :: undef :: undef :: undef :: undef :: undef :: undef :: undef :: undef :: undef :: undef :: undef :: undef :: undef :: undef :: undef :: undef :: undef :: undef :: undef :: undef :: undef :: undef :: undef :: undef :: undef :: []), defers := [] } ∧ Pair W (w.heap.size) 24 (.slice f1.a f1.n f1.c) (.slice f2.a f2.n f2.c) ∧ Pair W (w.heap.size + 1) 24 (.slice g1.a g1.n g1.c) (.slice g2.a g2.n g2.c) ∧ Pair W (w4.heap.size) 30 (.slice pa.a pa.n pa.c) (.slice qa.a qa.n qa.c) ∧ Pair W (w4.heap.size + 1) 35 (.slice ra.a ra.n ra.c) (.slice sa.a sa.n sa.c) ∧ Pair W (w8.heap.size) 30 (.slice pb.a pb.n pb.c) (.slice qb.a qb.n qb.c) ∧ Pair W (w8.heap.size + 1) 35 (.slice rb.a rb.n rb.c) (.slice sb.a sb.n sb.c) ∧ RA W f1 l11 ∧ RA W f2 l12 ∧ RA W g1 l21 ∧ RA W g2 l22 ∧ RU W pa xa ∧ RU W qa ya ∧ RD W ra xa ∧ RD W sa ya ∧ RU W pb xb ∧ RU W qb yb ∧ RD W rb xb ∧ RD W sb yb ∧ Pair W BB1 30 (.slice dp1.a dp1.n dp1.c) (.slice dq1.a dq1.n dq1.c) ∧ RU W dp1 ((((((xa * yb) + (xb * ya)) / Nat.gcd ((xa * yb) + (xb * ya)) (ya * yb)) * yb) - (xb * ((ya * yb) / Nat.gcd ((xa * yb) + (xb * ya)) (ya * yb)))) / Nat.gcd (((((xa * yb) + (xb * ya)) / Nat.gcd ((xa * yb) + (xb * ya)) (ya * yb)) * yb) - (xb * ((ya * yb) / Nat.gcd ((xa * yb) + (xb * ya)) (ya * yb)))) (((ya * yb) / Nat.gcd ((xa * yb) + (xb * ya)) (ya * yb)) * yb)) ∧ RU W dq1 ((((ya * yb) / Nat.gcd ((xa * yb) + (xb * ya)) (ya * yb)) * yb) / Nat.gcd (((((xa * yb) + (xb * ya)) / Nat.gcd ((xa * yb) + (xb * ya)) (ya * yb)) * yb) - (xb * ((ya * yb) / Nat.gcd ((xa * yb) + (xb * ya)) (ya * yb)))) (((ya * yb) / Nat.gcd ((xa * yb) + (xb * ya)) (ya * yb)) * yb)) ∧ Below w.heap.size w W) (by kernel_rfl) (by kernel_rfl) (by kernel_rfl) ⟨P1, P2, P5, P6, P9, P10⟩ ?tree ?next
    case tree =>
      generalize w12.drew = w13 at P1 P2 P5 P6 P9 P10 rf1 rf2 rg1 rg2 rpa rqa rra rsa rpb rqb rrb rsb hB ⊢
      refine Rd.tr_float (.agg #[.slice pa.a pa.n pa.c, .slice qa.a qa.n qa.c]) (by simp only [List.getElem?_toArray, List.getElem?_cons_zero]; rfl) rfl (by rfl) (fun X hX => by have h0 := hX.2.2.1.c0; have h1 := hX.2.2.1.c1; go_simp) ?_
      simp only [Act.put, List.setIfInBounds_toArray, List.set_cons_succ, List.set_cons_zero]
      refine Rd.tr_float (.agg #[.slice pb.a pb.n pb.c, .slice qb.a qb.n qb.c]) (by simp only [List.getElem?_toArray, List.getElem?_cons_succ, List.getElem?_cons_zero]; rfl) rfl (by rfl) (fun X hX => by have h0 := hX.2.2.2.2.1.c0; have h1 := hX.2.2.2.2.1.c1; go_simp) ?_
      simp only [Act.put, List.setIfInBounds_toArray, List.set_cons_succ, List.set_cons_zero]
      refine Rd.tr_float (.agg #[.slice pb.a pb.n pb.c, .slice qb.a qb.n qb.c]) (by simp only [List.getElem?_toArray, List.getElem?_cons_succ, List.getElem?_cons_zero]; rfl) rfl (by rfl) (fun X hX => by have h0 := hX.2.2.2.2.1.c0; have h1 := hX.2.2.2.2.1.c1; go_simp) ?_
      simp only [Act.put, List.setIfInBounds_toArray, List.set_cons_succ, List.set_cons_zero]
      refine Rd.tr_two (by simp only [List.getElem?_toArray, List.getElem?_cons_succ, List.getElem?_cons_zero]; rfl) (by rfl) (by simp only [List.getElem?_toArray, List.getElem?_cons_succ, List.getElem?_cons_zero]; rfl) (by rfl) (fun K hK => ?_) (fun K hK => ?_)
      · skip
        have H16 := Lib.hid (qadd_nat pa qa pb qb (xa) (ya) (xb) (yb) w13 rpa rqa rpb rqb (Lib.hid (Nat.le_trans Lxa.out (by omega))) (Lib.hid (Nat.le_trans Lya.out (by omega))) (Lib.hid (Nat.le_trans Lxb.out (by omega))) (Lib.hid (Nat.le_trans Lyb.out (by omega))) (Lib.hid (mul_ne Hxa.out.1 Hxb.out.1)))
        go_simp
        refine H16.out.mono ?_
        rintro e w17 ⟨x14, x15, rfl, rx14, rx15, hb⟩
        clear H16
        replace P1 := P1.below hb
        replace P2 := P2.below hb
        replace P5 := P5.below hb
        replace P6 := P6.below hb
        replace P9 := P9.below hb
        replace P10 := P10.below hb
        replace rf1 := rf1.below hb
        replace rf2 := rf2.below hb
        replace rg1 := rg1.below hb
        replace rg2 := rg2.below hb
        replace rpa := rpa.below hb
        replace rqa := rqa.below hb
        replace rra := rra.below hb
        replace rsa := rsa.below hb
        replace rpb := rpb.below hb
        replace rqb := rqb.below hb
        replace rrb := rrb.below hb
        replace rsb := rsb.below hb
        replace hB := hB.trans (hb.mono hB.size)
        clear hb
        refine hK _ _ ⟨P1, P2, P5, P6, P9, P10⟩ ?_
        clear hK K
        refine Rd.tr_two (by simp only [List.getElem?_toArray, List.getElem?_cons_succ, List.getElem?_cons_zero]; rfl) (by rfl) (by simp only [List.getElem?_toArray, List.getElem?_cons_succ, List.getElem?_cons_zero]; rfl) (by rfl) (fun K hK => ?_) (fun K hK => ?_)
        · skip
          have H20 := Lib.hid (qsub_nat x14 x15 pb qb (((xa * yb) + (xb * ya)) / Nat.gcd ((xa * yb) + (xb * ya)) (ya * yb)) ((ya * yb) / Nat.gcd ((xa * yb) + (xb * ya)) (ya * yb)) (xb) (yb) w17 rx14 rx15 rpb rqb (Lib.hid (Nat.le_trans (len_div_le (len_add_le (len_mul_le Lxa.out Lyb.out) (len_mul_le Lxb.out Lya.out))) (by omega))) (Lib.hid (Nat.le_trans (len_div_le (len_mul_le Lya.out Lyb.out)) (by omega))) (Lib.hid (Nat.le_trans Lxb.out (by omega))) (Lib.hid (Nat.le_trans Lyb.out (by omega))) (Lib.hid (back_le rfl rfl (low_cross _ _) Hxa.out.1 Hxb.out.1)) (Lib.hid (mul_ne (low_ne _ (mul_ne Hxa.out.1 Hxb.out.1)) Hxb.out.1)))
          go_simp
          refine H20.out.mono ?_
          rintro e w21 ⟨x18, x19, rfl, rx18, rx19, hb⟩
          clear H20
          replace P1 := P1.below hb
          replace P2 := P2.below hb
          replace P5 := P5.below hb
          replace P6 := P6.below hb
          replace P9 := P9.below hb
          replace P10 := P10.below hb
          replace rf1 := rf1.below hb
          replace rf2 := rf2.below hb
          replace rg1 := rg1.below hb
          replace rg2 := rg2.below hb
          replace rpa := rpa.below hb
          replace rqa := rqa.below hb
          replace rra := rra.below hb
          replace rsa := rsa.below hb
          replace rpb := rpb.below hb
          replace rqb := rqb.below hb
          replace rrb := rrb.below hb
          replace rsb := rsb.below hb
          replace rx14 := rx14.below hb
          replace rx15 := rx15.below hb
          replace hB := hB.trans (hb.mono hB.size)
          clear hb
          refine hK _ _ ⟨P1, P2, P5, P6, P9, P10⟩ ?_
          clear hK K
          refine Rd.tr_float (.tuple #[.agg #[.slice x18.a x18.n x18.c, .slice x19.a x19.n x19.c], .int .i64 0]) (by simp only [List.getElem?_toArray, List.getElem?_cons_succ, List.getElem?_cons_zero]; rfl) rfl (by rfl) (fun X _ => by go_simp) ?_
          simp only [Act.put, List.setIfInBounds_toArray, List.set_cons_succ, List.set_cons_zero]
          refine Rd.tr_float (.agg #[.slice x18.a x18.n x18.c, .slice x19.a x19.n x19.c]) (by simp only [List.getElem?_toArray, List.getElem?_cons_succ, List.getElem?_cons_zero]; rfl) rfl (by rfl) (fun X _ => by go_simp) ?_
          simp only [Act.put, List.setIfInBounds_toArray, List.set_cons_succ, List.set_cons_zero]
          refine Rd.tr_float (.int .i64 0) (by simp only [List.getElem?_toArray, List.getElem?_cons_succ, List.getElem?_cons_zero]; rfl) rfl (by rfl) (fun X _ => by go_simp) ?_
          simp only [Act.put, List.setIfInBounds_toArray, List.set_cons_succ, List.set_cons_zero]
          refine Rd.tr_move (by simp only [List.getElem?_toArray, List.getElem?_cons_succ, List.getElem?_cons_zero]; rfl) rfl (by rfl) (fun K hK => ?_)
          go_simp
          have P22 := Pair.new w21 30 (.slice none 0 0) (.slice none 0 0)
          have nP1P22 := P1.lt
          have nP2P22 := P2.lt
          have nP5P22 := P5.lt
          have nP6P22 := P6.lt
          have nP9P22 := P9.lt
          have nP10P22 := P10.lt
          have gP22 := hB.size
          have hb : Below w21.heap.size w21 (w21.alloc (.cells #[.slice none 0 0, .slice none 0 0] 30)) := (Below.refl _ _).alloc (Nat.le_refl _) _
          replace P1 := P1.below hb
          replace P2 := P2.below hb
          replace P5 := P5.below hb
          replace P6 := P6.below hb
          replace P9 := P9.below hb
          replace P10 := P10.below hb
          replace rf1 := rf1.below hb
          replace rf2 := rf2.below hb
          replace rg1 := rg1.below hb
          replace rg2 := rg2.below hb
          replace rpa := rpa.below hb
          replace rqa := rqa.below hb
          replace rra := rra.below hb
          replace rsa := rsa.below hb
          replace rpb := rpb.below hb
          replace rqb := rqb.below hb
          replace rrb := rrb.below hb
          replace rsb := rsb.below hb
          replace rx14 := rx14.below hb
          replace rx15 := rx15.below hb
          replace rx18 := rx18.below hb
          replace rx19 := rx19.below hb
          replace hB := hB.trans (hb.mono hB.size)
          clear hb
          generalize w21.alloc (.cells #[.slice none 0 0, .slice none 0 0] 30) = w24 at P1 P2 P5 P6 P9 P10 rf1 rf2 rg1 rg2 rpa rqa rra rsa rpb rqb rrb rsb rx14 rx15 rx18 rx19 P22 hB ⊢
          generalize w21.heap.size = B23 at nP1P22 nP2P22 nP5P22 nP6P22 nP9P22 nP10P22 P22 gP22 ⊢
          refine hK _ _ ⟨P1, P2, P5, P6, P9, P10⟩ ?_
          clear hK K
          refine Rd.tr_move (by simp only [List.getElem?_toArray, List.getElem?_cons_succ, List.getElem?_cons_zero]; rfl) rfl (by rfl) (fun K hK => ?_)
          have c0P22 := P22.c0
          have c1P22 := P22.c1
          have z0P22 := P22.z0
          have z1P22 := P22.z1
          go_simp
          clear c0P22 c1P22 z0P22 z1P22
          replace rf1 := rf1.pset P22 (.slice x18.a x18.n x18.c) (.slice x19.a x19.n x19.c)
          replace rf2 := rf2.pset P22 (.slice x18.a x18.n x18.c) (.slice x19.a x19.n x19.c)
          replace rg1 := rg1.pset P22 (.slice x18.a x18.n x18.c) (.slice x19.a x19.n x19.c)
          replace rg2 := rg2.pset P22 (.slice x18.a x18.n x18.c) (.slice x19.a x19.n x19.c)
          replace rpa := rpa.pset P22 (.slice x18.a x18.n x18.c) (.slice x19.a x19.n x19.c)
          replace rqa := rqa.pset P22 (.slice x18.a x18.n x18.c) (.slice x19.a x19.n x19.c)
          replace rra := rra.pset P22 (.slice x18.a x18.n x18.c) (.slice x19.a x19.n x19.c)
          replace rsa := rsa.pset P22 (.slice x18.a x18.n x18.c) (.slice x19.a x19.n x19.c)
          replace rpb := rpb.pset P22 (.slice x18.a x18.n x18.c) (.slice x19.a x19.n x19.c)
          replace rqb := rqb.pset P22 (.slice x18.a x18.n x18.c) (.slice x19.a x19.n x19.c)
          replace rrb := rrb.pset P22 (.slice x18.a x18.n x18.c) (.slice x19.a x19.n x19.c)
          replace rsb := rsb.pset P22 (.slice x18.a x18.n x18.c) (.slice x19.a x19.n x19.c)
          replace rx14 := rx14.pset P22 (.slice x18.a x18.n x18.c) (.slice x19.a x19.n x19.c)
          replace rx15 := rx15.pset P22 (.slice x18.a x18.n x18.c) (.slice x19.a x19.n x19.c)
          replace rx18 := rx18.pset P22 (.slice x18.a x18.n x18.c) (.slice x19.a x19.n x19.c)
          replace rx19 := rx19.pset P22 (.slice x18.a x18.n x18.c) (.slice x19.a x19.n x19.c)
          replace P1 := P1.other (B := B23) (Nat.ne_of_lt nP1P22) (.slice x18.a x18.n x18.c) (.slice x19.a x19.n x19.c)
          replace P2 := P2.other (B := B23) (Nat.ne_of_lt nP2P22) (.slice x18.a x18.n x18.c) (.slice x19.a x19.n x19.c)
          replace P5 := P5.other (B := B23) (Nat.ne_of_lt nP5P22) (.slice x18.a x18.n x18.c) (.slice x19.a x19.n x19.c)
          replace P6 := P6.other (B := B23) (Nat.ne_of_lt nP6P22) (.slice x18.a x18.n x18.c) (.slice x19.a x19.n x19.c)
          replace P9 := P9.other (B := B23) (Nat.ne_of_lt nP9P22) (.slice x18.a x18.n x18.c) (.slice x19.a x19.n x19.c)
          replace P10 := P10.other (B := B23) (Nat.ne_of_lt nP10P22) (.slice x18.a x18.n x18.c) (.slice x19.a x19.n x19.c)
          replace hB := Below.pset (B := B23) hB gP22 (.slice x18.a x18.n x18.c) (.slice x19.a x19.n x19.c)
          replace P22 := P22.set (.slice x18.a x18.n x18.c) (.slice x19.a x19.n x19.c)
          generalize (w24.setCell ⟨B23, 0, none⟩ (.slice x18.a x18.n x18.c)).setCell ⟨B23, 1, none⟩ (.slice x19.a x19.n x19.c) = w25 at P1 P2 P5 P6 P9 P10 P22 rf1 rf2 rg1 rg2 rpa rqa rra rsa rpb rqb rrb rsb rx14 rx15 rx18 rx19 hB ⊢
          refine hK _ _ ⟨P1, P2, P5, P6, P9, P10⟩ ?_
          clear hK K
          refine Rd.tr_float (.int .i64 0) (by simp only [List.getElem?_toArray, List.getElem?_cons_succ, List.getElem?_cons_zero]; rfl) rfl (by rfl) (fun X _ => by go_simp) ?_
          simp only [Act.put, List.setIfInBounds_toArray, List.set_cons_succ, List.set_cons_zero]
          exact Rd.tr_end (⟨B23, x18, x19, _, _, _, _, _, _, _, _, rfl, P1, P2, P5, P6, P9, P10, rf1, rf2, rg1, rg2, rpa, rqa, rra, rsa, rpb, rqb, rrb, rsb, P22, rx18, rx19, hB⟩)
        · skip
          go_simp
          have P26 := Pair.new w17 30 (.slice none 0 0) (.slice none 0 0)
          have nP1P26 := P1.lt
          have nP2P26 := P2.lt
          have nP5P26 := P5.lt
          have nP6P26 := P6.lt
          have nP9P26 := P9.lt
          have nP10P26 := P10.lt
          have gP26 := hB.size
          have hb : Below w17.heap.size w17 (w17.alloc (.cells #[.slice none 0 0, .slice none 0 0] 30)) := (Below.refl _ _).alloc (Nat.le_refl _) _
          replace P1 := P1.below hb
          replace P2 := P2.below hb
          replace P5 := P5.below hb
          replace P6 := P6.below hb
          replace P9 := P9.below hb
          replace P10 := P10.below hb
          replace rf1 := rf1.below hb
          replace rf2 := rf2.below hb
          replace rg1 := rg1.below hb
          replace rg2 := rg2.below hb
          replace rpa := rpa.below hb
          replace rqa := rqa.below hb
          replace rra := rra.below hb
          replace rsa := rsa.below hb
          replace rpb := rpb.below hb
          replace rqb := rqb.below hb
          replace rrb := rrb.below hb
          replace rsb := rsb.below hb
          replace rx14 := rx14.below hb
          replace rx15 := rx15.below hb
          replace hB := hB.trans (hb.mono hB.size)
          clear hb
          generalize w17.alloc (.cells #[.slice none 0 0, .slice none 0 0] 30) = w28 at P1 P2 P5 P6 P9 P10 rf1 rf2 rg1 rg2 rpa rqa rra rsa rpb rqb rrb rsb rx14 rx15 P26 hB ⊢
          generalize w17.heap.size = B27 at nP1P26 nP2P26 nP5P26 nP6P26 nP9P26 nP10P26 P26 gP26 ⊢
          refine hK _ _ ⟨P1, P2, P5, P6, P9, P10⟩ ?_
          clear hK K
          refine Rd.tr_move (by simp only [List.getElem?_toArray, List.getElem?_cons_succ, List.getElem?_cons_zero]; rfl) rfl (by rfl) (fun K hK => ?_)
          have H31 := Lib.hid (qsub_nat x14 x15 pb qb (((xa * yb) + (xb * ya)) / Nat.gcd ((xa * yb) + (xb * ya)) (ya * yb)) ((ya * yb) / Nat.gcd ((xa * yb) + (xb * ya)) (ya * yb)) (xb) (yb) w28 rx14 rx15 rpb rqb (Lib.hid (Nat.le_trans (len_div_le (len_add_le (len_mul_le Lxa.out Lyb.out) (len_mul_le Lxb.out Lya.out))) (by omega))) (Lib.hid (Nat.le_trans (len_div_le (len_mul_le Lya.out Lyb.out)) (by omega))) (Lib.hid (Nat.le_trans Lxb.out (by omega))) (Lib.hid (Nat.le_trans Lyb.out (by omega))) (Lib.hid (back_le rfl rfl (low_cross _ _) Hxa.out.1 Hxb.out.1)) (Lib.hid (mul_ne (low_ne _ (mul_ne Hxa.out.1 Hxb.out.1)) Hxb.out.1)))
          go_simp
          refine H31.out.mono ?_
          rintro e w32 ⟨x29, x30, rfl, rx29, rx30, hb⟩
          clear H31
          replace P1 := P1.below hb
          replace P2 := P2.below hb
          replace P5 := P5.below hb
          replace P6 := P6.below hb
          replace P9 := P9.below hb
          replace P10 := P10.below hb
          replace P26 := P26.below hb
          replace rf1 := rf1.below hb
          replace rf2 := rf2.below hb
          replace rg1 := rg1.below hb
          replace rg2 := rg2.below hb
          replace rpa := rpa.below hb
          replace rqa := rqa.below hb
          replace rra := rra.below hb
          replace rsa := rsa.below hb
          replace rpb := rpb.below hb
          replace rqb := rqb.below hb
          replace rrb := rrb.below hb
          replace rsb := rsb.below hb
          replace rx14 := rx14.below hb
          replace rx15 := rx15.below hb
          replace hB := hB.trans (hb.mono hB.size)
          clear hb
          refine hK _ _ ⟨P1, P2, P5, P6, P9, P10⟩ ?_
          clear hK K
          refine Rd.tr_float (.tuple #[.agg #[.slice x29.a x29.n x29.c, .slice x30.a x30.n x30.c], .int .i64 0]) (by simp only [List.getElem?_toArray, List.getElem?_cons_succ, List.getElem?_cons_zero]; rfl) rfl (by rfl) (fun X _ => by go_simp) ?_
          simp only [Act.put, List.setIfInBounds_toArray, List.set_cons_succ, List.set_cons_zero]
          refine Rd.tr_float (.agg #[.slice x29.a x29.n x29.c, .slice x30.a x30.n x30.c]) (by simp only [List.getElem?_toArray, List.getElem?_cons_succ, List.getElem?_cons_zero]; rfl) rfl (by rfl) (fun X _ => by go_simp) ?_
          simp only [Act.put, List.setIfInBounds_toArray, List.set_cons_succ, List.set_cons_zero]
          refine Rd.tr_float (.int .i64 0) (by simp only [List.getElem?_toArray, List.getElem?_cons_succ, List.getElem?_cons_zero]; rfl) rfl (by rfl) (fun X _ => by go_simp) ?_
          simp only [Act.put, List.setIfInBounds_toArray, List.set_cons_succ, List.set_cons_zero]
          refine Rd.tr_move (by simp only [List.getElem?_toArray, List.getElem?_cons_succ, List.getElem?_cons_zero]; rfl) rfl (by rfl) (fun K hK => ?_)
          have c0P26 := P26.c0
          have c1P26 := P26.c1
          have z0P26 := P26.z0
          have z1P26 := P26.z1
          go_simp
          clear c0P26 c1P26 z0P26 z1P26
          replace rf1 := rf1.pset P26 (.slice x29.a x29.n x29.c) (.slice x30.a x30.n x30.c)
          replace rf2 := rf2.pset P26 (.slice x29.a x29.n x29.c) (.slice x30.a x30.n x30.c)
          replace rg1 := rg1.pset P26 (.slice x29.a x29.n x29.c) (.slice x30.a x30.n x30.c)
          replace rg2 := rg2.pset P26 (.slice x29.a x29.n x29.c) (.slice x30.a x30.n x30.c)
          replace rpa := rpa.pset P26 (.slice x29.a x29.n x29.c) (.slice x30.a x30.n x30.c)
          replace rqa := rqa.pset P26 (.slice x29.a x29.n x29.c) (.slice x30.a x30.n x30.c)
          replace rra := rra.pset P26 (.slice x29.a x29.n x29.c) (.slice x30.a x30.n x30.c)
          replace rsa := rsa.pset P26 (.slice x29.a x29.n x29.c) (.slice x30.a x30.n x30.c)
          replace rpb := rpb.pset P26 (.slice x29.a x29.n x29.c) (.slice x30.a x30.n x30.c)
          replace rqb := rqb.pset P26 (.slice x29.a x29.n x29.c) (.slice x30.a x30.n x30.c)
          replace rrb := rrb.pset P26 (.slice x29.a x29.n x29.c) (.slice x30.a x30.n x30.c)
          replace rsb := rsb.pset P26 (.slice x29.a x29.n x29.c) (.slice x30.a x30.n x30.c)
          replace rx14 := rx14.pset P26 (.slice x29.a x29.n x29.c) (.slice x30.a x30.n x30.c)
          replace rx15 := rx15.pset P26 (.slice x29.a x29.n x29.c) (.slice x30.a x30.n x30.c)
          replace rx29 := rx29.pset P26 (.slice x29.a x29.n x29.c) (.slice x30.a x30.n x30.c)
          replace rx30 := rx30.pset P26 (.slice x29.a x29.n x29.c) (.slice x30.a x30.n x30.c)
          replace P1 := P1.other (B := B27) (Nat.ne_of_lt nP1P26) (.slice x29.a x29.n x29.c) (.slice x30.a x30.n x30.c)
          replace P2 := P2.other (B := B27) (Nat.ne_of_lt nP2P26) (.slice x29.a x29.n x29.c) (.slice x30.a x30.n x30.c)
          replace P5 := P5.other (B := B27) (Nat.ne_of_lt nP5P26) (.slice x29.a x29.n x29.c) (.slice x30.a x30.n x30.c)
          replace P6 := P6.other (B := B27) (Nat.ne_of_lt nP6P26) (.slice x29.a x29.n x29.c) (.slice x30.a x30.n x30.c)
          replace P9 := P9.other (B := B27) (Nat.ne_of_lt nP9P26) (.slice x29.a x29.n x29.c) (.slice x30.a x30.n x30.c)
          replace P10 := P10.other (B := B27) (Nat.ne_of_lt nP10P26) (.slice x29.a x29.n x29.c) (.slice x30.a x30.n x30.c)
          replace hB := Below.pset (B := B27) hB gP26 (.slice x29.a x29.n x29.c) (.slice x30.a x30.n x30.c)
          replace P26 := P26.set (.slice x29.a x29.n x29.c) (.slice x30.a x30.n x30.c)
          generalize (w32.setCell ⟨B27, 0, none⟩ (.slice x29.a x29.n x29.c)).setCell ⟨B27, 1, none⟩ (.slice x30.a x30.n x30.c) = w33 at P1 P2 P5 P6 P9 P10 P26 rf1 rf2 rg1 rg2 rpa rqa rra rsa rpb rqb rrb rsb rx14 rx15 rx29 rx30 hB ⊢
          refine hK _ _ ⟨P1, P2, P5, P6, P9, P10⟩ ?_
          clear hK K
          refine Rd.tr_float (.int .i64 0) (by simp only [List.getElem?_toArray, List.getElem?_cons_succ, List.getElem?_cons_zero]; rfl) rfl (by rfl) (fun X _ => by go_simp) ?_
          simp only [Act.put, List.setIfInBounds_toArray, List.set_cons_succ, List.set_cons_zero]
          exact Rd.tr_end (⟨B27, x29, x30, _, _, _, _, _, _, _, _, rfl, P1, P2, P5, P6, P9, P10, rf1, rf2, rg1, rg2, rpa, rqa, rra, rsa, rpb, rqb, rrb, rsb, P26, rx29, rx30, hB⟩)
      · skip
        go_simp
        have P34 := Pair.new w13 30 (.slice none 0 0) (.slice none 0 0)
        have nP1P34 := P1.lt
        have nP2P34 := P2.lt
        have nP5P34 := P5.lt
        have nP6P34 := P6.lt
        have nP9P34 := P9.lt
        have nP10P34 := P10.lt
        have gP34 := hB.size
        have hb : Below w13.heap.size w13 (w13.alloc (.cells #[.slice none 0 0, .slice none 0 0] 30)) := (Below.refl _ _).alloc (Nat.le_refl _) _
        replace P1 := P1.below hb
        replace P2 := P2.below hb
        replace P5 := P5.below hb
        replace P6 := P6.below hb
        replace P9 := P9.below hb
        replace P10 := P10.below hb
        replace rf1 := rf1.below hb
        replace rf2 := rf2.below hb
        replace rg1 := rg1.below hb
        replace rg2 := rg2.below hb
        replace rpa := rpa.below hb
        replace rqa := rqa.below hb
        replace rra := rra.below hb
        replace rsa := rsa.below hb
        replace rpb := rpb.below hb
        replace rqb := rqb.below hb
        replace rrb := rrb.below hb
        replace rsb := rsb.below hb
        replace hB := hB.trans (hb.mono hB.size)
        clear hb
        generalize w13.alloc (.cells #[.slice none 0 0, .slice none 0 0] 30) = w36 at P1 P2 P5 P6 P9 P10 rf1 rf2 rg1 rg2 rpa rqa rra rsa rpb rqb rrb rsb P34 hB ⊢
        generalize w13.heap.size = B35 at nP1P34 nP2P34 nP5P34 nP6P34 nP9P34 nP10P34 P34 gP34 ⊢
        refine hK _ _ ⟨P1, P2, P5, P6, P9, P10⟩ ?_
        clear hK K
        refine Rd.tr_move (by simp only [List.getElem?_toArray, List.getElem?_cons_succ, List.getElem?_cons_zero]; rfl) rfl (by rfl) (fun K hK => ?_)
        have H39 := Lib.hid (qadd_nat pa qa pb qb (xa) (ya) (xb) (yb) w36 rpa rqa rpb rqb (Lib.hid (Nat.le_trans Lxa.out (by omega))) (Lib.hid (Nat.le_trans Lya.out (by omega))) (Lib.hid (Nat.le_trans Lxb.out (by omega))) (Lib.hid (Nat.le_trans Lyb.out (by omega))) (Lib.hid (mul_ne Hxa.out.1 Hxb.out.1)))
        go_simp
        refine H39.out.mono ?_
        rintro e w40 ⟨x37, x38, rfl, rx37, rx38, hb⟩
        clear H39
        replace P1 := P1.below hb
        replace P2 := P2.below hb
        replace P5 := P5.below hb
        replace P6 := P6.below hb
        replace P9 := P9.below hb
        replace P10 := P10.below hb
        replace P34 := P34.below hb
        replace rf1 := rf1.below hb
        replace rf2 := rf2.below hb
        replace rg1 := rg1.below hb
        replace rg2 := rg2.below hb
        replace rpa := rpa.below hb
        replace rqa := rqa.below hb
        replace rra := rra.below hb
        replace rsa := rsa.below hb
        replace rpb := rpb.below hb
        replace rqb := rqb.below hb
        replace rrb := rrb.below hb
        replace rsb := rsb.below hb
        replace hB := hB.trans (hb.mono hB.size)
        clear hb
        refine hK _ _ ⟨P1, P2, P5, P6, P9, P10⟩ ?_
        clear hK K
        refine Rd.tr_move (by simp only [List.getElem?_toArray, List.getElem?_cons_succ, List.getElem?_cons_zero]; rfl) rfl (by rfl) (fun K hK => ?_)
        have H43 := Lib.hid (qsub_nat x37 x38 pb qb (((xa * yb) + (xb * ya)) / Nat.gcd ((xa * yb) + (xb * ya)) (ya * yb)) ((ya * yb) / Nat.gcd ((xa * yb) + (xb * ya)) (ya * yb)) (xb) (yb) w40 rx37 rx38 rpb rqb (Lib.hid (Nat.le_trans (len_div_le (len_add_le (len_mul_le Lxa.out Lyb.out) (len_mul_le Lxb.out Lya.out))) (by omega))) (Lib.hid (Nat.le_trans (len_div_le (len_mul_le Lya.out Lyb.out)) (by omega))) (Lib.hid (Nat.le_trans Lxb.out (by omega))) (Lib.hid (Nat.le_trans Lyb.out (by omega))) (Lib.hid (back_le rfl rfl (low_cross _ _) Hxa.out.1 Hxb.out.1)) (Lib.hid (mul_ne (low_ne _ (mul_ne Hxa.out.1 Hxb.out.1)) Hxb.out.1)))
        go_simp
        refine H43.out.mono ?_
        rintro e w44 ⟨x41, x42, rfl, rx41, rx42, hb⟩
        clear H43
        replace P1 := P1.below hb
        replace P2 := P2.below hb
        replace P5 := P5.below hb
        replace P6 := P6.below hb
        replace P9 := P9.below hb
        replace P10 := P10.below hb
        replace P34 := P34.below hb
        replace rf1 := rf1.below hb
        replace rf2 := rf2.below hb
        replace rg1 := rg1.below hb
        replace rg2 := rg2.below hb
        replace rpa := rpa.below hb
        replace rqa := rqa.below hb
        replace rra := rra.below hb
        replace rsa := rsa.below hb
        replace rpb := rpb.below hb
        replace rqb := rqb.below hb
        replace rrb := rrb.below hb
        replace rsb := rsb.below hb
        replace rx37 := rx37.below hb
        replace rx38 := rx38.below hb
        replace hB := hB.trans (hb.mono hB.size)
        clear hb
        refine hK _ _ ⟨P1, P2, P5, P6, P9, P10⟩ ?_
        clear hK K
        refine Rd.tr_float (.tuple #[.agg #[.slice x41.a x41.n x41.c, .slice x42.a x42.n x42.c], .int .i64 0]) (by simp only [List.getElem?_toArray, List.getElem?_cons_succ, List.getElem?_cons_zero]; rfl) rfl (by rfl) (fun X _ => by go_simp) ?_
        simp only [Act.put, List.setIfInBounds_toArray, List.set_cons_succ, List.set_cons_zero]
        refine Rd.tr_float (.agg #[.slice x41.a x41.n x41.c, .slice x42.a x42.n x42.c]) (by simp only [List.getElem?_toArray, List.getElem?_cons_succ, List.getElem?_cons_zero]; rfl) rfl (by rfl) (fun X _ => by go_simp) ?_
        simp only [Act.put, List.setIfInBounds_toArray, List.set_cons_succ, List.set_cons_zero]
        refine Rd.tr_float (.int .i64 0) (by simp only [List.getElem?_toArray, List.getElem?_cons_succ, List.getElem?_cons_zero]; rfl) rfl (by rfl) (fun X _ => by go_simp) ?_
        simp only [Act.put, List.setIfInBounds_toArray, List.set_cons_succ, List.set_cons_zero]
        refine Rd.tr_move (by simp only [List.getElem?_toArray, List.getElem?_cons_succ, List.getElem?_cons_zero]; rfl) rfl (by rfl) (fun K hK => ?_)
        have c0P34 := P34.c0
        have c1P34 := P34.c1
        have z0P34 := P34.z0
        have z1P34 := P34.z1
        go_simp
        clear c0P34 c1P34 z0P34 z1P34
        replace rf1 := rf1.pset P34 (.slice x41.a x41.n x41.c) (.slice x42.a x42.n x42.c)
        replace rf2 := rf2.pset P34 (.slice x41.a x41.n x41.c) (.slice x42.a x42.n x42.c)
        replace rg1 := rg1.pset P34 (.slice x41.a x41.n x41.c) (.slice x42.a x42.n x42.c)
        replace rg2 := rg2.pset P34 (.slice x41.a x41.n x41.c) (.slice x42.a x42.n x42.c)
        replace rpa := rpa.pset P34 (.slice x41.a x41.n x41.c) (.slice x42.a x42.n x42.c)
        replace rqa := rqa.pset P34 (.slice x41.a x41.n x41.c) (.slice x42.a x42.n x42.c)
        replace rra := rra.pset P34 (.slice x41.a x41.n x41.c) (.slice x42.a x42.n x42.c)
        replace rsa := rsa.pset P34 (.slice x41.a x41.n x41.c) (.slice x42.a x42.n x42.c)
        replace rpb := rpb.pset P34 (.slice x41.a x41.n x41.c) (.slice x42.a x42.n x42.c)
        replace rqb := rqb.pset P34 (.slice x41.a x41.n x41.c) (.slice x42.a x42.n x42.c)
        replace rrb := rrb.pset P34 (.slice x41.a x41.n x41.c) (.slice x42.a x42.n x42.c)
        replace rsb := rsb.pset P34 (.slice x41.a x41.n x41.c) (.slice x42.a x42.n x42.c)
        replace rx37 := rx37.pset P34 (.slice x41.a x41.n x41.c) (.slice x42.a x42.n x42.c)
        replace rx38 := rx38.pset P34 (.slice x41.a x41.n x41.c) (.slice x42.a x42.n x42.c)
        replace rx41 := rx41.pset P34 (.slice x41.a x41.n x41.c) (.slice x42.a x42.n x42.c)
        replace rx42 := rx42.pset P34 (.slice x41.a x41.n x41.c) (.slice x42.a x42.n x42.c)
        replace P1 := P1.other (B := B35) (Nat.ne_of_lt nP1P34) (.slice x41.a x41.n x41.c) (.slice x42.a x42.n x42.c)
        replace P2 := P2.other (B := B35) (Nat.ne_of_lt nP2P34) (.slice x41.a x41.n x41.c) (.slice x42.a x42.n x42.c)
        replace P5 := P5.other (B := B35) (Nat.ne_of_lt nP5P34) (.slice x41.a x41.n x41.c) (.slice x42.a x42.n x42.c)
        replace P6 := P6.other (B := B35) (Nat.ne_of_lt nP6P34) (.slice x41.a x41.n x41.c) (.slice x42.a x42.n x42.c)
        replace P9 := P9.other (B := B35) (Nat.ne_of_lt nP9P34) (.slice x41.a x41.n x41.c) (.slice x42.a x42.n x42.c)
        replace P10 := P10.other (B := B35) (Nat.ne_of_lt nP10P34) (.slice x41.a x41.n x41.c) (.slice x42.a x42.n x42.c)
        replace hB := Below.pset (B := B35) hB gP34 (.slice x41.a x41.n x41.c) (.slice x42.a x42.n x42.c)
        replace P34 := P34.set (.slice x41.a x41.n x41.c) (.slice x42.a x42.n x42.c)
        generalize (w44.setCell ⟨B35, 0, none⟩ (.slice x41.a x41.n x41.c)).setCell ⟨B35, 1, none⟩ (.slice x42.a x42.n x42.c) = w45 at P1 P2 P5 P6 P9 P10 P34 rf1 rf2 rg1 rg2 rpa rqa rra rsa rpb rqb rrb rsb rx37 rx38 rx41 rx42 hB ⊢
        refine hK _ _ ⟨P1, P2, P5, P6, P9, P10⟩ ?_
        clear hK K
        refine Rd.tr_float (.int .i64 0) (by simp only [List.getElem?_toArray, List.getElem?_cons_succ, List.getElem?_cons_zero]; rfl) rfl (by rfl) (fun X _ => by go_simp) ?_
        simp only [Act.put, List.setIfInBounds_toArray, List.set_cons_succ, List.set_cons_zero]
        exact Rd.tr_end (⟨B35, x41, x42, _, _, _, _, _, _, _, _, rfl, P1, P2, P5, P6, P9, P10, rf1, rf2, rg1, rg2, rpa, rqa, rra, rsa, rpb, rqb, rrb, rsb, P34, rx41, rx42, hB⟩)
    case next =>
      rintro a3 W1 ⟨BB1, dp1, dq1, y39, y40, y41, y42, y43, y44, y45, y46, rfl, P1, P2, P5, P6, P9, P10, rf1, rf2, rg1, rg2, rpa, rqa, rra, rsa, rpb, rqb, rrb, rsb, P46, rdp1, rdq1, hB⟩
      have c0P1 := P1.c0
      have c1P1 := P1.c1
      have c0P2 := P2.c0
      have c1P2 := P2.c1
      have c0P5 := P5.c0
      have c1P5 := P5.c1
      have c0P6 := P6.c0
      have c1P6 := P6.c1
      have c0P9 := P9.c0
      have c1P9 := P9.c1
      have c0P10 := P10.c0
      have c1P10 := P10.c1
      have c0P46 := P46.c0
      have c1P46 := P46.c1
      have H47 := Lib.hid (qcmp_nat dp1 dq1 pa qa ((((((xa * yb) + (xb * ya)) / Nat.gcd ((xa * yb) + (xb * ya)) (ya * yb)) * yb) - (xb * ((ya * yb) / Nat.gcd ((xa * yb) + (xb * ya)) (ya * yb)))) / Nat.gcd (((((xa * yb) + (xb * ya)) / Nat.gcd ((xa * yb) + (xb * ya)) (ya * yb)) * yb) - (xb * ((ya * yb) / Nat.gcd ((xa * yb) + (xb * ya)) (ya * yb)))) (((ya * yb) / Nat.gcd ((xa * yb) + (xb * ya)) (ya * yb)) * yb)) ((((ya * yb) / Nat.gcd ((xa * yb) + (xb * ya)) (ya * yb)) * yb) / Nat.gcd (((((xa * yb) + (xb * ya)) / Nat.gcd ((xa * yb) + (xb * ya)) (ya * yb)) * yb) - (xb * ((ya * yb) / Nat.gcd ((xa * yb) + (xb * ya)) (ya * yb)))) (((ya * yb) / Nat.gcd ((xa * yb) + (xb * ya)) (ya * yb)) * yb)) (xa) (ya) W1 rdp1 rdq1 rpa rqa (Lib.hid (Nat.le_trans (len_div_le (len_sub_le (len_mul_le (len_div_le (len_add_le (len_mul_le Lxa.out Lyb.out) (len_mul_le Lxb.out Lya.out))) Lyb.out))) (by omega))) (Lib.hid (Nat.le_trans (len_div_le (len_mul_le (len_div_le (len_mul_le Lya.out Lyb.out)) Lyb.out)) (by omega))) (Lib.hid (Nat.le_trans Lxa.out (by omega))) (Lib.hid (Nat.le_trans Lya.out (by omega))))
      rw [cmp_eq (same_cross (mul_ne (low_ne _ (mul_ne Hxa.out.1 Hxb.out.1)) Hxb.out.1) (back_sub rfl rfl (low_cross _ _) Hxa.out.1 Hxb.out.1))] at H47
      go_wp2_with fail
      clear c0P1 c1P1 c0P2 c1P2 c0P5 c1P5 c0P6 c1P6 c0P9 c1P9 c0P10 c1P10 c0P46 c1P46
      refine H47.out.mono ?_
      rintro e w48 ⟨rfl, hb⟩
      clear H47
      replace P1 := P1.below hb
      replace P2 := P2.below hb
      replace P5 := P5.below hb
      replace P6 := P6.below hb
      replace P9 := P9.below hb
      replace P10 := P10.below hb
      replace P46 := P46.below hb
      replace rf1 := rf1.below hb
      replace rf2 := rf2.below hb
      replace rg1 := rg1.below hb
      replace rg2 := rg2.below hb
      replace rpa := rpa.below hb
      replace rqa := rqa.below hb
      replace rra := rra.below hb
      replace rsa := rsa.below hb
      replace rpb := rpb.below hb
      replace rqb := rqb.below hb
      replace rrb := rrb.below hb
      replace rsb := rsb.below hb
      replace rdp1 := rdp1.below hb
      replace rdq1 := rdq1.below hb
      replace hB := hB.trans (hb.mono hB.size)
      clear hb
      have c0P1 := P1.c0
      have c1P1 := P1.c1
      have c0P2 := P2.c0
      have c1P2 := P2.c1
      have c0P5 := P5.c0
      have c1P5 := P5.c1
      have c0P6 := P6.c0
      have c1P6 := P6.c1
      have c0P9 := P9.c0
      have c1P9 := P9.c1
      have c0P10 := P10.c0
      have c1P10 := P10.c1
      have c0P46 := P46.c0
      have c1P46 := P46.c1
      have H50 := Lib.hid (qfloor_nat pa qa (xa) (ya) w48 rpa rqa (Lib.hid (Nat.le_trans Lxa.out (by omega))) (Lib.hid (Nat.le_trans Lya.out (by omega))) (Lib.hid Hxa.out.1))
      go_wp2_with fail
      clear c0P1 c1P1 c0P2 c1P2 c0P5 c1P5 c0P6 c1P6 c0P9 c1P9 c0P10 c1P10 c0P46 c1P46
      refine H50.out.mono ?_
      rintro e w51 ⟨x49, rfl, rx49, hb⟩
      clear H50
      replace P1 := P1.below hb
      replace P2 := P2.below hb
      replace P5 := P5.below hb
      replace P6 := P6.below hb
      replace P9 := P9.below hb
      replace P10 := P10.below hb
      replace P46 := P46.below hb
      replace rf1 := rf1.below hb
      replace rf2 := rf2.below hb
      replace rg1 := rg1.below hb
      replace rg2 := rg2.below hb
      replace rpa := rpa.below hb
      replace rqa := rqa.below hb
      replace rra := rra.below hb
      replace rsa := rsa.below hb
      replace rpb := rpb.below hb
      replace rqb := rqb.below hb
      replace rrb := rrb.below hb
      replace rsb := rsb.below hb
      replace rdp1 := rdp1.below hb
      replace rdq1 := rdq1.below hb
      replace hB := hB.trans (hb.mono hB.size)
      clear hb
      have c0P1 := P1.c0
      have c1P1 := P1.c1
      have c0P2 := P2.c0
      have c1P2 := P2.c1
      have c0P5 := P5.c0
      have c1P5 := P5.c1
      have c0P6 := P6.c0
      have c1P6 := P6.c1
      have c0P9 := P9.c0
      have c1P9 := P9.c1
      have c0P10 := P10.c0
      have c1P10 := P10.c1
      have c0P46 := P46.c0
      have c1P46 := P46.c1
      have H54 := Lib.hid (nOf_any 1 w51 (by omega))
      go_wp2_with fail
      clear c0P1 c1P1 c0P2 c1P2 c0P5 c1P5 c0P6 c1P6 c0P9 c1P9 c0P10 c1P10 c0P46 c1P46
      refine H54.out.mono ?_
      rintro e w55 ⟨v53, rfl, rx52, hb⟩
      clear H54
      replace P1 := P1.below hb
      replace P2 := P2.below hb
      replace P5 := P5.below hb
      replace P6 := P6.below hb
      replace P9 := P9.below hb
      replace P10 := P10.below hb
      replace P46 := P46.below hb
      replace rf1 := rf1.below hb
      replace rf2 := rf2.below hb
      replace rg1 := rg1.below hb
      replace rg2 := rg2.below hb
      replace rpa := rpa.below hb
      replace rqa := rqa.below hb
      replace rra := rra.below hb
      replace rsa := rsa.below hb
      replace rpb := rpb.below hb
      replace rqb := rqb.below hb
      replace rrb := rrb.below hb
      replace rsb := rsb.below hb
      replace rdp1 := rdp1.below hb
      replace rdq1 := rdq1.below hb
      replace rx49 := rx49.below hb
      replace hB := hB.trans (hb.mono hB.size)
      clear hb
      obtain ⟨x52, rfl, rx52⟩ := rx52.sl
      have c0P1 := P1.c0
      have c1P1 := P1.c1
      have c0P2 := P2.c0
      have c1P2 := P2.c1
      have c0P5 := P5.c0
      have c1P5 := P5.c1
      have c0P6 := P6.c0
      have c1P6 := P6.c1
      have c0P9 := P9.c0
      have c1P9 := P9.c1
      have c0P10 := P10.c0
      have c1P10 := P10.c1
      have c0P46 := P46.c0
      have c1P46 := P46.c1
      have H58 := Lib.hid (of_nat (.slice x49.a x49.n x49.c) (.slice x52.a x52.n x52.c) (xa / ya) (1) w55 rx49 rx52 (Nat.le_trans (len_div_le Lxa.out) (by omega)) (Nat.le_trans (one_row 1 (by omega)) (by omega)) (by omega))
      go_wp2_with fail
      clear c0P1 c1P1 c0P2 c1P2 c0P5 c1P5 c0P6 c1P6 c0P9 c1P9 c0P10 c1P10 c0P46 c1P46
      refine H58.out.mono ?_
      rintro e w59 ⟨x56, x57, rfl, rx56, rx57, hb⟩
      clear H58
      replace P1 := P1.below hb
      replace P2 := P2.below hb
      replace P5 := P5.below hb
      replace P6 := P6.below hb
      replace P9 := P9.below hb
      replace P10 := P10.below hb
      replace P46 := P46.below hb
      replace rf1 := rf1.below hb
      replace rf2 := rf2.below hb
      replace rg1 := rg1.below hb
      replace rg2 := rg2.below hb
      replace rpa := rpa.below hb
      replace rqa := rqa.below hb
      replace rra := rra.below hb
      replace rsa := rsa.below hb
      replace rpb := rpb.below hb
      replace rqb := rqb.below hb
      replace rrb := rrb.below hb
      replace rsb := rsb.below hb
      replace rdp1 := rdp1.below hb
      replace rdq1 := rdq1.below hb
      replace rx49 := rx49.below hb
      replace rx52 := rx52.below hb
      replace hB := hB.trans (hb.mono hB.size)
      clear hb
      have hfl : cmpZ (xa / ya * ya) xa ≤ 0 := cmpZ_le (Nat.div_mul_le_self xa ya)
      have hb : Below w59.heap.size w59 (w59.alloc (.cells #[.slice x56.a x56.n x56.c, .slice x57.a x57.n x57.c] 30)) := ((Below.refl _ _).alloc (Nat.le_refl _) _)
      replace P1 := P1.below hb
      replace P2 := P2.below hb
      replace P5 := P5.below hb
      replace P6 := P6.below hb
      replace P9 := P9.below hb
      replace P10 := P10.below hb
      replace P46 := P46.below hb
      replace rf1 := rf1.below hb
      replace rf2 := rf2.below hb
      replace rg1 := rg1.below hb
      replace rg2 := rg2.below hb
      replace rpa := rpa.below hb
      replace rqa := rqa.below hb
      replace rra := rra.below hb
      replace rsa := rsa.below hb
      replace rpb := rpb.below hb
      replace rqb := rqb.below hb
      replace rrb := rrb.below hb
      replace rsb := rsb.below hb
      replace rdp1 := rdp1.below hb
      replace rdq1 := rdq1.below hb
      replace rx49 := rx49.below hb
      replace rx52 := rx52.below hb
      replace rx56 := rx56.below hb
      replace rx57 := rx57.below hb
      replace hB := hB.trans (hb.mono hB.size)
      have P60 : Pair (w59.alloc (.cells #[.slice x56.a x56.n x56.c, .slice x57.a x57.n x57.c] 30)) (w59.heap.size) 30 (.slice x56.a x56.n x56.c) (.slice x57.a x57.n x57.c) := by
        have h := Pair.new w59 30 (.slice x56.a x56.n x56.c) (.slice x57.a x57.n x57.c)
        simpa only [World.size_alloc] using h
      clear hb
      have c0P1 := P1.c0
      have c1P1 := P1.c1
      have c0P2 := P2.c0
      have c1P2 := P2.c1
      have c0P5 := P5.c0
      have c1P5 := P5.c1
      have c0P6 := P6.c0
      have c1P6 := P6.c1
      have c0P9 := P9.c0
      have c1P9 := P9.c1
      have c0P10 := P10.c0
      have c1P10 := P10.c1
      have c0P46 := P46.c0
      have c1P46 := P46.c1
      have c0P60 := P60.c0
      have c1P60 := P60.c1
      go_wp2_with fail
      clear c0P1 c1P1 c0P2 c1P2 c0P5 c1P5 c0P6 c1P6 c0P9 c1P9 c0P10 c1P10 c0P46 c1P46 c0P60 c1P60
      have hb : Below (w59.alloc (.cells #[.slice x56.a x56.n x56.c, .slice x57.a x57.n x57.c] 30)).heap.size (w59.alloc (.cells #[.slice x56.a x56.n x56.c, .slice x57.a x57.n x57.c] 30)) (w59.alloc (.cells #[.slice x56.a x56.n x56.c, .slice x57.a x57.n x57.c] 30)).drew := (Below.refl _ _).drew
      replace P1 := P1.below hb
      replace P2 := P2.below hb
      replace P5 := P5.below hb
      replace P6 := P6.below hb
      replace P9 := P9.below hb
      replace P10 := P10.below hb
      replace P46 := P46.below hb
      replace P60 := P60.below hb
      replace rf1 := rf1.below hb
      replace rf2 := rf2.below hb
      replace rg1 := rg1.below hb
      replace rg2 := rg2.below hb
      replace rpa := rpa.below hb
      replace rqa := rqa.below hb
      replace rra := rra.below hb
      replace rsa := rsa.below hb
      replace rpb := rpb.below hb
      replace rqb := rqb.below hb
      replace rrb := rrb.below hb
      replace rsb := rsb.below hb
      replace rdp1 := rdp1.below hb
      replace rdq1 := rdq1.below hb
      replace rx49 := rx49.below hb
      replace rx52 := rx52.below hb
      replace rx56 := rx56.below hb
      replace rx57 := rx57.below hb
      replace hB := hB.trans (hb.mono hB.size)
      clear hb
      refine Rd.regionT (fun X => Pair X (w.heap.size) 24 (.slice f1.a f1.n f1.c) (.slice f2.a f2.n f2.c) ∧ Pair X (w.heap.size + 1) 24 (.slice g1.a g1.n g1.c) (.slice g2.a g2.n g2.c) ∧ Pair X (w4.heap.size) 30 (.slice pa.a pa.n pa.c) (.slice qa.a qa.n qa.c) ∧ Pair X (w4.heap.size + 1) 35 (.slice ra.a ra.n ra.c) (.slice sa.a sa.n sa.c) ∧ Pair X (w8.heap.size) 30 (.slice pb.a pb.n pb.c) (.slice qb.a qb.n qb.c) ∧ Pair X (w8.heap.size + 1) 35 (.slice rb.a rb.n rb.c) (.slice sb.a sb.n sb.c) ∧ Pair X (BB1) 30 (.slice dp1.a dp1.n dp1.c) (.slice dq1.a dq1.n dq1.c) ∧ Pair X (w59.heap.size) 30 (.slice x56.a x56.n x56.c) (.slice x57.a x57.n x57.c)) [0, 1, 2, 3, 4, 6, 7, 8, 9, 10, 14, 15, 16] (.one 0 (.one 1 (.one 2 (.one 3 (.one 4 (.one 5 (.one 6 (.one 7 (.one 8 (.one 9 (.one 10 (.one 11 (.one 12 (.one 13 (.one 14 (.one 15 (.one 16 .done))))))))))))))))) (fun ac W => (∃ t : Array Value, ac = { tmps := t, defers := [] } ∧ t[4]?.getD undef = .bool true) ∧ Below w.heap.size w W) (by kernel_rfl) (by kernel_rfl) (by kernel_rfl) ⟨P1, P2, P5, P6, P9, P10, P46, P60⟩ ?tree ?next
      case tree =>
        generalize (w59.alloc (.cells #[.slice x56.a x56.n x56.c, .slice x57.a x57.n x57.c] 30)).drew = w61 at P1 P2 P5 P6 P9 P10 P46 P60 rf1 rf2 rg1 rg2 rpa rqa rra rsa rpb rqb rrb rsb rdp1 rdq1 rx49 rx52 rx56 rx57 hB ⊢
        refine Rd.tr_float (.int .i64 0) (by simp only [List.getElem?_toArray, List.getElem?_cons_zero]; rfl) rfl (by rfl) (fun X _ => by go_simp) ?_
        simp only [Act.put, List.setIfInBounds_toArray, List.set_cons_succ, List.set_cons_zero]
        refine Rd.tr_float (.bool true) (by simp only [List.getElem?_toArray, List.getElem?_cons_succ, List.getElem?_cons_zero]; rfl) rfl (by rfl) (fun X _ => by go_simp) ?_
        simp only [Act.put, List.setIfInBounds_toArray, List.set_cons_succ, List.set_cons_zero]
        refine Rd.tr_float (.bool true) (by simp only [List.getElem?_toArray, List.getElem?_cons_succ, List.getElem?_cons_zero]; rfl) rfl (by rfl) (fun X _ => by go_simp) ?_
        simp only [Act.put, List.setIfInBounds_toArray, List.set_cons_succ, List.set_cons_zero]
        refine Rd.tr_float (.agg #[.slice x56.a x56.n x56.c, .slice x57.a x57.n x57.c]) (by simp only [List.getElem?_toArray, List.getElem?_cons_succ, List.getElem?_cons_zero]; rfl) rfl (by rfl) (fun X hX => by have h0 := hX.2.2.2.2.2.2.2.c0; have h1 := hX.2.2.2.2.2.2.2.c1; go_simp) ?_
        simp only [Act.put, List.setIfInBounds_toArray, List.set_cons_succ, List.set_cons_zero]
        refine Rd.tr_float (.agg #[.slice pa.a pa.n pa.c, .slice qa.a qa.n qa.c]) (by simp only [List.getElem?_toArray, List.getElem?_cons_succ, List.getElem?_cons_zero]; rfl) rfl (by rfl) (fun X hX => by have h0 := hX.2.2.1.c0; have h1 := hX.2.2.1.c1; go_simp) ?_
        simp only [Act.put, List.setIfInBounds_toArray, List.set_cons_succ, List.set_cons_zero]
        refine Rd.tr_move (by simp only [List.getElem?_toArray, List.getElem?_cons_succ, List.getElem?_cons_zero]; rfl) rfl (by rfl) (fun K hK => ?_)
        have H62 := Lib.hid (qcmp_nat x56 x57 pa qa ((xa / ya) / Nat.gcd (xa / ya) (1)) ((1) / Nat.gcd (xa / ya) (1)) (xa) (ya) w61 rx56 rx57 rpa rqa (Lib.hid (Nat.le_trans (len_div_le (len_div_le Lxa.out)) (by omega))) (Lib.hid (Nat.le_trans (len_div_le (one_row 1 (by omega))) (by omega))) (Lib.hid (Nat.le_trans Lxa.out (by omega))) (Lib.hid (Nat.le_trans Lya.out (by omega))))
        go_simp
        refine H62.out.mono ?_
        rintro e w63 ⟨rfl, hb⟩
        clear H62
        replace P1 := P1.below hb
        replace P2 := P2.below hb
        replace P5 := P5.below hb
        replace P6 := P6.below hb
        replace P9 := P9.below hb
        replace P10 := P10.below hb
        replace P46 := P46.below hb
        replace P60 := P60.below hb
        replace rf1 := rf1.below hb
        replace rf2 := rf2.below hb
        replace rg1 := rg1.below hb
        replace rg2 := rg2.below hb
        replace rpa := rpa.below hb
        replace rqa := rqa.below hb
        replace rra := rra.below hb
        replace rsa := rsa.below hb
        replace rpb := rpb.below hb
        replace rqb := rqb.below hb
        replace rrb := rrb.below hb
        replace rsb := rsb.below hb
        replace rdp1 := rdp1.below hb
        replace rdq1 := rdq1.below hb
        replace rx49 := rx49.below hb
        replace rx52 := rx52.below hb
        replace rx56 := rx56.below hb
        replace rx57 := rx57.below hb
        replace hB := hB.trans (hb.mono hB.size)
        clear hb
        refine hK _ _ ⟨P1, P2, P5, P6, P9, P10, P46, P60⟩ ?_
        clear hK K
        refine Rd.tr_float (.bool true) (by simp only [List.getElem?_toArray, List.getElem?_cons_succ, List.getElem?_cons_zero]; rfl) rfl (by rfl) (fun X _ => by go_simp) ?_
        simp only [Act.put, List.setIfInBounds_toArray, List.set_cons_succ, List.set_cons_zero]
        refine Rd.tr_float (.bool true) (by simp only [List.getElem?_toArray, List.getElem?_cons_succ, List.getElem?_cons_zero]; rfl) rfl (by rfl) (fun X _ => by go_simp) ?_
        simp only [Act.put, List.setIfInBounds_toArray, List.set_cons_succ, List.set_cons_zero]
        refine Rd.tr_float (.bool true) (by simp only [List.getElem?_toArray, List.getElem?_cons_succ, List.getElem?_cons_zero]; rfl) rfl (by rfl) (fun X _ => by go_simp) ?_
        simp only [Act.put, List.setIfInBounds_toArray, List.set_cons_succ, List.set_cons_zero]
        refine Rd.tr_float (.agg #[.slice pa.a pa.n pa.c, .slice qa.a qa.n qa.c]) (by simp only [List.getElem?_toArray, List.getElem?_cons_succ, List.getElem?_cons_zero]; rfl) rfl (by rfl) (fun X hX => by have h0 := hX.2.2.1.c0; have h1 := hX.2.2.1.c1; go_simp) ?_
        simp only [Act.put, List.setIfInBounds_toArray, List.set_cons_succ, List.set_cons_zero]
        refine Rd.tr_float (.agg #[.slice x56.a x56.n x56.c, .slice x57.a x57.n x57.c]) (by simp only [List.getElem?_toArray, List.getElem?_cons_succ, List.getElem?_cons_zero]; rfl) rfl (by rfl) (fun X hX => by have h0 := hX.2.2.2.2.2.2.2.c0; have h1 := hX.2.2.2.2.2.2.2.c1; go_simp) ?_
        simp only [Act.put, List.setIfInBounds_toArray, List.set_cons_succ, List.set_cons_zero]
        refine Rd.tr_move (by simp only [List.getElem?_toArray, List.getElem?_cons_succ, List.getElem?_cons_zero]; rfl) rfl (by rfl) (fun K hK => ?_)
        have H66 := Lib.hid (qint_pos 1 (Lib.hid (by omega)) w63)
        go_simp
        refine H66.out.mono ?_
        rintro e w67 ⟨x64, x65, rfl, rx64, rx65, hb⟩
        clear H66
        replace P1 := P1.below hb
        replace P2 := P2.below hb
        replace P5 := P5.below hb
        replace P6 := P6.below hb
        replace P9 := P9.below hb
        replace P10 := P10.below hb
        replace P46 := P46.below hb
        replace P60 := P60.below hb
        replace rf1 := rf1.below hb
        replace rf2 := rf2.below hb
        replace rg1 := rg1.below hb
        replace rg2 := rg2.below hb
        replace rpa := rpa.below hb
        replace rqa := rqa.below hb
        replace rra := rra.below hb
        replace rsa := rsa.below hb
        replace rpb := rpb.below hb
        replace rqb := rqb.below hb
        replace rrb := rrb.below hb
        replace rsb := rsb.below hb
        replace rdp1 := rdp1.below hb
        replace rdq1 := rdq1.below hb
        replace rx49 := rx49.below hb
        replace rx52 := rx52.below hb
        replace rx56 := rx56.below hb
        replace rx57 := rx57.below hb
        replace hB := hB.trans (hb.mono hB.size)
        clear hb
        refine hK _ _ ⟨P1, P2, P5, P6, P9, P10, P46, P60⟩ ?_
        clear hK K
        refine Rd.tr_move (by simp only [List.getElem?_toArray, List.getElem?_cons_succ, List.getElem?_cons_zero]; rfl) rfl (by rfl) (fun K hK => ?_)
        have H70 := Lib.hid (qadd_nat x56 x57 x64 x65 ((xa / ya) / Nat.gcd (xa / ya) (1)) ((1) / Nat.gcd (xa / ya) (1)) (1) (1) w67 rx56 rx57 rx64 rx65 (Lib.hid (Nat.le_trans (len_div_le (len_div_le Lxa.out)) (by omega))) (Lib.hid (Nat.le_trans (len_div_le (one_row 1 (by omega))) (by omega))) (Lib.hid (Nat.le_trans (one_row 1 (by omega)) (by omega))) (Lib.hid (Nat.le_trans (one_row 1 (by omega)) (by omega))) (Lib.hid (mul_ne (low_ne _ (by omega)) (by omega))))
        go_simp
        refine H70.out.mono ?_
        rintro e w71 ⟨x68, x69, rfl, rx68, rx69, hb⟩
        clear H70
        replace P1 := P1.below hb
        replace P2 := P2.below hb
        replace P5 := P5.below hb
        replace P6 := P6.below hb
        replace P9 := P9.below hb
        replace P10 := P10.below hb
        replace P46 := P46.below hb
        replace P60 := P60.below hb
        replace rf1 := rf1.below hb
        replace rf2 := rf2.below hb
        replace rg1 := rg1.below hb
        replace rg2 := rg2.below hb
        replace rpa := rpa.below hb
        replace rqa := rqa.below hb
        replace rra := rra.below hb
        replace rsa := rsa.below hb
        replace rpb := rpb.below hb
        replace rqb := rqb.below hb
        replace rrb := rrb.below hb
        replace rsb := rsb.below hb
        replace rdp1 := rdp1.below hb
        replace rdq1 := rdq1.below hb
        replace rx49 := rx49.below hb
        replace rx52 := rx52.below hb
        replace rx56 := rx56.below hb
        replace rx57 := rx57.below hb
        replace rx64 := rx64.below hb
        replace rx65 := rx65.below hb
        replace hB := hB.trans (hb.mono hB.size)
        clear hb
        refine hK _ _ ⟨P1, P2, P5, P6, P9, P10, P46, P60⟩ ?_
        clear hK K
        refine Rd.tr_move (by simp only [List.getElem?_toArray, List.getElem?_cons_succ, List.getElem?_cons_zero]; rfl) rfl (by rfl) (fun K hK => ?_)
        have H72 := Lib.hid (qcmp_nat pa qa x68 x69 (xa) (ya) (((((xa / ya) / Nat.gcd (xa / ya) (1)) * (1)) + ((1) * ((1) / Nat.gcd (xa / ya) (1)))) / Nat.gcd ((((xa / ya) / Nat.gcd (xa / ya) (1)) * (1)) + ((1) * ((1) / Nat.gcd (xa / ya) (1)))) (((1) / Nat.gcd (xa / ya) (1)) * (1))) ((((1) / Nat.gcd (xa / ya) (1)) * (1)) / Nat.gcd ((((xa / ya) / Nat.gcd (xa / ya) (1)) * (1)) + ((1) * ((1) / Nat.gcd (xa / ya) (1)))) (((1) / Nat.gcd (xa / ya) (1)) * (1))) w71 rpa rqa rx68 rx69 (Lib.hid (Nat.le_trans Lxa.out (by omega))) (Lib.hid (Nat.le_trans Lya.out (by omega))) (Lib.hid (Nat.le_trans (len_div_le (len_add_le (len_mul_le (len_div_le (len_div_le Lxa.out)) (one_row 1 (by omega))) (len_mul_le (one_row 1 (by omega)) (len_div_le (one_row 1 (by omega)))))) (by omega))) (Lib.hid (Nat.le_trans (len_div_le (len_mul_le (len_div_le (one_row 1 (by omega))) (one_row 1 (by omega)))) (by omega))))
        rw [floor_high Hxa.out.1 _ _ rfl rfl] at H72
        go_simp
        refine H72.out.mono ?_
        rintro e w73 ⟨rfl, hb⟩
        clear H72
        replace P1 := P1.below hb
        replace P2 := P2.below hb
        replace P5 := P5.below hb
        replace P6 := P6.below hb
        replace P9 := P9.below hb
        replace P10 := P10.below hb
        replace P46 := P46.below hb
        replace P60 := P60.below hb
        replace rf1 := rf1.below hb
        replace rf2 := rf2.below hb
        replace rg1 := rg1.below hb
        replace rg2 := rg2.below hb
        replace rpa := rpa.below hb
        replace rqa := rqa.below hb
        replace rra := rra.below hb
        replace rsa := rsa.below hb
        replace rpb := rpb.below hb
        replace rqb := rqb.below hb
        replace rrb := rrb.below hb
        replace rsb := rsb.below hb
        replace rdp1 := rdp1.below hb
        replace rdq1 := rdq1.below hb
        replace rx49 := rx49.below hb
        replace rx52 := rx52.below hb
        replace rx56 := rx56.below hb
        replace rx57 := rx57.below hb
        replace rx64 := rx64.below hb
        replace rx65 := rx65.below hb
        replace rx68 := rx68.below hb
        replace rx69 := rx69.below hb
        replace hB := hB.trans (hb.mono hB.size)
        clear hb
        refine hK _ _ ⟨P1, P2, P5, P6, P9, P10, P46, P60⟩ ?_
        clear hK K
        refine Rd.tr_float (.bool true) (by simp only [List.getElem?_toArray, List.getElem?_cons_succ, List.getElem?_cons_zero]; rfl) rfl (by rfl) (fun X _ => by go_simp) ?_
        simp only [Act.put, List.setIfInBounds_toArray, List.set_cons_succ, List.set_cons_zero]
        refine Rd.tr_float (.bool true) (by simp only [List.getElem?_toArray, List.getElem?_cons_succ, List.getElem?_cons_zero]; rfl) rfl (by rfl) (fun X _ => by go_simp) ?_
        simp only [Act.put, List.setIfInBounds_toArray, List.set_cons_succ, List.set_cons_zero]
        refine Rd.tr_float (.bool true) (by simp only [List.getElem?_toArray, List.getElem?_cons_succ, List.getElem?_cons_zero]; rfl) rfl (by rfl) (fun X _ => by go_simp) ?_
        simp only [Act.put, List.setIfInBounds_toArray, List.set_cons_succ, List.set_cons_zero]
        exact Rd.tr_end (⟨⟨_, rfl, rfl⟩, hB⟩)
      case next =>
        rintro a3 W ⟨⟨t, rfl, ht⟩, hB⟩
        go_wp2_with fail
        refine bodyPost_ret (v := .bool true) ?_ rfl ⟨rfl, hB⟩
        simp [results, Tryd.f9, go_sem, ht]
  · skip
    have HX := Lib.hid hc
    have hpn : 0 < pb.n := by rw [RU.len rpb]; exact len_pos hc
    clear hc
    have hb : Below w8.heap.size w8 ((w8.alloc (.cells #[.slice pb.a pb.n pb.c, .slice qb.a qb.n qb.c] 30)).alloc (.cells #[.slice rb.a rb.n rb.c, .slice sb.a sb.n sb.c] 35)) := (((Below.refl _ _).alloc (Nat.le_refl _) _).alloc (by simp) _)
    replace P1 := P1.below hb
    replace P2 := P2.below hb
    replace P5 := P5.below hb
    replace P6 := P6.below hb
    replace rf1 := rf1.below hb
    replace rf2 := rf2.below hb
    replace rg1 := rg1.below hb
    replace rg2 := rg2.below hb
    replace rpa := rpa.below hb
    replace rqa := rqa.below hb
    replace rra := rra.below hb
    replace rsa := rsa.below hb
    replace rpb := rpb.below hb
    replace rqb := rqb.below hb
    replace rrb := rrb.below hb
    replace rsb := rsb.below hb
    replace hB := hB.trans (hb.mono hB.size)
    have P9 : Pair ((w8.alloc (.cells #[.slice pb.a pb.n pb.c, .slice qb.a qb.n qb.c] 30)).alloc (.cells #[.slice rb.a rb.n rb.c, .slice sb.a sb.n sb.c] 35)) (w8.heap.size) 30 (.slice pb.a pb.n pb.c) (.slice qb.a qb.n qb.c) := by
      have h := (Pair.new w8 30 (.slice pb.a pb.n pb.c) (.slice qb.a qb.n qb.c)).alloc (.cells #[.slice rb.a rb.n rb.c, .slice sb.a sb.n sb.c] 35)
      simpa only [World.size_alloc] using h
    have P10 : Pair ((w8.alloc (.cells #[.slice pb.a pb.n pb.c, .slice qb.a qb.n qb.c] 30)).alloc (.cells #[.slice rb.a rb.n rb.c, .slice sb.a sb.n sb.c] 35)) (w8.heap.size + 1) 35 (.slice rb.a rb.n rb.c) (.slice sb.a sb.n sb.c) := by
      have h := Pair.new (w8.alloc (.cells #[.slice pb.a pb.n pb.c, .slice qb.a qb.n qb.c] 30)) 35 (.slice rb.a rb.n rb.c) (.slice sb.a sb.n sb.c)
      simpa only [World.size_alloc] using h
    clear hb
    have c0P1 := P1.c0
    have c1P1 := P1.c1
    have c0P2 := P2.c0
    have c1P2 := P2.c1
    have c0P5 := P5.c0
    have c1P5 := P5.c1
    have c0P6 := P6.c0
    have c1P6 := P6.c1
    have c0P9 := P9.c0
    have c1P9 := P9.c1
    have c0P10 := P10.c0
    have c1P10 := P10.c1
    have H74 := Lib.hid (awake_any ((w8.alloc (.cells #[.slice pb.a pb.n pb.c, .slice qb.a qb.n qb.c] 30)).alloc (.cells #[.slice rb.a rb.n rb.c, .slice sb.a sb.n sb.c] 35)))
    go_wp2_with fail
    clear c0P1 c1P1 c0P2 c1P2 c0P5 c1P5 c0P6 c1P6 c0P9 c1P9 c0P10 c1P10
    refine H74.out.mono ?_
    rintro e w75 ⟨rfl, hb⟩
    clear H74
    replace P1 := P1.below hb
    replace P2 := P2.below hb
    replace P5 := P5.below hb
    replace P6 := P6.below hb
    replace P9 := P9.below hb
    replace P10 := P10.below hb
    replace rf1 := rf1.below hb
    replace rf2 := rf2.below hb
    replace rg1 := rg1.below hb
    replace rg2 := rg2.below hb
    replace rpa := rpa.below hb
    replace rqa := rqa.below hb
    replace rra := rra.below hb
    replace rsa := rsa.below hb
    replace rpb := rpb.below hb
    replace rqb := rqb.below hb
    replace rrb := rrb.below hb
    replace rsb := rsb.below hb
    replace hB := hB.trans (hb.mono hB.size)
    clear hb
    have c0P1 := P1.c0
    have c1P1 := P1.c1
    have c0P2 := P2.c0
    have c1P2 := P2.c1
    have c0P5 := P5.c0
    have c1P5 := P5.c1
    have c0P6 := P6.c0
    have c1P6 := P6.c1
    have c0P9 := P9.c0
    have c1P9 := P9.c1
    have c0P10 := P10.c0
    have c1P10 := P10.c1
    go_wp2_with fail
    clear c0P1 c1P1 c0P2 c1P2 c0P5 c1P5 c0P6 c1P6 c0P9 c1P9 c0P10 c1P10
    have hb : Below w75.heap.size w75 w75.drew := (Below.refl _ _).drew
    replace P1 := P1.below hb
    replace P2 := P2.below hb
    replace P5 := P5.below hb
    replace P6 := P6.below hb
    replace P9 := P9.below hb
    replace P10 := P10.below hb
    replace rf1 := rf1.below hb
    replace rf2 := rf2.below hb
    replace rg1 := rg1.below hb
    replace rg2 := rg2.below hb
    replace rpa := rpa.below hb
    replace rqa := rqa.below hb
    replace rra := rra.below hb
    replace rsa := rsa.below hb
    replace rpb := rpb.below hb
    replace rqb := rqb.below hb
    replace rrb := rrb.below hb
    replace rsb := rsb.below hb
    replace hB := hB.trans (hb.mono hB.size)
    clear hb
    refine Rd.regionT (fun X => Pair X (w.heap.size) 24 (.slice f1.a f1.n f1.c) (.slice f2.a f2.n f2.c) ∧ Pair X (w.heap.size + 1) 24 (.slice g1.a g1.n g1.c) (.slice g2.a g2.n g2.c) ∧ Pair X (w4.heap.size) 30 (.slice pa.a pa.n pa.c) (.slice qa.a qa.n qa.c) ∧ Pair X (w4.heap.size + 1) 35 (.slice ra.a ra.n ra.c) (.slice sa.a sa.n sa.c) ∧ Pair X (w8.heap.size) 30 (.slice pb.a pb.n pb.c) (.slice qb.a qb.n qb.c) ∧ Pair X (w8.heap.size + 1) 35 (.slice rb.a rb.n rb.c) (.slice sb.a sb.n sb.c)) [0, 1, 3, 5, 6, 7, 10] (.one 0 (.one 1 (.one 3 (.two 2 (.two 4 (.one 5 (.one 6 (.one 7 (.one 8 (.one 9 (.one 10 .done)))))) 8 (.one 4 (.one 5 (.one 6 (.one 7 (.one 9 (.one 10 .done))))))) 8 (.one 2 (.one 4 (.one 5 (.one 6 (.one 7 (.one 9 (.one 10 .done))))))))))) (fun ac W => ∃ (BB1 : Nat) (dp1 : Sl) (dq1 : Sl) (y39 y40 y41 y42 y43 y44 y45 y46 : Value), ac = { tmps := List.toArray (.agg #[.slice f1.a f1.n f1.c, .slice f2.a f2.n f2.c] :: .agg #[.slice g1.a g1.n g1.c, .slice g2.a g2.n g2.c] :: .pointer (some ⟨w.heap.size, 0, none⟩) :: .pointer (some ⟨w.heap.size + 1, 0, none⟩) :: .bool false :: .pointer (some ⟨w4.heap.size, 0, none⟩) :: .pointer (some ⟨w4.heap.size + 1, 0, none⟩) :: .bool true :: .pointer (some ⟨w8.heap.size, 0, none⟩) :: .pointer (some ⟨w8.heap.size + 1, 0, none⟩) :: .bool true :: .pointer (some ⟨BB1, 0, none⟩) :: .int .i64 0 :: undef :: undef :: undef :: .tuple #[.agg #[.slice pa.a pa.n pa.c, .slice qa.a qa.n qa.c], .agg #[.slice ra.a ra.n ra.c, .slice sa.a sa.n sa.c], .bool true] :: .agg #[.slice f1.a f1.n f1.c, .slice f2.a f2.n f2.c] :: .tuple #[.agg #[.slice pa.a pa.n pa.c, .slice qa.a qa.n qa.c], .agg #[.slice ra.a ra.n ra.c, .slice sa.a sa.n sa.c], .bool true] :: .agg #[.slice pa.a pa.n pa.c, .slice qa.a qa.n qa.c] :: .agg #[.slice ra.a ra.n ra.c, .slice sa.a sa.n sa.c] :: .bool true :: .tuple #[.agg #[.slice pb.a pb.n pb.c, .slice qb.a qb.n qb.c], .agg #[.slice rb.a rb.n rb.c, .slice sb.a sb.n sb.c], .bool true] :: .agg #[.slice g1.a g1.n g1.c, .slice g2.a g2.n g2.c] :: .tuple #[.agg #[.slice pb.a pb.n pb.c, .slice qb.a qb.n qb.c], .agg #[.slice rb.a rb.n rb.c, .slice sb.a sb.n sb.c], .bool true] :: .agg #[.slice pb.a pb.n pb.c, .slice qb.a qb.n qb.c] :: .agg #[.slice rb.a rb.n rb.c, .slice sb.a sb.n sb.c] :: .bool true :: .bool true :: .bool false :: .bool false :: .bool true :: .bool false :: .bool false :: .bool false :: .bool true :: .bool false :: .bool false :: undef :: y39 :: y40 :: y41 :: y42 :: y43 :: y44 :: y45 :: y46 :: undef :: undef :: undef :: undef :: undef :: undef :: undef :: undef :: undef :: undef :: undef :: undef :: undef :: undef :: undef :: undef :: undef :: undef :: undef :: undef :: undef :: undef :: undef :: undef :: undef :: undef :: undef :: undef :: undef :: undef :: undef :: undef :: undef :: undef :: undef :: undef :: undef :: undef :: undef :: undef :: undef :: undef :: undef :: undef :: undef :: undef :: undef :: undef :: undef :: undef :: undef :: []), defers := [] } ∧ Pair W (w.heap.size) 24 (.slice f1.a f1.n f1.c) (.slice f2.a f2.n f2.c) ∧ Pair W (w.heap.size + 1) 24 (.slice g1.a g1.n g1.c) (.slice g2.a g2.n g2.c) ∧ Pair W (w4.heap.size) 30 (.slice pa.a pa.n pa.c) (.slice qa.a qa.n qa.c) ∧ Pair W (w4.heap.size + 1) 35 (.slice ra.a ra.n ra.c) (.slice sa.a sa.n sa.c) ∧ Pair W (w8.heap.size) 30 (.slice pb.a pb.n pb.c) (.slice qb.a qb.n qb.c) ∧ Pair W (w8.heap.size + 1) 35 (.slice rb.a rb.n rb.c) (.slice sb.a sb.n sb.c) ∧ RA W f1 l11 ∧ RA W f2 l12 ∧ RA W g1 l21 ∧ RA W g2 l22 ∧ RU W pa xa ∧ RU W qa ya ∧ RD W ra xa ∧ RD W sa ya ∧ RU W pb xb ∧ RU W qb yb ∧ RD W rb xb ∧ RD W sb yb ∧ Pair W BB1 30 (.slice dp1.a dp1.n dp1.c) (.slice dq1.a dq1.n dq1.c) ∧ RU W dp1 ((((((xa * yb) + (xb * ya)) / Nat.gcd ((xa * yb) + (xb * ya)) (ya * yb)) * yb) - (xb * ((ya * yb) / Nat.gcd ((xa * yb) + (xb * ya)) (ya * yb)))) / Nat.gcd (((((xa * yb) + (xb * ya)) / Nat.gcd ((xa * yb) + (xb * ya)) (ya * yb)) * yb) - (xb * ((ya * yb) / Nat.gcd ((xa * yb) + (xb * ya)) (ya * yb)))) (((ya * yb) / Nat.gcd ((xa * yb) + (xb * ya)) (ya * yb)) * yb)) ∧ RU W dq1 ((((ya * yb) / Nat.gcd ((xa * yb) + (xb * ya)) (ya * yb)) * yb) / Nat.gcd (((((xa * yb) + (xb * ya)) / Nat.gcd ((xa * yb) + (xb * ya)) (ya * yb)) * yb) - (xb * ((ya * yb) / Nat.gcd ((xa * yb) + (xb * ya)) (ya * yb)))) (((ya * yb) / Nat.gcd ((xa * yb) + (xb * ya)) (ya * yb)) * yb)) ∧ Below w.heap.size w W) (by kernel_rfl) (by kernel_rfl) (by kernel_rfl) ⟨P1, P2, P5, P6, P9, P10⟩ ?tree ?next
    case tree =>
      generalize w75.drew = w76 at P1 P2 P5 P6 P9 P10 rf1 rf2 rg1 rg2 rpa rqa rra rsa rpb rqb rrb rsb hB ⊢
      refine Rd.tr_float (.agg #[.slice pa.a pa.n pa.c, .slice qa.a qa.n qa.c]) (by simp only [List.getElem?_toArray, List.getElem?_cons_zero]; rfl) rfl (by rfl) (fun X hX => by have h0 := hX.2.2.1.c0; have h1 := hX.2.2.1.c1; go_simp) ?_
      simp only [Act.put, List.setIfInBounds_toArray, List.set_cons_succ, List.set_cons_zero]
      refine Rd.tr_float (.agg #[.slice pb.a pb.n pb.c, .slice qb.a qb.n qb.c]) (by simp only [List.getElem?_toArray, List.getElem?_cons_succ, List.getElem?_cons_zero]; rfl) rfl (by rfl) (fun X hX => by have h0 := hX.2.2.2.2.1.c0; have h1 := hX.2.2.2.2.1.c1; go_simp) ?_
      simp only [Act.put, List.setIfInBounds_toArray, List.set_cons_succ, List.set_cons_zero]
      refine Rd.tr_float (.agg #[.slice pb.a pb.n pb.c, .slice qb.a qb.n qb.c]) (by simp only [List.getElem?_toArray, List.getElem?_cons_succ, List.getElem?_cons_zero]; rfl) rfl (by rfl) (fun X hX => by have h0 := hX.2.2.2.2.1.c0; have h1 := hX.2.2.2.2.1.c1; go_simp) ?_
      simp only [Act.put, List.setIfInBounds_toArray, List.set_cons_succ, List.set_cons_zero]
      refine Rd.tr_two (by simp only [List.getElem?_toArray, List.getElem?_cons_succ, List.getElem?_cons_zero]; rfl) (by rfl) (by simp only [List.getElem?_toArray, List.getElem?_cons_succ, List.getElem?_cons_zero]; rfl) (by rfl) (fun K hK => ?_) (fun K hK => ?_)
      · skip
        have H79 := Lib.hid (qadd_nat pa qa pb qb (xa) (ya) (xb) (yb) w76 rpa rqa rpb rqb (Lib.hid (Nat.le_trans Lxa.out (by omega))) (Lib.hid (Nat.le_trans Lya.out (by omega))) (Lib.hid (Nat.le_trans Lxb.out (by omega))) (Lib.hid (Nat.le_trans Lyb.out (by omega))) (Lib.hid (mul_ne Hxa.out.1 Hxb.out.1)))
        go_simp
        refine H79.out.mono ?_
        rintro e w80 ⟨x77, x78, rfl, rx77, rx78, hb⟩
        clear H79
        replace P1 := P1.below hb
        replace P2 := P2.below hb
        replace P5 := P5.below hb
        replace P6 := P6.below hb
        replace P9 := P9.below hb
        replace P10 := P10.below hb
        replace rf1 := rf1.below hb
        replace rf2 := rf2.below hb
        replace rg1 := rg1.below hb
        replace rg2 := rg2.below hb
        replace rpa := rpa.below hb
        replace rqa := rqa.below hb
        replace rra := rra.below hb
        replace rsa := rsa.below hb
        replace rpb := rpb.below hb
        replace rqb := rqb.below hb
        replace rrb := rrb.below hb
        replace rsb := rsb.below hb
        replace hB := hB.trans (hb.mono hB.size)
        clear hb
        refine hK _ _ ⟨P1, P2, P5, P6, P9, P10⟩ ?_
        clear hK K
        refine Rd.tr_two (by simp only [List.getElem?_toArray, List.getElem?_cons_succ, List.getElem?_cons_zero]; rfl) (by rfl) (by simp only [List.getElem?_toArray, List.getElem?_cons_succ, List.getElem?_cons_zero]; rfl) (by rfl) (fun K hK => ?_) (fun K hK => ?_)
        · skip
          have H83 := Lib.hid (qsub_nat x77 x78 pb qb (((xa * yb) + (xb * ya)) / Nat.gcd ((xa * yb) + (xb * ya)) (ya * yb)) ((ya * yb) / Nat.gcd ((xa * yb) + (xb * ya)) (ya * yb)) (xb) (yb) w80 rx77 rx78 rpb rqb (Lib.hid (Nat.le_trans (len_div_le (len_add_le (len_mul_le Lxa.out Lyb.out) (len_mul_le Lxb.out Lya.out))) (by omega))) (Lib.hid (Nat.le_trans (len_div_le (len_mul_le Lya.out Lyb.out)) (by omega))) (Lib.hid (Nat.le_trans Lxb.out (by omega))) (Lib.hid (Nat.le_trans Lyb.out (by omega))) (Lib.hid (back_le rfl rfl (low_cross _ _) Hxa.out.1 Hxb.out.1)) (Lib.hid (mul_ne (low_ne _ (mul_ne Hxa.out.1 Hxb.out.1)) Hxb.out.1)))
          go_simp
          refine H83.out.mono ?_
          rintro e w84 ⟨x81, x82, rfl, rx81, rx82, hb⟩
          clear H83
          replace P1 := P1.below hb
          replace P2 := P2.below hb
          replace P5 := P5.below hb
          replace P6 := P6.below hb
          replace P9 := P9.below hb
          replace P10 := P10.below hb
          replace rf1 := rf1.below hb
          replace rf2 := rf2.below hb
          replace rg1 := rg1.below hb
          replace rg2 := rg2.below hb
          replace rpa := rpa.below hb
          replace rqa := rqa.below hb
          replace rra := rra.below hb
          replace rsa := rsa.below hb
          replace rpb := rpb.below hb
          replace rqb := rqb.below hb
          replace rrb := rrb.below hb
          replace rsb := rsb.below hb
          replace rx77 := rx77.below hb
          replace rx78 := rx78.below hb
          replace hB := hB.trans (hb.mono hB.size)
          clear hb
          refine hK _ _ ⟨P1, P2, P5, P6, P9, P10⟩ ?_
          clear hK K
          refine Rd.tr_float (.tuple #[.agg #[.slice x81.a x81.n x81.c, .slice x82.a x82.n x82.c], .int .i64 0]) (by simp only [List.getElem?_toArray, List.getElem?_cons_succ, List.getElem?_cons_zero]; rfl) rfl (by rfl) (fun X _ => by go_simp) ?_
          simp only [Act.put, List.setIfInBounds_toArray, List.set_cons_succ, List.set_cons_zero]
          refine Rd.tr_float (.agg #[.slice x81.a x81.n x81.c, .slice x82.a x82.n x82.c]) (by simp only [List.getElem?_toArray, List.getElem?_cons_succ, List.getElem?_cons_zero]; rfl) rfl (by rfl) (fun X _ => by go_simp) ?_
          simp only [Act.put, List.setIfInBounds_toArray, List.set_cons_succ, List.set_cons_zero]
          refine Rd.tr_float (.int .i64 0) (by simp only [List.getElem?_toArray, List.getElem?_cons_succ, List.getElem?_cons_zero]; rfl) rfl (by rfl) (fun X _ => by go_simp) ?_
          simp only [Act.put, List.setIfInBounds_toArray, List.set_cons_succ, List.set_cons_zero]
          refine Rd.tr_move (by simp only [List.getElem?_toArray, List.getElem?_cons_succ, List.getElem?_cons_zero]; rfl) rfl (by rfl) (fun K hK => ?_)
          go_simp
          have P85 := Pair.new w84 30 (.slice none 0 0) (.slice none 0 0)
          have nP1P85 := P1.lt
          have nP2P85 := P2.lt
          have nP5P85 := P5.lt
          have nP6P85 := P6.lt
          have nP9P85 := P9.lt
          have nP10P85 := P10.lt
          have gP85 := hB.size
          have hb : Below w84.heap.size w84 (w84.alloc (.cells #[.slice none 0 0, .slice none 0 0] 30)) := (Below.refl _ _).alloc (Nat.le_refl _) _
          replace P1 := P1.below hb
          replace P2 := P2.below hb
          replace P5 := P5.below hb
          replace P6 := P6.below hb
          replace P9 := P9.below hb
          replace P10 := P10.below hb
          replace rf1 := rf1.below hb
          replace rf2 := rf2.below hb
          replace rg1 := rg1.below hb
          replace rg2 := rg2.below hb
          replace rpa := rpa.below hb
          replace rqa := rqa.below hb
          replace rra := rra.below hb
          replace rsa := rsa.below hb
          replace rpb := rpb.below hb
          replace rqb := rqb.below hb
          replace rrb := rrb.below hb
          replace rsb := rsb.below hb
          replace rx77 := rx77.below hb
          replace rx78 := rx78.below hb
          replace rx81 := rx81.below hb
          replace rx82 := rx82.below hb
          replace hB := hB.trans (hb.mono hB.size)
          clear hb
          generalize w84.alloc (.cells #[.slice none 0 0, .slice none 0 0] 30) = w87 at P1 P2 P5 P6 P9 P10 rf1 rf2 rg1 rg2 rpa rqa rra rsa rpb rqb rrb rsb rx77 rx78 rx81 rx82 P85 hB ⊢
          generalize w84.heap.size = B86 at nP1P85 nP2P85 nP5P85 nP6P85 nP9P85 nP10P85 P85 gP85 ⊢
          refine hK _ _ ⟨P1, P2, P5, P6, P9, P10⟩ ?_
          clear hK K
          refine Rd.tr_move (by simp only [List.getElem?_toArray, List.getElem?_cons_succ, List.getElem?_cons_zero]; rfl) rfl (by rfl) (fun K hK => ?_)
          have c0P85 := P85.c0
          have c1P85 := P85.c1
          have z0P85 := P85.z0
          have z1P85 := P85.z1
          go_simp
          clear c0P85 c1P85 z0P85 z1P85
          replace rf1 := rf1.pset P85 (.slice x81.a x81.n x81.c) (.slice x82.a x82.n x82.c)
          replace rf2 := rf2.pset P85 (.slice x81.a x81.n x81.c) (.slice x82.a x82.n x82.c)
          replace rg1 := rg1.pset P85 (.slice x81.a x81.n x81.c) (.slice x82.a x82.n x82.c)
          replace rg2 := rg2.pset P85 (.slice x81.a x81.n x81.c) (.slice x82.a x82.n x82.c)
          replace rpa := rpa.pset P85 (.slice x81.a x81.n x81.c) (.slice x82.a x82.n x82.c)
          replace rqa := rqa.pset P85 (.slice x81.a x81.n x81.c) (.slice x82.a x82.n x82.c)
          replace rra := rra.pset P85 (.slice x81.a x81.n x81.c) (.slice x82.a x82.n x82.c)
          replace rsa := rsa.pset P85 (.slice x81.a x81.n x81.c) (.slice x82.a x82.n x82.c)
          replace rpb := rpb.pset P85 (.slice x81.a x81.n x81.c) (.slice x82.a x82.n x82.c)
          replace rqb := rqb.pset P85 (.slice x81.a x81.n x81.c) (.slice x82.a x82.n x82.c)
          replace rrb := rrb.pset P85 (.slice x81.a x81.n x81.c) (.slice x82.a x82.n x82.c)
          replace rsb := rsb.pset P85 (.slice x81.a x81.n x81.c) (.slice x82.a x82.n x82.c)
          replace rx77 := rx77.pset P85 (.slice x81.a x81.n x81.c) (.slice x82.a x82.n x82.c)
          replace rx78 := rx78.pset P85 (.slice x81.a x81.n x81.c) (.slice x82.a x82.n x82.c)
          replace rx81 := rx81.pset P85 (.slice x81.a x81.n x81.c) (.slice x82.a x82.n x82.c)
          replace rx82 := rx82.pset P85 (.slice x81.a x81.n x81.c) (.slice x82.a x82.n x82.c)
          replace P1 := P1.other (B := B86) (Nat.ne_of_lt nP1P85) (.slice x81.a x81.n x81.c) (.slice x82.a x82.n x82.c)
          replace P2 := P2.other (B := B86) (Nat.ne_of_lt nP2P85) (.slice x81.a x81.n x81.c) (.slice x82.a x82.n x82.c)
          replace P5 := P5.other (B := B86) (Nat.ne_of_lt nP5P85) (.slice x81.a x81.n x81.c) (.slice x82.a x82.n x82.c)
          replace P6 := P6.other (B := B86) (Nat.ne_of_lt nP6P85) (.slice x81.a x81.n x81.c) (.slice x82.a x82.n x82.c)
          replace P9 := P9.other (B := B86) (Nat.ne_of_lt nP9P85) (.slice x81.a x81.n x81.c) (.slice x82.a x82.n x82.c)
          replace P10 := P10.other (B := B86) (Nat.ne_of_lt nP10P85) (.slice x81.a x81.n x81.c) (.slice x82.a x82.n x82.c)
          replace hB := Below.pset (B := B86) hB gP85 (.slice x81.a x81.n x81.c) (.slice x82.a x82.n x82.c)
          replace P85 := P85.set (.slice x81.a x81.n x81.c) (.slice x82.a x82.n x82.c)
          generalize (w87.setCell ⟨B86, 0, none⟩ (.slice x81.a x81.n x81.c)).setCell ⟨B86, 1, none⟩ (.slice x82.a x82.n x82.c) = w88 at P1 P2 P5 P6 P9 P10 P85 rf1 rf2 rg1 rg2 rpa rqa rra rsa rpb rqb rrb rsb rx77 rx78 rx81 rx82 hB ⊢
          refine hK _ _ ⟨P1, P2, P5, P6, P9, P10⟩ ?_
          clear hK K
          refine Rd.tr_float (.int .i64 0) (by simp only [List.getElem?_toArray, List.getElem?_cons_succ, List.getElem?_cons_zero]; rfl) rfl (by rfl) (fun X _ => by go_simp) ?_
          simp only [Act.put, List.setIfInBounds_toArray, List.set_cons_succ, List.set_cons_zero]
          exact Rd.tr_end (⟨B86, x81, x82, _, _, _, _, _, _, _, _, rfl, P1, P2, P5, P6, P9, P10, rf1, rf2, rg1, rg2, rpa, rqa, rra, rsa, rpb, rqb, rrb, rsb, P85, rx81, rx82, hB⟩)
        · skip
          go_simp
          have P89 := Pair.new w80 30 (.slice none 0 0) (.slice none 0 0)
          have nP1P89 := P1.lt
          have nP2P89 := P2.lt
          have nP5P89 := P5.lt
          have nP6P89 := P6.lt
          have nP9P89 := P9.lt
          have nP10P89 := P10.lt
          have gP89 := hB.size
          have hb : Below w80.heap.size w80 (w80.alloc (.cells #[.slice none 0 0, .slice none 0 0] 30)) := (Below.refl _ _).alloc (Nat.le_refl _) _
          replace P1 := P1.below hb
          replace P2 := P2.below hb
          replace P5 := P5.below hb
          replace P6 := P6.below hb
          replace P9 := P9.below hb
          replace P10 := P10.below hb
          replace rf1 := rf1.below hb
          replace rf2 := rf2.below hb
          replace rg1 := rg1.below hb
          replace rg2 := rg2.below hb
          replace rpa := rpa.below hb
          replace rqa := rqa.below hb
          replace rra := rra.below hb
          replace rsa := rsa.below hb
          replace rpb := rpb.below hb
          replace rqb := rqb.below hb
          replace rrb := rrb.below hb
          replace rsb := rsb.below hb
          replace rx77 := rx77.below hb
          replace rx78 := rx78.below hb
          replace hB := hB.trans (hb.mono hB.size)
          clear hb
          generalize w80.alloc (.cells #[.slice none 0 0, .slice none 0 0] 30) = w91 at P1 P2 P5 P6 P9 P10 rf1 rf2 rg1 rg2 rpa rqa rra rsa rpb rqb rrb rsb rx77 rx78 P89 hB ⊢
          generalize w80.heap.size = B90 at nP1P89 nP2P89 nP5P89 nP6P89 nP9P89 nP10P89 P89 gP89 ⊢
          refine hK _ _ ⟨P1, P2, P5, P6, P9, P10⟩ ?_
          clear hK K
          refine Rd.tr_move (by simp only [List.getElem?_toArray, List.getElem?_cons_succ, List.getElem?_cons_zero]; rfl) rfl (by rfl) (fun K hK => ?_)
          have H94 := Lib.hid (qsub_nat x77 x78 pb qb (((xa * yb) + (xb * ya)) / Nat.gcd ((xa * yb) + (xb * ya)) (ya * yb)) ((ya * yb) / Nat.gcd ((xa * yb) + (xb * ya)) (ya * yb)) (xb) (yb) w91 rx77 rx78 rpb rqb (Lib.hid (Nat.le_trans (len_div_le (len_add_le (len_mul_le Lxa.out Lyb.out) (len_mul_le Lxb.out Lya.out))) (by omega))) (Lib.hid (Nat.le_trans (len_div_le (len_mul_le Lya.out Lyb.out)) (by omega))) (Lib.hid (Nat.le_trans Lxb.out (by omega))) (Lib.hid (Nat.le_trans Lyb.out (by omega))) (Lib.hid (back_le rfl rfl (low_cross _ _) Hxa.out.1 Hxb.out.1)) (Lib.hid (mul_ne (low_ne _ (mul_ne Hxa.out.1 Hxb.out.1)) Hxb.out.1)))
          go_simp
          refine H94.out.mono ?_
          rintro e w95 ⟨x92, x93, rfl, rx92, rx93, hb⟩
          clear H94
          replace P1 := P1.below hb
          replace P2 := P2.below hb
          replace P5 := P5.below hb
          replace P6 := P6.below hb
          replace P9 := P9.below hb
          replace P10 := P10.below hb
          replace P89 := P89.below hb
          replace rf1 := rf1.below hb
          replace rf2 := rf2.below hb
          replace rg1 := rg1.below hb
          replace rg2 := rg2.below hb
          replace rpa := rpa.below hb
          replace rqa := rqa.below hb
          replace rra := rra.below hb
          replace rsa := rsa.below hb
          replace rpb := rpb.below hb
          replace rqb := rqb.below hb
          replace rrb := rrb.below hb
          replace rsb := rsb.below hb
          replace rx77 := rx77.below hb
          replace rx78 := rx78.below hb
          replace hB := hB.trans (hb.mono hB.size)
          clear hb
          refine hK _ _ ⟨P1, P2, P5, P6, P9, P10⟩ ?_
          clear hK K
          refine Rd.tr_float (.tuple #[.agg #[.slice x92.a x92.n x92.c, .slice x93.a x93.n x93.c], .int .i64 0]) (by simp only [List.getElem?_toArray, List.getElem?_cons_succ, List.getElem?_cons_zero]; rfl) rfl (by rfl) (fun X _ => by go_simp) ?_
          simp only [Act.put, List.setIfInBounds_toArray, List.set_cons_succ, List.set_cons_zero]
          refine Rd.tr_float (.agg #[.slice x92.a x92.n x92.c, .slice x93.a x93.n x93.c]) (by simp only [List.getElem?_toArray, List.getElem?_cons_succ, List.getElem?_cons_zero]; rfl) rfl (by rfl) (fun X _ => by go_simp) ?_
          simp only [Act.put, List.setIfInBounds_toArray, List.set_cons_succ, List.set_cons_zero]
          refine Rd.tr_float (.int .i64 0) (by simp only [List.getElem?_toArray, List.getElem?_cons_succ, List.getElem?_cons_zero]; rfl) rfl (by rfl) (fun X _ => by go_simp) ?_
          simp only [Act.put, List.setIfInBounds_toArray, List.set_cons_succ, List.set_cons_zero]
          refine Rd.tr_move (by simp only [List.getElem?_toArray, List.getElem?_cons_succ, List.getElem?_cons_zero]; rfl) rfl (by rfl) (fun K hK => ?_)
          have c0P89 := P89.c0
          have c1P89 := P89.c1
          have z0P89 := P89.z0
          have z1P89 := P89.z1
          go_simp
          clear c0P89 c1P89 z0P89 z1P89
          replace rf1 := rf1.pset P89 (.slice x92.a x92.n x92.c) (.slice x93.a x93.n x93.c)
          replace rf2 := rf2.pset P89 (.slice x92.a x92.n x92.c) (.slice x93.a x93.n x93.c)
          replace rg1 := rg1.pset P89 (.slice x92.a x92.n x92.c) (.slice x93.a x93.n x93.c)
          replace rg2 := rg2.pset P89 (.slice x92.a x92.n x92.c) (.slice x93.a x93.n x93.c)
          replace rpa := rpa.pset P89 (.slice x92.a x92.n x92.c) (.slice x93.a x93.n x93.c)
          replace rqa := rqa.pset P89 (.slice x92.a x92.n x92.c) (.slice x93.a x93.n x93.c)
          replace rra := rra.pset P89 (.slice x92.a x92.n x92.c) (.slice x93.a x93.n x93.c)
          replace rsa := rsa.pset P89 (.slice x92.a x92.n x92.c) (.slice x93.a x93.n x93.c)
          replace rpb := rpb.pset P89 (.slice x92.a x92.n x92.c) (.slice x93.a x93.n x93.c)
          replace rqb := rqb.pset P89 (.slice x92.a x92.n x92.c) (.slice x93.a x93.n x93.c)
          replace rrb := rrb.pset P89 (.slice x92.a x92.n x92.c) (.slice x93.a x93.n x93.c)
          replace rsb := rsb.pset P89 (.slice x92.a x92.n x92.c) (.slice x93.a x93.n x93.c)
          replace rx77 := rx77.pset P89 (.slice x92.a x92.n x92.c) (.slice x93.a x93.n x93.c)
          replace rx78 := rx78.pset P89 (.slice x92.a x92.n x92.c) (.slice x93.a x93.n x93.c)
          replace rx92 := rx92.pset P89 (.slice x92.a x92.n x92.c) (.slice x93.a x93.n x93.c)
          replace rx93 := rx93.pset P89 (.slice x92.a x92.n x92.c) (.slice x93.a x93.n x93.c)
          replace P1 := P1.other (B := B90) (Nat.ne_of_lt nP1P89) (.slice x92.a x92.n x92.c) (.slice x93.a x93.n x93.c)
          replace P2 := P2.other (B := B90) (Nat.ne_of_lt nP2P89) (.slice x92.a x92.n x92.c) (.slice x93.a x93.n x93.c)
          replace P5 := P5.other (B := B90) (Nat.ne_of_lt nP5P89) (.slice x92.a x92.n x92.c) (.slice x93.a x93.n x93.c)
          replace P6 := P6.other (B := B90) (Nat.ne_of_lt nP6P89) (.slice x92.a x92.n x92.c) (.slice x93.a x93.n x93.c)
          replace P9 := P9.other (B := B90) (Nat.ne_of_lt nP9P89) (.slice x92.a x92.n x92.c) (.slice x93.a x93.n x93.c)
          replace P10 := P10.other (B := B90) (Nat.ne_of_lt nP10P89) (.slice x92.a x92.n x92.c) (.slice x93.a x93.n x93.c)
          replace hB := Below.pset (B := B90) hB gP89 (.slice x92.a x92.n x92.c) (.slice x93.a x93.n x93.c)
          replace P89 := P89.set (.slice x92.a x92.n x92.c) (.slice x93.a x93.n x93.c)
          generalize (w95.setCell ⟨B90, 0, none⟩ (.slice x92.a x92.n x92.c)).setCell ⟨B90, 1, none⟩ (.slice x93.a x93.n x93.c) = w96 at P1 P2 P5 P6 P9 P10 P89 rf1 rf2 rg1 rg2 rpa rqa rra rsa rpb rqb rrb rsb rx77 rx78 rx92 rx93 hB ⊢
          refine hK _ _ ⟨P1, P2, P5, P6, P9, P10⟩ ?_
          clear hK K
          refine Rd.tr_float (.int .i64 0) (by simp only [List.getElem?_toArray, List.getElem?_cons_succ, List.getElem?_cons_zero]; rfl) rfl (by rfl) (fun X _ => by go_simp) ?_
          simp only [Act.put, List.setIfInBounds_toArray, List.set_cons_succ, List.set_cons_zero]
          exact Rd.tr_end (⟨B90, x92, x93, _, _, _, _, _, _, _, _, rfl, P1, P2, P5, P6, P9, P10, rf1, rf2, rg1, rg2, rpa, rqa, rra, rsa, rpb, rqb, rrb, rsb, P89, rx92, rx93, hB⟩)
      · skip
        go_simp
        have P97 := Pair.new w76 30 (.slice none 0 0) (.slice none 0 0)
        have nP1P97 := P1.lt
        have nP2P97 := P2.lt
        have nP5P97 := P5.lt
        have nP6P97 := P6.lt
        have nP9P97 := P9.lt
        have nP10P97 := P10.lt
        have gP97 := hB.size
        have hb : Below w76.heap.size w76 (w76.alloc (.cells #[.slice none 0 0, .slice none 0 0] 30)) := (Below.refl _ _).alloc (Nat.le_refl _) _
        replace P1 := P1.below hb
        replace P2 := P2.below hb
        replace P5 := P5.below hb
        replace P6 := P6.below hb
        replace P9 := P9.below hb
        replace P10 := P10.below hb
        replace rf1 := rf1.below hb
        replace rf2 := rf2.below hb
        replace rg1 := rg1.below hb
        replace rg2 := rg2.below hb
        replace rpa := rpa.below hb
        replace rqa := rqa.below hb
        replace rra := rra.below hb
        replace rsa := rsa.below hb
        replace rpb := rpb.below hb
        replace rqb := rqb.below hb
        replace rrb := rrb.below hb
        replace rsb := rsb.below hb
        replace hB := hB.trans (hb.mono hB.size)
        clear hb
        generalize w76.alloc (.cells #[.slice none 0 0, .slice none 0 0] 30) = w99 at P1 P2 P5 P6 P9 P10 rf1 rf2 rg1 rg2 rpa rqa rra rsa rpb rqb rrb rsb P97 hB ⊢
        generalize w76.heap.size = B98 at nP1P97 nP2P97 nP5P97 nP6P97 nP9P97 nP10P97 P97 gP97 ⊢
        refine hK _ _ ⟨P1, P2, P5, P6, P9, P10⟩ ?_
        clear hK K
        refine Rd.tr_move (by simp only [List.getElem?_toArray, List.getElem?_cons_succ, List.getElem?_cons_zero]; rfl) rfl (by rfl) (fun K hK => ?_)
        have H102 := Lib.hid (qadd_nat pa qa pb qb (xa) (ya) (xb) (yb) w99 rpa rqa rpb rqb (Lib.hid (Nat.le_trans Lxa.out (by omega))) (Lib.hid (Nat.le_trans Lya.out (by omega))) (Lib.hid (Nat.le_trans Lxb.out (by omega))) (Lib.hid (Nat.le_trans Lyb.out (by omega))) (Lib.hid (mul_ne Hxa.out.1 Hxb.out.1)))
        go_simp
        refine H102.out.mono ?_
        rintro e w103 ⟨x100, x101, rfl, rx100, rx101, hb⟩
        clear H102
        replace P1 := P1.below hb
        replace P2 := P2.below hb
        replace P5 := P5.below hb
        replace P6 := P6.below hb
        replace P9 := P9.below hb
        replace P10 := P10.below hb
        replace P97 := P97.below hb
        replace rf1 := rf1.below hb
        replace rf2 := rf2.below hb
        replace rg1 := rg1.below hb
        replace rg2 := rg2.below hb
        replace rpa := rpa.below hb
        replace rqa := rqa.below hb
        replace rra := rra.below hb
        replace rsa := rsa.below hb
        replace rpb := rpb.below hb
        replace rqb := rqb.below hb
        replace rrb := rrb.below hb
        replace rsb := rsb.below hb
        replace hB := hB.trans (hb.mono hB.size)
        clear hb
        refine hK _ _ ⟨P1, P2, P5, P6, P9, P10⟩ ?_
        clear hK K
        refine Rd.tr_move (by simp only [List.getElem?_toArray, List.getElem?_cons_succ, List.getElem?_cons_zero]; rfl) rfl (by rfl) (fun K hK => ?_)
        have H106 := Lib.hid (qsub_nat x100 x101 pb qb (((xa * yb) + (xb * ya)) / Nat.gcd ((xa * yb) + (xb * ya)) (ya * yb)) ((ya * yb) / Nat.gcd ((xa * yb) + (xb * ya)) (ya * yb)) (xb) (yb) w103 rx100 rx101 rpb rqb (Lib.hid (Nat.le_trans (len_div_le (len_add_le (len_mul_le Lxa.out Lyb.out) (len_mul_le Lxb.out Lya.out))) (by omega))) (Lib.hid (Nat.le_trans (len_div_le (len_mul_le Lya.out Lyb.out)) (by omega))) (Lib.hid (Nat.le_trans Lxb.out (by omega))) (Lib.hid (Nat.le_trans Lyb.out (by omega))) (Lib.hid (back_le rfl rfl (low_cross _ _) Hxa.out.1 Hxb.out.1)) (Lib.hid (mul_ne (low_ne _ (mul_ne Hxa.out.1 Hxb.out.1)) Hxb.out.1)))
        go_simp
        refine H106.out.mono ?_
        rintro e w107 ⟨x104, x105, rfl, rx104, rx105, hb⟩
        clear H106
        replace P1 := P1.below hb
        replace P2 := P2.below hb
        replace P5 := P5.below hb
        replace P6 := P6.below hb
        replace P9 := P9.below hb
        replace P10 := P10.below hb
        replace P97 := P97.below hb
        replace rf1 := rf1.below hb
        replace rf2 := rf2.below hb
        replace rg1 := rg1.below hb
        replace rg2 := rg2.below hb
        replace rpa := rpa.below hb
        replace rqa := rqa.below hb
        replace rra := rra.below hb
        replace rsa := rsa.below hb
        replace rpb := rpb.below hb
        replace rqb := rqb.below hb
        replace rrb := rrb.below hb
        replace rsb := rsb.below hb
        replace rx100 := rx100.below hb
        replace rx101 := rx101.below hb
        replace hB := hB.trans (hb.mono hB.size)
        clear hb
        refine hK _ _ ⟨P1, P2, P5, P6, P9, P10⟩ ?_
        clear hK K
        refine Rd.tr_float (.tuple #[.agg #[.slice x104.a x104.n x104.c, .slice x105.a x105.n x105.c], .int .i64 0]) (by simp only [List.getElem?_toArray, List.getElem?_cons_succ, List.getElem?_cons_zero]; rfl) rfl (by rfl) (fun X _ => by go_simp) ?_
        simp only [Act.put, List.setIfInBounds_toArray, List.set_cons_succ, List.set_cons_zero]
        refine Rd.tr_float (.agg #[.slice x104.a x104.n x104.c, .slice x105.a x105.n x105.c]) (by simp only [List.getElem?_toArray, List.getElem?_cons_succ, List.getElem?_cons_zero]; rfl) rfl (by rfl) (fun X _ => by go_simp) ?_
        simp only [Act.put, List.setIfInBounds_toArray, List.set_cons_succ, List.set_cons_zero]
        refine Rd.tr_float (.int .i64 0) (by simp only [List.getElem?_toArray, List.getElem?_cons_succ, List.getElem?_cons_zero]; rfl) rfl (by rfl) (fun X _ => by go_simp) ?_
        simp only [Act.put, List.setIfInBounds_toArray, List.set_cons_succ, List.set_cons_zero]
        refine Rd.tr_move (by simp only [List.getElem?_toArray, List.getElem?_cons_succ, List.getElem?_cons_zero]; rfl) rfl (by rfl) (fun K hK => ?_)
        have c0P97 := P97.c0
        have c1P97 := P97.c1
        have z0P97 := P97.z0
        have z1P97 := P97.z1
        go_simp
        clear c0P97 c1P97 z0P97 z1P97
        replace rf1 := rf1.pset P97 (.slice x104.a x104.n x104.c) (.slice x105.a x105.n x105.c)
        replace rf2 := rf2.pset P97 (.slice x104.a x104.n x104.c) (.slice x105.a x105.n x105.c)
        replace rg1 := rg1.pset P97 (.slice x104.a x104.n x104.c) (.slice x105.a x105.n x105.c)
        replace rg2 := rg2.pset P97 (.slice x104.a x104.n x104.c) (.slice x105.a x105.n x105.c)
        replace rpa := rpa.pset P97 (.slice x104.a x104.n x104.c) (.slice x105.a x105.n x105.c)
        replace rqa := rqa.pset P97 (.slice x104.a x104.n x104.c) (.slice x105.a x105.n x105.c)
        replace rra := rra.pset P97 (.slice x104.a x104.n x104.c) (.slice x105.a x105.n x105.c)
        replace rsa := rsa.pset P97 (.slice x104.a x104.n x104.c) (.slice x105.a x105.n x105.c)
        replace rpb := rpb.pset P97 (.slice x104.a x104.n x104.c) (.slice x105.a x105.n x105.c)
        replace rqb := rqb.pset P97 (.slice x104.a x104.n x104.c) (.slice x105.a x105.n x105.c)
        replace rrb := rrb.pset P97 (.slice x104.a x104.n x104.c) (.slice x105.a x105.n x105.c)
        replace rsb := rsb.pset P97 (.slice x104.a x104.n x104.c) (.slice x105.a x105.n x105.c)
        replace rx100 := rx100.pset P97 (.slice x104.a x104.n x104.c) (.slice x105.a x105.n x105.c)
        replace rx101 := rx101.pset P97 (.slice x104.a x104.n x104.c) (.slice x105.a x105.n x105.c)
        replace rx104 := rx104.pset P97 (.slice x104.a x104.n x104.c) (.slice x105.a x105.n x105.c)
        replace rx105 := rx105.pset P97 (.slice x104.a x104.n x104.c) (.slice x105.a x105.n x105.c)
        replace P1 := P1.other (B := B98) (Nat.ne_of_lt nP1P97) (.slice x104.a x104.n x104.c) (.slice x105.a x105.n x105.c)
        replace P2 := P2.other (B := B98) (Nat.ne_of_lt nP2P97) (.slice x104.a x104.n x104.c) (.slice x105.a x105.n x105.c)
        replace P5 := P5.other (B := B98) (Nat.ne_of_lt nP5P97) (.slice x104.a x104.n x104.c) (.slice x105.a x105.n x105.c)
        replace P6 := P6.other (B := B98) (Nat.ne_of_lt nP6P97) (.slice x104.a x104.n x104.c) (.slice x105.a x105.n x105.c)
        replace P9 := P9.other (B := B98) (Nat.ne_of_lt nP9P97) (.slice x104.a x104.n x104.c) (.slice x105.a x105.n x105.c)
        replace P10 := P10.other (B := B98) (Nat.ne_of_lt nP10P97) (.slice x104.a x104.n x104.c) (.slice x105.a x105.n x105.c)
        replace hB := Below.pset (B := B98) hB gP97 (.slice x104.a x104.n x104.c) (.slice x105.a x105.n x105.c)
        replace P97 := P97.set (.slice x104.a x104.n x104.c) (.slice x105.a x105.n x105.c)
        generalize (w107.setCell ⟨B98, 0, none⟩ (.slice x104.a x104.n x104.c)).setCell ⟨B98, 1, none⟩ (.slice x105.a x105.n x105.c) = w108 at P1 P2 P5 P6 P9 P10 P97 rf1 rf2 rg1 rg2 rpa rqa rra rsa rpb rqb rrb rsb rx100 rx101 rx104 rx105 hB ⊢
        refine hK _ _ ⟨P1, P2, P5, P6, P9, P10⟩ ?_
        clear hK K
        refine Rd.tr_float (.int .i64 0) (by simp only [List.getElem?_toArray, List.getElem?_cons_succ, List.getElem?_cons_zero]; rfl) rfl (by rfl) (fun X _ => by go_simp) ?_
        simp only [Act.put, List.setIfInBounds_toArray, List.set_cons_succ, List.set_cons_zero]
        exact Rd.tr_end (⟨B98, x104, x105, _, _, _, _, _, _, _, _, rfl, P1, P2, P5, P6, P9, P10, rf1, rf2, rg1, rg2, rpa, rqa, rra, rsa, rpb, rqb, rrb, rsb, P97, rx104, rx105, hB⟩)
    case next =>
      rintro a3 W1 ⟨BB1, dp1, dq1, y39, y40, y41, y42, y43, y44, y45, y46, rfl, P1, P2, P5, P6, P9, P10, rf1, rf2, rg1, rg2, rpa, rqa, rra, rsa, rpb, rqb, rrb, rsb, P109, rdp1, rdq1, hB⟩
      have c0P1 := P1.c0
      have c1P1 := P1.c1
      have c0P2 := P2.c0
      have c1P2 := P2.c1
      have c0P5 := P5.c0
      have c1P5 := P5.c1
      have c0P6 := P6.c0
      have c1P6 := P6.c1
      have c0P9 := P9.c0
      have c1P9 := P9.c1
      have c0P10 := P10.c0
      have c1P10 := P10.c1
      have c0P109 := P109.c0
      have c1P109 := P109.c1
      have H110 := Lib.hid (qcmp_nat dp1 dq1 pa qa ((((((xa * yb) + (xb * ya)) / Nat.gcd ((xa * yb) + (xb * ya)) (ya * yb)) * yb) - (xb * ((ya * yb) / Nat.gcd ((xa * yb) + (xb * ya)) (ya * yb)))) / Nat.gcd (((((xa * yb) + (xb * ya)) / Nat.gcd ((xa * yb) + (xb * ya)) (ya * yb)) * yb) - (xb * ((ya * yb) / Nat.gcd ((xa * yb) + (xb * ya)) (ya * yb)))) (((ya * yb) / Nat.gcd ((xa * yb) + (xb * ya)) (ya * yb)) * yb)) ((((ya * yb) / Nat.gcd ((xa * yb) + (xb * ya)) (ya * yb)) * yb) / Nat.gcd (((((xa * yb) + (xb * ya)) / Nat.gcd ((xa * yb) + (xb * ya)) (ya * yb)) * yb) - (xb * ((ya * yb) / Nat.gcd ((xa * yb) + (xb * ya)) (ya * yb)))) (((ya * yb) / Nat.gcd ((xa * yb) + (xb * ya)) (ya * yb)) * yb)) (xa) (ya) W1 rdp1 rdq1 rpa rqa (Lib.hid (Nat.le_trans (len_div_le (len_sub_le (len_mul_le (len_div_le (len_add_le (len_mul_le Lxa.out Lyb.out) (len_mul_le Lxb.out Lya.out))) Lyb.out))) (by omega))) (Lib.hid (Nat.le_trans (len_div_le (len_mul_le (len_div_le (len_mul_le Lya.out Lyb.out)) Lyb.out)) (by omega))) (Lib.hid (Nat.le_trans Lxa.out (by omega))) (Lib.hid (Nat.le_trans Lya.out (by omega))))
      rw [cmp_eq (same_cross (mul_ne (low_ne _ (mul_ne Hxa.out.1 Hxb.out.1)) Hxb.out.1) (back_sub rfl rfl (low_cross _ _) Hxa.out.1 Hxb.out.1))] at H110
      go_wp2_with fail
      clear c0P1 c1P1 c0P2 c1P2 c0P5 c1P5 c0P6 c1P6 c0P9 c1P9 c0P10 c1P10 c0P109 c1P109
      refine H110.out.mono ?_
      rintro e w111 ⟨rfl, hb⟩
      clear H110
      replace P1 := P1.below hb
      replace P2 := P2.below hb
      replace P5 := P5.below hb
      replace P6 := P6.below hb
      replace P9 := P9.below hb
      replace P10 := P10.below hb
      replace P109 := P109.below hb
      replace rf1 := rf1.below hb
      replace rf2 := rf2.below hb
      replace rg1 := rg1.below hb
      replace rg2 := rg2.below hb
      replace rpa := rpa.below hb
      replace rqa := rqa.below hb
      replace rra := rra.below hb
      replace rsa := rsa.below hb
      replace rpb := rpb.below hb
      replace rqb := rqb.below hb
      replace rrb := rrb.below hb
      replace rsb := rsb.below hb
      replace rdp1 := rdp1.below hb
      replace rdq1 := rdq1.below hb
      replace hB := hB.trans (hb.mono hB.size)
      clear hb
      have c0P1 := P1.c0
      have c1P1 := P1.c1
      have c0P2 := P2.c0
      have c1P2 := P2.c1
      have c0P5 := P5.c0
      have c1P5 := P5.c1
      have c0P6 := P6.c0
      have c1P6 := P6.c1
      have c0P9 := P9.c0
      have c1P9 := P9.c1
      have c0P10 := P10.c0
      have c1P10 := P10.c1
      have c0P109 := P109.c0
      have c1P109 := P109.c1
      go_wp2_with fail
      clear c0P1 c1P1 c0P2 c1P2 c0P5 c1P5 c0P6 c1P6 c0P9 c1P9 c0P10 c1P10 c0P109 c1P109
      have hb : Below w111.heap.size w111 w111.drew := (Below.refl _ _).drew
      replace P1 := P1.below hb
      replace P2 := P2.below hb
      replace P5 := P5.below hb
      replace P6 := P6.below hb
      replace P9 := P9.below hb
      replace P10 := P10.below hb
      replace P109 := P109.below hb
      replace rf1 := rf1.below hb
      replace rf2 := rf2.below hb
      replace rg1 := rg1.below hb
      replace rg2 := rg2.below hb
      replace rpa := rpa.below hb
      replace rqa := rqa.below hb
      replace rra := rra.below hb
      replace rsa := rsa.below hb
      replace rpb := rpb.below hb
      replace rqb := rqb.below hb
      replace rrb := rrb.below hb
      replace rsb := rsb.below hb
      replace rdp1 := rdp1.below hb
      replace rdq1 := rdq1.below hb
      replace hB := hB.trans (hb.mono hB.size)
      clear hb
      refine Rd.regionT (fun X => Pair X (w.heap.size) 24 (.slice f1.a f1.n f1.c) (.slice f2.a f2.n f2.c) ∧ Pair X (w.heap.size + 1) 24 (.slice g1.a g1.n g1.c) (.slice g2.a g2.n g2.c) ∧ Pair X (w4.heap.size) 30 (.slice pa.a pa.n pa.c) (.slice qa.a qa.n qa.c) ∧ Pair X (w4.heap.size + 1) 35 (.slice ra.a ra.n ra.c) (.slice sa.a sa.n sa.c) ∧ Pair X (w8.heap.size) 30 (.slice pb.a pb.n pb.c) (.slice qb.a qb.n qb.c) ∧ Pair X (w8.heap.size + 1) 35 (.slice rb.a rb.n rb.c) (.slice sb.a sb.n sb.c) ∧ Pair X (BB1) 30 (.slice dp1.a dp1.n dp1.c) (.slice dq1.a dq1.n dq1.c)) [0, 1, 3, 5, 6, 7, 10] (.one 0 (.one 1 (.one 3 (.two 2 (.two 4 (.one 5 (.one 6 (.one 7 (.one 8 (.one 9 (.one 10 .done)))))) 8 (.one 4 (.one 5 (.one 6 (.one 7 (.one 9 (.one 10 .done))))))) 8 (.one 2 (.one 4 (.one 5 (.one 6 (.one 7 (.one 9 (.one 10 .done))))))))))) (fun ac W => ∃ (BB2 : Nat) (dp2 : Sl) (dq2 : Sl) (y59 y60 y61 y62 y63 y64 y65 y66 : Value), ac = { tmps := List.toArray (.agg #[.slice f1.a f1.n f1.c, .slice f2.a f2.n f2.c] :: .agg #[.slice g1.a g1.n g1.c, .slice g2.a g2.n g2.c] :: .pointer (some ⟨w.heap.size, 0, none⟩) :: .pointer (some ⟨w.heap.size + 1, 0, none⟩) :: .bool false :: .pointer (some ⟨w4.heap.size, 0, none⟩) :: .pointer (some ⟨w4.heap.size + 1, 0, none⟩) :: .bool true :: .pointer (some ⟨w8.heap.size, 0, none⟩) :: .pointer (some ⟨w8.heap.size + 1, 0, none⟩) :: .bool true :: .pointer (some ⟨BB1, 0, none⟩) :: .int .i64 0 :: .pointer (some ⟨BB2, 0, none⟩) :: .int .i64 0 :: undef :: .tuple #[.agg #[.slice pa.a pa.n pa.c, .slice qa.a qa.n qa.c], .agg #[.slice ra.a ra.n ra.c, .slice sa.a sa.n sa.c], .bool true] :: .agg #[.slice f1.a f1.n f1.c, .slice f2.a f2.n f2.c] :: .tuple #[.agg #[.slice pa.a pa.n pa.c, .slice qa.a qa.n qa.c], .agg #[.slice ra.a ra.n ra.c, .slice sa.a sa.n sa.c], .bool true] :: .agg #[.slice pa.a pa.n pa.c, .slice qa.a qa.n qa.c] :: .agg #[.slice ra.a ra.n ra.c, .slice sa.a sa.n sa.c] :: .bool true :: .tuple #[.agg #[.slice pb.a pb.n pb.c, .slice qb.a qb.n qb.c], .agg #[.slice rb.a rb.n rb.c, .slice sb.a sb.n sb.c], .bool true] :: .agg #[.slice g1.a g1.n g1.c, .slice g2.a g2.n g2.c] :: .tuple #[.agg #[.slice pb.a pb.n pb.c, .slice qb.a qb.n qb.c], .agg #[.slice rb.a rb.n rb.c, .slice sb.a sb.n sb.c], .bool true] :: .agg #[.slice pb.a pb.n pb.c, .slice qb.a qb.n qb.c] :: .agg #[.slice rb.a rb.n rb.c, .slice sb.a sb.n sb.c] :: .bool true :: .bool true :: .bool false :: .bool false :: .bool true :: .bool false :: .bool false :: .bool false :: .bool true :: .bool false :: .bool false :: undef :: y39 :: y40 :: y41 :: y42 :: y43 :: y44 :: y45 :: y46 :: .int .i64 0 :: .bool false :: .bool false :: .agg #[.slice dp1.a dp1.n dp1.c, .slice dq1.a dq1.n dq1.c] :: .agg #[.slice pa.a pa.n pa.c, .slice qa.a qa.n qa.c] :: .int .i64 0 :: .bool false :: .bool false :: .pointer (some ⟨w8.heap.size, 0, none⟩) :: .slice pb.a pb.n pb.c :: .int .i64 (pb.n : Int) :: .bool true :: y59 :: y60 :: y61 :: y62 :: y63 :: y64 :: y65 :: y66 :: undef :: undef :: undef :: undef :: undef :: undef :: undef :: undef :: undef :: undef :: undef :: undef :: undef :: undef :: undef :: undef :: undef :: undef :: undef :: undef :: undef :: undef :: undef :: undef :: undef :: undef :: undef :: undef :: undef :: undef :: undef :: []), defers := [] } ∧ Pair W (w.heap.size) 24 (.slice f1.a f1.n f1.c) (.slice f2.a f2.n f2.c) ∧ Pair W (w.heap.size + 1) 24 (.slice g1.a g1.n g1.c) (.slice g2.a g2.n g2.c) ∧ Pair W (w4.heap.size) 30 (.slice pa.a pa.n pa.c) (.slice qa.a qa.n qa.c) ∧ Pair W (w4.heap.size + 1) 35 (.slice ra.a ra.n ra.c) (.slice sa.a sa.n sa.c) ∧ Pair W (w8.heap.size) 30 (.slice pb.a pb.n pb.c) (.slice qb.a qb.n qb.c) ∧ Pair W (w8.heap.size + 1) 35 (.slice rb.a rb.n rb.c) (.slice sb.a sb.n sb.c) ∧ Pair W (BB1) 30 (.slice dp1.a dp1.n dp1.c) (.slice dq1.a dq1.n dq1.c) ∧ RA W f1 l11 ∧ RA W f2 l12 ∧ RA W g1 l21 ∧ RA W g2 l22 ∧ RU W pa xa ∧ RU W qa ya ∧ RD W ra xa ∧ RD W sa ya ∧ RU W pb xb ∧ RU W qb yb ∧ RD W rb xb ∧ RD W sb yb ∧ RU W dp1 ((((((xa * yb) + (xb * ya)) / Nat.gcd ((xa * yb) + (xb * ya)) (ya * yb)) * yb) - (xb * ((ya * yb) / Nat.gcd ((xa * yb) + (xb * ya)) (ya * yb)))) / Nat.gcd (((((xa * yb) + (xb * ya)) / Nat.gcd ((xa * yb) + (xb * ya)) (ya * yb)) * yb) - (xb * ((ya * yb) / Nat.gcd ((xa * yb) + (xb * ya)) (ya * yb)))) (((ya * yb) / Nat.gcd ((xa * yb) + (xb * ya)) (ya * yb)) * yb)) ∧ RU W dq1 ((((ya * yb) / Nat.gcd ((xa * yb) + (xb * ya)) (ya * yb)) * yb) / Nat.gcd (((((xa * yb) + (xb * ya)) / Nat.gcd ((xa * yb) + (xb * ya)) (ya * yb)) * yb) - (xb * ((ya * yb) / Nat.gcd ((xa * yb) + (xb * ya)) (ya * yb)))) (((ya * yb) / Nat.gcd ((xa * yb) + (xb * ya)) (ya * yb)) * yb)) ∧ Pair W BB2 30 (.slice dp2.a dp2.n dp2.c) (.slice dq2.a dq2.n dq2.c) ∧ RU W dp2 ((((xa * xb) / Nat.gcd (xa * xb) (ya * yb)) * yb) / Nat.gcd (((xa * xb) / Nat.gcd (xa * xb) (ya * yb)) * yb) (xb * ((ya * yb) / Nat.gcd (xa * xb) (ya * yb)))) ∧ RU W dq2 ((xb * ((ya * yb) / Nat.gcd (xa * xb) (ya * yb))) / Nat.gcd (((xa * xb) / Nat.gcd (xa * xb) (ya * yb)) * yb) (xb * ((ya * yb) / Nat.gcd (xa * xb) (ya * yb)))) ∧ Below w.heap.size w W) (by kernel_rfl) (by kernel_rfl) (by kernel_rfl) ⟨P1, P2, P5, P6, P9, P10, P109⟩ ?tree ?next
      case tree =>
        generalize w111.drew = w112 at P1 P2 P5 P6 P9 P10 P109 rf1 rf2 rg1 rg2 rpa rqa rra rsa rpb rqb rrb rsb rdp1 rdq1 hB ⊢
        refine Rd.tr_float (.agg #[.slice pa.a pa.n pa.c, .slice qa.a qa.n qa.c]) (by simp only [List.getElem?_toArray, List.getElem?_cons_zero]; rfl) rfl (by rfl) (fun X hX => by have h0 := hX.2.2.1.c0; have h1 := hX.2.2.1.c1; go_simp) ?_
        simp only [Act.put, List.setIfInBounds_toArray, List.set_cons_succ, List.set_cons_zero]
        refine Rd.tr_float (.agg #[.slice pb.a pb.n pb.c, .slice qb.a qb.n qb.c]) (by simp only [List.getElem?_toArray, List.getElem?_cons_succ, List.getElem?_cons_zero]; rfl) rfl (by rfl) (fun X hX => by have h0 := hX.2.2.2.2.1.c0; have h1 := hX.2.2.2.2.1.c1; go_simp) ?_
        simp only [Act.put, List.setIfInBounds_toArray, List.set_cons_succ, List.set_cons_zero]
        refine Rd.tr_float (.agg #[.slice pb.a pb.n pb.c, .slice qb.a qb.n qb.c]) (by simp only [List.getElem?_toArray, List.getElem?_cons_succ, List.getElem?_cons_zero]; rfl) rfl (by rfl) (fun X hX => by have h0 := hX.2.2.2.2.1.c0; have h1 := hX.2.2.2.2.1.c1; go_simp) ?_
        simp only [Act.put, List.setIfInBounds_toArray, List.set_cons_succ, List.set_cons_zero]
        refine Rd.tr_two (by simp only [List.getElem?_toArray, List.getElem?_cons_succ, List.getElem?_cons_zero]; rfl) (by rfl) (by simp only [List.getElem?_toArray, List.getElem?_cons_succ, List.getElem?_cons_zero]; rfl) (by rfl) (fun K hK => ?_) (fun K hK => ?_)
        · skip
          have H115 := Lib.hid (qmul_nat pa qa pb qb (xa) (ya) (xb) (yb) w112 rpa rqa rpb rqb (Lib.hid (Nat.le_trans Lxa.out (by omega))) (Lib.hid (Nat.le_trans Lya.out (by omega))) (Lib.hid (Nat.le_trans Lxb.out (by omega))) (Lib.hid (Nat.le_trans Lyb.out (by omega))) (Lib.hid (mul_ne Hxa.out.1 Hxb.out.1)))
          go_simp
          refine H115.out.mono ?_
          rintro e w116 ⟨x113, x114, rfl, rx113, rx114, hb⟩
          clear H115
          replace P1 := P1.below hb
          replace P2 := P2.below hb
          replace P5 := P5.below hb
          replace P6 := P6.below hb
          replace P9 := P9.below hb
          replace P10 := P10.below hb
          replace P109 := P109.below hb
          replace rf1 := rf1.below hb
          replace rf2 := rf2.below hb
          replace rg1 := rg1.below hb
          replace rg2 := rg2.below hb
          replace rpa := rpa.below hb
          replace rqa := rqa.below hb
          replace rra := rra.below hb
          replace rsa := rsa.below hb
          replace rpb := rpb.below hb
          replace rqb := rqb.below hb
          replace rrb := rrb.below hb
          replace rsb := rsb.below hb
          replace rdp1 := rdp1.below hb
          replace rdq1 := rdq1.below hb
          replace hB := hB.trans (hb.mono hB.size)
          clear hb
          refine hK _ _ ⟨P1, P2, P5, P6, P9, P10, P109⟩ ?_
          clear hK K
          refine Rd.tr_two (by simp only [List.getElem?_toArray, List.getElem?_cons_succ, List.getElem?_cons_zero]; rfl) (by rfl) (by simp only [List.getElem?_toArray, List.getElem?_cons_succ, List.getElem?_cons_zero]; rfl) (by rfl) (fun K hK => ?_) (fun K hK => ?_)
          · skip
            have H119 := Lib.hid (qdiv_nat x113 x114 pb qb ((xa * xb) / Nat.gcd (xa * xb) (ya * yb)) ((ya * yb) / Nat.gcd (xa * xb) (ya * yb)) (xb) (yb) w116 rx113 rx114 rpb rqb (Lib.hid (Nat.le_trans (len_div_le (len_mul_le Lxa.out Lxb.out)) (by omega))) (Lib.hid (Nat.le_trans (len_div_le (len_mul_le Lya.out Lyb.out)) (by omega))) (Lib.hid (Nat.le_trans Lxb.out (by omega))) (Lib.hid (Nat.le_trans Lyb.out (by omega))) (Lib.hid (mul_ne HX.out (low_ne _ (mul_ne Hxa.out.1 Hxb.out.1)))))
            go_simp
            refine H119.out.mono ?_
            rintro e w120 ⟨x117, x118, rfl, rx117, rx118, hb⟩
            clear H119
            replace P1 := P1.below hb
            replace P2 := P2.below hb
            replace P5 := P5.below hb
            replace P6 := P6.below hb
            replace P9 := P9.below hb
            replace P10 := P10.below hb
            replace P109 := P109.below hb
            replace rf1 := rf1.below hb
            replace rf2 := rf2.below hb
            replace rg1 := rg1.below hb
            replace rg2 := rg2.below hb
            replace rpa := rpa.below hb
            replace rqa := rqa.below hb
            replace rra := rra.below hb
            replace rsa := rsa.below hb
            replace rpb := rpb.below hb
            replace rqb := rqb.below hb
            replace rrb := rrb.below hb
            replace rsb := rsb.below hb
            replace rdp1 := rdp1.below hb
            replace rdq1 := rdq1.below hb
            replace rx113 := rx113.below hb
            replace rx114 := rx114.below hb
            replace hB := hB.trans (hb.mono hB.size)
            clear hb
            refine hK _ _ ⟨P1, P2, P5, P6, P9, P10, P109⟩ ?_
            clear hK K
            refine Rd.tr_float (.tuple #[.agg #[.slice x117.a x117.n x117.c, .slice x118.a x118.n x118.c], .int .i64 0]) (by simp only [List.getElem?_toArray, List.getElem?_cons_succ, List.getElem?_cons_zero]; rfl) rfl (by rfl) (fun X _ => by go_simp) ?_
            simp only [Act.put, List.setIfInBounds_toArray, List.set_cons_succ, List.set_cons_zero]
            refine Rd.tr_float (.agg #[.slice x117.a x117.n x117.c, .slice x118.a x118.n x118.c]) (by simp only [List.getElem?_toArray, List.getElem?_cons_succ, List.getElem?_cons_zero]; rfl) rfl (by rfl) (fun X _ => by go_simp) ?_
            simp only [Act.put, List.setIfInBounds_toArray, List.set_cons_succ, List.set_cons_zero]
            refine Rd.tr_float (.int .i64 0) (by simp only [List.getElem?_toArray, List.getElem?_cons_succ, List.getElem?_cons_zero]; rfl) rfl (by rfl) (fun X _ => by go_simp) ?_
            simp only [Act.put, List.setIfInBounds_toArray, List.set_cons_succ, List.set_cons_zero]
            refine Rd.tr_move (by simp only [List.getElem?_toArray, List.getElem?_cons_succ, List.getElem?_cons_zero]; rfl) rfl (by rfl) (fun K hK => ?_)
            go_simp
            have P121 := Pair.new w120 30 (.slice none 0 0) (.slice none 0 0)
            have nP1P121 := P1.lt
            have nP2P121 := P2.lt
            have nP5P121 := P5.lt
            have nP6P121 := P6.lt
            have nP9P121 := P9.lt
            have nP10P121 := P10.lt
            have nP109P121 := P109.lt
            have gP121 := hB.size
            have hb : Below w120.heap.size w120 (w120.alloc (.cells #[.slice none 0 0, .slice none 0 0] 30)) := (Below.refl _ _).alloc (Nat.le_refl _) _
            replace P1 := P1.below hb
            replace P2 := P2.below hb
            replace P5 := P5.below hb
            replace P6 := P6.below hb
            replace P9 := P9.below hb
            replace P10 := P10.below hb
            replace P109 := P109.below hb
            replace rf1 := rf1.below hb
            replace rf2 := rf2.below hb
            replace rg1 := rg1.below hb
            replace rg2 := rg2.below hb
            replace rpa := rpa.below hb
            replace rqa := rqa.below hb
            replace rra := rra.below hb
            replace rsa := rsa.below hb
            replace rpb := rpb.below hb
            replace rqb := rqb.below hb
            replace rrb := rrb.below hb
            replace rsb := rsb.below hb
            replace rdp1 := rdp1.below hb
            replace rdq1 := rdq1.below hb
            replace rx113 := rx113.below hb
            replace rx114 := rx114.below hb
            replace rx117 := rx117.below hb
            replace rx118 := rx118.below hb
            replace hB := hB.trans (hb.mono hB.size)
            clear hb
            generalize w120.alloc (.cells #[.slice none 0 0, .slice none 0 0] 30) = w123 at P1 P2 P5 P6 P9 P10 P109 rf1 rf2 rg1 rg2 rpa rqa rra rsa rpb rqb rrb rsb rdp1 rdq1 rx113 rx114 rx117 rx118 P121 hB ⊢
            generalize w120.heap.size = B122 at nP1P121 nP2P121 nP5P121 nP6P121 nP9P121 nP10P121 nP109P121 P121 gP121 ⊢
            refine hK _ _ ⟨P1, P2, P5, P6, P9, P10, P109⟩ ?_
            clear hK K
            refine Rd.tr_move (by simp only [List.getElem?_toArray, List.getElem?_cons_succ, List.getElem?_cons_zero]; rfl) rfl (by rfl) (fun K hK => ?_)
            have c0P121 := P121.c0
            have c1P121 := P121.c1
            have z0P121 := P121.z0
            have z1P121 := P121.z1
            go_simp
            clear c0P121 c1P121 z0P121 z1P121
            replace rf1 := rf1.pset P121 (.slice x117.a x117.n x117.c) (.slice x118.a x118.n x118.c)
            replace rf2 := rf2.pset P121 (.slice x117.a x117.n x117.c) (.slice x118.a x118.n x118.c)
            replace rg1 := rg1.pset P121 (.slice x117.a x117.n x117.c) (.slice x118.a x118.n x118.c)
            replace rg2 := rg2.pset P121 (.slice x117.a x117.n x117.c) (.slice x118.a x118.n x118.c)
            replace rpa := rpa.pset P121 (.slice x117.a x117.n x117.c) (.slice x118.a x118.n x118.c)
            replace rqa := rqa.pset P121 (.slice x117.a x117.n x117.c) (.slice x118.a x118.n x118.c)
            replace rra := rra.pset P121 (.slice x117.a x117.n x117.c) (.slice x118.a x118.n x118.c)
            replace rsa := rsa.pset P121 (.slice x117.a x117.n x117.c) (.slice x118.a x118.n x118.c)
            replace rpb := rpb.pset P121 (.slice x117.a x117.n x117.c) (.slice x118.a x118.n x118.c)
            replace rqb := rqb.pset P121 (.slice x117.a x117.n x117.c) (.slice x118.a x118.n x118.c)
            replace rrb := rrb.pset P121 (.slice x117.a x117.n x117.c) (.slice x118.a x118.n x118.c)
            replace rsb := rsb.pset P121 (.slice x117.a x117.n x117.c) (.slice x118.a x118.n x118.c)
            replace rdp1 := rdp1.pset P121 (.slice x117.a x117.n x117.c) (.slice x118.a x118.n x118.c)
            replace rdq1 := rdq1.pset P121 (.slice x117.a x117.n x117.c) (.slice x118.a x118.n x118.c)
            replace rx113 := rx113.pset P121 (.slice x117.a x117.n x117.c) (.slice x118.a x118.n x118.c)
            replace rx114 := rx114.pset P121 (.slice x117.a x117.n x117.c) (.slice x118.a x118.n x118.c)
            replace rx117 := rx117.pset P121 (.slice x117.a x117.n x117.c) (.slice x118.a x118.n x118.c)
            replace rx118 := rx118.pset P121 (.slice x117.a x117.n x117.c) (.slice x118.a x118.n x118.c)
            replace P1 := P1.other (B := B122) (Nat.ne_of_lt nP1P121) (.slice x117.a x117.n x117.c) (.slice x118.a x118.n x118.c)
            replace P2 := P2.other (B := B122) (Nat.ne_of_lt nP2P121) (.slice x117.a x117.n x117.c) (.slice x118.a x118.n x118.c)
            replace P5 := P5.other (B := B122) (Nat.ne_of_lt nP5P121) (.slice x117.a x117.n x117.c) (.slice x118.a x118.n x118.c)
            replace P6 := P6.other (B := B122) (Nat.ne_of_lt nP6P121) (.slice x117.a x117.n x117.c) (.slice x118.a x118.n x118.c)
            replace P9 := P9.other (B := B122) (Nat.ne_of_lt nP9P121) (.slice x117.a x117.n x117.c) (.slice x118.a x118.n x118.c)
            replace P10 := P10.other (B := B122) (Nat.ne_of_lt nP10P121) (.slice x117.a x117.n x117.c) (.slice x118.a x118.n x118.c)
            replace P109 := P109.other (B := B122) (Nat.ne_of_lt nP109P121) (.slice x117.a x117.n x117.c) (.slice x118.a x118.n x118.c)
            replace hB := Below.pset (B := B122) hB gP121 (.slice x117.a x117.n x117.c) (.slice x118.a x118.n x118.c)
            replace P121 := P121.set (.slice x117.a x117.n x117.c) (.slice x118.a x118.n x118.c)
            generalize (w123.setCell ⟨B122, 0, none⟩ (.slice x117.a x117.n x117.c)).setCell ⟨B122, 1, none⟩ (.slice x118.a x118.n x118.c) = w124 at P1 P2 P5 P6 P9 P10 P109 P121 rf1 rf2 rg1 rg2 rpa rqa rra rsa rpb rqb rrb rsb rdp1 rdq1 rx113 rx114 rx117 rx118 hB ⊢
            refine hK _ _ ⟨P1, P2, P5, P6, P9, P10, P109⟩ ?_
            clear hK K
            refine Rd.tr_float (.int .i64 0) (by simp only [List.getElem?_toArray, List.getElem?_cons_succ, List.getElem?_cons_zero]; rfl) rfl (by rfl) (fun X _ => by go_simp) ?_
            simp only [Act.put, List.setIfInBounds_toArray, List.set_cons_succ, List.set_cons_zero]
            exact Rd.tr_end (⟨B122, x117, x118, _, _, _, _, _, _, _, _, rfl, P1, P2, P5, P6, P9, P10, P109, rf1, rf2, rg1, rg2, rpa, rqa, rra, rsa, rpb, rqb, rrb, rsb, rdp1, rdq1, P121, rx117, rx118, hB⟩)
          · skip
            go_simp
            have P125 := Pair.new w116 30 (.slice none 0 0) (.slice none 0 0)
            have nP1P125 := P1.lt
            have nP2P125 := P2.lt
            have nP5P125 := P5.lt
            have nP6P125 := P6.lt
            have nP9P125 := P9.lt
            have nP10P125 := P10.lt
            have nP109P125 := P109.lt
            have gP125 := hB.size
            have hb : Below w116.heap.size w116 (w116.alloc (.cells #[.slice none 0 0, .slice none 0 0] 30)) := (Below.refl _ _).alloc (Nat.le_refl _) _
            replace P1 := P1.below hb
            replace P2 := P2.below hb
            replace P5 := P5.below hb
            replace P6 := P6.below hb
            replace P9 := P9.below hb
            replace P10 := P10.below hb
            replace P109 := P109.below hb
            replace rf1 := rf1.below hb
            replace rf2 := rf2.below hb
            replace rg1 := rg1.below hb
            replace rg2 := rg2.below hb
            replace rpa := rpa.below hb
            replace rqa := rqa.below hb
            replace rra := rra.below hb
            replace rsa := rsa.below hb
            replace rpb := rpb.below hb
            replace rqb := rqb.below hb
            replace rrb := rrb.below hb
            replace rsb := rsb.below hb
            replace rdp1 := rdp1.below hb
            replace rdq1 := rdq1.below hb
            replace rx113 := rx113.below hb
            replace rx114 := rx114.below hb
            replace hB := hB.trans (hb.mono hB.size)
            clear hb
            generalize w116.alloc (.cells #[.slice none 0 0, .slice none 0 0] 30) = w127 at P1 P2 P5 P6 P9 P10 P109 rf1 rf2 rg1 rg2 rpa rqa rra rsa rpb rqb rrb rsb rdp1 rdq1 rx113 rx114 P125 hB ⊢
            generalize w116.heap.size = B126 at nP1P125 nP2P125 nP5P125 nP6P125 nP9P125 nP10P125 nP109P125 P125 gP125 ⊢
            refine hK _ _ ⟨P1, P2, P5, P6, P9, P10, P109⟩ ?_
            clear hK K
            refine Rd.tr_move (by simp only [List.getElem?_toArray, List.getElem?_cons_succ, List.getElem?_cons_zero]; rfl) rfl (by rfl) (fun K hK => ?_)
            have H130 := Lib.hid (qdiv_nat x113 x114 pb qb ((xa * xb) / Nat.gcd (xa * xb) (ya * yb)) ((ya * yb) / Nat.gcd (xa * xb) (ya * yb)) (xb) (yb) w127 rx113 rx114 rpb rqb (Lib.hid (Nat.le_trans (len_div_le (len_mul_le Lxa.out Lxb.out)) (by omega))) (Lib.hid (Nat.le_trans (len_div_le (len_mul_le Lya.out Lyb.out)) (by omega))) (Lib.hid (Nat.le_trans Lxb.out (by omega))) (Lib.hid (Nat.le_trans Lyb.out (by omega))) (Lib.hid (mul_ne HX.out (low_ne _ (mul_ne Hxa.out.1 Hxb.out.1)))))
            go_simp
            refine H130.out.mono ?_
            rintro e w131 ⟨x128, x129, rfl, rx128, rx129, hb⟩
            clear H130
            replace P1 := P1.below hb
            replace P2 := P2.below hb
            replace P5 := P5.below hb
            replace P6 := P6.below hb
            replace P9 := P9.below hb
            replace P10 := P10.below hb
            replace P109 := P109.below hb
            replace P125 := P125.below hb
            replace rf1 := rf1.below hb
            replace rf2 := rf2.below hb
            replace rg1 := rg1.below hb
            replace rg2 := rg2.below hb
            replace rpa := rpa.below hb
            replace rqa := rqa.below hb
            replace rra := rra.below hb
            replace rsa := rsa.below hb
            replace rpb := rpb.below hb
            replace rqb := rqb.below hb
            replace rrb := rrb.below hb
            replace rsb := rsb.below hb
            replace rdp1 := rdp1.below hb
            replace rdq1 := rdq1.below hb
            replace rx113 := rx113.below hb
            replace rx114 := rx114.below hb
            replace hB := hB.trans (hb.mono hB.size)
            clear hb
            refine hK _ _ ⟨P1, P2, P5, P6, P9, P10, P109⟩ ?_
            clear hK K
            refine Rd.tr_float (.tuple #[.agg #[.slice x128.a x128.n x128.c, .slice x129.a x129.n x129.c], .int .i64 0]) (by simp only [List.getElem?_toArray, List.getElem?_cons_succ, List.getElem?_cons_zero]; rfl) rfl (by rfl) (fun X _ => by go_simp) ?_
            simp only [Act.put, List.setIfInBounds_toArray, List.set_cons_succ, List.set_cons_zero]
            refine Rd.tr_float (.agg #[.slice x128.a x128.n x128.c, .slice x129.a x129.n x129.c]) (by simp only [List.getElem?_toArray, List.getElem?_cons_succ, List.getElem?_cons_zero]; rfl) rfl (by rfl) (fun X _ => by go_simp) ?_
            simp only [Act.put, List.setIfInBounds_toArray, List.set_cons_succ, List.set_cons_zero]
            refine Rd.tr_float (.int .i64 0) (by simp only [List.getElem?_toArray, List.getElem?_cons_succ, List.getElem?_cons_zero]; rfl) rfl (by rfl) (fun X _ => by go_simp) ?_
            simp only [Act.put, List.setIfInBounds_toArray, List.set_cons_succ, List.set_cons_zero]
            refine Rd.tr_move (by simp only [List.getElem?_toArray, List.getElem?_cons_succ, List.getElem?_cons_zero]; rfl) rfl (by rfl) (fun K hK => ?_)
            have c0P125 := P125.c0
            have c1P125 := P125.c1
            have z0P125 := P125.z0
            have z1P125 := P125.z1
            go_simp
            clear c0P125 c1P125 z0P125 z1P125
            replace rf1 := rf1.pset P125 (.slice x128.a x128.n x128.c) (.slice x129.a x129.n x129.c)
            replace rf2 := rf2.pset P125 (.slice x128.a x128.n x128.c) (.slice x129.a x129.n x129.c)
            replace rg1 := rg1.pset P125 (.slice x128.a x128.n x128.c) (.slice x129.a x129.n x129.c)
            replace rg2 := rg2.pset P125 (.slice x128.a x128.n x128.c) (.slice x129.a x129.n x129.c)
            replace rpa := rpa.pset P125 (.slice x128.a x128.n x128.c) (.slice x129.a x129.n x129.c)
            replace rqa := rqa.pset P125 (.slice x128.a x128.n x128.c) (.slice x129.a x129.n x129.c)
            replace rra := rra.pset P125 (.slice x128.a x128.n x128.c) (.slice x129.a x129.n x129.c)
            replace rsa := rsa.pset P125 (.slice x128.a x128.n x128.c) (.slice x129.a x129.n x129.c)
            replace rpb := rpb.pset P125 (.slice x128.a x128.n x128.c) (.slice x129.a x129.n x129.c)
            replace rqb := rqb.pset P125 (.slice x128.a x128.n x128.c) (.slice x129.a x129.n x129.c)
            replace rrb := rrb.pset P125 (.slice x128.a x128.n x128.c) (.slice x129.a x129.n x129.c)
            replace rsb := rsb.pset P125 (.slice x128.a x128.n x128.c) (.slice x129.a x129.n x129.c)
            replace rdp1 := rdp1.pset P125 (.slice x128.a x128.n x128.c) (.slice x129.a x129.n x129.c)
            replace rdq1 := rdq1.pset P125 (.slice x128.a x128.n x128.c) (.slice x129.a x129.n x129.c)
            replace rx113 := rx113.pset P125 (.slice x128.a x128.n x128.c) (.slice x129.a x129.n x129.c)
            replace rx114 := rx114.pset P125 (.slice x128.a x128.n x128.c) (.slice x129.a x129.n x129.c)
            replace rx128 := rx128.pset P125 (.slice x128.a x128.n x128.c) (.slice x129.a x129.n x129.c)
            replace rx129 := rx129.pset P125 (.slice x128.a x128.n x128.c) (.slice x129.a x129.n x129.c)
            replace P1 := P1.other (B := B126) (Nat.ne_of_lt nP1P125) (.slice x128.a x128.n x128.c) (.slice x129.a x129.n x129.c)
            replace P2 := P2.other (B := B126) (Nat.ne_of_lt nP2P125) (.slice x128.a x128.n x128.c) (.slice x129.a x129.n x129.c)
            replace P5 := P5.other (B := B126) (Nat.ne_of_lt nP5P125) (.slice x128.a x128.n x128.c) (.slice x129.a x129.n x129.c)
            replace P6 := P6.other (B := B126) (Nat.ne_of_lt nP6P125) (.slice x128.a x128.n x128.c) (.slice x129.a x129.n x129.c)
            replace P9 := P9.other (B := B126) (Nat.ne_of_lt nP9P125) (.slice x128.a x128.n x128.c) (.slice x129.a x129.n x129.c)
            replace P10 := P10.other (B := B126) (Nat.ne_of_lt nP10P125) (.slice x128.a x128.n x128.c) (.slice x129.a x129.n x129.c)
            replace P109 := P109.other (B := B126) (Nat.ne_of_lt nP109P125) (.slice x128.a x128.n x128.c) (.slice x129.a x129.n x129.c)
            replace hB := Below.pset (B := B126) hB gP125 (.slice x128.a x128.n x128.c) (.slice x129.a x129.n x129.c)
            replace P125 := P125.set (.slice x128.a x128.n x128.c) (.slice x129.a x129.n x129.c)
            generalize (w131.setCell ⟨B126, 0, none⟩ (.slice x128.a x128.n x128.c)).setCell ⟨B126, 1, none⟩ (.slice x129.a x129.n x129.c) = w132 at P1 P2 P5 P6 P9 P10 P109 P125 rf1 rf2 rg1 rg2 rpa rqa rra rsa rpb rqb rrb rsb rdp1 rdq1 rx113 rx114 rx128 rx129 hB ⊢
            refine hK _ _ ⟨P1, P2, P5, P6, P9, P10, P109⟩ ?_
            clear hK K
            refine Rd.tr_float (.int .i64 0) (by simp only [List.getElem?_toArray, List.getElem?_cons_succ, List.getElem?_cons_zero]; rfl) rfl (by rfl) (fun X _ => by go_simp) ?_
            simp only [Act.put, List.setIfInBounds_toArray, List.set_cons_succ, List.set_cons_zero]
            exact Rd.tr_end (⟨B126, x128, x129, _, _, _, _, _, _, _, _, rfl, P1, P2, P5, P6, P9, P10, P109, rf1, rf2, rg1, rg2, rpa, rqa, rra, rsa, rpb, rqb, rrb, rsb, rdp1, rdq1, P125, rx128, rx129, hB⟩)
        · skip
          go_simp
          have P133 := Pair.new w112 30 (.slice none 0 0) (.slice none 0 0)
          have nP1P133 := P1.lt
          have nP2P133 := P2.lt
          have nP5P133 := P5.lt
          have nP6P133 := P6.lt
          have nP9P133 := P9.lt
          have nP10P133 := P10.lt
          have nP109P133 := P109.lt
          have gP133 := hB.size
          have hb : Below w112.heap.size w112 (w112.alloc (.cells #[.slice none 0 0, .slice none 0 0] 30)) := (Below.refl _ _).alloc (Nat.le_refl _) _
          replace P1 := P1.below hb
          replace P2 := P2.below hb
          replace P5 := P5.below hb
          replace P6 := P6.below hb
          replace P9 := P9.below hb
          replace P10 := P10.below hb
          replace P109 := P109.below hb
          replace rf1 := rf1.below hb
          replace rf2 := rf2.below hb
          replace rg1 := rg1.below hb
          replace rg2 := rg2.below hb
          replace rpa := rpa.below hb
          replace rqa := rqa.below hb
          replace rra := rra.below hb
          replace rsa := rsa.below hb
          replace rpb := rpb.below hb
          replace rqb := rqb.below hb
          replace rrb := rrb.below hb
          replace rsb := rsb.below hb
          replace rdp1 := rdp1.below hb
          replace rdq1 := rdq1.below hb
          replace hB := hB.trans (hb.mono hB.size)
          clear hb
          generalize w112.alloc (.cells #[.slice none 0 0, .slice none 0 0] 30) = w135 at P1 P2 P5 P6 P9 P10 P109 rf1 rf2 rg1 rg2 rpa rqa rra rsa rpb rqb rrb rsb rdp1 rdq1 P133 hB ⊢
          generalize w112.heap.size = B134 at nP1P133 nP2P133 nP5P133 nP6P133 nP9P133 nP10P133 nP109P133 P133 gP133 ⊢
          refine hK _ _ ⟨P1, P2, P5, P6, P9, P10, P109⟩ ?_
          clear hK K
          refine Rd.tr_move (by simp only [List.getElem?_toArray, List.getElem?_cons_succ, List.getElem?_cons_zero]; rfl) rfl (by rfl) (fun K hK => ?_)
          have H138 := Lib.hid (qmul_nat pa qa pb qb (xa) (ya) (xb) (yb) w135 rpa rqa rpb rqb (Lib.hid (Nat.le_trans Lxa.out (by omega))) (Lib.hid (Nat.le_trans Lya.out (by omega))) (Lib.hid (Nat.le_trans Lxb.out (by omega))) (Lib.hid (Nat.le_trans Lyb.out (by omega))) (Lib.hid (mul_ne Hxa.out.1 Hxb.out.1)))
          go_simp
          refine H138.out.mono ?_
          rintro e w139 ⟨x136, x137, rfl, rx136, rx137, hb⟩
          clear H138
          replace P1 := P1.below hb
          replace P2 := P2.below hb
          replace P5 := P5.below hb
          replace P6 := P6.below hb
          replace P9 := P9.below hb
          replace P10 := P10.below hb
          replace P109 := P109.below hb
          replace P133 := P133.below hb
          replace rf1 := rf1.below hb
          replace rf2 := rf2.below hb
          replace rg1 := rg1.below hb
          replace rg2 := rg2.below hb
          replace rpa := rpa.below hb
          replace rqa := rqa.below hb
          replace rra := rra.below hb
          replace rsa := rsa.below hb
          replace rpb := rpb.below hb
          replace rqb := rqb.below hb
          replace rrb := rrb.below hb
          replace rsb := rsb.below hb
          replace rdp1 := rdp1.below hb
          replace rdq1 := rdq1.below hb
          replace hB := hB.trans (hb.mono hB.size)
          clear hb
          refine hK _ _ ⟨P1, P2, P5, P6, P9, P10, P109⟩ ?_
          clear hK K
          refine Rd.tr_move (by simp only [List.getElem?_toArray, List.getElem?_cons_succ, List.getElem?_cons_zero]; rfl) rfl (by rfl) (fun K hK => ?_)
          have H142 := Lib.hid (qdiv_nat x136 x137 pb qb ((xa * xb) / Nat.gcd (xa * xb) (ya * yb)) ((ya * yb) / Nat.gcd (xa * xb) (ya * yb)) (xb) (yb) w139 rx136 rx137 rpb rqb (Lib.hid (Nat.le_trans (len_div_le (len_mul_le Lxa.out Lxb.out)) (by omega))) (Lib.hid (Nat.le_trans (len_div_le (len_mul_le Lya.out Lyb.out)) (by omega))) (Lib.hid (Nat.le_trans Lxb.out (by omega))) (Lib.hid (Nat.le_trans Lyb.out (by omega))) (Lib.hid (mul_ne HX.out (low_ne _ (mul_ne Hxa.out.1 Hxb.out.1)))))
          go_simp
          refine H142.out.mono ?_
          rintro e w143 ⟨x140, x141, rfl, rx140, rx141, hb⟩
          clear H142
          replace P1 := P1.below hb
          replace P2 := P2.below hb
          replace P5 := P5.below hb
          replace P6 := P6.below hb
          replace P9 := P9.below hb
          replace P10 := P10.below hb
          replace P109 := P109.below hb
          replace P133 := P133.below hb
          replace rf1 := rf1.below hb
          replace rf2 := rf2.below hb
          replace rg1 := rg1.below hb
          replace rg2 := rg2.below hb
          replace rpa := rpa.below hb
          replace rqa := rqa.below hb
          replace rra := rra.below hb
          replace rsa := rsa.below hb
          replace rpb := rpb.below hb
          replace rqb := rqb.below hb
          replace rrb := rrb.below hb
          replace rsb := rsb.below hb
          replace rdp1 := rdp1.below hb
          replace rdq1 := rdq1.below hb
          replace rx136 := rx136.below hb
          replace rx137 := rx137.below hb
          replace hB := hB.trans (hb.mono hB.size)
          clear hb
          refine hK _ _ ⟨P1, P2, P5, P6, P9, P10, P109⟩ ?_
          clear hK K
          refine Rd.tr_float (.tuple #[.agg #[.slice x140.a x140.n x140.c, .slice x141.a x141.n x141.c], .int .i64 0]) (by simp only [List.getElem?_toArray, List.getElem?_cons_succ, List.getElem?_cons_zero]; rfl) rfl (by rfl) (fun X _ => by go_simp) ?_
          simp only [Act.put, List.setIfInBounds_toArray, List.set_cons_succ, List.set_cons_zero]
          refine Rd.tr_float (.agg #[.slice x140.a x140.n x140.c, .slice x141.a x141.n x141.c]) (by simp only [List.getElem?_toArray, List.getElem?_cons_succ, List.getElem?_cons_zero]; rfl) rfl (by rfl) (fun X _ => by go_simp) ?_
          simp only [Act.put, List.setIfInBounds_toArray, List.set_cons_succ, List.set_cons_zero]
          refine Rd.tr_float (.int .i64 0) (by simp only [List.getElem?_toArray, List.getElem?_cons_succ, List.getElem?_cons_zero]; rfl) rfl (by rfl) (fun X _ => by go_simp) ?_
          simp only [Act.put, List.setIfInBounds_toArray, List.set_cons_succ, List.set_cons_zero]
          refine Rd.tr_move (by simp only [List.getElem?_toArray, List.getElem?_cons_succ, List.getElem?_cons_zero]; rfl) rfl (by rfl) (fun K hK => ?_)
          have c0P133 := P133.c0
          have c1P133 := P133.c1
          have z0P133 := P133.z0
          have z1P133 := P133.z1
          go_simp
          clear c0P133 c1P133 z0P133 z1P133
          replace rf1 := rf1.pset P133 (.slice x140.a x140.n x140.c) (.slice x141.a x141.n x141.c)
          replace rf2 := rf2.pset P133 (.slice x140.a x140.n x140.c) (.slice x141.a x141.n x141.c)
          replace rg1 := rg1.pset P133 (.slice x140.a x140.n x140.c) (.slice x141.a x141.n x141.c)
          replace rg2 := rg2.pset P133 (.slice x140.a x140.n x140.c) (.slice x141.a x141.n x141.c)
          replace rpa := rpa.pset P133 (.slice x140.a x140.n x140.c) (.slice x141.a x141.n x141.c)
          replace rqa := rqa.pset P133 (.slice x140.a x140.n x140.c) (.slice x141.a x141.n x141.c)
          replace rra := rra.pset P133 (.slice x140.a x140.n x140.c) (.slice x141.a x141.n x141.c)
          replace rsa := rsa.pset P133 (.slice x140.a x140.n x140.c) (.slice x141.a x141.n x141.c)
          replace rpb := rpb.pset P133 (.slice x140.a x140.n x140.c) (.slice x141.a x141.n x141.c)
          replace rqb := rqb.pset P133 (.slice x140.a x140.n x140.c) (.slice x141.a x141.n x141.c)
          replace rrb := rrb.pset P133 (.slice x140.a x140.n x140.c) (.slice x141.a x141.n x141.c)
          replace rsb := rsb.pset P133 (.slice x140.a x140.n x140.c) (.slice x141.a x141.n x141.c)
          replace rdp1 := rdp1.pset P133 (.slice x140.a x140.n x140.c) (.slice x141.a x141.n x141.c)
          replace rdq1 := rdq1.pset P133 (.slice x140.a x140.n x140.c) (.slice x141.a x141.n x141.c)
          replace rx136 := rx136.pset P133 (.slice x140.a x140.n x140.c) (.slice x141.a x141.n x141.c)
          replace rx137 := rx137.pset P133 (.slice x140.a x140.n x140.c) (.slice x141.a x141.n x141.c)
          replace rx140 := rx140.pset P133 (.slice x140.a x140.n x140.c) (.slice x141.a x141.n x141.c)
          replace rx141 := rx141.pset P133 (.slice x140.a x140.n x140.c) (.slice x141.a x141.n x141.c)
          replace P1 := P1.other (B := B134) (Nat.ne_of_lt nP1P133) (.slice x140.a x140.n x140.c) (.slice x141.a x141.n x141.c)
          replace P2 := P2.other (B := B134) (Nat.ne_of_lt nP2P133) (.slice x140.a x140.n x140.c) (.slice x141.a x141.n x141.c)
          replace P5 := P5.other (B := B134) (Nat.ne_of_lt nP5P133) (.slice x140.a x140.n x140.c) (.slice x141.a x141.n x141.c)
          replace P6 := P6.other (B := B134) (Nat.ne_of_lt nP6P133) (.slice x140.a x140.n x140.c) (.slice x141.a x141.n x141.c)
          replace P9 := P9.other (B := B134) (Nat.ne_of_lt nP9P133) (.slice x140.a x140.n x140.c) (.slice x141.a x141.n x141.c)
          replace P10 := P10.other (B := B134) (Nat.ne_of_lt nP10P133) (.slice x140.a x140.n x140.c) (.slice x141.a x141.n x141.c)
          replace P109 := P109.other (B := B134) (Nat.ne_of_lt nP109P133) (.slice x140.a x140.n x140.c) (.slice x141.a x141.n x141.c)
          replace hB := Below.pset (B := B134) hB gP133 (.slice x140.a x140.n x140.c) (.slice x141.a x141.n x141.c)
          replace P133 := P133.set (.slice x140.a x140.n x140.c) (.slice x141.a x141.n x141.c)
          generalize (w143.setCell ⟨B134, 0, none⟩ (.slice x140.a x140.n x140.c)).setCell ⟨B134, 1, none⟩ (.slice x141.a x141.n x141.c) = w144 at P1 P2 P5 P6 P9 P10 P109 P133 rf1 rf2 rg1 rg2 rpa rqa rra rsa rpb rqb rrb rsb rdp1 rdq1 rx136 rx137 rx140 rx141 hB ⊢
          refine hK _ _ ⟨P1, P2, P5, P6, P9, P10, P109⟩ ?_
          clear hK K
          refine Rd.tr_float (.int .i64 0) (by simp only [List.getElem?_toArray, List.getElem?_cons_succ, List.getElem?_cons_zero]; rfl) rfl (by rfl) (fun X _ => by go_simp) ?_
          simp only [Act.put, List.setIfInBounds_toArray, List.set_cons_succ, List.set_cons_zero]
          exact Rd.tr_end (⟨B134, x140, x141, _, _, _, _, _, _, _, _, rfl, P1, P2, P5, P6, P9, P10, P109, rf1, rf2, rg1, rg2, rpa, rqa, rra, rsa, rpb, rqb, rrb, rsb, rdp1, rdq1, P133, rx140, rx141, hB⟩)
      case next =>
        rintro a3 W2 ⟨BB2, dp2, dq2, y59, y60, y61, y62, y63, y64, y65, y66, rfl, P1, P2, P5, P6, P9, P10, P109, rf1, rf2, rg1, rg2, rpa, rqa, rra, rsa, rpb, rqb, rrb, rsb, rdp1, rdq1, P145, rdp2, rdq2, hB⟩
        have c0P1 := P1.c0
        have c1P1 := P1.c1
        have c0P2 := P2.c0
        have c1P2 := P2.c1
        have c0P5 := P5.c0
        have c1P5 := P5.c1
        have c0P6 := P6.c0
        have c1P6 := P6.c1
        have c0P9 := P9.c0
        have c1P9 := P9.c1
        have c0P10 := P10.c0
        have c1P10 := P10.c1
        have c0P109 := P109.c0
        have c1P109 := P109.c1
        have c0P145 := P145.c0
        have c1P145 := P145.c1
        have H146 := Lib.hid (qcmp_nat dp2 dq2 pa qa ((((xa * xb) / Nat.gcd (xa * xb) (ya * yb)) * yb) / Nat.gcd (((xa * xb) / Nat.gcd (xa * xb) (ya * yb)) * yb) (xb * ((ya * yb) / Nat.gcd (xa * xb) (ya * yb)))) ((xb * ((ya * yb) / Nat.gcd (xa * xb) (ya * yb))) / Nat.gcd (((xa * xb) / Nat.gcd (xa * xb) (ya * yb)) * yb) (xb * ((ya * yb) / Nat.gcd (xa * xb) (ya * yb)))) (xa) (ya) W2 rdp2 rdq2 rpa rqa (Lib.hid (Nat.le_trans (len_div_le (len_mul_le (len_div_le (len_mul_le Lxa.out Lxb.out)) Lyb.out)) (by omega))) (Lib.hid (Nat.le_trans (len_div_le (len_mul_le Lxb.out (len_div_le (len_mul_le Lya.out Lyb.out)))) (by omega))) (Lib.hid (Nat.le_trans Lxa.out (by omega))) (Lib.hid (Nat.le_trans Lya.out (by omega))))
        rw [cmp_eq (same_cross (mul_ne HX.out (low_ne _ (mul_ne Hxa.out.1 Hxb.out.1))) (back_mul (low_cross _ _)))] at H146
        go_wp2_with fail
        clear c0P1 c1P1 c0P2 c1P2 c0P5 c1P5 c0P6 c1P6 c0P9 c1P9 c0P10 c1P10 c0P109 c1P109 c0P145 c1P145
        refine H146.out.mono ?_
        rintro e w147 ⟨rfl, hb⟩
        clear H146
        replace P1 := P1.below hb
        replace P2 := P2.below hb
        replace P5 := P5.below hb
        replace P6 := P6.below hb
        replace P9 := P9.below hb
        replace P10 := P10.below hb
        replace P109 := P109.below hb
        replace P145 := P145.below hb
        replace rf1 := rf1.below hb
        replace rf2 := rf2.below hb
        replace rg1 := rg1.below hb
        replace rg2 := rg2.below hb
        replace rpa := rpa.below hb
        replace rqa := rqa.below hb
        replace rra := rra.below hb
        replace rsa := rsa.below hb
        replace rpb := rpb.below hb
        replace rqb := rqb.below hb
        replace rrb := rrb.below hb
        replace rsb := rsb.below hb
        replace rdp1 := rdp1.below hb
        replace rdq1 := rdq1.below hb
        replace rdp2 := rdp2.below hb
        replace rdq2 := rdq2.below hb
        replace hB := hB.trans (hb.mono hB.size)
        clear hb
        have c0P1 := P1.c0
        have c1P1 := P1.c1
        have c0P2 := P2.c0
        have c1P2 := P2.c1
        have c0P5 := P5.c0
        have c1P5 := P5.c1
        have c0P6 := P6.c0
        have c1P6 := P6.c1
        have c0P9 := P9.c0
        have c1P9 := P9.c1
        have c0P10 := P10.c0
        have c1P10 := P10.c1
        have c0P109 := P109.c0
        have c1P109 := P109.c1
        have c0P145 := P145.c0
        have c1P145 := P145.c1
        have H149 := Lib.hid (qfloor_nat pa qa (xa) (ya) w147 rpa rqa (Lib.hid (Nat.le_trans Lxa.out (by omega))) (Lib.hid (Nat.le_trans Lya.out (by omega))) (Lib.hid Hxa.out.1))
        go_wp2_with fail
        clear c0P1 c1P1 c0P2 c1P2 c0P5 c1P5 c0P6 c1P6 c0P9 c1P9 c0P10 c1P10 c0P109 c1P109 c0P145 c1P145
        refine H149.out.mono ?_
        rintro e w150 ⟨x148, rfl, rx148, hb⟩
        clear H149
        replace P1 := P1.below hb
        replace P2 := P2.below hb
        replace P5 := P5.below hb
        replace P6 := P6.below hb
        replace P9 := P9.below hb
        replace P10 := P10.below hb
        replace P109 := P109.below hb
        replace P145 := P145.below hb
        replace rf1 := rf1.below hb
        replace rf2 := rf2.below hb
        replace rg1 := rg1.below hb
        replace rg2 := rg2.below hb
        replace rpa := rpa.below hb
        replace rqa := rqa.below hb
        replace rra := rra.below hb
        replace rsa := rsa.below hb
        replace rpb := rpb.below hb
        replace rqb := rqb.below hb
        replace rrb := rrb.below hb
        replace rsb := rsb.below hb
        replace rdp1 := rdp1.below hb
        replace rdq1 := rdq1.below hb
        replace rdp2 := rdp2.below hb
        replace rdq2 := rdq2.below hb
        replace hB := hB.trans (hb.mono hB.size)
        clear hb
        have c0P1 := P1.c0
        have c1P1 := P1.c1
        have c0P2 := P2.c0
        have c1P2 := P2.c1
        have c0P5 := P5.c0
        have c1P5 := P5.c1
        have c0P6 := P6.c0
        have c1P6 := P6.c1
        have c0P9 := P9.c0
        have c1P9 := P9.c1
        have c0P10 := P10.c0
        have c1P10 := P10.c1
        have c0P109 := P109.c0
        have c1P109 := P109.c1
        have c0P145 := P145.c0
        have c1P145 := P145.c1
        have H153 := Lib.hid (nOf_any 1 w150 (by omega))
        go_wp2_with fail
        clear c0P1 c1P1 c0P2 c1P2 c0P5 c1P5 c0P6 c1P6 c0P9 c1P9 c0P10 c1P10 c0P109 c1P109 c0P145 c1P145
        refine H153.out.mono ?_
        rintro e w154 ⟨v152, rfl, rx151, hb⟩
        clear H153
        replace P1 := P1.below hb
        replace P2 := P2.below hb
        replace P5 := P5.below hb
        replace P6 := P6.below hb
        replace P9 := P9.below hb
        replace P10 := P10.below hb
        replace P109 := P109.below hb
        replace P145 := P145.below hb
        replace rf1 := rf1.below hb
        replace rf2 := rf2.below hb
        replace rg1 := rg1.below hb
        replace rg2 := rg2.below hb
        replace rpa := rpa.below hb
        replace rqa := rqa.below hb
        replace rra := rra.below hb
        replace rsa := rsa.below hb
        replace rpb := rpb.below hb
        replace rqb := rqb.below hb
        replace rrb := rrb.below hb
        replace rsb := rsb.below hb
        replace rdp1 := rdp1.below hb
        replace rdq1 := rdq1.below hb
        replace rdp2 := rdp2.below hb
        replace rdq2 := rdq2.below hb
        replace rx148 := rx148.below hb
        replace hB := hB.trans (hb.mono hB.size)
        clear hb
        obtain ⟨x151, rfl, rx151⟩ := rx151.sl
        have c0P1 := P1.c0
        have c1P1 := P1.c1
        have c0P2 := P2.c0
        have c1P2 := P2.c1
        have c0P5 := P5.c0
        have c1P5 := P5.c1
        have c0P6 := P6.c0
        have c1P6 := P6.c1
        have c0P9 := P9.c0
        have c1P9 := P9.c1
        have c0P10 := P10.c0
        have c1P10 := P10.c1
        have c0P109 := P109.c0
        have c1P109 := P109.c1
        have c0P145 := P145.c0
        have c1P145 := P145.c1
        have H157 := Lib.hid (of_nat (.slice x148.a x148.n x148.c) (.slice x151.a x151.n x151.c) (xa / ya) (1) w154 rx148 rx151 (Nat.le_trans (len_div_le Lxa.out) (by omega)) (Nat.le_trans (one_row 1 (by omega)) (by omega)) (by omega))
        go_wp2_with fail
        clear c0P1 c1P1 c0P2 c1P2 c0P5 c1P5 c0P6 c1P6 c0P9 c1P9 c0P10 c1P10 c0P109 c1P109 c0P145 c1P145
        refine H157.out.mono ?_
        rintro e w158 ⟨x155, x156, rfl, rx155, rx156, hb⟩
        clear H157
        replace P1 := P1.below hb
        replace P2 := P2.below hb
        replace P5 := P5.below hb
        replace P6 := P6.below hb
        replace P9 := P9.below hb
        replace P10 := P10.below hb
        replace P109 := P109.below hb
        replace P145 := P145.below hb
        replace rf1 := rf1.below hb
        replace rf2 := rf2.below hb
        replace rg1 := rg1.below hb
        replace rg2 := rg2.below hb
        replace rpa := rpa.below hb
        replace rqa := rqa.below hb
        replace rra := rra.below hb
        replace rsa := rsa.below hb
        replace rpb := rpb.below hb
        replace rqb := rqb.below hb
        replace rrb := rrb.below hb
        replace rsb := rsb.below hb
        replace rdp1 := rdp1.below hb
        replace rdq1 := rdq1.below hb
        replace rdp2 := rdp2.below hb
        replace rdq2 := rdq2.below hb
        replace rx148 := rx148.below hb
        replace rx151 := rx151.below hb
        replace hB := hB.trans (hb.mono hB.size)
        clear hb
        have hfl : cmpZ (xa / ya * ya) xa ≤ 0 := cmpZ_le (Nat.div_mul_le_self xa ya)
        have hb : Below w158.heap.size w158 (w158.alloc (.cells #[.slice x155.a x155.n x155.c, .slice x156.a x156.n x156.c] 30)) := ((Below.refl _ _).alloc (Nat.le_refl _) _)
        replace P1 := P1.below hb
        replace P2 := P2.below hb
        replace P5 := P5.below hb
        replace P6 := P6.below hb
        replace P9 := P9.below hb
        replace P10 := P10.below hb
        replace P109 := P109.below hb
        replace P145 := P145.below hb
        replace rf1 := rf1.below hb
        replace rf2 := rf2.below hb
        replace rg1 := rg1.below hb
        replace rg2 := rg2.below hb
        replace rpa := rpa.below hb
        replace rqa := rqa.below hb
        replace rra := rra.below hb
        replace rsa := rsa.below hb
        replace rpb := rpb.below hb
        replace rqb := rqb.below hb
        replace rrb := rrb.below hb
        replace rsb := rsb.below hb
        replace rdp1 := rdp1.below hb
        replace rdq1 := rdq1.below hb
        replace rdp2 := rdp2.below hb
        replace rdq2 := rdq2.below hb
        replace rx148 := rx148.below hb
        replace rx151 := rx151.below hb
        replace rx155 := rx155.below hb
        replace rx156 := rx156.below hb
        replace hB := hB.trans (hb.mono hB.size)
        have P159 : Pair (w158.alloc (.cells #[.slice x155.a x155.n x155.c, .slice x156.a x156.n x156.c] 30)) (w158.heap.size) 30 (.slice x155.a x155.n x155.c) (.slice x156.a x156.n x156.c) := by
          have h := Pair.new w158 30 (.slice x155.a x155.n x155.c) (.slice x156.a x156.n x156.c)
          simpa only [World.size_alloc] using h
        clear hb
        have c0P1 := P1.c0
        have c1P1 := P1.c1
        have c0P2 := P2.c0
        have c1P2 := P2.c1
        have c0P5 := P5.c0
        have c1P5 := P5.c1
        have c0P6 := P6.c0
        have c1P6 := P6.c1
        have c0P9 := P9.c0
        have c1P9 := P9.c1
        have c0P10 := P10.c0
        have c1P10 := P10.c1
        have c0P109 := P109.c0
        have c1P109 := P109.c1
        have c0P145 := P145.c0
        have c1P145 := P145.c1
        have c0P159 := P159.c0
        have c1P159 := P159.c1
        go_wp2_with fail
        clear c0P1 c1P1 c0P2 c1P2 c0P5 c1P5 c0P6 c1P6 c0P9 c1P9 c0P10 c1P10 c0P109 c1P109 c0P145 c1P145 c0P159 c1P159
        have hb : Below (w158.alloc (.cells #[.slice x155.a x155.n x155.c, .slice x156.a x156.n x156.c] 30)).heap.size (w158.alloc (.cells #[.slice x155.a x155.n x155.c, .slice x156.a x156.n x156.c] 30)) (w158.alloc (.cells #[.slice x155.a x155.n x155.c, .slice x156.a x156.n x156.c] 30)).drew := (Below.refl _ _).drew
        replace P1 := P1.below hb
        replace P2 := P2.below hb
        replace P5 := P5.below hb
        replace P6 := P6.below hb
        replace P9 := P9.below hb
        replace P10 := P10.below hb
        replace P109 := P109.below hb
        replace P145 := P145.below hb
        replace P159 := P159.below hb
        replace rf1 := rf1.below hb
        replace rf2 := rf2.below hb
        replace rg1 := rg1.below hb
        replace rg2 := rg2.below hb
        replace rpa := rpa.below hb
        replace rqa := rqa.below hb
        replace rra := rra.below hb
        replace rsa := rsa.below hb
        replace rpb := rpb.below hb
        replace rqb := rqb.below hb
        replace rrb := rrb.below hb
        replace rsb := rsb.below hb
        replace rdp1 := rdp1.below hb
        replace rdq1 := rdq1.below hb
        replace rdp2 := rdp2.below hb
        replace rdq2 := rdq2.below hb
        replace rx148 := rx148.below hb
        replace rx151 := rx151.below hb
        replace rx155 := rx155.below hb
        replace rx156 := rx156.below hb
        replace hB := hB.trans (hb.mono hB.size)
        clear hb
        refine Rd.regionT (fun X => Pair X (w.heap.size) 24 (.slice f1.a f1.n f1.c) (.slice f2.a f2.n f2.c) ∧ Pair X (w.heap.size + 1) 24 (.slice g1.a g1.n g1.c) (.slice g2.a g2.n g2.c) ∧ Pair X (w4.heap.size) 30 (.slice pa.a pa.n pa.c) (.slice qa.a qa.n qa.c) ∧ Pair X (w4.heap.size + 1) 35 (.slice ra.a ra.n ra.c) (.slice sa.a sa.n sa.c) ∧ Pair X (w8.heap.size) 30 (.slice pb.a pb.n pb.c) (.slice qb.a qb.n qb.c) ∧ Pair X (w8.heap.size + 1) 35 (.slice rb.a rb.n rb.c) (.slice sb.a sb.n sb.c) ∧ Pair X (BB1) 30 (.slice dp1.a dp1.n dp1.c) (.slice dq1.a dq1.n dq1.c) ∧ Pair X (BB2) 30 (.slice dp2.a dp2.n dp2.c) (.slice dq2.a dq2.n dq2.c) ∧ Pair X (w158.heap.size) 30 (.slice x155.a x155.n x155.c) (.slice x156.a x156.n x156.c)) [0, 1, 2, 3, 4, 6, 7, 8, 9, 10, 14, 15, 16] (.one 0 (.one 1 (.one 2 (.one 3 (.one 4 (.one 5 (.one 6 (.one 7 (.one 8 (.one 9 (.one 10 (.one 11 (.one 12 (.one 13 (.one 14 (.one 15 (.one 16 .done))))))))))))))))) (fun ac W => (∃ t : Array Value, ac = { tmps := t, defers := [] } ∧ t[4]?.getD undef = .bool true) ∧ Below w.heap.size w W) (by kernel_rfl) (by kernel_rfl) (by kernel_rfl) ⟨P1, P2, P5, P6, P9, P10, P109, P145, P159⟩ ?tree ?next
        case tree =>
          generalize (w158.alloc (.cells #[.slice x155.a x155.n x155.c, .slice x156.a x156.n x156.c] 30)).drew = w160 at P1 P2 P5 P6 P9 P10 P109 P145 P159 rf1 rf2 rg1 rg2 rpa rqa rra rsa rpb rqb rrb rsb rdp1 rdq1 rdp2 rdq2 rx148 rx151 rx155 rx156 hB ⊢
          refine Rd.tr_float (.int .i64 0) (by simp only [List.getElem?_toArray, List.getElem?_cons_zero]; rfl) rfl (by rfl) (fun X _ => by go_simp) ?_
          simp only [Act.put, List.setIfInBounds_toArray, List.set_cons_succ, List.set_cons_zero]
          refine Rd.tr_float (.bool true) (by simp only [List.getElem?_toArray, List.getElem?_cons_succ, List.getElem?_cons_zero]; rfl) rfl (by rfl) (fun X _ => by go_simp) ?_
          simp only [Act.put, List.setIfInBounds_toArray, List.set_cons_succ, List.set_cons_zero]
          refine Rd.tr_float (.bool true) (by simp only [List.getElem?_toArray, List.getElem?_cons_succ, List.getElem?_cons_zero]; rfl) rfl (by rfl) (fun X _ => by go_simp) ?_
          simp only [Act.put, List.setIfInBounds_toArray, List.set_cons_succ, List.set_cons_zero]
          refine Rd.tr_float (.agg #[.slice x155.a x155.n x155.c, .slice x156.a x156.n x156.c]) (by simp only [List.getElem?_toArray, List.getElem?_cons_succ, List.getElem?_cons_zero]; rfl) rfl (by rfl) (fun X hX => by have h0 := hX.2.2.2.2.2.2.2.2.c0; have h1 := hX.2.2.2.2.2.2.2.2.c1; go_simp) ?_
          simp only [Act.put, List.setIfInBounds_toArray, List.set_cons_succ, List.set_cons_zero]
          refine Rd.tr_float (.agg #[.slice pa.a pa.n pa.c, .slice qa.a qa.n qa.c]) (by simp only [List.getElem?_toArray, List.getElem?_cons_succ, List.getElem?_cons_zero]; rfl) rfl (by rfl) (fun X hX => by have h0 := hX.2.2.1.c0; have h1 := hX.2.2.1.c1; go_simp) ?_
          simp only [Act.put, List.setIfInBounds_toArray, List.set_cons_succ, List.set_cons_zero]
          refine Rd.tr_move (by simp only [List.getElem?_toArray, List.getElem?_cons_succ, List.getElem?_cons_zero]; rfl) rfl (by rfl) (fun K hK => ?_)
          have H161 := Lib.hid (qcmp_nat x155 x156 pa qa ((xa / ya) / Nat.gcd (xa / ya) (1)) ((1) / Nat.gcd (xa / ya) (1)) (xa) (ya) w160 rx155 rx156 rpa rqa (Lib.hid (Nat.le_trans (len_div_le (len_div_le Lxa.out)) (by omega))) (Lib.hid (Nat.le_trans (len_div_le (one_row 1 (by omega))) (by omega))) (Lib.hid (Nat.le_trans Lxa.out (by omega))) (Lib.hid (Nat.le_trans Lya.out (by omega))))
          go_simp
          refine H161.out.mono ?_
          rintro e w162 ⟨rfl, hb⟩
          clear H161
          replace P1 := P1.below hb
          replace P2 := P2.below hb
          replace P5 := P5.below hb
          replace P6 := P6.below hb
          replace P9 := P9.below hb
          replace P10 := P10.below hb
          replace P109 := P109.below hb
          replace P145 := P145.below hb
          replace P159 := P159.below hb
          replace rf1 := rf1.below hb
          replace rf2 := rf2.below hb
          replace rg1 := rg1.below hb
          replace rg2 := rg2.below hb
          replace rpa := rpa.below hb
          replace rqa := rqa.below hb
          replace rra := rra.below hb
          replace rsa := rsa.below hb
          replace rpb := rpb.below hb
          replace rqb := rqb.below hb
          replace rrb := rrb.below hb
          replace rsb := rsb.below hb
          replace rdp1 := rdp1.below hb
          replace rdq1 := rdq1.below hb
          replace rdp2 := rdp2.below hb
          replace rdq2 := rdq2.below hb
          replace rx148 := rx148.below hb
          replace rx151 := rx151.below hb
          replace rx155 := rx155.below hb
          replace rx156 := rx156.below hb
          replace hB := hB.trans (hb.mono hB.size)
          clear hb
          refine hK _ _ ⟨P1, P2, P5, P6, P9, P10, P109, P145, P159⟩ ?_
          clear hK K
          refine Rd.tr_float (.bool true) (by simp only [List.getElem?_toArray, List.getElem?_cons_succ, List.getElem?_cons_zero]; rfl) rfl (by rfl) (fun X _ => by go_simp) ?_
          simp only [Act.put, List.setIfInBounds_toArray, List.set_cons_succ, List.set_cons_zero]
          refine Rd.tr_float (.bool true) (by simp only [List.getElem?_toArray, List.getElem?_cons_succ, List.getElem?_cons_zero]; rfl) rfl (by rfl) (fun X _ => by go_simp) ?_
          simp only [Act.put, List.setIfInBounds_toArray, List.set_cons_succ, List.set_cons_zero]
          refine Rd.tr_float (.bool true) (by simp only [List.getElem?_toArray, List.getElem?_cons_succ, List.getElem?_cons_zero]; rfl) rfl (by rfl) (fun X _ => by go_simp) ?_
          simp only [Act.put, List.setIfInBounds_toArray, List.set_cons_succ, List.set_cons_zero]
          refine Rd.tr_float (.agg #[.slice pa.a pa.n pa.c, .slice qa.a qa.n qa.c]) (by simp only [List.getElem?_toArray, List.getElem?_cons_succ, List.getElem?_cons_zero]; rfl) rfl (by rfl) (fun X hX => by have h0 := hX.2.2.1.c0; have h1 := hX.2.2.1.c1; go_simp) ?_
          simp only [Act.put, List.setIfInBounds_toArray, List.set_cons_succ, List.set_cons_zero]
          refine Rd.tr_float (.agg #[.slice x155.a x155.n x155.c, .slice x156.a x156.n x156.c]) (by simp only [List.getElem?_toArray, List.getElem?_cons_succ, List.getElem?_cons_zero]; rfl) rfl (by rfl) (fun X hX => by have h0 := hX.2.2.2.2.2.2.2.2.c0; have h1 := hX.2.2.2.2.2.2.2.2.c1; go_simp) ?_
          simp only [Act.put, List.setIfInBounds_toArray, List.set_cons_succ, List.set_cons_zero]
          refine Rd.tr_move (by simp only [List.getElem?_toArray, List.getElem?_cons_succ, List.getElem?_cons_zero]; rfl) rfl (by rfl) (fun K hK => ?_)
          have H165 := Lib.hid (qint_pos 1 (Lib.hid (by omega)) w162)
          go_simp
          refine H165.out.mono ?_
          rintro e w166 ⟨x163, x164, rfl, rx163, rx164, hb⟩
          clear H165
          replace P1 := P1.below hb
          replace P2 := P2.below hb
          replace P5 := P5.below hb
          replace P6 := P6.below hb
          replace P9 := P9.below hb
          replace P10 := P10.below hb
          replace P109 := P109.below hb
          replace P145 := P145.below hb
          replace P159 := P159.below hb
          replace rf1 := rf1.below hb
          replace rf2 := rf2.below hb
          replace rg1 := rg1.below hb
          replace rg2 := rg2.below hb
          replace rpa := rpa.below hb
          replace rqa := rqa.below hb
          replace rra := rra.below hb
          replace rsa := rsa.below hb
          replace rpb := rpb.below hb
          replace rqb := rqb.below hb
          replace rrb := rrb.below hb
          replace rsb := rsb.below hb
          replace rdp1 := rdp1.below hb
          replace rdq1 := rdq1.below hb
          replace rdp2 := rdp2.below hb
          replace rdq2 := rdq2.below hb
          replace rx148 := rx148.below hb
          replace rx151 := rx151.below hb
          replace rx155 := rx155.below hb
          replace rx156 := rx156.below hb
          replace hB := hB.trans (hb.mono hB.size)
          clear hb
          refine hK _ _ ⟨P1, P2, P5, P6, P9, P10, P109, P145, P159⟩ ?_
          clear hK K
          refine Rd.tr_move (by simp only [List.getElem?_toArray, List.getElem?_cons_succ, List.getElem?_cons_zero]; rfl) rfl (by rfl) (fun K hK => ?_)
          have H169 := Lib.hid (qadd_nat x155 x156 x163 x164 ((xa / ya) / Nat.gcd (xa / ya) (1)) ((1) / Nat.gcd (xa / ya) (1)) (1) (1) w166 rx155 rx156 rx163 rx164 (Lib.hid (Nat.le_trans (len_div_le (len_div_le Lxa.out)) (by omega))) (Lib.hid (Nat.le_trans (len_div_le (one_row 1 (by omega))) (by omega))) (Lib.hid (Nat.le_trans (one_row 1 (by omega)) (by omega))) (Lib.hid (Nat.le_trans (one_row 1 (by omega)) (by omega))) (Lib.hid (mul_ne (low_ne _ (by omega)) (by omega))))
          go_simp
          refine H169.out.mono ?_
          rintro e w170 ⟨x167, x168, rfl, rx167, rx168, hb⟩
          clear H169
          replace P1 := P1.below hb
          replace P2 := P2.below hb
          replace P5 := P5.below hb
          replace P6 := P6.below hb
          replace P9 := P9.below hb
          replace P10 := P10.below hb
          replace P109 := P109.below hb
          replace P145 := P145.below hb
          replace P159 := P159.below hb
          replace rf1 := rf1.below hb
          replace rf2 := rf2.below hb
          replace rg1 := rg1.below hb
          replace rg2 := rg2.below hb
          replace rpa := rpa.below hb
          replace rqa := rqa.below hb
          replace rra := rra.below hb
          replace rsa := rsa.below hb
          replace rpb := rpb.below hb
          replace rqb := rqb.below hb
          replace rrb := rrb.below hb
          replace rsb := rsb.below hb
          replace rdp1 := rdp1.below hb
          replace rdq1 := rdq1.below hb
          replace rdp2 := rdp2.below hb
          replace rdq2 := rdq2.below hb
          replace rx148 := rx148.below hb
          replace rx151 := rx151.below hb
          replace rx155 := rx155.below hb
          replace rx156 := rx156.below hb
          replace rx163 := rx163.below hb
          replace rx164 := rx164.below hb
          replace hB := hB.trans (hb.mono hB.size)
          clear hb
          refine hK _ _ ⟨P1, P2, P5, P6, P9, P10, P109, P145, P159⟩ ?_
          clear hK K
          refine Rd.tr_move (by simp only [List.getElem?_toArray, List.getElem?_cons_succ, List.getElem?_cons_zero]; rfl) rfl (by rfl) (fun K hK => ?_)
          have H171 := Lib.hid (qcmp_nat pa qa x167 x168 (xa) (ya) (((((xa / ya) / Nat.gcd (xa / ya) (1)) * (1)) + ((1) * ((1) / Nat.gcd (xa / ya) (1)))) / Nat.gcd ((((xa / ya) / Nat.gcd (xa / ya) (1)) * (1)) + ((1) * ((1) / Nat.gcd (xa / ya) (1)))) (((1) / Nat.gcd (xa / ya) (1)) * (1))) ((((1) / Nat.gcd (xa / ya) (1)) * (1)) / Nat.gcd ((((xa / ya) / Nat.gcd (xa / ya) (1)) * (1)) + ((1) * ((1) / Nat.gcd (xa / ya) (1)))) (((1) / Nat.gcd (xa / ya) (1)) * (1))) w170 rpa rqa rx167 rx168 (Lib.hid (Nat.le_trans Lxa.out (by omega))) (Lib.hid (Nat.le_trans Lya.out (by omega))) (Lib.hid (Nat.le_trans (len_div_le (len_add_le (len_mul_le (len_div_le (len_div_le Lxa.out)) (one_row 1 (by omega))) (len_mul_le (one_row 1 (by omega)) (len_div_le (one_row 1 (by omega)))))) (by omega))) (Lib.hid (Nat.le_trans (len_div_le (len_mul_le (len_div_le (one_row 1 (by omega))) (one_row 1 (by omega)))) (by omega))))
          rw [floor_high Hxa.out.1 _ _ rfl rfl] at H171
          go_simp
          refine H171.out.mono ?_
          rintro e w172 ⟨rfl, hb⟩
          clear H171
          replace P1 := P1.below hb
          replace P2 := P2.below hb
          replace P5 := P5.below hb
          replace P6 := P6.below hb
          replace P9 := P9.below hb
          replace P10 := P10.below hb
          replace P109 := P109.below hb
          replace P145 := P145.below hb
          replace P159 := P159.below hb
          replace rf1 := rf1.below hb
          replace rf2 := rf2.below hb
          replace rg1 := rg1.below hb
          replace rg2 := rg2.below hb
          replace rpa := rpa.below hb
          replace rqa := rqa.below hb
          replace rra := rra.below hb
          replace rsa := rsa.below hb
          replace rpb := rpb.below hb
          replace rqb := rqb.below hb
          replace rrb := rrb.below hb
          replace rsb := rsb.below hb
          replace rdp1 := rdp1.below hb
          replace rdq1 := rdq1.below hb
          replace rdp2 := rdp2.below hb
          replace rdq2 := rdq2.below hb
          replace rx148 := rx148.below hb
          replace rx151 := rx151.below hb
          replace rx155 := rx155.below hb
          replace rx156 := rx156.below hb
          replace rx163 := rx163.below hb
          replace rx164 := rx164.below hb
          replace rx167 := rx167.below hb
          replace rx168 := rx168.below hb
          replace hB := hB.trans (hb.mono hB.size)
          clear hb
          refine hK _ _ ⟨P1, P2, P5, P6, P9, P10, P109, P145, P159⟩ ?_
          clear hK K
          refine Rd.tr_float (.bool true) (by simp only [List.getElem?_toArray, List.getElem?_cons_succ, List.getElem?_cons_zero]; rfl) rfl (by rfl) (fun X _ => by go_simp) ?_
          simp only [Act.put, List.setIfInBounds_toArray, List.set_cons_succ, List.set_cons_zero]
          refine Rd.tr_float (.bool true) (by simp only [List.getElem?_toArray, List.getElem?_cons_succ, List.getElem?_cons_zero]; rfl) rfl (by rfl) (fun X _ => by go_simp) ?_
          simp only [Act.put, List.setIfInBounds_toArray, List.set_cons_succ, List.set_cons_zero]
          refine Rd.tr_float (.bool true) (by simp only [List.getElem?_toArray, List.getElem?_cons_succ, List.getElem?_cons_zero]; rfl) rfl (by rfl) (fun X _ => by go_simp) ?_
          simp only [Act.put, List.setIfInBounds_toArray, List.set_cons_succ, List.set_cons_zero]
          exact Rd.tr_end (⟨⟨_, rfl, rfl⟩, hB⟩)
        case next =>
          rintro a3 W ⟨⟨t, rfl, ht⟩, hB⟩
          go_wp2_with fail
          refine bodyPost_ret (v := .bool true) ?_ rfl ⟨rfl, hB⟩
          simp [results, Tryd.f9, go_sem, ht]

theorem back_any (f1 f2 g1 g2 : Sl) (l11 l12 l21 l22 : List Nat) (w : World) (rf1 : RA w f1 l11) (rf2 : RA w f2 l12) (rg1 : RA w g1 l21) (rg2 : RA w g2 l22) (S11 : Hid (SmallU l11)) (S12 : Hid (SmallU l12)) (S21 : Hid (SmallU l21)) (S22 : Hid (SmallU l22)) :
    Calls Tryd.prog 9 #[.agg #[.slice f1.a f1.n f1.c, .slice f2.a f2.n f2.c], .agg #[.slice g1.a g1.n g1.c, .slice g2.a g2.n g2.c]] w fun e w' => e = .returned (.bool true) ∧ Below w.heap.size w w' := by
  cases h1 : madeB l11 l12 <;> cases h2 : madeB l21 l22
  · exact back_nn f1 f2 g1 g2 l11 l12 l21 l22 w rf1 rf2 rg1 rg2 (Lib.hid h1) (Lib.hid h2)
  · exact back_ny f1 f2 g1 g2 l11 l12 l21 l22 w rf1 rf2 rg1 rg2 S21 S22 (Lib.hid h1) (Lib.hid h2)
  · exact back_yn f1 f2 g1 g2 l11 l12 l21 l22 w rf1 rf2 rg1 rg2 S11 S12 (Lib.hid h1) (Lib.hid h2)
  · exact back_yy f1 f2 g1 g2 l11 l12 l21 l22 w rf1 rf2 rg1 rg2 S11 S12 S21 S22 (Lib.hid h1) (Lib.hid h2)
end Go.Proofs.YtnfoblmfjldheaaDoor
