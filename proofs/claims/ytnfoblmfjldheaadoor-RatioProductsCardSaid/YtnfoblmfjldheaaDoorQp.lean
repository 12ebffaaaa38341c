/-
  The walk of RatioProducts: whatever the limbs, it answers true, and leaves all memory as it was. No condition.
-/
import Derived.Test.YtnfoblmfjldheaaDoorQi
namespace Go.Proofs.YtnfoblmfjldheaaDoor
open Go.RowKit Go.Dig Go.Shelf Go.Proofs

theorem qdiv_comm (a1 b1 a2 b2 : Sl) (a b c d : Nat) (w : World) (ra1 : RU w a1 a) (rb1 : RU w b1 b) (ra2 : RU w a2 c) (rb2 : RU w b2 d) (la : Hid ((L a).length ≤ 100)) (lb : Hid ((L b).length ≤ 100)) (lc : Hid ((L c).length ≤ 100)) (ld : Hid ((L d).length ≤ 100)) (HNE : Hid (b * c ≠ 0)) :
    Calls Tryd.prog 33 #[.agg #[.slice a1.a a1.n a1.c, .slice b1.a b1.n b1.c], .agg #[.slice a2.a a2.n a2.c, .slice b2.a b2.n b2.c]] w fun e w' => ∃ p q : Sl, e = .returned (.tuple #[.agg #[.slice p.a p.n p.c, .slice q.a q.n q.c], .int .i64 0]) ∧ RU w' p ((a * d) / Nat.gcd (a * d) (b * c)) ∧ RU w' q ((b * c) / Nat.gcd (a * d) (b * c)) ∧ Below w.heap.size w w' := by
  have h := qdiv_nat a1 b1 a2 b2 a b c d w ra1 rb1 ra2 rb2 la lb lc ld (Lib.hid (by rw [Nat.mul_comm]; exact HNE.out))
  rw [Nat.mul_comm c b] at h
  exact h
theorem D_pos {n : Nat} (h : n ≠ 0) : (D n).length ≠ 0 := fun e => h ((dig_nil (by omega) n).1 (List.length_eq_zero_iff.1 e))
set_option maxRecDepth 100000 in
set_option maxHeartbeats 4000000 in
theorem products_nn (f1 f2 g1 g2 : Sl) (l11 l12 l21 l22 : List Nat) (w : World) (rf1 : RA w f1 l11) (rf2 : RA w f2 l12) (rg1 : RA w g1 l21) (rg2 : RA w g2 l22)  (HM1 : Hid (madeB l11 l12 = false)) (HM2 : Hid (madeB l21 l22 = false)) :
    Calls Tryd.prog 6 #[.agg #[.slice f1.a f1.n f1.c, .slice f2.a f2.n f2.c], .agg #[.slice g1.a g1.n g1.c, .slice g2.a g2.n g2.c]] w fun e w' => e = .returned (.bool true) ∧ Below w.heap.size w w' := by
  go_enter Tryd.func6, Tryd.ntmps6
  have hb : Below w.heap.size w ((w.alloc (.cells #[.slice f1.a f1.n f1.c, .slice f2.a f2.n f2.c] 24)).alloc (.cells #[.slice g1.a g1.n g1.c, .slice g2.a g2.n g2.c] 24)) := (((Below.refl _ _).alloc (Nat.le_refl _) _).alloc (by simp) _)
  replace rf1 := rf1.below hb
  replace rf2 := rf2.below hb
  replace rg1 := rg1.below hb
  replace rg2 := rg2.below hb
  have hB := hb
  have P1 : Pair ((w.alloc (.cells #[.slice f1.a f1.n f1.c, .slice f2.a f2.n f2.c] 24)).alloc (.cells #[.slice g1.a g1.n g1.c, .slice g2.a g2.n g2.c] 24)) (w.heap.size) 24 (.slice f1.a f1.n f1.c) (.slice f2.a f2.n f2.c) := by
    have h := (Pair.new w 24 (.slice f1.a f1.n f1.c) (.slice f2.a f2.n f2.c)).alloc (.cells #[.slice g1.a g1.n g1.c, .slice g2.a g2.n g2.c] 24)
    simpa only [World.size_alloc] using h
  have P2 : Pair ((w.alloc (.cells #[.slice f1.a f1.n f1.c, .slice f2.a f2.n f2.c] 24)).alloc (.cells #[.slice g1.a g1.n g1.c, .slice g2.a g2.n g2.c] 24)) (w.heap.size + 1) 24 (.slice g1.a g1.n g1.c) (.slice g2.a g2.n g2.c) := by
    have h := Pair.new (w.alloc (.cells #[.slice f1.a f1.n f1.c, .slice f2.a f2.n f2.c] 24)) 24 (.slice g1.a g1.n g1.c) (.slice g2.a g2.n g2.c)
    simpa only [World.size_alloc] using h
  clear hb
  have c0P1 := P1.c0
  have c1P1 := P1.c1
  have c0P2 := P2.c0
  have c1P2 := P2.c1
  have H3 := Lib.hid (made_false f1 f2 l11 l12 ((w.alloc (.cells #[.slice f1.a f1.n f1.c, .slice f2.a f2.n f2.c] 24)).alloc (.cells #[.slice g1.a g1.n g1.c, .slice g2.a g2.n g2.c] 24)) rf1 rf2 HM1)
  go_wp2_with fail
  clear c0P1 c1P1 c0P2 c1P2
  refine H3.out.mono ?_
  rintro e w4 ⟨rfl, hb⟩
  clear H3
  replace P1 := P1.below hb
  replace P2 := P2.below hb
  replace rf1 := rf1.below hb
  replace rf2 := rf2.below hb
  replace rg1 := rg1.below hb
  replace rg2 := rg2.below hb
  replace hB := hB.trans (hb.mono hB.size)
  clear hb
  have hb : Below w4.heap.size w4 ((w4.alloc (.cells #[.slice none 0 0, .slice none 0 0] 30)).alloc (.cells #[.slice none 0 0, .slice none 0 0] 35)) := (((Below.refl _ _).alloc (Nat.le_refl _) _).alloc (by simp) _)
  replace P1 := P1.below hb
  replace P2 := P2.below hb
  replace rf1 := rf1.below hb
  replace rf2 := rf2.below hb
  replace rg1 := rg1.below hb
  replace rg2 := rg2.below hb
  replace hB := hB.trans (hb.mono hB.size)
  have P5 : Pair ((w4.alloc (.cells #[.slice none 0 0, .slice none 0 0] 30)).alloc (.cells #[.slice none 0 0, .slice none 0 0] 35)) (w4.heap.size) 30 (.slice none 0 0) (.slice none 0 0) := by
    have h := (Pair.new w4 30 (.slice none 0 0) (.slice none 0 0)).alloc (.cells #[.slice none 0 0, .slice none 0 0] 35)
    simpa only [World.size_alloc] using h
  have P6 : Pair ((w4.alloc (.cells #[.slice none 0 0, .slice none 0 0] 30)).alloc (.cells #[.slice none 0 0, .slice none 0 0] 35)) (w4.heap.size + 1) 35 (.slice none 0 0) (.slice none 0 0) := by
    have h := Pair.new (w4.alloc (.cells #[.slice none 0 0, .slice none 0 0] 30)) 35 (.slice none 0 0) (.slice none 0 0)
    simpa only [World.size_alloc] using h
  clear hb
  have c0P1 := P1.c0
  have c1P1 := P1.c1
  have c0P2 := P2.c0
  have c1P2 := P2.c1
  have c0P5 := P5.c0
  have c1P5 := P5.c1
  have c0P6 := P6.c0
  have c1P6 := P6.c1
  have H7 := Lib.hid (made_false g1 g2 l21 l22 ((w4.alloc (.cells #[.slice none 0 0, .slice none 0 0] 30)).alloc (.cells #[.slice none 0 0, .slice none 0 0] 35)) rg1 rg2 HM2)
  go_wp2_with fail
  clear c0P1 c1P1 c0P2 c1P2 c0P5 c1P5 c0P6 c1P6
  refine H7.out.mono ?_
  rintro e w8 ⟨rfl, hb⟩
  clear H7
  replace P1 := P1.below hb
  replace P2 := P2.below hb
  replace P5 := P5.below hb
  replace P6 := P6.below hb
  replace rf1 := rf1.below hb
  replace rf2 := rf2.below hb
  replace rg1 := rg1.below hb
  replace rg2 := rg2.below hb
  replace hB := hB.trans (hb.mono hB.size)
  clear hb
  have hb : Below w8.heap.size w8 ((w8.alloc (.cells #[.slice none 0 0, .slice none 0 0] 30)).alloc (.cells #[.slice none 0 0, .slice none 0 0] 35)) := (((Below.refl _ _).alloc (Nat.le_refl _) _).alloc (by simp) _)
  replace P1 := P1.below hb
  replace P2 := P2.below hb
  replace P5 := P5.below hb
  replace P6 := P6.below hb
  replace rf1 := rf1.below hb
  replace rf2 := rf2.below hb
  replace rg1 := rg1.below hb
  replace rg2 := rg2.below hb
  replace hB := hB.trans (hb.mono hB.size)
  have P9 : Pair ((w8.alloc (.cells #[.slice none 0 0, .slice none 0 0] 30)).alloc (.cells #[.slice none 0 0, .slice none 0 0] 35)) (w8.heap.size) 30 (.slice none 0 0) (.slice none 0 0) := by
    have h := (Pair.new w8 30 (.slice none 0 0) (.slice none 0 0)).alloc (.cells #[.slice none 0 0, .slice none 0 0] 35)
    simpa only [World.size_alloc] using h
  have P10 : Pair ((w8.alloc (.cells #[.slice none 0 0, .slice none 0 0] 30)).alloc (.cells #[.slice none 0 0, .slice none 0 0] 35)) (w8.heap.size + 1) 35 (.slice none 0 0) (.slice none 0 0) := by
    have h := Pair.new (w8.alloc (.cells #[.slice none 0 0, .slice none 0 0] 30)) 35 (.slice none 0 0) (.slice none 0 0)
    simpa only [World.size_alloc] using h
  clear hb
  have c0P1 := P1.c0
  have c1P1 := P1.c1
  have c0P2 := P2.c0
  have c1P2 := P2.c1
  have c0P5 := P5.c0
  have c1P5 := P5.c1
  have c0P6 := P6.c0
  have c1P6 := P6.c1
  have c0P9 := P9.c0
  have c1P9 := P9.c1
  have c0P10 := P10.c0
  have c1P10 := P10.c1
  have H11 := Lib.hid (awake_any ((w8.alloc (.cells #[.slice none 0 0, .slice none 0 0] 30)).alloc (.cells #[.slice none 0 0, .slice none 0 0] 35)))
  go_wp2_with fail
  clear c0P1 c1P1 c0P2 c1P2 c0P5 c1P5 c0P6 c1P6 c0P9 c1P9 c0P10 c1P10
  refine H11.out.mono ?_
  rintro e w12 ⟨rfl, hb⟩
  clear H11
  replace P1 := P1.below hb
  replace P2 := P2.below hb
  replace P5 := P5.below hb
  replace P6 := P6.below hb
  replace P9 := P9.below hb
  replace P10 := P10.below hb
  replace rf1 := rf1.below hb
  replace rf2 := rf2.below hb
  replace rg1 := rg1.below hb
  replace rg2 := rg2.below hb
  replace hB := hB.trans (hb.mono hB.size)
  clear hb
  have c0P1 := P1.c0
  have c1P1 := P1.c1
  have c0P2 := P2.c0
  have c1P2 := P2.c1
  have c0P5 := P5.c0
  have c1P5 := P5.c1
  have c0P6 := P6.c0
  have c1P6 := P6.c1
  have c0P9 := P9.c0
  have c1P9 := P9.c1
  have c0P10 := P10.c0
  have c1P10 := P10.c1
  have H13 := Lib.hid (awake_any w12)
  go_wp2_with fail
  clear c0P1 c1P1 c0P2 c1P2 c0P5 c1P5 c0P6 c1P6 c0P9 c1P9 c0P10 c1P10
  refine H13.out.mono ?_
  rintro e w14 ⟨rfl, hb⟩
  clear H13
  replace P1 := P1.below hb
  replace P2 := P2.below hb
  replace P5 := P5.below hb
  replace P6 := P6.below hb
  replace P9 := P9.below hb
  replace P10 := P10.below hb
  replace rf1 := rf1.below hb
  replace rf2 := rf2.below hb
  replace rg1 := rg1.below hb
  replace rg2 := rg2.below hb
  replace hB := hB.trans (hb.mono hB.size)
  clear hb
  have c0P1 := P1.c0
  have c1P1 := P1.c1
  have c0P2 := P2.c0
  have c1P2 := P2.c1
  have c0P5 := P5.c0
  have c1P5 := P5.c1
  have c0P6 := P6.c0
  have c1P6 := P6.c1
  have c0P9 := P9.c0
  have c1P9 := P9.c1
  have c0P10 := P10.c0
  have c1P10 := P10.c1
  go_wp2_with fail
  go_ret
  exact ⟨rfl, hB⟩

set_option maxRecDepth 100000 in
set_option maxHeartbeats 4000000 in
theorem products_ny (f1 f2 g1 g2 : Sl) (l11 l12 l21 l22 : List Nat) (w : World) (rf1 : RA w f1 l11) (rf2 : RA w f2 l12) (rg1 : RA w g1 l21) (rg2 : RA w g2 l22) (S21 : Hid (SmallU l21)) (S22 : Hid (SmallU l22)) (HM1 : Hid (madeB l11 l12 = false)) (HM2 : Hid (madeB l21 l22 = true)) :
    Calls Tryd.prog 6 #[.agg #[.slice f1.a f1.n f1.c, .slice f2.a f2.n f2.c], .agg #[.slice g1.a g1.n g1.c, .slice g2.a g2.n g2.c]] w fun e w' => e = .returned (.bool true) ∧ Below w.heap.size w w' := by
  go_enter Tryd.func6, Tryd.ntmps6
  have hb : Below w.heap.size w ((w.alloc (.cells #[.slice f1.a f1.n f1.c, .slice f2.a f2.n f2.c] 24)).alloc (.cells #[.slice g1.a g1.n g1.c, .slice g2.a g2.n g2.c] 24)) := (((Below.refl _ _).alloc (Nat.le_refl _) _).alloc (by simp) _)
  replace rf1 := rf1.below hb
  replace rf2 := rf2.below hb
  replace rg1 := rg1.below hb
  replace rg2 := rg2.below hb
  have hB := hb
  have P1 : Pair ((w.alloc (.cells #[.slice f1.a f1.n f1.c, .slice f2.a f2.n f2.c] 24)).alloc (.cells #[.slice g1.a g1.n g1.c, .slice g2.a g2.n g2.c] 24)) (w.heap.size) 24 (.slice f1.a f1.n f1.c) (.slice f2.a f2.n f2.c) := by
    have h := (Pair.new w 24 (.slice f1.a f1.n f1.c) (.slice f2.a f2.n f2.c)).alloc (.cells #[.slice g1.a g1.n g1.c, .slice g2.a g2.n g2.c] 24)
    simpa only [World.size_alloc] using h
  have P2 : Pair ((w.alloc (.cells #[.slice f1.a f1.n f1.c, .slice f2.a f2.n f2.c] 24)).alloc (.cells #[.slice g1.a g1.n g1.c, .slice g2.a g2.n g2.c] 24)) (w.heap.size + 1) 24 (.slice g1.a g1.n g1.c) (.slice g2.a g2.n g2.c) := by
    have h := Pair.new (w.alloc (.cells #[.slice f1.a f1.n f1.c, .slice f2.a f2.n f2.c] 24)) 24 (.slice g1.a g1.n g1.c) (.slice g2.a g2.n g2.c)
    simpa only [World.size_alloc] using h
  clear hb
  have c0P1 := P1.c0
  have c1P1 := P1.c1
  have c0P2 := P2.c0
  have c1P2 := P2.c1
  have H3 := Lib.hid (made_false f1 f2 l11 l12 ((w.alloc (.cells #[.slice f1.a f1.n f1.c, .slice f2.a f2.n f2.c] 24)).alloc (.cells #[.slice g1.a g1.n g1.c, .slice g2.a g2.n g2.c] 24)) rf1 rf2 HM1)
  go_wp2_with fail
  clear c0P1 c1P1 c0P2 c1P2
  refine H3.out.mono ?_
  rintro e w4 ⟨rfl, hb⟩
  clear H3
  replace P1 := P1.below hb
  replace P2 := P2.below hb
  replace rf1 := rf1.below hb
  replace rf2 := rf2.below hb
  replace rg1 := rg1.below hb
  replace rg2 := rg2.below hb
  replace hB := hB.trans (hb.mono hB.size)
  clear hb
  have hb : Below w4.heap.size w4 ((w4.alloc (.cells #[.slice none 0 0, .slice none 0 0] 30)).alloc (.cells #[.slice none 0 0, .slice none 0 0] 35)) := (((Below.refl _ _).alloc (Nat.le_refl _) _).alloc (by simp) _)
  replace P1 := P1.below hb
  replace P2 := P2.below hb
  replace rf1 := rf1.below hb
  replace rf2 := rf2.below hb
  replace rg1 := rg1.below hb
  replace rg2 := rg2.below hb
  replace hB := hB.trans (hb.mono hB.size)
  have P5 : Pair ((w4.alloc (.cells #[.slice none 0 0, .slice none 0 0] 30)).alloc (.cells #[.slice none 0 0, .slice none 0 0] 35)) (w4.heap.size) 30 (.slice none 0 0) (.slice none 0 0) := by
    have h := (Pair.new w4 30 (.slice none 0 0) (.slice none 0 0)).alloc (.cells #[.slice none 0 0, .slice none 0 0] 35)
    simpa only [World.size_alloc] using h
  have P6 : Pair ((w4.alloc (.cells #[.slice none 0 0, .slice none 0 0] 30)).alloc (.cells #[.slice none 0 0, .slice none 0 0] 35)) (w4.heap.size + 1) 35 (.slice none 0 0) (.slice none 0 0) := by
    have h := Pair.new (w4.alloc (.cells #[.slice none 0 0, .slice none 0 0] 30)) 35 (.slice none 0 0) (.slice none 0 0)
    simpa only [World.size_alloc] using h
  clear hb
  have c0P1 := P1.c0
  have c1P1 := P1.c1
  have c0P2 := P2.c0
  have c1P2 := P2.c1
  have c0P5 := P5.c0
  have c1P5 := P5.c1
  have c0P6 := P6.c0
  have c1P6 := P6.c1
  have H7 := Lib.hid (made_true g1 g2 l21 l22 ((w4.alloc (.cells #[.slice none 0 0, .slice none 0 0] 30)).alloc (.cells #[.slice none 0 0, .slice none 0 0] 35)) rg1 rg2 S21 S22 HM2)
  go_wp2_with fail
  clear c0P1 c1P1 c0P2 c1P2 c0P5 c1P5 c0P6 c1P6
  refine H7.out.mono ?_
  rintro e w8 ⟨xb, yb, pb, qb, rb, sb, rfl, Lxb, Lyb, Hxb, rpb, rqb, rrb, rsb, hb⟩
  clear H7
  replace P1 := P1.below hb
  replace P2 := P2.below hb
  replace P5 := P5.below hb
  replace P6 := P6.below hb
  replace rf1 := rf1.below hb
  replace rf2 := rf2.below hb
  replace rg1 := rg1.below hb
  replace rg2 := rg2.below hb
  replace hB := hB.trans (hb.mono hB.size)
  clear hb
  have hb : Below w8.heap.size w8 ((w8.alloc (.cells #[.slice pb.a pb.n pb.c, .slice qb.a qb.n qb.c] 30)).alloc (.cells #[.slice rb.a rb.n rb.c, .slice sb.a sb.n sb.c] 35)) := (((Below.refl _ _).alloc (Nat.le_refl _) _).alloc (by simp) _)
  replace P1 := P1.below hb
  replace P2 := P2.below hb
  replace P5 := P5.below hb
  replace P6 := P6.below hb
  replace rf1 := rf1.below hb
  replace rf2 := rf2.below hb
  replace rg1 := rg1.below hb
  replace rg2 := rg2.below hb
  replace rpb := rpb.below hb
  replace rqb := rqb.below hb
  replace rrb := rrb.below hb
  replace rsb := rsb.below hb
  replace hB := hB.trans (hb.mono hB.size)
  have P9 : Pair ((w8.alloc (.cells #[.slice pb.a pb.n pb.c, .slice qb.a qb.n qb.c] 30)).alloc (.cells #[.slice rb.a rb.n rb.c, .slice sb.a sb.n sb.c] 35)) (w8.heap.size) 30 (.slice pb.a pb.n pb.c) (.slice qb.a qb.n qb.c) := by
    have h := (Pair.new w8 30 (.slice pb.a pb.n pb.c) (.slice qb.a qb.n qb.c)).alloc (.cells #[.slice rb.a rb.n rb.c, .slice sb.a sb.n sb.c] 35)
    simpa only [World.size_alloc] using h
  have P10 : Pair ((w8.alloc (.cells #[.slice pb.a pb.n pb.c, .slice qb.a qb.n qb.c] 30)).alloc (.cells #[.slice rb.a rb.n rb.c, .slice sb.a sb.n sb.c] 35)) (w8.heap.size + 1) 35 (.slice rb.a rb.n rb.c) (.slice sb.a sb.n sb.c) := by
    have h := Pair.new (w8.alloc (.cells #[.slice pb.a pb.n pb.c, .slice qb.a qb.n qb.c] 30)) 35 (.slice rb.a rb.n rb.c) (.slice sb.a sb.n sb.c)
    simpa only [World.size_alloc] using h
  clear hb
  have c0P1 := P1.c0
  have c1P1 := P1.c1
  have c0P2 := P2.c0
  have c1P2 := P2.c1
  have c0P5 := P5.c0
  have c1P5 := P5.c1
  have c0P6 := P6.c0
  have c1P6 := P6.c1
  have c0P9 := P9.c0
  have c1P9 := P9.c1
  have c0P10 := P10.c0
  have c1P10 := P10.c1
  have H11 := Lib.hid (awake_any ((w8.alloc (.cells #[.slice pb.a pb.n pb.c, .slice qb.a qb.n qb.c] 30)).alloc (.cells #[.slice rb.a rb.n rb.c, .slice sb.a sb.n sb.c] 35)))
  go_wp2_with fail
  clear c0P1 c1P1 c0P2 c1P2 c0P5 c1P5 c0P6 c1P6 c0P9 c1P9 c0P10 c1P10
  refine H11.out.mono ?_
  rintro e w12 ⟨rfl, hb⟩
  clear H11
  replace P1 := P1.below hb
  replace P2 := P2.below hb
  replace P5 := P5.below hb
  replace P6 := P6.below hb
  replace P9 := P9.below hb
  replace P10 := P10.below hb
  replace rf1 := rf1.below hb
  replace rf2 := rf2.below hb
  replace rg1 := rg1.below hb
  replace rg2 := rg2.below hb
  replace rpb := rpb.below hb
  replace rqb := rqb.below hb
  replace rrb := rrb.below hb
  replace rsb := rsb.below hb
  replace hB := hB.trans (hb.mono hB.size)
  clear hb
  have c0P1 := P1.c0
  have c1P1 := P1.c1
  have c0P2 := P2.c0
  have c1P2 := P2.c1
  have c0P5 := P5.c0
  have c1P5 := P5.c1
  have c0P6 := P6.c0
  have c1P6 := P6.c1
  have c0P9 := P9.c0
  have c1P9 := P9.c1
  have c0P10 := P10.c0
  have c1P10 := P10.c1
  have H13 := Lib.hid (awake_any w12)
  go_wp2_with fail
  clear c0P1 c1P1 c0P2 c1P2 c0P5 c1P5 c0P6 c1P6 c0P9 c1P9 c0P10 c1P10
  refine H13.out.mono ?_
  rintro e w14 ⟨rfl, hb⟩
  clear H13
  replace P1 := P1.below hb
  replace P2 := P2.below hb
  replace P5 := P5.below hb
  replace P6 := P6.below hb
  replace P9 := P9.below hb
  replace P10 := P10.below hb
  replace rf1 := rf1.below hb
  replace rf2 := rf2.below hb
  replace rg1 := rg1.below hb
  replace rg2 := rg2.below hb
  replace rpb := rpb.below hb
  replace rqb := rqb.below hb
  replace rrb := rrb.below hb
  replace rsb := rsb.below hb
  replace hB := hB.trans (hb.mono hB.size)
  clear hb
  have c0P1 := P1.c0
  have c1P1 := P1.c1
  have c0P2 := P2.c0
  have c1P2 := P2.c1
  have c0P5 := P5.c0
  have c1P5 := P5.c1
  have c0P6 := P6.c0
  have c1P6 := P6.c1
  have c0P9 := P9.c0
  have c1P9 := P9.c1
  have c0P10 := P10.c0
  have c1P10 := P10.c1
  go_wp2_with fail
  go_ret
  exact ⟨rfl, hB⟩

set_option maxRecDepth 100000 in
set_option maxHeartbeats 4000000 in
theorem products_yn (f1 f2 g1 g2 : Sl) (l11 l12 l21 l22 : List Nat) (w : World) (rf1 : RA w f1 l11) (rf2 : RA w f2 l12) (rg1 : RA w g1 l21) (rg2 : RA w g2 l22) (S11 : Hid (SmallU l11)) (S12 : Hid (SmallU l12)) (HM1 : Hid (madeB l11 l12 = true)) (HM2 : Hid (madeB l21 l22 = false)) :
    Calls Tryd.prog 6 #[.agg #[.slice f1.a f1.n f1.c, .slice f2.a f2.n f2.c], .agg #[.slice g1.a g1.n g1.c, .slice g2.a g2.n g2.c]] w fun e w' => e = .returned (.bool true) ∧ Below w.heap.size w w' := by
  go_enter Tryd.func6, Tryd.ntmps6
  have hb : Below w.heap.size w ((w.alloc (.cells #[.slice f1.a f1.n f1.c, .slice f2.a f2.n f2.c] 24)).alloc (.cells #[.slice g1.a g1.n g1.c, .slice g2.a g2.n g2.c] 24)) := (((Below.refl _ _).alloc (Nat.le_refl _) _).alloc (by simp) _)
  replace rf1 := rf1.below hb
  replace rf2 := rf2.below hb
  replace rg1 := rg1.below hb
  replace rg2 := rg2.below hb
  have hB := hb
  have P1 : Pair ((w.alloc (.cells #[.slice f1.a f1.n f1.c, .slice f2.a f2.n f2.c] 24)).alloc (.cells #[.slice g1.a g1.n g1.c, .slice g2.a g2.n g2.c] 24)) (w.heap.size) 24 (.slice f1.a f1.n f1.c) (.slice f2.a f2.n f2.c) := by
    have h := (Pair.new w 24 (.slice f1.a f1.n f1.c) (.slice f2.a f2.n f2.c)).alloc (.cells #[.slice g1.a g1.n g1.c, .slice g2.a g2.n g2.c] 24)
    simpa only [World.size_alloc] using h
  have P2 : Pair ((w.alloc (.cells #[.slice f1.a f1.n f1.c, .slice f2.a f2.n f2.c] 24)).alloc (.cells #[.slice g1.a g1.n g1.c, .slice g2.a g2.n g2.c] 24)) (w.heap.size + 1) 24 (.slice g1.a g1.n g1.c) (.slice g2.a g2.n g2.c) := by
    have h := Pair.new (w.alloc (.cells #[.slice f1.a f1.n f1.c, .slice f2.a f2.n f2.c] 24)) 24 (.slice g1.a g1.n g1.c) (.slice g2.a g2.n g2.c)
    simpa only [World.size_alloc] using h
  clear hb
  have c0P1 := P1.c0
  have c1P1 := P1.c1
  have c0P2 := P2.c0
  have c1P2 := P2.c1
  have H3 := Lib.hid (made_true f1 f2 l11 l12 ((w.alloc (.cells #[.slice f1.a f1.n f1.c, .slice f2.a f2.n f2.c] 24)).alloc (.cells #[.slice g1.a g1.n g1.c, .slice g2.a g2.n g2.c] 24)) rf1 rf2 S11 S12 HM1)
  go_wp2_with fail
  clear c0P1 c1P1 c0P2 c1P2
  refine H3.out.mono ?_
  rintro e w4 ⟨xa, ya, pa, qa, ra, sa, rfl, Lxa, Lya, Hxa, rpa, rqa, rra, rsa, hb⟩
  clear H3
  replace P1 := P1.below hb
  replace P2 := P2.below hb
  replace rf1 := rf1.below hb
  replace rf2 := rf2.below hb
  replace rg1 := rg1.below hb
  replace rg2 := rg2.below hb
  replace hB := hB.trans (hb.mono hB.size)
  clear hb
  have hb : Below w4.heap.size w4 ((w4.alloc (.cells #[.slice pa.a pa.n pa.c, .slice qa.a qa.n qa.c] 30)).alloc (.cells #[.slice ra.a ra.n ra.c, .slice sa.a sa.n sa.c] 35)) := (((Below.refl _ _).alloc (Nat.le_refl _) _).alloc (by simp) _)
  replace P1 := P1.below hb
  replace P2 := P2.below hb
  replace rf1 := rf1.below hb
  replace rf2 := rf2.below hb
  replace rg1 := rg1.below hb
  replace rg2 := rg2.below hb
  replace rpa := rpa.below hb
  replace rqa := rqa.below hb
  replace rra := rra.below hb
  replace rsa := rsa.below hb
  replace hB := hB.trans (hb.mono hB.size)
  have P5 : Pair ((w4.alloc (.cells #[.slice pa.a pa.n pa.c, .slice qa.a qa.n qa.c] 30)).alloc (.cells #[.slice ra.a ra.n ra.c, .slice sa.a sa.n sa.c] 35)) (w4.heap.size) 30 (.slice pa.a pa.n pa.c) (.slice qa.a qa.n qa.c) := by
    have h := (Pair.new w4 30 (.slice pa.a pa.n pa.c) (.slice qa.a qa.n qa.c)).alloc (.cells #[.slice ra.a ra.n ra.c, .slice sa.a sa.n sa.c] 35)
    simpa only [World.size_alloc] using h
  have P6 : Pair ((w4.alloc (.cells #[.slice pa.a pa.n pa.c, .slice qa.a qa.n qa.c] 30)).alloc (.cells #[.slice ra.a ra.n ra.c, .slice sa.a sa.n sa.c] 35)) (w4.heap.size + 1) 35 (.slice ra.a ra.n ra.c) (.slice sa.a sa.n sa.c) := by
    have h := Pair.new (w4.alloc (.cells #[.slice pa.a pa.n pa.c, .slice qa.a qa.n qa.c] 30)) 35 (.slice ra.a ra.n ra.c) (.slice sa.a sa.n sa.c)
    simpa only [World.size_alloc] using h
  clear hb
  have c0P1 := P1.c0
  have c1P1 := P1.c1
  have c0P2 := P2.c0
  have c1P2 := P2.c1
  have c0P5 := P5.c0
  have c1P5 := P5.c1
  have c0P6 := P6.c0
  have c1P6 := P6.c1
  have H7 := Lib.hid (made_false g1 g2 l21 l22 ((w4.alloc (.cells #[.slice pa.a pa.n pa.c, .slice qa.a qa.n qa.c] 30)).alloc (.cells #[.slice ra.a ra.n ra.c, .slice sa.a sa.n sa.c] 35)) rg1 rg2 HM2)
  go_wp2_with fail
  clear c0P1 c1P1 c0P2 c1P2 c0P5 c1P5 c0P6 c1P6
  refine H7.out.mono ?_
  rintro e w8 ⟨rfl, hb⟩
  clear H7
  replace P1 := P1.below hb
  replace P2 := P2.below hb
  replace P5 := P5.below hb
  replace P6 := P6.below hb
  replace rf1 := rf1.below hb
  replace rf2 := rf2.below hb
  replace rg1 := rg1.below hb
  replace rg2 := rg2.below hb
  replace rpa := rpa.below hb
  replace rqa := rqa.below hb
  replace rra := rra.below hb
  replace rsa := rsa.below hb
  replace hB := hB.trans (hb.mono hB.size)
  clear hb
  have hb : Below w8.heap.size w8 ((w8.alloc (.cells #[.slice none 0 0, .slice none 0 0] 30)).alloc (.cells #[.slice none 0 0, .slice none 0 0] 35)) := (((Below.refl _ _).alloc (Nat.le_refl _) _).alloc (by simp) _)
  replace P1 := P1.below hb
  replace P2 := P2.below hb
  replace P5 := P5.below hb
  replace P6 := P6.below hb
  replace rf1 := rf1.below hb
  replace rf2 := rf2.below hb
  replace rg1 := rg1.below hb
  replace rg2 := rg2.below hb
  replace rpa := rpa.below hb
  replace rqa := rqa.below hb
  replace rra := rra.below hb
  replace rsa := rsa.below hb
  replace hB := hB.trans (hb.mono hB.size)
  have P9 : Pair ((w8.alloc (.cells #[.slice none 0 0, .slice none 0 0] 30)).alloc (.cells #[.slice none 0 0, .slice none 0 0] 35)) (w8.heap.size) 30 (.slice none 0 0) (.slice none 0 0) := by
    have h := (Pair.new w8 30 (.slice none 0 0) (.slice none 0 0)).alloc (.cells #[.slice none 0 0, .slice none 0 0] 35)
    simpa only [World.size_alloc] using h
  have P10 : Pair ((w8.alloc (.cells #[.slice none 0 0, .slice none 0 0] 30)).alloc (.cells #[.slice none 0 0, .slice none 0 0] 35)) (w8.heap.size + 1) 35 (.slice none 0 0) (.slice none 0 0) := by
    have h := Pair.new (w8.alloc (.cells #[.slice none 0 0, .slice none 0 0] 30)) 35 (.slice none 0 0) (.slice none 0 0)
    simpa only [World.size_alloc] using h
  clear hb
  have c0P1 := P1.c0
  have c1P1 := P1.c1
  have c0P2 := P2.c0
  have c1P2 := P2.c1
  have c0P5 := P5.c0
  have c1P5 := P5.c1
  have c0P6 := P6.c0
  have c1P6 := P6.c1
  have c0P9 := P9.c0
  have c1P9 := P9.c1
  have c0P10 := P10.c0
  have c1P10 := P10.c1
  have H11 := Lib.hid (awake_any ((w8.alloc (.cells #[.slice none 0 0, .slice none 0 0] 30)).alloc (.cells #[.slice none 0 0, .slice none 0 0] 35)))
  go_wp2_with fail
  clear c0P1 c1P1 c0P2 c1P2 c0P5 c1P5 c0P6 c1P6 c0P9 c1P9 c0P10 c1P10
  refine H11.out.mono ?_
  rintro e w12 ⟨rfl, hb⟩
  clear H11
  replace P1 := P1.below hb
  replace P2 := P2.below hb
  replace P5 := P5.below hb
  replace P6 := P6.below hb
  replace P9 := P9.below hb
  replace P10 := P10.below hb
  replace rf1 := rf1.below hb
  replace rf2 := rf2.below hb
  replace rg1 := rg1.below hb
  replace rg2 := rg2.below hb
  replace rpa := rpa.below hb
  replace rqa := rqa.below hb
  replace rra := rra.below hb
  replace rsa := rsa.below hb
  replace hB := hB.trans (hb.mono hB.size)
  clear hb
  have c0P1 := P1.c0
  have c1P1 := P1.c1
  have c0P2 := P2.c0
  have c1P2 := P2.c1
  have c0P5 := P5.c0
  have c1P5 := P5.c1
  have c0P6 := P6.c0
  have c1P6 := P6.c1
  have c0P9 := P9.c0
  have c1P9 := P9.c1
  have c0P10 := P10.c0
  have c1P10 := P10.c1
  have H13 := Lib.hid (awake_any w12)
  go_wp2_with fail
  clear c0P1 c1P1 c0P2 c1P2 c0P5 c1P5 c0P6 c1P6 c0P9 c1P9 c0P10 c1P10
  refine H13.out.mono ?_
  rintro e w14 ⟨rfl, hb⟩
  clear H13
  replace P1 := P1.below hb
  replace P2 := P2.below hb
  replace P5 := P5.below hb
  replace P6 := P6.below hb
  replace P9 := P9.below hb
  replace P10 := P10.below hb
  replace rf1 := rf1.below hb
  replace rf2 := rf2.below hb
  replace rg1 := rg1.below hb
  replace rg2 := rg2.below hb
  replace rpa := rpa.below hb
  replace rqa := rqa.below hb
  replace rra := rra.below hb
  replace rsa := rsa.below hb
  replace hB := hB.trans (hb.mono hB.size)
  clear hb
  have c0P1 := P1.c0
  have c1P1 := P1.c1
  have c0P2 := P2.c0
  have c1P2 := P2.c1
  have c0P5 := P5.c0
  have c1P5 := P5.c1
  have c0P6 := P6.c0
  have c1P6 := P6.c1
  have c0P9 := P9.c0
  have c1P9 := P9.c1
  have c0P10 := P10.c0
  have c1P10 := P10.c1
  go_wp2_with fail
  go_ret
  exact ⟨rfl, hB⟩

set_option maxRecDepth 100000 in
set_option maxHeartbeats 4000000 in
theorem products_yy (f1 f2 g1 g2 : Sl) (l11 l12 l21 l22 : List Nat) (w : World) (rf1 : RA w f1 l11) (rf2 : RA w f2 l12) (rg1 : RA w g1 l21) (rg2 : RA w g2 l22) (S11 : Hid (SmallU l11)) (S12 : Hid (SmallU l12)) (S21 : Hid (SmallU l21)) (S22 : Hid (SmallU l22)) (HM1 : Hid (madeB l11 l12 = true)) (HM2 : Hid (madeB l21 l22 = true)) :
    Calls Tryd.prog 6 #[.agg #[.slice f1.a f1.n f1.c, .slice f2.a f2.n f2.c], .agg #[.slice g1.a g1.n g1.c, .slice g2.a g2.n g2.c]] w fun e w' => e = .returned (.bool true) ∧ Below w.heap.size w w' := by
  go_enter Tryd.func6, Tryd.ntmps6
  have hb : Below w.heap.size w ((w.alloc (.cells #[.slice f1.a f1.n f1.c, .slice f2.a f2.n f2.c] 24)).alloc (.cells #[.slice g1.a g1.n g1.c, .slice g2.a g2.n g2.c] 24)) := (((Below.refl _ _).alloc (Nat.le_refl _) _).alloc (by simp) _)
  replace rf1 := rf1.below hb
  replace rf2 := rf2.below hb
  replace rg1 := rg1.below hb
  replace rg2 := rg2.below hb
  have hB := hb
  have P1 : Pair ((w.alloc (.cells #[.slice f1.a f1.n f1.c, .slice f2.a f2.n f2.c] 24)).alloc (.cells #[.slice g1.a g1.n g1.c, .slice g2.a g2.n g2.c] 24)) (w.heap.size) 24 (.slice f1.a f1.n f1.c) (.slice f2.a f2.n f2.c) := by
    have h := (Pair.new w 24 (.slice f1.a f1.n f1.c) (.slice f2.a f2.n f2.c)).alloc (.cells #[.slice g1.a g1.n g1.c, .slice g2.a g2.n g2.c] 24)
    simpa only [World.size_alloc] using h
  have P2 : Pair ((w.alloc (.cells #[.slice f1.a f1.n f1.c, .slice f2.a f2.n f2.c] 24)).alloc (.cells #[.slice g1.a g1.n g1.c, .slice g2.a g2.n g2.c] 24)) (w.heap.size + 1) 24 (.slice g1.a g1.n g1.c) (.slice g2.a g2.n g2.c) := by
    have h := Pair.new (w.alloc (.cells #[.slice f1.a f1.n f1.c, .slice f2.a f2.n f2.c] 24)) 24 (.slice g1.a g1.n g1.c) (.slice g2.a g2.n g2.c)
    simpa only [World.size_alloc] using h
  clear hb
  have c0P1 := P1.c0
  have c1P1 := P1.c1
  have c0P2 := P2.c0
  have c1P2 := P2.c1
  have H3 := Lib.hid (made_true f1 f2 l11 l12 ((w.alloc (.cells #[.slice f1.a f1.n f1.c, .slice f2.a f2.n f2.c] 24)).alloc (.cells #[.slice g1.a g1.n g1.c, .slice g2.a g2.n g2.c] 24)) rf1 rf2 S11 S12 HM1)
  go_wp2_with fail
  clear c0P1 c1P1 c0P2 c1P2
  refine H3.out.mono ?_
  rintro e w4 ⟨xa, ya, pa, qa, ra, sa, rfl, Lxa, Lya, Hxa, rpa, rqa, rra, rsa, hb⟩
  clear H3
  replace P1 := P1.below hb
  replace P2 := P2.below hb
  replace rf1 := rf1.below hb
  replace rf2 := rf2.below hb
  replace rg1 := rg1.below hb
  replace rg2 := rg2.below hb
  replace hB := hB.trans (hb.mono hB.size)
  clear hb
  have hb : Below w4.heap.size w4 ((w4.alloc (.cells #[.slice pa.a pa.n pa.c, .slice qa.a qa.n qa.c] 30)).alloc (.cells #[.slice ra.a ra.n ra.c, .slice sa.a sa.n sa.c] 35)) := (((Below.refl _ _).alloc (Nat.le_refl _) _).alloc (by simp) _)
  replace P1 := P1.below hb
  replace P2 := P2.below hb
  replace rf1 := rf1.below hb
  replace rf2 := rf2.below hb
  replace rg1 := rg1.below hb
  replace rg2 := rg2.below hb
  replace rpa := rpa.below hb
  replace rqa := rqa.below hb
  replace rra := rra.below hb
  replace rsa := rsa.below hb
  replace hB := hB.trans (hb.mono hB.size)
  have P5 : Pair ((w4.alloc (.cells #[.slice pa.a pa.n pa.c, .slice qa.a qa.n qa.c] 30)).alloc (.cells #[.slice ra.a ra.n ra.c, .slice sa.a sa.n sa.c] 35)) (w4.heap.size) 30 (.slice pa.a pa.n pa.c) (.slice qa.a qa.n qa.c) := by
    have h := (Pair.new w4 30 (.slice pa.a pa.n pa.c) (.slice qa.a qa.n qa.c)).alloc (.cells #[.slice ra.a ra.n ra.c, .slice sa.a sa.n sa.c] 35)
    simpa only [World.size_alloc] using h
  have P6 : Pair ((w4.alloc (.cells #[.slice pa.a pa.n pa.c, .slice qa.a qa.n qa.c] 30)).alloc (.cells #[.slice ra.a ra.n ra.c, .slice sa.a sa.n sa.c] 35)) (w4.heap.size + 1) 35 (.slice ra.a ra.n ra.c) (.slice sa.a sa.n sa.c) := by
    have h := Pair.new (w4.alloc (.cells #[.slice pa.a pa.n pa.c, .slice qa.a qa.n qa.c] 30)) 35 (.slice ra.a ra.n ra.c) (.slice sa.a sa.n sa.c)
    simpa only [World.size_alloc] using h
  clear hb
  have c0P1 := P1.c0
  have c1P1 := P1.c1
  have c0P2 := P2.c0
  have c1P2 := P2.c1
  have c0P5 := P5.c0
  have c1P5 := P5.c1
  have c0P6 := P6.c0
  have c1P6 := P6.c1
  have H7 := Lib.hid (made_true g1 g2 l21 l22 ((w4.alloc (.cells #[.slice pa.a pa.n pa.c, .slice qa.a qa.n qa.c] 30)).alloc (.cells #[.slice ra.a ra.n ra.c, .slice sa.a sa.n sa.c] 35)) rg1 rg2 S21 S22 HM2)
  go_wp2_with fail
  clear c0P1 c1P1 c0P2 c1P2 c0P5 c1P5 c0P6 c1P6
  refine H7.out.mono ?_
  rintro e w8 ⟨xb, yb, pb, qb, rb, sb, rfl, Lxb, Lyb, Hxb, rpb, rqb, rrb, rsb, hb⟩
  clear H7
  replace P1 := P1.below hb
  replace P2 := P2.below hb
  replace P5 := P5.below hb
  replace P6 := P6.below hb
  replace rf1 := rf1.below hb
  replace rf2 := rf2.below hb
  replace rg1 := rg1.below hb
  replace rg2 := rg2.below hb
  replace rpa := rpa.below hb
  replace rqa := rqa.below hb
  replace rra := rra.below hb
  replace rsa := rsa.below hb
  replace hB := hB.trans (hb.mono hB.size)
  clear hb
  by_cases hc : xb = 0
  · skip
    have hq : ((rb.n : Int) == 0) = true := eq1 (by rw [RD.len rrb, hc]; rfl)
    have HZ : Hid (xb * ya = 0) := Lib.hid (by rw [hc, Nat.zero_mul])
    clear hc
    have hb : Below w8.heap.size w8 ((w8.alloc (.cells #[.slice pb.a pb.n pb.c, .slice qb.a qb.n qb.c] 30)).alloc (.cells #[.slice rb.a rb.n rb.c, .slice sb.a sb.n sb.c] 35)) := (((Below.refl _ _).alloc (Nat.le_refl _) _).alloc (by simp) _)
    replace P1 := P1.below hb
    replace P2 := P2.below hb
    replace P5 := P5.below hb
    replace P6 := P6.below hb
    replace rf1 := rf1.below hb
    replace rf2 := rf2.below hb
    replace rg1 := rg1.below hb
    replace rg2 := rg2.below hb
    replace rpa := rpa.below hb
    replace rqa := rqa.below hb
    replace rra := rra.below hb
    replace rsa := rsa.below hb
    replace rpb := rpb.below hb
    replace rqb := rqb.below hb
    replace rrb := rrb.below hb
    replace rsb := rsb.below hb
    replace hB := hB.trans (hb.mono hB.size)
    have P9 : Pair ((w8.alloc (.cells #[.slice pb.a pb.n pb.c, .slice qb.a qb.n qb.c] 30)).alloc (.cells #[.slice rb.a rb.n rb.c, .slice sb.a sb.n sb.c] 35)) (w8.heap.size) 30 (.slice pb.a pb.n pb.c) (.slice qb.a qb.n qb.c) := by
      have h := (Pair.new w8 30 (.slice pb.a pb.n pb.c) (.slice qb.a qb.n qb.c)).alloc (.cells #[.slice rb.a rb.n rb.c, .slice sb.a sb.n sb.c] 35)
      simpa only [World.size_alloc] using h
    have P10 : Pair ((w8.alloc (.cells #[.slice pb.a pb.n pb.c, .slice qb.a qb.n qb.c] 30)).alloc (.cells #[.slice rb.a rb.n rb.c, .slice sb.a sb.n sb.c] 35)) (w8.heap.size + 1) 35 (.slice rb.a rb.n rb.c) (.slice sb.a sb.n sb.c) := by
      have h := Pair.new (w8.alloc (.cells #[.slice pb.a pb.n pb.c, .slice qb.a qb.n qb.c] 30)) 35 (.slice rb.a rb.n rb.c) (.slice sb.a sb.n sb.c)
      simpa only [World.size_alloc] using h
    clear hb
    have c0P1 := P1.c0
    have c1P1 := P1.c1
    have c0P2 := P2.c0
    have c1P2 := P2.c1
    have c0P5 := P5.c0
    have c1P5 := P5.c1
    have c0P6 := P6.c0
    have c1P6 := P6.c1
    have c0P9 := P9.c0
    have c1P9 := P9.c1
    have c0P10 := P10.c0
    have c1P10 := P10.c1
    have H11 := Lib.hid (awake_any ((w8.alloc (.cells #[.slice pb.a pb.n pb.c, .slice qb.a qb.n qb.c] 30)).alloc (.cells #[.slice rb.a rb.n rb.c, .slice sb.a sb.n sb.c] 35)))
    go_wp2_with fail
    clear c0P1 c1P1 c0P2 c1P2 c0P5 c1P5 c0P6 c1P6 c0P9 c1P9 c0P10 c1P10
    refine H11.out.mono ?_
    rintro e w12 ⟨rfl, hb⟩
    clear H11
    replace P1 := P1.below hb
    replace P2 := P2.below hb
    replace P5 := P5.below hb
    replace P6 := P6.below hb
    replace P9 := P9.below hb
    replace P10 := P10.below hb
    replace rf1 := rf1.below hb
    replace rf2 := rf2.below hb
    replace rg1 := rg1.below hb
    replace rg2 := rg2.below hb
    replace rpa := rpa.below hb
    replace rqa := rqa.below hb
    replace rra := rra.below hb
    replace rsa := rsa.below hb
    replace rpb := rpb.below hb
    replace rqb := rqb.below hb
    replace rrb := rrb.below hb
    replace rsb := rsb.below hb
    replace hB := hB.trans (hb.mono hB.size)
    clear hb
    have c0P1 := P1.c0
    have c1P1 := P1.c1
    have c0P2 := P2.c0
    have c1P2 := P2.c1
    have c0P5 := P5.c0
    have c1P5 := P5.c1
    have c0P6 := P6.c0
    have c1P6 := P6.c1
    have c0P9 := P9.c0
    have c1P9 := P9.c1
    have c0P10 := P10.c0
    have c1P10 := P10.c1
    go_wp2_with fail
    clear c0P1 c1P1 c0P2 c1P2 c0P5 c1P5 c0P6 c1P6 c0P9 c1P9 c0P10 c1P10
    have hb : Below w12.heap.size w12 w12.drew := (Below.refl _ _).drew
    replace P1 := P1.below hb
    replace P2 := P2.below hb
    replace P5 := P5.below hb
    replace P6 := P6.below hb
    replace P9 := P9.below hb
    replace P10 := P10.below hb
    replace rf1 := rf1.below hb
    replace rf2 := rf2.below hb
    replace rg1 := rg1.below hb
    replace rg2 := rg2.below hb
    replace rpa := rpa.below hb
    replace rqa := rqa.below hb
    replace rra := rra.below hb
    replace rsa := rsa.below hb
    replace rpb := rpb.below hb
    replace rqb := rqb.below hb
    replace rrb := rrb.below hb
    replace rsb := rsb.below hb
    replace hB := hB.trans (hb.mono hB.size)
    clear hb
    refine Rd.regionT (fun X => Pair X (w.heap.size) 24 (.slice f1.a f1.n f1.c) (.slice f2.a f2.n f2.c) ∧ Pair X (w.heap.size + 1) 24 (.slice g1.a g1.n g1.c) (.slice g2.a g2.n g2.c) ∧ Pair X (w4.heap.size) 30 (.slice pa.a pa.n pa.c) (.slice qa.a qa.n qa.c) ∧ Pair X (w4.heap.size + 1) 35 (.slice ra.a ra.n ra.c) (.slice sa.a sa.n sa.c) ∧ Pair X (w8.heap.size) 30 (.slice pb.a pb.n pb.c) (.slice qb.a qb.n qb.c) ∧ Pair X (w8.heap.size + 1) 35 (.slice rb.a rb.n rb.c) (.slice sb.a sb.n sb.c)) [0, 1, 3, 4, 7, 8, 9, 10, 13, 14] (.one 0 (.one 1 (.one 3 (.one 4 (.one 2 (.one 5 (.one 6 (.one 7 (.one 8 (.one 9 (.one 10 (.one 11 (.one 12 (.one 13 (.one 14 .done))))))))))))))) (fun ac W => ∃ (y36 y37 y38 y39 y40 y41 y42 y43 y44 y45 y46 y47 y48 y49 : Value), ac = { tmps := List.toArray (.agg #[.slice f1.a f1.n f1.c, .slice f2.a f2.n f2.c] :: .agg #[.slice g1.a g1.n g1.c, .slice g2.a g2.n g2.c] :: .pointer (some ⟨w.heap.size, 0, none⟩) :: .pointer (some ⟨w.heap.size + 1, 0, none⟩) :: .bool false :: .pointer (some ⟨w4.heap.size, 0, none⟩) :: .pointer (some ⟨w4.heap.size + 1, 0, none⟩) :: .bool true :: .pointer (some ⟨w8.heap.size, 0, none⟩) :: .pointer (some ⟨w8.heap.size + 1, 0, none⟩) :: .bool true :: undef :: undef :: .tuple #[.agg #[.slice pa.a pa.n pa.c, .slice qa.a qa.n qa.c], .agg #[.slice ra.a ra.n ra.c, .slice sa.a sa.n sa.c], .bool true] :: .agg #[.slice f1.a f1.n f1.c, .slice f2.a f2.n f2.c] :: .tuple #[.agg #[.slice pa.a pa.n pa.c, .slice qa.a qa.n qa.c], .agg #[.slice ra.a ra.n ra.c, .slice sa.a sa.n sa.c], .bool true] :: .agg #[.slice pa.a pa.n pa.c, .slice qa.a qa.n qa.c] :: .agg #[.slice ra.a ra.n ra.c, .slice sa.a sa.n sa.c] :: .bool true :: .tuple #[.agg #[.slice pb.a pb.n pb.c, .slice qb.a qb.n qb.c], .agg #[.slice rb.a rb.n rb.c, .slice sb.a sb.n sb.c], .bool true] :: .agg #[.slice g1.a g1.n g1.c, .slice g2.a g2.n g2.c] :: .tuple #[.agg #[.slice pb.a pb.n pb.c, .slice qb.a qb.n qb.c], .agg #[.slice rb.a rb.n rb.c, .slice sb.a sb.n sb.c], .bool true] :: .agg #[.slice pb.a pb.n pb.c, .slice qb.a qb.n qb.c] :: .agg #[.slice rb.a rb.n rb.c, .slice sb.a sb.n sb.c] :: .bool true :: .bool true :: .bool false :: .bool false :: .bool true :: .bool false :: .bool false :: .bool false :: .bool true :: .bool false :: .bool false :: undef :: y36 :: y37 :: y38 :: y39 :: y40 :: y41 :: y42 :: y43 :: y44 :: y45 :: y46 :: y47 :: y48 :: y49 :: .bool false :: undef :: undef :: undef :: undef :: undef :: undef :: undef :: undef :: undef :: undef :: undef :: undef :: undef :: undef :: undef :: undef :: undef :: undef :: undef :: undef :: undef :: undef :: undef :: undef :: undef :: undef :: undef :: undef :: undef :: undef :: undef :: undef :: undef :: undef :: undef :: undef :: undef :: []), defers := [] } ∧ Pair W (w.heap.size) 24 (.slice f1.a f1.n f1.c) (.slice f2.a f2.n f2.c) ∧ Pair W (w.heap.size + 1) 24 (.slice g1.a g1.n g1.c) (.slice g2.a g2.n g2.c) ∧ Pair W (w4.heap.size) 30 (.slice pa.a pa.n pa.c) (.slice qa.a qa.n qa.c) ∧ Pair W (w4.heap.size + 1) 35 (.slice ra.a ra.n ra.c) (.slice sa.a sa.n sa.c) ∧ Pair W (w8.heap.size) 30 (.slice pb.a pb.n pb.c) (.slice qb.a qb.n qb.c) ∧ Pair W (w8.heap.size + 1) 35 (.slice rb.a rb.n rb.c) (.slice sb.a sb.n sb.c) ∧ RA W f1 l11 ∧ RA W f2 l12 ∧ RA W g1 l21 ∧ RA W g2 l22 ∧ RU W pa xa ∧ RU W qa ya ∧ RD W ra xa ∧ RD W sa ya ∧ RU W pb xb ∧ RU W qb yb ∧ RD W rb xb ∧ RD W sb yb ∧ Below w.heap.size w W) (by kernel_rfl) (by kernel_rfl) (by kernel_rfl) ⟨P1, P2, P5, P6, P9, P10⟩ ?tree ?next
    case tree =>
      generalize w12.drew = w13 at P1 P2 P5 P6 P9 P10 rf1 rf2 rg1 rg2 rpa rqa rra rsa rpb rqb rrb rsb hB ⊢
      refine Rd.tr_float (.agg #[.slice pa.a pa.n pa.c, .slice qa.a qa.n qa.c]) (by simp only [List.getElem?_toArray, List.getElem?_cons_zero]; rfl) rfl (by rfl) (fun X hX => by have h0 := hX.2.2.1.c0; have h1 := hX.2.2.1.c1; go_simp) ?_
      simp only [Act.put, List.setIfInBounds_toArray, List.set_cons_succ, List.set_cons_zero]
      refine Rd.tr_float (.agg #[.slice pb.a pb.n pb.c, .slice qb.a qb.n qb.c]) (by simp only [List.getElem?_toArray, List.getElem?_cons_succ, List.getElem?_cons_zero]; rfl) rfl (by rfl) (fun X hX => by have h0 := hX.2.2.2.2.1.c0; have h1 := hX.2.2.2.2.1.c1; go_simp) ?_
      simp only [Act.put, List.setIfInBounds_toArray, List.set_cons_succ, List.set_cons_zero]
      refine Rd.tr_float (.agg #[.slice ra.a ra.n ra.c, .slice sa.a sa.n sa.c]) (by simp only [List.getElem?_toArray, List.getElem?_cons_succ, List.getElem?_cons_zero]; rfl) rfl (by rfl) (fun X hX => by have h0 := hX.2.2.2.1.c0; have h1 := hX.2.2.2.1.c1; go_simp) ?_
      simp only [Act.put, List.setIfInBounds_toArray, List.set_cons_succ, List.set_cons_zero]
      refine Rd.tr_float (.agg #[.slice rb.a rb.n rb.c, .slice sb.a sb.n sb.c]) (by simp only [List.getElem?_toArray, List.getElem?_cons_succ, List.getElem?_cons_zero]; rfl) rfl (by rfl) (fun X hX => by have h0 := hX.2.2.2.2.2.c0; have h1 := hX.2.2.2.2.2.c1; go_simp) ?_
      simp only [Act.put, List.setIfInBounds_toArray, List.set_cons_succ, List.set_cons_zero]
      refine Rd.tr_move (by simp only [List.getElem?_toArray, List.getElem?_cons_succ, List.getElem?_cons_zero]; rfl) rfl (by rfl) (fun K hK => ?_)
      have H16 := Lib.hid (qmul_nat pa qa pb qb (xa) (ya) (xb) (yb) w13 rpa rqa rpb rqb (Lib.hid (Nat.le_trans Lxa.out (by omega))) (Lib.hid (Nat.le_trans Lya.out (by omega))) (Lib.hid (Nat.le_trans Lxb.out (by omega))) (Lib.hid (Nat.le_trans Lyb.out (by omega))) (Lib.hid (mul_ne Hxa.out.1 Hxb.out.1)))
      go_simp
      refine H16.out.mono ?_
      rintro e w17 ⟨x14, x15, rfl, rx14, rx15, hb⟩
      clear H16
      replace P1 := P1.below hb
      replace P2 := P2.below hb
      replace P5 := P5.below hb
      replace P6 := P6.below hb
      replace P9 := P9.below hb
      replace P10 := P10.below hb
      replace rf1 := rf1.below hb
      replace rf2 := rf2.below hb
      replace rg1 := rg1.below hb
      replace rg2 := rg2.below hb
      replace rpa := rpa.below hb
      replace rqa := rqa.below hb
      replace rra := rra.below hb
      replace rsa := rsa.below hb
      replace rpb := rpb.below hb
      replace rqb := rqb.below hb
      replace rrb := rrb.below hb
      replace rsb := rsb.below hb
      replace hB := hB.trans (hb.mono hB.size)
      clear hb
      have HLx14 : Hid ((L ((xa * xb) / Nat.gcd (xa * xb) (ya * yb))).length ≤ 8) := Lib.hid (len_div_le (len_mul_le Lxa.out Lxb.out))
      have HLx15 : Hid ((L ((ya * yb) / Nat.gcd (xa * xb) (ya * yb))).length ≤ 8) := Lib.hid (len_div_le (len_mul_le Lya.out Lyb.out))
      refine hK _ _ ⟨P1, P2, P5, P6, P9, P10⟩ ?_
      clear hK K
      refine Rd.tr_move (by simp only [List.getElem?_toArray, List.getElem?_cons_succ, List.getElem?_cons_zero]; rfl) rfl (by rfl) (fun K hK => ?_)
      have H20 := Lib.hid (rqmul_nat ra sa rb sb (xa) (ya) (xb) (yb) w17 rra rsa rrb rsb (Lib.hid (Nat.le_trans Lxa.out (by omega))) (Lib.hid (Nat.le_trans Lya.out (by omega))) (Lib.hid (Nat.le_trans Lxb.out (by omega))) (Lib.hid (Nat.le_trans Lyb.out (by omega))) (Lib.hid (mul_ne Hxa.out.1 Hxb.out.1)))
      go_simp
      refine H20.out.mono ?_
      rintro e w21 ⟨x18, x19, rfl, rx18, rx19, hb⟩
      clear H20
      replace P1 := P1.below hb
      replace P2 := P2.below hb
      replace P5 := P5.below hb
      replace P6 := P6.below hb
      replace P9 := P9.below hb
      replace P10 := P10.below hb
      replace rf1 := rf1.below hb
      replace rf2 := rf2.below hb
      replace rg1 := rg1.below hb
      replace rg2 := rg2.below hb
      replace rpa := rpa.below hb
      replace rqa := rqa.below hb
      replace rra := rra.below hb
      replace rsa := rsa.below hb
      replace rpb := rpb.below hb
      replace rqb := rqb.below hb
      replace rrb := rrb.below hb
      replace rsb := rsb.below hb
      replace rx14 := rx14.below hb
      replace rx15 := rx15.below hb
      replace hB := hB.trans (hb.mono hB.size)
      clear hb
      refine hK _ _ ⟨P1, P2, P5, P6, P9, P10⟩ ?_
      clear hK K
      refine Rd.tr_move (by simp only [List.getElem?_toArray, List.getElem?_cons_succ, List.getElem?_cons_zero]; rfl) rfl (by rfl) (fun K hK => ?_)
      have H22 := Lib.hid (qis_nat x14 x15 x18 x19 ((xa * xb) / Nat.gcd (xa * xb) (ya * yb)) ((ya * yb) / Nat.gcd (xa * xb) (ya * yb)) w21 rx14 rx15 rx18 rx19 (Lib.hid (Nat.le_trans HLx14.out (by omega))) (Lib.hid (Nat.le_trans HLx15.out (by omega))))
      go_simp
      refine H22.out.mono ?_
      rintro e w23 ⟨rfl, hb⟩
      clear H22
      replace P1 := P1.below hb
      replace P2 := P2.below hb
      replace P5 := P5.below hb
      replace P6 := P6.below hb
      replace P9 := P9.below hb
      replace P10 := P10.below hb
      replace rf1 := rf1.below hb
      replace rf2 := rf2.below hb
      replace rg1 := rg1.below hb
      replace rg2 := rg2.below hb
      replace rpa := rpa.below hb
      replace rqa := rqa.below hb
      replace rra := rra.below hb
      replace rsa := rsa.below hb
      replace rpb := rpb.below hb
      replace rqb := rqb.below hb
      replace rrb := rrb.below hb
      replace rsb := rsb.below hb
      replace rx14 := rx14.below hb
      replace rx15 := rx15.below hb
      replace rx18 := rx18.below hb
      replace rx19 := rx19.below hb
      replace hB := hB.trans (hb.mono hB.size)
      clear hb
      refine hK _ _ ⟨P1, P2, P5, P6, P9, P10⟩ ?_
      clear hK K
      refine Rd.tr_float (.bool false) (by simp only [List.getElem?_toArray, List.getElem?_cons_succ, List.getElem?_cons_zero]; rfl) rfl (by rfl) (fun X _ => by go_simp) ?_
      simp only [Act.put, List.setIfInBounds_toArray, List.set_cons_succ, List.set_cons_zero]
      refine Rd.tr_float (.bool false) (by simp only [List.getElem?_toArray, List.getElem?_cons_succ, List.getElem?_cons_zero]; rfl) rfl (by rfl) (fun X _ => by go_simp) ?_
      simp only [Act.put, List.setIfInBounds_toArray, List.set_cons_succ, List.set_cons_zero]
      refine Rd.tr_float (.agg #[.slice pa.a pa.n pa.c, .slice qa.a qa.n qa.c]) (by simp only [List.getElem?_toArray, List.getElem?_cons_succ, List.getElem?_cons_zero]; rfl) rfl (by rfl) (fun X hX => by have h0 := hX.2.2.1.c0; have h1 := hX.2.2.1.c1; go_simp) ?_
      simp only [Act.put, List.setIfInBounds_toArray, List.set_cons_succ, List.set_cons_zero]
      refine Rd.tr_float (.agg #[.slice pb.a pb.n pb.c, .slice qb.a qb.n qb.c]) (by simp only [List.getElem?_toArray, List.getElem?_cons_succ, List.getElem?_cons_zero]; rfl) rfl (by rfl) (fun X hX => by have h0 := hX.2.2.2.2.1.c0; have h1 := hX.2.2.2.2.1.c1; go_simp) ?_
      simp only [Act.put, List.setIfInBounds_toArray, List.set_cons_succ, List.set_cons_zero]
      refine Rd.tr_move (by simp only [List.getElem?_toArray, List.getElem?_cons_succ, List.getElem?_cons_zero]; rfl) rfl (by rfl) (fun K hK => ?_)
      have H26 := Lib.hid (qmul_nat pa qa pb qb (xa) (ya) (xb) (yb) w23 rpa rqa rpb rqb (Lib.hid (Nat.le_trans Lxa.out (by omega))) (Lib.hid (Nat.le_trans Lya.out (by omega))) (Lib.hid (Nat.le_trans Lxb.out (by omega))) (Lib.hid (Nat.le_trans Lyb.out (by omega))) (Lib.hid (mul_ne Hxa.out.1 Hxb.out.1)))
      go_simp
      refine H26.out.mono ?_
      rintro e w27 ⟨x24, x25, rfl, rx24, rx25, hb⟩
      clear H26
      replace P1 := P1.below hb
      replace P2 := P2.below hb
      replace P5 := P5.below hb
      replace P6 := P6.below hb
      replace P9 := P9.below hb
      replace P10 := P10.below hb
      replace rf1 := rf1.below hb
      replace rf2 := rf2.below hb
      replace rg1 := rg1.below hb
      replace rg2 := rg2.below hb
      replace rpa := rpa.below hb
      replace rqa := rqa.below hb
      replace rra := rra.below hb
      replace rsa := rsa.below hb
      replace rpb := rpb.below hb
      replace rqb := rqb.below hb
      replace rrb := rrb.below hb
      replace rsb := rsb.below hb
      replace rx14 := rx14.below hb
      replace rx15 := rx15.below hb
      replace rx18 := rx18.below hb
      replace rx19 := rx19.below hb
      replace hB := hB.trans (hb.mono hB.size)
      clear hb
      refine hK _ _ ⟨P1, P2, P5, P6, P9, P10⟩ ?_
      clear hK K
      refine Rd.tr_move (by simp only [List.getElem?_toArray, List.getElem?_cons_succ, List.getElem?_cons_zero]; rfl) rfl (by rfl) (fun K hK => ?_)
      have H28 := Lib.hid (qgood_nat x24 x25 ((xa * xb) / Nat.gcd (xa * xb) (ya * yb)) ((ya * yb) / Nat.gcd (xa * xb) (ya * yb)) w27 rx24 rx25 (Lib.hid (Nat.le_trans HLx14.out (by omega))) (Lib.hid (Nat.le_trans HLx15.out (by omega))) (Lib.hid (low_ne _ (mul_ne Hxa.out.1 Hxb.out.1))) true (Lib.hid (low_good _ (mul_ne Hxa.out.1 Hxb.out.1))))
      go_simp
      refine H28.out.mono ?_
      rintro e w29 ⟨rfl, hb⟩
      clear H28
      replace P1 := P1.below hb
      replace P2 := P2.below hb
      replace P5 := P5.below hb
      replace P6 := P6.below hb
      replace P9 := P9.below hb
      replace P10 := P10.below hb
      replace rf1 := rf1.below hb
      replace rf2 := rf2.below hb
      replace rg1 := rg1.below hb
      replace rg2 := rg2.below hb
      replace rpa := rpa.below hb
      replace rqa := rqa.below hb
      replace rra := rra.below hb
      replace rsa := rsa.below hb
      replace rpb := rpb.below hb
      replace rqb := rqb.below hb
      replace rrb := rrb.below hb
      replace rsb := rsb.below hb
      replace rx14 := rx14.below hb
      replace rx15 := rx15.below hb
      replace rx18 := rx18.below hb
      replace rx19 := rx19.below hb
      replace rx24 := rx24.below hb
      replace rx25 := rx25.below hb
      replace hB := hB.trans (hb.mono hB.size)
      clear hb
      refine hK _ _ ⟨P1, P2, P5, P6, P9, P10⟩ ?_
      clear hK K
      refine Rd.tr_float (.bool false) (by simp only [List.getElem?_toArray, List.getElem?_cons_succ, List.getElem?_cons_zero]; rfl) rfl (by rfl) (fun X _ => by go_simp) ?_
      simp only [Act.put, List.setIfInBounds_toArray, List.set_cons_succ, List.set_cons_zero]
      refine Rd.tr_float (.bool false) (by simp only [List.getElem?_toArray, List.getElem?_cons_succ, List.getElem?_cons_zero]; rfl) rfl (by rfl) (fun X _ => by go_simp) ?_
      simp only [Act.put, List.setIfInBounds_toArray, List.set_cons_succ, List.set_cons_zero]
      exact Rd.tr_end (⟨_, _, _, _, _, _, _, _, _, _, _, _, _, _, rfl, P1, P2, P5, P6, P9, P10, rf1, rf2, rg1, rg2, rpa, rqa, rra, rsa, rpb, rqb, rrb, rsb, hB⟩)
    case next =>
      rintro a3 W ⟨y36, y37, y38, y39, y40, y41, y42, y43, y44, y45, y46, y47, y48, y49, rfl, P1, P2, P5, P6, P9, P10, rf1, rf2, rg1, rg2, rpa, rqa, rra, rsa, rpb, rqb, rrb, rsb, hB⟩
      have c0P1 := P1.c0
      have c1P1 := P1.c1
      have c0P2 := P2.c0
      have c1P2 := P2.c1
      have c0P5 := P5.c0
      have c1P5 := P5.c1
      have c0P6 := P6.c0
      have c1P6 := P6.c1
      have c0P9 := P9.c0
      have c1P9 := P9.c1
      have c0P10 := P10.c0
      have c1P10 := P10.c1
      have H30 := Lib.hid (qdiv_zero pa qa pb qb (xa) (ya) (xb) (yb) W rpa rqa rpb rqb (Lib.hid (Nat.le_trans Lxa.out (by omega))) (Lib.hid (Nat.le_trans Lya.out (by omega))) (Lib.hid (Nat.le_trans Lxb.out (by omega))) (Lib.hid (Nat.le_trans Lyb.out (by omega))) HZ)
      go_wp2_with fail
      clear c0P1 c1P1 c0P2 c1P2 c0P5 c1P5 c0P6 c1P6 c0P9 c1P9 c0P10 c1P10
      refine H30.out.mono ?_
      rintro e w31 ⟨rfl, hb⟩
      clear H30
      replace P1 := P1.below hb
      replace P2 := P2.below hb
      replace P5 := P5.below hb
      replace P6 := P6.below hb
      replace P9 := P9.below hb
      replace P10 := P10.below hb
      replace rf1 := rf1.below hb
      replace rf2 := rf2.below hb
      replace rg1 := rg1.below hb
      replace rg2 := rg2.below hb
      replace rpa := rpa.below hb
      replace rqa := rqa.below hb
      replace rra := rra.below hb
      replace rsa := rsa.below hb
      replace rpb := rpb.below hb
      replace rqb := rqb.below hb
      replace rrb := rrb.below hb
      replace rsb := rsb.below hb
      replace hB := hB.trans (hb.mono hB.size)
      clear hb
      have hb : Below w31.heap.size w31 (w31.alloc (.cells #[.slice none 0 0, .slice none 0 0] 30)) := ((Below.refl _ _).alloc (Nat.le_refl _) _)
      replace P1 := P1.below hb
      replace P2 := P2.below hb
      replace P5 := P5.below hb
      replace P6 := P6.below hb
      replace P9 := P9.below hb
      replace P10 := P10.below hb
      replace rf1 := rf1.below hb
      replace rf2 := rf2.below hb
      replace rg1 := rg1.below hb
      replace rg2 := rg2.below hb
      replace rpa := rpa.below hb
      replace rqa := rqa.below hb
      replace rra := rra.below hb
      replace rsa := rsa.below hb
      replace rpb := rpb.below hb
      replace rqb := rqb.below hb
      replace rrb := rrb.below hb
      replace rsb := rsb.below hb
      replace hB := hB.trans (hb.mono hB.size)
      have P32 : Pair (w31.alloc (.cells #[.slice none 0 0, .slice none 0 0] 30)) (w31.heap.size) 30 (.slice none 0 0) (.slice none 0 0) := by
        have h := Pair.new w31 30 (.slice none 0 0) (.slice none 0 0)
        simpa only [World.size_alloc] using h
      clear hb
      have c0P1 := P1.c0
      have c1P1 := P1.c1
      have c0P2 := P2.c0
      have c1P2 := P2.c1
      have c0P5 := P5.c0
      have c1P5 := P5.c1
      have c0P6 := P6.c0
      have c1P6 := P6.c1
      have c0P9 := P9.c0
      have c1P9 := P9.c1
      have c0P10 := P10.c0
      have c1P10 := P10.c1
      have c0P32 := P32.c0
      have c1P32 := P32.c1
      go_wp2_with fail
      go_ret
      exact ⟨rfl, hB⟩
  · skip
    have hq : ((rb.n : Int) == 0) = false := eq0 (by rw [RD.len rrb]; exact D_pos hc)
    have HD := Lib.hid (mul_ne Hxa.out.1 hc)
    clear hc
    have hb : Below w8.heap.size w8 ((w8.alloc (.cells #[.slice pb.a pb.n pb.c, .slice qb.a qb.n qb.c] 30)).alloc (.cells #[.slice rb.a rb.n rb.c, .slice sb.a sb.n sb.c] 35)) := (((Below.refl _ _).alloc (Nat.le_refl _) _).alloc (by simp) _)
    replace P1 := P1.below hb
    replace P2 := P2.below hb
    replace P5 := P5.below hb
    replace P6 := P6.below hb
    replace rf1 := rf1.below hb
    replace rf2 := rf2.below hb
    replace rg1 := rg1.below hb
    replace rg2 := rg2.below hb
    replace rpa := rpa.below hb
    replace rqa := rqa.below hb
    replace rra := rra.below hb
    replace rsa := rsa.below hb
    replace rpb := rpb.below hb
    replace rqb := rqb.below hb
    replace rrb := rrb.below hb
    replace rsb := rsb.below hb
    replace hB := hB.trans (hb.mono hB.size)
    have P9 : Pair ((w8.alloc (.cells #[.slice pb.a pb.n pb.c, .slice qb.a qb.n qb.c] 30)).alloc (.cells #[.slice rb.a rb.n rb.c, .slice sb.a sb.n sb.c] 35)) (w8.heap.size) 30 (.slice pb.a pb.n pb.c) (.slice qb.a qb.n qb.c) := by
      have h := (Pair.new w8 30 (.slice pb.a pb.n pb.c) (.slice qb.a qb.n qb.c)).alloc (.cells #[.slice rb.a rb.n rb.c, .slice sb.a sb.n sb.c] 35)
      simpa only [World.size_alloc] using h
    have P10 : Pair ((w8.alloc (.cells #[.slice pb.a pb.n pb.c, .slice qb.a qb.n qb.c] 30)).alloc (.cells #[.slice rb.a rb.n rb.c, .slice sb.a sb.n sb.c] 35)) (w8.heap.size + 1) 35 (.slice rb.a rb.n rb.c) (.slice sb.a sb.n sb.c) := by
      have h := Pair.new (w8.alloc (.cells #[.slice pb.a pb.n pb.c, .slice qb.a qb.n qb.c] 30)) 35 (.slice rb.a rb.n rb.c) (.slice sb.a sb.n sb.c)
      simpa only [World.size_alloc] using h
    clear hb
    have c0P1 := P1.c0
    have c1P1 := P1.c1
    have c0P2 := P2.c0
    have c1P2 := P2.c1
    have c0P5 := P5.c0
    have c1P5 := P5.c1
    have c0P6 := P6.c0
    have c1P6 := P6.c1
    have c0P9 := P9.c0
    have c1P9 := P9.c1
    have c0P10 := P10.c0
    have c1P10 := P10.c1
    have H33 := Lib.hid (awake_any ((w8.alloc (.cells #[.slice pb.a pb.n pb.c, .slice qb.a qb.n qb.c] 30)).alloc (.cells #[.slice rb.a rb.n rb.c, .slice sb.a sb.n sb.c] 35)))
    go_wp2_with fail
    clear c0P1 c1P1 c0P2 c1P2 c0P5 c1P5 c0P6 c1P6 c0P9 c1P9 c0P10 c1P10
    refine H33.out.mono ?_
    rintro e w34 ⟨rfl, hb⟩
    clear H33
    replace P1 := P1.below hb
    replace P2 := P2.below hb
    replace P5 := P5.below hb
    replace P6 := P6.below hb
    replace P9 := P9.below hb
    replace P10 := P10.below hb
    replace rf1 := rf1.below hb
    replace rf2 := rf2.below hb
    replace rg1 := rg1.below hb
    replace rg2 := rg2.below hb
    replace rpa := rpa.below hb
    replace rqa := rqa.below hb
    replace rra := rra.below hb
    replace rsa := rsa.below hb
    replace rpb := rpb.below hb
    replace rqb := rqb.below hb
    replace rrb := rrb.below hb
    replace rsb := rsb.below hb
    replace hB := hB.trans (hb.mono hB.size)
    clear hb
    have c0P1 := P1.c0
    have c1P1 := P1.c1
    have c0P2 := P2.c0
    have c1P2 := P2.c1
    have c0P5 := P5.c0
    have c1P5 := P5.c1
    have c0P6 := P6.c0
    have c1P6 := P6.c1
    have c0P9 := P9.c0
    have c1P9 := P9.c1
    have c0P10 := P10.c0
    have c1P10 := P10.c1
    go_wp2_with fail
    clear c0P1 c1P1 c0P2 c1P2 c0P5 c1P5 c0P6 c1P6 c0P9 c1P9 c0P10 c1P10
    have hb : Below w34.heap.size w34 w34.drew := (Below.refl _ _).drew
    replace P1 := P1.below hb
    replace P2 := P2.below hb
    replace P5 := P5.below hb
    replace P6 := P6.below hb
    replace P9 := P9.below hb
    replace P10 := P10.below hb
    replace rf1 := rf1.below hb
    replace rf2 := rf2.below hb
    replace rg1 := rg1.below hb
    replace rg2 := rg2.below hb
    replace rpa := rpa.below hb
    replace rqa := rqa.below hb
    replace rra := rra.below hb
    replace rsa := rsa.below hb
    replace rpb := rpb.below hb
    replace rqb := rqb.below hb
    replace rrb := rrb.below hb
    replace rsb := rsb.below hb
    replace hB := hB.trans (hb.mono hB.size)
    clear hb
    refine Rd.regionT (fun X => Pair X (w.heap.size) 24 (.slice f1.a f1.n f1.c) (.slice f2.a f2.n f2.c) ∧ Pair X (w.heap.size + 1) 24 (.slice g1.a g1.n g1.c) (.slice g2.a g2.n g2.c) ∧ Pair X (w4.heap.size) 30 (.slice pa.a pa.n pa.c) (.slice qa.a qa.n qa.c) ∧ Pair X (w4.heap.size + 1) 35 (.slice ra.a ra.n ra.c) (.slice sa.a sa.n sa.c) ∧ Pair X (w8.heap.size) 30 (.slice pb.a pb.n pb.c) (.slice qb.a qb.n qb.c) ∧ Pair X (w8.heap.size + 1) 35 (.slice rb.a rb.n rb.c) (.slice sb.a sb.n sb.c)) [0, 1, 3, 4, 7, 8, 9, 10, 13, 14] (.one 0 (.one 1 (.one 3 (.one 4 (.one 2 (.one 5 (.one 6 (.one 7 (.one 8 (.one 9 (.one 10 (.one 11 (.one 12 (.one 13 (.one 14 .done))))))))))))))) (fun ac W => ∃ (y36 y37 y38 y39 y40 y41 y42 y43 y44 y45 y46 y47 y48 y49 : Value), ac = { tmps := List.toArray (.agg #[.slice f1.a f1.n f1.c, .slice f2.a f2.n f2.c] :: .agg #[.slice g1.a g1.n g1.c, .slice g2.a g2.n g2.c] :: .pointer (some ⟨w.heap.size, 0, none⟩) :: .pointer (some ⟨w.heap.size + 1, 0, none⟩) :: .bool false :: .pointer (some ⟨w4.heap.size, 0, none⟩) :: .pointer (some ⟨w4.heap.size + 1, 0, none⟩) :: .bool true :: .pointer (some ⟨w8.heap.size, 0, none⟩) :: .pointer (some ⟨w8.heap.size + 1, 0, none⟩) :: .bool true :: undef :: undef :: .tuple #[.agg #[.slice pa.a pa.n pa.c, .slice qa.a qa.n qa.c], .agg #[.slice ra.a ra.n ra.c, .slice sa.a sa.n sa.c], .bool true] :: .agg #[.slice f1.a f1.n f1.c, .slice f2.a f2.n f2.c] :: .tuple #[.agg #[.slice pa.a pa.n pa.c, .slice qa.a qa.n qa.c], .agg #[.slice ra.a ra.n ra.c, .slice sa.a sa.n sa.c], .bool true] :: .agg #[.slice pa.a pa.n pa.c, .slice qa.a qa.n qa.c] :: .agg #[.slice ra.a ra.n ra.c, .slice sa.a sa.n sa.c] :: .bool true :: .tuple #[.agg #[.slice pb.a pb.n pb.c, .slice qb.a qb.n qb.c], .agg #[.slice rb.a rb.n rb.c, .slice sb.a sb.n sb.c], .bool true] :: .agg #[.slice g1.a g1.n g1.c, .slice g2.a g2.n g2.c] :: .tuple #[.agg #[.slice pb.a pb.n pb.c, .slice qb.a qb.n qb.c], .agg #[.slice rb.a rb.n rb.c, .slice sb.a sb.n sb.c], .bool true] :: .agg #[.slice pb.a pb.n pb.c, .slice qb.a qb.n qb.c] :: .agg #[.slice rb.a rb.n rb.c, .slice sb.a sb.n sb.c] :: .bool true :: .bool true :: .bool false :: .bool false :: .bool true :: .bool false :: .bool false :: .bool false :: .bool true :: .bool false :: .bool false :: undef :: y36 :: y37 :: y38 :: y39 :: y40 :: y41 :: y42 :: y43 :: y44 :: y45 :: y46 :: y47 :: y48 :: y49 :: .bool false :: undef :: undef :: undef :: undef :: undef :: undef :: undef :: undef :: undef :: undef :: undef :: undef :: undef :: undef :: undef :: undef :: undef :: undef :: undef :: undef :: undef :: undef :: undef :: undef :: undef :: undef :: undef :: undef :: undef :: undef :: undef :: undef :: undef :: undef :: undef :: undef :: undef :: []), defers := [] } ∧ Pair W (w.heap.size) 24 (.slice f1.a f1.n f1.c) (.slice f2.a f2.n f2.c) ∧ Pair W (w.heap.size + 1) 24 (.slice g1.a g1.n g1.c) (.slice g2.a g2.n g2.c) ∧ Pair W (w4.heap.size) 30 (.slice pa.a pa.n pa.c) (.slice qa.a qa.n qa.c) ∧ Pair W (w4.heap.size + 1) 35 (.slice ra.a ra.n ra.c) (.slice sa.a sa.n sa.c) ∧ Pair W (w8.heap.size) 30 (.slice pb.a pb.n pb.c) (.slice qb.a qb.n qb.c) ∧ Pair W (w8.heap.size + 1) 35 (.slice rb.a rb.n rb.c) (.slice sb.a sb.n sb.c) ∧ RA W f1 l11 ∧ RA W f2 l12 ∧ RA W g1 l21 ∧ RA W g2 l22 ∧ RU W pa xa ∧ RU W qa ya ∧ RD W ra xa ∧ RD W sa ya ∧ RU W pb xb ∧ RU W qb yb ∧ RD W rb xb ∧ RD W sb yb ∧ Below w.heap.size w W) (by kernel_rfl) (by kernel_rfl) (by kernel_rfl) ⟨P1, P2, P5, P6, P9, P10⟩ ?tree ?next
    case tree =>
      generalize w34.drew = w35 at P1 P2 P5 P6 P9 P10 rf1 rf2 rg1 rg2 rpa rqa rra rsa rpb rqb rrb rsb hB ⊢
      refine Rd.tr_float (.agg #[.slice pa.a pa.n pa.c, .slice qa.a qa.n qa.c]) (by simp only [List.getElem?_toArray, List.getElem?_cons_zero]; rfl) rfl (by rfl) (fun X hX => by have h0 := hX.2.2.1.c0; have h1 := hX.2.2.1.c1; go_simp) ?_
      simp only [Act.put, List.setIfInBounds_toArray, List.set_cons_succ, List.set_cons_zero]
      refine Rd.tr_float (.agg #[.slice pb.a pb.n pb.c, .slice qb.a qb.n qb.c]) (by simp only [List.getElem?_toArray, List.getElem?_cons_succ, List.getElem?_cons_zero]; rfl) rfl (by rfl) (fun X hX => by have h0 := hX.2.2.2.2.1.c0; have h1 := hX.2.2.2.2.1.c1; go_simp) ?_
      simp only [Act.put, List.setIfInBounds_toArray, List.set_cons_succ, List.set_cons_zero]
      refine Rd.tr_float (.agg #[.slice ra.a ra.n ra.c, .slice sa.a sa.n sa.c]) (by simp only [List.getElem?_toArray, List.getElem?_cons_succ, List.getElem?_cons_zero]; rfl) rfl (by rfl) (fun X hX => by have h0 := hX.2.2.2.1.c0; have h1 := hX.2.2.2.1.c1; go_simp) ?_
      simp only [Act.put, List.setIfInBounds_toArray, List.set_cons_succ, List.set_cons_zero]
      refine Rd.tr_float (.agg #[.slice rb.a rb.n rb.c, .slice sb.a sb.n sb.c]) (by simp only [List.getElem?_toArray, List.getElem?_cons_succ, List.getElem?_cons_zero]; rfl) rfl (by rfl) (fun X hX => by have h0 := hX.2.2.2.2.2.c0; have h1 := hX.2.2.2.2.2.c1; go_simp) ?_
      simp only [Act.put, List.setIfInBounds_toArray, List.set_cons_succ, List.set_cons_zero]
      refine Rd.tr_move (by simp only [List.getElem?_toArray, List.getElem?_cons_succ, List.getElem?_cons_zero]; rfl) rfl (by rfl) (fun K hK => ?_)
      have H38 := Lib.hid (qmul_nat pa qa pb qb (xa) (ya) (xb) (yb) w35 rpa rqa rpb rqb (Lib.hid (Nat.le_trans Lxa.out (by omega))) (Lib.hid (Nat.le_trans Lya.out (by omega))) (Lib.hid (Nat.le_trans Lxb.out (by omega))) (Lib.hid (Nat.le_trans Lyb.out (by omega))) (Lib.hid (mul_ne Hxa.out.1 Hxb.out.1)))
      go_simp
      refine H38.out.mono ?_
      rintro e w39 ⟨x36, x37, rfl, rx36, rx37, hb⟩
      clear H38
      replace P1 := P1.below hb
      replace P2 := P2.below hb
      replace P5 := P5.below hb
      replace P6 := P6.below hb
      replace P9 := P9.below hb
      replace P10 := P10.below hb
      replace rf1 := rf1.below hb
      replace rf2 := rf2.below hb
      replace rg1 := rg1.below hb
      replace rg2 := rg2.below hb
      replace rpa := rpa.below hb
      replace rqa := rqa.below hb
      replace rra := rra.below hb
      replace rsa := rsa.below hb
      replace rpb := rpb.below hb
      replace rqb := rqb.below hb
      replace rrb := rrb.below hb
      replace rsb := rsb.below hb
      replace hB := hB.trans (hb.mono hB.size)
      clear hb
      have HLx36 : Hid ((L ((xa * xb) / Nat.gcd (xa * xb) (ya * yb))).length ≤ 8) := Lib.hid (len_div_le (len_mul_le Lxa.out Lxb.out))
      have HLx37 : Hid ((L ((ya * yb) / Nat.gcd (xa * xb) (ya * yb))).length ≤ 8) := Lib.hid (len_div_le (len_mul_le Lya.out Lyb.out))
      refine hK _ _ ⟨P1, P2, P5, P6, P9, P10⟩ ?_
      clear hK K
      refine Rd.tr_move (by simp only [List.getElem?_toArray, List.getElem?_cons_succ, List.getElem?_cons_zero]; rfl) rfl (by rfl) (fun K hK => ?_)
      have H42 := Lib.hid (rqmul_nat ra sa rb sb (xa) (ya) (xb) (yb) w39 rra rsa rrb rsb (Lib.hid (Nat.le_trans Lxa.out (by omega))) (Lib.hid (Nat.le_trans Lya.out (by omega))) (Lib.hid (Nat.le_trans Lxb.out (by omega))) (Lib.hid (Nat.le_trans Lyb.out (by omega))) (Lib.hid (mul_ne Hxa.out.1 Hxb.out.1)))
      go_simp
      refine H42.out.mono ?_
      rintro e w43 ⟨x40, x41, rfl, rx40, rx41, hb⟩
      clear H42
      replace P1 := P1.below hb
      replace P2 := P2.below hb
      replace P5 := P5.below hb
      replace P6 := P6.below hb
      replace P9 := P9.below hb
      replace P10 := P10.below hb
      replace rf1 := rf1.below hb
      replace rf2 := rf2.below hb
      replace rg1 := rg1.below hb
      replace rg2 := rg2.below hb
      replace rpa := rpa.below hb
      replace rqa := rqa.below hb
      replace rra := rra.below hb
      replace rsa := rsa.below hb
      replace rpb := rpb.below hb
      replace rqb := rqb.below hb
      replace rrb := rrb.below hb
      replace rsb := rsb.below hb
      replace rx36 := rx36.below hb
      replace rx37 := rx37.below hb
      replace hB := hB.trans (hb.mono hB.size)
      clear hb
      refine hK _ _ ⟨P1, P2, P5, P6, P9, P10⟩ ?_
      clear hK K
      refine Rd.tr_move (by simp only [List.getElem?_toArray, List.getElem?_cons_succ, List.getElem?_cons_zero]; rfl) rfl (by rfl) (fun K hK => ?_)
      have H44 := Lib.hid (qis_nat x36 x37 x40 x41 ((xa * xb) / Nat.gcd (xa * xb) (ya * yb)) ((ya * yb) / Nat.gcd (xa * xb) (ya * yb)) w43 rx36 rx37 rx40 rx41 (Lib.hid (Nat.le_trans HLx36.out (by omega))) (Lib.hid (Nat.le_trans HLx37.out (by omega))))
      go_simp
      refine H44.out.mono ?_
      rintro e w45 ⟨rfl, hb⟩
      clear H44
      replace P1 := P1.below hb
      replace P2 := P2.below hb
      replace P5 := P5.below hb
      replace P6 := P6.below hb
      replace P9 := P9.below hb
      replace P10 := P10.below hb
      replace rf1 := rf1.below hb
      replace rf2 := rf2.below hb
      replace rg1 := rg1.below hb
      replace rg2 := rg2.below hb
      replace rpa := rpa.below hb
      replace rqa := rqa.below hb
      replace rra := rra.below hb
      replace rsa := rsa.below hb
      replace rpb := rpb.below hb
      replace rqb := rqb.below hb
      replace rrb := rrb.below hb
      replace rsb := rsb.below hb
      replace rx36 := rx36.below hb
      replace rx37 := rx37.below hb
      replace rx40 := rx40.below hb
      replace rx41 := rx41.below hb
      replace hB := hB.trans (hb.mono hB.size)
      clear hb
      refine hK _ _ ⟨P1, P2, P5, P6, P9, P10⟩ ?_
      clear hK K
      refine Rd.tr_float (.bool false) (by simp only [List.getElem?_toArray, List.getElem?_cons_succ, List.getElem?_cons_zero]; rfl) rfl (by rfl) (fun X _ => by go_simp) ?_
      simp only [Act.put, List.setIfInBounds_toArray, List.set_cons_succ, List.set_cons_zero]
      refine Rd.tr_float (.bool false) (by simp only [List.getElem?_toArray, List.getElem?_cons_succ, List.getElem?_cons_zero]; rfl) rfl (by rfl) (fun X _ => by go_simp) ?_
      simp only [Act.put, List.setIfInBounds_toArray, List.set_cons_succ, List.set_cons_zero]
      refine Rd.tr_float (.agg #[.slice pa.a pa.n pa.c, .slice qa.a qa.n qa.c]) (by simp only [List.getElem?_toArray, List.getElem?_cons_succ, List.getElem?_cons_zero]; rfl) rfl (by rfl) (fun X hX => by have h0 := hX.2.2.1.c0; have h1 := hX.2.2.1.c1; go_simp) ?_
      simp only [Act.put, List.setIfInBounds_toArray, List.set_cons_succ, List.set_cons_zero]
      refine Rd.tr_float (.agg #[.slice pb.a pb.n pb.c, .slice qb.a qb.n qb.c]) (by simp only [List.getElem?_toArray, List.getElem?_cons_succ, List.getElem?_cons_zero]; rfl) rfl (by rfl) (fun X hX => by have h0 := hX.2.2.2.2.1.c0; have h1 := hX.2.2.2.2.1.c1; go_simp) ?_
      simp only [Act.put, List.setIfInBounds_toArray, List.set_cons_succ, List.set_cons_zero]
      refine Rd.tr_move (by simp only [List.getElem?_toArray, List.getElem?_cons_succ, List.getElem?_cons_zero]; rfl) rfl (by rfl) (fun K hK => ?_)
      have H48 := Lib.hid (qmul_nat pa qa pb qb (xa) (ya) (xb) (yb) w45 rpa rqa rpb rqb (Lib.hid (Nat.le_trans Lxa.out (by omega))) (Lib.hid (Nat.le_trans Lya.out (by omega))) (Lib.hid (Nat.le_trans Lxb.out (by omega))) (Lib.hid (Nat.le_trans Lyb.out (by omega))) (Lib.hid (mul_ne Hxa.out.1 Hxb.out.1)))
      go_simp
      refine H48.out.mono ?_
      rintro e w49 ⟨x46, x47, rfl, rx46, rx47, hb⟩
      clear H48
      replace P1 := P1.below hb
      replace P2 := P2.below hb
      replace P5 := P5.below hb
      replace P6 := P6.below hb
      replace P9 := P9.below hb
      replace P10 := P10.below hb
      replace rf1 := rf1.below hb
      replace rf2 := rf2.below hb
      replace rg1 := rg1.below hb
      replace rg2 := rg2.below hb
      replace rpa := rpa.below hb
      replace rqa := rqa.below hb
      replace rra := rra.below hb
      replace rsa := rsa.below hb
      replace rpb := rpb.below hb
      replace rqb := rqb.below hb
      replace rrb := rrb.below hb
      replace rsb := rsb.below hb
      replace rx36 := rx36.below hb
      replace rx37 := rx37.below hb
      replace rx40 := rx40.below hb
      replace rx41 := rx41.below hb
      replace hB := hB.trans (hb.mono hB.size)
      clear hb
      refine hK _ _ ⟨P1, P2, P5, P6, P9, P10⟩ ?_
      clear hK K
      refine Rd.tr_move (by simp only [List.getElem?_toArray, List.getElem?_cons_succ, List.getElem?_cons_zero]; rfl) rfl (by rfl) (fun K hK => ?_)
      have H50 := Lib.hid (qgood_nat x46 x47 ((xa * xb) / Nat.gcd (xa * xb) (ya * yb)) ((ya * yb) / Nat.gcd (xa * xb) (ya * yb)) w49 rx46 rx47 (Lib.hid (Nat.le_trans HLx36.out (by omega))) (Lib.hid (Nat.le_trans HLx37.out (by omega))) (Lib.hid (low_ne _ (mul_ne Hxa.out.1 Hxb.out.1))) true (Lib.hid (low_good _ (mul_ne Hxa.out.1 Hxb.out.1))))
      go_simp
      refine H50.out.mono ?_
      rintro e w51 ⟨rfl, hb⟩
      clear H50
      replace P1 := P1.below hb
      replace P2 := P2.below hb
      replace P5 := P5.below hb
      replace P6 := P6.below hb
      replace P9 := P9.below hb
      replace P10 := P10.below hb
      replace rf1 := rf1.below hb
      replace rf2 := rf2.below hb
      replace rg1 := rg1.below hb
      replace rg2 := rg2.below hb
      replace rpa := rpa.below hb
      replace rqa := rqa.below hb
      replace rra := rra.below hb
      replace rsa := rsa.below hb
      replace rpb := rpb.below hb
      replace rqb := rqb.below hb
      replace rrb := rrb.below hb
      replace rsb := rsb.below hb
      replace rx36 := rx36.below hb
      replace rx37 := rx37.below hb
      replace rx40 := rx40.below hb
      replace rx41 := rx41.below hb
      replace rx46 := rx46.below hb
      replace rx47 := rx47.below hb
      replace hB := hB.trans (hb.mono hB.size)
      clear hb
      refine hK _ _ ⟨P1, P2, P5, P6, P9, P10⟩ ?_
      clear hK K
      refine Rd.tr_float (.bool false) (by simp only [List.getElem?_toArray, List.getElem?_cons_succ, List.getElem?_cons_zero]; rfl) rfl (by rfl) (fun X _ => by go_simp) ?_
      simp only [Act.put, List.setIfInBounds_toArray, List.set_cons_succ, List.set_cons_zero]
      refine Rd.tr_float (.bool false) (by simp only [List.getElem?_toArray, List.getElem?_cons_succ, List.getElem?_cons_zero]; rfl) rfl (by rfl) (fun X _ => by go_simp) ?_
      simp only [Act.put, List.setIfInBounds_toArray, List.set_cons_succ, List.set_cons_zero]
      exact Rd.tr_end (⟨_, _, _, _, _, _, _, _, _, _, _, _, _, _, rfl, P1, P2, P5, P6, P9, P10, rf1, rf2, rg1, rg2, rpa, rqa, rra, rsa, rpb, rqb, rrb, rsb, hB⟩)
    case next =>
      rintro a3 W ⟨y36, y37, y38, y39, y40, y41, y42, y43, y44, y45, y46, y47, y48, y49, rfl, P1, P2, P5, P6, P9, P10, rf1, rf2, rg1, rg2, rpa, rqa, rra, rsa, rpb, rqb, rrb, rsb, hB⟩
      have c0P1 := P1.c0
      have c1P1 := P1.c1
      have c0P2 := P2.c0
      have c1P2 := P2.c1
      have c0P5 := P5.c0
      have c1P5 := P5.c1
      have c0P6 := P6.c0
      have c1P6 := P6.c1
      have c0P9 := P9.c0
      have c1P9 := P9.c1
      have c0P10 := P10.c0
      have c1P10 := P10.c1
      have H54 := Lib.hid (qdiv_comm pa qa pb qb (xa) (ya) (xb) (yb) W rpa rqa rpb rqb (Lib.hid (Nat.le_trans Lxa.out (by omega))) (Lib.hid (Nat.le_trans Lya.out (by omega))) (Lib.hid (Nat.le_trans Lxb.out (by omega))) (Lib.hid (Nat.le_trans Lyb.out (by omega))) HD)
      go_wp2_with fail
      clear c0P1 c1P1 c0P2 c1P2 c0P5 c1P5 c0P6 c1P6 c0P9 c1P9 c0P10 c1P10
      refine H54.out.mono ?_
      rintro e w55 ⟨x52, x53, rfl, rx52, rx53, hb⟩
      clear H54
      replace P1 := P1.below hb
      replace P2 := P2.below hb
      replace P5 := P5.below hb
      replace P6 := P6.below hb
      replace P9 := P9.below hb
      replace P10 := P10.below hb
      replace rf1 := rf1.below hb
      replace rf2 := rf2.below hb
      replace rg1 := rg1.below hb
      replace rg2 := rg2.below hb
      replace rpa := rpa.below hb
      replace rqa := rqa.below hb
      replace rra := rra.below hb
      replace rsa := rsa.below hb
      replace rpb := rpb.below hb
      replace rqb := rqb.below hb
      replace rrb := rrb.below hb
      replace rsb := rsb.below hb
      replace hB := hB.trans (hb.mono hB.size)
      clear hb
      have HLx52 : Hid ((L ((xa * yb) / Nat.gcd (xa * yb) (ya * xb))).length ≤ 8) := Lib.hid (len_div_le (len_mul_le Lxa.out Lyb.out))
      have HLx53 : Hid ((L ((ya * xb) / Nat.gcd (xa * yb) (ya * xb))).length ≤ 8) := Lib.hid (len_div_le (len_mul_le Lya.out Lxb.out))
      have hb : Below w55.heap.size w55 (w55.alloc (.cells #[.slice x52.a x52.n x52.c, .slice x53.a x53.n x53.c] 30)) := ((Below.refl _ _).alloc (Nat.le_refl _) _)
      replace P1 := P1.below hb
      replace P2 := P2.below hb
      replace P5 := P5.below hb
      replace P6 := P6.below hb
      replace P9 := P9.below hb
      replace P10 := P10.below hb
      replace rf1 := rf1.below hb
      replace rf2 := rf2.below hb
      replace rg1 := rg1.below hb
      replace rg2 := rg2.below hb
      replace rpa := rpa.below hb
      replace rqa := rqa.below hb
      replace rra := rra.below hb
      replace rsa := rsa.below hb
      replace rpb := rpb.below hb
      replace rqb := rqb.below hb
      replace rrb := rrb.below hb
      replace rsb := rsb.below hb
      replace rx52 := rx52.below hb
      replace rx53 := rx53.below hb
      replace hB := hB.trans (hb.mono hB.size)
      have P56 : Pair (w55.alloc (.cells #[.slice x52.a x52.n x52.c, .slice x53.a x53.n x53.c] 30)) (w55.heap.size) 30 (.slice x52.a x52.n x52.c) (.slice x53.a x53.n x53.c) := by
        have h := Pair.new w55 30 (.slice x52.a x52.n x52.c) (.slice x53.a x53.n x53.c)
        simpa only [World.size_alloc] using h
      clear hb
      have c0P1 := P1.c0
      have c1P1 := P1.c1
      have c0P2 := P2.c0
      have c1P2 := P2.c1
      have c0P5 := P5.c0
      have c1P5 := P5.c1
      have c0P6 := P6.c0
      have c1P6 := P6.c1
      have c0P9 := P9.c0
      have c1P9 := P9.c1
      have c0P10 := P10.c0
      have c1P10 := P10.c1
      have c0P56 := P56.c0
      have c1P56 := P56.c1
      go_wp2_with fail
      clear c0P1 c1P1 c0P2 c1P2 c0P5 c1P5 c0P6 c1P6 c0P9 c1P9 c0P10 c1P10 c0P56 c1P56
      have hb : Below (w55.alloc (.cells #[.slice x52.a x52.n x52.c, .slice x53.a x53.n x53.c] 30)).heap.size (w55.alloc (.cells #[.slice x52.a x52.n x52.c, .slice x53.a x53.n x53.c] 30)) (w55.alloc (.cells #[.slice x52.a x52.n x52.c, .slice x53.a x53.n x53.c] 30)).drew := (Below.refl _ _).drew
      replace P1 := P1.below hb
      replace P2 := P2.below hb
      replace P5 := P5.below hb
      replace P6 := P6.below hb
      replace P9 := P9.below hb
      replace P10 := P10.below hb
      replace P56 := P56.below hb
      replace rf1 := rf1.below hb
      replace rf2 := rf2.below hb
      replace rg1 := rg1.below hb
      replace rg2 := rg2.below hb
      replace rpa := rpa.below hb
      replace rqa := rqa.below hb
      replace rra := rra.below hb
      replace rsa := rsa.below hb
      replace rpb := rpb.below hb
      replace rqb := rqb.below hb
      replace rrb := rrb.below hb
      replace rsb := rsb.below hb
      replace rx52 := rx52.below hb
      replace rx53 := rx53.below hb
      replace hB := hB.trans (hb.mono hB.size)
      clear hb
      refine Rd.regionT (fun X => Pair X (w.heap.size) 24 (.slice f1.a f1.n f1.c) (.slice f2.a f2.n f2.c) ∧ Pair X (w.heap.size + 1) 24 (.slice g1.a g1.n g1.c) (.slice g2.a g2.n g2.c) ∧ Pair X (w4.heap.size) 30 (.slice pa.a pa.n pa.c) (.slice qa.a qa.n qa.c) ∧ Pair X (w4.heap.size + 1) 35 (.slice ra.a ra.n ra.c) (.slice sa.a sa.n sa.c) ∧ Pair X (w8.heap.size) 30 (.slice pb.a pb.n pb.c) (.slice qb.a qb.n qb.c) ∧ Pair X (w8.heap.size + 1) 35 (.slice rb.a rb.n rb.c) (.slice sb.a sb.n sb.c) ∧ Pair X (w55.heap.size) 30 (.slice x52.a x52.n x52.c) (.slice x53.a x53.n x53.c)) [0, 1, 2, 3, 4, 5, 8, 9, 10, 12, 13] (.one 0 (.one 1 (.one 2 (.one 3 (.one 4 (.one 5 (.one 6 (.one 7 (.one 8 (.one 9 (.one 10 (.one 11 (.one 12 (.one 13 .done)))))))))))))) (fun ac W => (∃ t : Array Value, ac = { tmps := t, defers := [] } ∧ t[4]?.getD undef = .bool true) ∧ Below w.heap.size w W) (by kernel_rfl) (by kernel_rfl) (by kernel_rfl) ⟨P1, P2, P5, P6, P9, P10, P56⟩ ?tree ?next
      case tree =>
        generalize (w55.alloc (.cells #[.slice x52.a x52.n x52.c, .slice x53.a x53.n x53.c] 30)).drew = w57 at P1 P2 P5 P6 P9 P10 P56 rf1 rf2 rg1 rg2 rpa rqa rra rsa rpb rqb rrb rsb rx52 rx53 hB ⊢
        refine Rd.tr_float (.int .i64 0) (by simp only [List.getElem?_toArray, List.getElem?_cons_zero]; rfl) rfl (by rfl) (fun X _ => by go_simp) ?_
        simp only [Act.put, List.setIfInBounds_toArray, List.set_cons_succ, List.set_cons_zero]
        refine Rd.tr_float (.bool true) (by simp only [List.getElem?_toArray, List.getElem?_cons_succ, List.getElem?_cons_zero]; rfl) rfl (by rfl) (fun X _ => by go_simp) ?_
        simp only [Act.put, List.setIfInBounds_toArray, List.set_cons_succ, List.set_cons_zero]
        refine Rd.tr_float (.bool true) (by simp only [List.getElem?_toArray, List.getElem?_cons_succ, List.getElem?_cons_zero]; rfl) rfl (by rfl) (fun X _ => by go_simp) ?_
        simp only [Act.put, List.setIfInBounds_toArray, List.set_cons_succ, List.set_cons_zero]
        refine Rd.tr_float (.agg #[.slice x52.a x52.n x52.c, .slice x53.a x53.n x53.c]) (by simp only [List.getElem?_toArray, List.getElem?_cons_succ, List.getElem?_cons_zero]; rfl) rfl (by rfl) (fun X hX => by have h0 := hX.2.2.2.2.2.2.c0; have h1 := hX.2.2.2.2.2.2.c1; go_simp) ?_
        simp only [Act.put, List.setIfInBounds_toArray, List.set_cons_succ, List.set_cons_zero]
        refine Rd.tr_float (.agg #[.slice ra.a ra.n ra.c, .slice sa.a sa.n sa.c]) (by simp only [List.getElem?_toArray, List.getElem?_cons_succ, List.getElem?_cons_zero]; rfl) rfl (by rfl) (fun X hX => by have h0 := hX.2.2.2.1.c0; have h1 := hX.2.2.2.1.c1; go_simp) ?_
        simp only [Act.put, List.setIfInBounds_toArray, List.set_cons_succ, List.set_cons_zero]
        refine Rd.tr_float (.agg #[.slice rb.a rb.n rb.c, .slice sb.a sb.n sb.c]) (by simp only [List.getElem?_toArray, List.getElem?_cons_succ, List.getElem?_cons_zero]; rfl) rfl (by rfl) (fun X hX => by have h0 := hX.2.2.2.2.2.1.c0; have h1 := hX.2.2.2.2.2.1.c1; go_simp) ?_
        simp only [Act.put, List.setIfInBounds_toArray, List.set_cons_succ, List.set_cons_zero]
        refine Rd.tr_move (by simp only [List.getElem?_toArray, List.getElem?_cons_succ, List.getElem?_cons_zero]; rfl) rfl (by rfl) (fun K hK => ?_)
        have H60 := Lib.hid (rqdiv_nat ra sa rb sb (xa) (ya) (xb) (yb) w57 rra rsa rrb rsb (Lib.hid (Nat.le_trans Lxa.out (by omega))) (Lib.hid (Nat.le_trans Lya.out (by omega))) (Lib.hid (Nat.le_trans Lxb.out (by omega))) (Lib.hid (Nat.le_trans Lyb.out (by omega))) HD)
        go_simp
        refine H60.out.mono ?_
        rintro e w61 ⟨x58, x59, rfl, rx58, rx59, hb⟩
        clear H60
        replace P1 := P1.below hb
        replace P2 := P2.below hb
        replace P5 := P5.below hb
        replace P6 := P6.below hb
        replace P9 := P9.below hb
        replace P10 := P10.below hb
        replace P56 := P56.below hb
        replace rf1 := rf1.below hb
        replace rf2 := rf2.below hb
        replace rg1 := rg1.below hb
        replace rg2 := rg2.below hb
        replace rpa := rpa.below hb
        replace rqa := rqa.below hb
        replace rra := rra.below hb
        replace rsa := rsa.below hb
        replace rpb := rpb.below hb
        replace rqb := rqb.below hb
        replace rrb := rrb.below hb
        replace rsb := rsb.below hb
        replace rx52 := rx52.below hb
        replace rx53 := rx53.below hb
        replace hB := hB.trans (hb.mono hB.size)
        clear hb
        refine hK _ _ ⟨P1, P2, P5, P6, P9, P10, P56⟩ ?_
        clear hK K
        refine Rd.tr_move (by simp only [List.getElem?_toArray, List.getElem?_cons_succ, List.getElem?_cons_zero]; rfl) rfl (by rfl) (fun K hK => ?_)
        have H62 := Lib.hid (qis_nat x52 x53 x58 x59 ((xa * yb) / Nat.gcd (xa * yb) (ya * xb)) ((ya * xb) / Nat.gcd (xa * yb) (ya * xb)) w61 rx52 rx53 rx58 rx59 (Lib.hid (Nat.le_trans HLx52.out (by omega))) (Lib.hid (Nat.le_trans HLx53.out (by omega))))
        go_simp
        refine H62.out.mono ?_
        rintro e w63 ⟨rfl, hb⟩
        clear H62
        replace P1 := P1.below hb
        replace P2 := P2.below hb
        replace P5 := P5.below hb
        replace P6 := P6.below hb
        replace P9 := P9.below hb
        replace P10 := P10.below hb
        replace P56 := P56.below hb
        replace rf1 := rf1.below hb
        replace rf2 := rf2.below hb
        replace rg1 := rg1.below hb
        replace rg2 := rg2.below hb
        replace rpa := rpa.below hb
        replace rqa := rqa.below hb
        replace rra := rra.below hb
        replace rsa := rsa.below hb
        replace rpb := rpb.below hb
        replace rqb := rqb.below hb
        replace rrb := rrb.below hb
        replace rsb := rsb.below hb
        replace rx52 := rx52.below hb
        replace rx53 := rx53.below hb
        replace rx58 := rx58.below hb
        replace rx59 := rx59.below hb
        replace hB := hB.trans (hb.mono hB.size)
        clear hb
        refine hK _ _ ⟨P1, P2, P5, P6, P9, P10, P56⟩ ?_
        clear hK K
        refine Rd.tr_float (.bool true) (by simp only [List.getElem?_toArray, List.getElem?_cons_succ, List.getElem?_cons_zero]; rfl) rfl (by rfl) (fun X _ => by go_simp) ?_
        simp only [Act.put, List.setIfInBounds_toArray, List.set_cons_succ, List.set_cons_zero]
        refine Rd.tr_float (.bool true) (by simp only [List.getElem?_toArray, List.getElem?_cons_succ, List.getElem?_cons_zero]; rfl) rfl (by rfl) (fun X _ => by go_simp) ?_
        simp only [Act.put, List.setIfInBounds_toArray, List.set_cons_succ, List.set_cons_zero]
        refine Rd.tr_float (.agg #[.slice x52.a x52.n x52.c, .slice x53.a x53.n x53.c]) (by simp only [List.getElem?_toArray, List.getElem?_cons_succ, List.getElem?_cons_zero]; rfl) rfl (by rfl) (fun X hX => by have h0 := hX.2.2.2.2.2.2.c0; have h1 := hX.2.2.2.2.2.2.c1; go_simp) ?_
        simp only [Act.put, List.setIfInBounds_toArray, List.set_cons_succ, List.set_cons_zero]
        refine Rd.tr_move (by simp only [List.getElem?_toArray, List.getElem?_cons_succ, List.getElem?_cons_zero]; rfl) rfl (by rfl) (fun K hK => ?_)
        have H64 := Lib.hid (qgood_nat x52 x53 ((xa * yb) / Nat.gcd (xa * yb) (ya * xb)) ((ya * xb) / Nat.gcd (xa * yb) (ya * xb)) w63 rx52 rx53 (Lib.hid (Nat.le_trans HLx52.out (by omega))) (Lib.hid (Nat.le_trans HLx53.out (by omega))) (Lib.hid (low_ne _ HD.out)) true (Lib.hid (low_good _ HD.out)))
        go_simp
        refine H64.out.mono ?_
        rintro e w65 ⟨rfl, hb⟩
        clear H64
        replace P1 := P1.below hb
        replace P2 := P2.below hb
        replace P5 := P5.below hb
        replace P6 := P6.below hb
        replace P9 := P9.below hb
        replace P10 := P10.below hb
        replace P56 := P56.below hb
        replace rf1 := rf1.below hb
        replace rf2 := rf2.below hb
        replace rg1 := rg1.below hb
        replace rg2 := rg2.below hb
        replace rpa := rpa.below hb
        replace rqa := rqa.below hb
        replace rra := rra.below hb
        replace rsa := rsa.below hb
        replace rpb := rpb.below hb
        replace rqb := rqb.below hb
        replace rrb := rrb.below hb
        replace rsb := rsb.below hb
        replace rx52 := rx52.below hb
        replace rx53 := rx53.below hb
        replace rx58 := rx58.below hb
        replace rx59 := rx59.below hb
        replace hB := hB.trans (hb.mono hB.size)
        clear hb
        refine hK _ _ ⟨P1, P2, P5, P6, P9, P10, P56⟩ ?_
        clear hK K
        refine Rd.tr_float (.bool true) (by simp only [List.getElem?_toArray, List.getElem?_cons_succ, List.getElem?_cons_zero]; rfl) rfl (by rfl) (fun X _ => by go_simp) ?_
        simp only [Act.put, List.setIfInBounds_toArray, List.set_cons_succ, List.set_cons_zero]
        refine Rd.tr_float (.bool true) (by simp only [List.getElem?_toArray, List.getElem?_cons_succ, List.getElem?_cons_zero]; rfl) rfl (by rfl) (fun X _ => by go_simp) ?_
        simp only [Act.put, List.setIfInBounds_toArray, List.set_cons_succ, List.set_cons_zero]
        exact Rd.tr_end (⟨⟨_, rfl, rfl⟩, hB⟩)
      case next =>
        rintro a3 W ⟨⟨t, rfl, ht⟩, hB⟩
        go_wp2_with fail
        refine bodyPost_ret (v := .bool true) ?_ rfl ⟨rfl, hB⟩
        simp [results, Tryd.f6, go_sem, ht]

theorem products_any (f1 f2 g1 g2 : Sl) (l11 l12 l21 l22 : List Nat) (w : World) (rf1 : RA w f1 l11) (rf2 : RA w f2 l12) (rg1 : RA w g1 l21) (rg2 : RA w g2 l22) (S11 : Hid (SmallU l11)) (S12 : Hid (SmallU l12)) (S21 : Hid (SmallU l21)) (S22 : Hid (SmallU l22)) :
    Calls Tryd.prog 6 #[.agg #[.slice f1.a f1.n f1.c, .slice f2.a f2.n f2.c], .agg #[.slice g1.a g1.n g1.c, .slice g2.a g2.n g2.c]] w fun e w' => e = .returned (.bool true) ∧ Below w.heap.size w w' := by
  cases h1 : madeB l11 l12 <;> cases h2 : madeB l21 l22
  · exact products_nn f1 f2 g1 g2 l11 l12 l21 l22 w rf1 rf2 rg1 rg2 (Lib.hid h1) (Lib.hid h2)
  · exact products_ny f1 f2 g1 g2 l11 l12 l21 l22 w rf1 rf2 rg1 rg2 S21 S22 (Lib.hid h1) (Lib.hid h2)
  · exact products_yn f1 f2 g1 g2 l11 l12 l21 l22 w rf1 rf2 rg1 rg2 S11 S12 (Lib.hid h1) (Lib.hid h2)
  · exact products_yy f1 f2 g1 g2 l11 l12 l21 l22 w rf1 rf2 rg1 rg2 S11 S12 S21 S22 (Lib.hid h1) (Lib.hid h2)
end Go.Proofs.YtnfoblmfjldheaaDoor
