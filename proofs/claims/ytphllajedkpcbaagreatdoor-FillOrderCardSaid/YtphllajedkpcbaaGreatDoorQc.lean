/-
  Cmp, Floor, Good, Int, Sub, Add, Mul, Div of ratio: their answers, in naturals. Condition: not more than a hundred limbs.
-/
import Derived.Test.YtphllajedkpcbaaGreatDoorQa
namespace Go.Proofs.YtphllajedkpcbaaGreatDoor
open Go.RowKit Go.Dig Go.Shelf Go.Proofs

theorem nGood_nat (v : Value) (x : Nat) (w : World) (h : RowU w v (L x)) (hl : (L x).length ≤ 1000) : Calls Tryz.prog 81 #[v] w fun e w' => e = .returned (.bool true) ∧ w = w' := by
  have h1 := nGood_any v (L x) w h (by omega)
  rw [goodB_L] at h1
  exact h1
theorem gcd_len (x : Nat) {y n : Nat} (hy : y ≠ 0) (h : (L y).length ≤ n) : (L (Nat.gcd x y)).length ≤ n := Nat.le_trans (len_mono (gcd_le_r x hy)) h
theorem of_zero (v0 v1 : Value) (b : Nat) (w : World) (h1 : RowU w v1 (L b)) (l1 : (L b).length ≤ 1000) (hb : b = 0) :
    Calls Tryz.prog 20 #[v0, v1] w fun e w' => e = .returned (.tuple #[.agg #[.slice none 0 0, .slice none 0 0], .int .i64 16]) ∧ Below w.heap.size w w' := by
  have hp := Pair.new w 29 (.slice none 0 0) (.slice none 0 0)
  have hB : Below w.heap.size w (w.alloc (.cells #[.slice none 0 0, .slice none 0 0] 29)) := (Below.refl _ w).alloc (Nat.le_refl _) _
  have H1 := Lib.hid (isZero_nat v1 b _ (h1.below hB) l1 true (by simp [hb]))
  clear hb l1
  go_enter Tryz.func20, Tryz.ntmps20
  go_wp2_with fail
  refine H1.out.mono ?_
  rintro e w1 ⟨rfl, hb⟩
  replace hp := hp.below hb
  replace hB := hB.trans (hb.mono hB.size)
  clear hb H1
  have hc0 := hp.c0
  have hc1 := hp.c1
  have hz0 := hp.z0
  have hz1 := hp.z1
  go_wp2_with fail
  replace hp := hp.set (.slice none 0 0) (.slice none 0 0)
  replace hB := Below.pset hB (Nat.le_refl _) (.slice none 0 0) (.slice none 0 0)
  generalize (w1.setCell ⟨w.heap.size, 0, none⟩ (.slice none 0 0)).setCell ⟨w.heap.size, 1, none⟩ (.slice none 0 0) = W at hp hB ⊢
  refine bodyPost_ret (v := .tuple #[.agg #[.slice none 0 0, .slice none 0 0], .int .i64 16]) ?_ rfl ⟨rfl, hB⟩
  simp [results, Tryz.f20, go_sem, hp.c0, hp.c1]

set_option maxRecDepth 100000 in
set_option maxHeartbeats 4000000 in
theorem qcmp_nat (a1 b1 a2 b2 : Sl) (a b c d : Nat) (w : World) (ra1 : RU w a1 a) (rb1 : RU w b1 b) (ra2 : RU w a2 c) (rb2 : RU w b2 d) (la : Hid ((L a).length ≤ 100)) (lb : Hid ((L b).length ≤ 100)) (lc : Hid ((L c).length ≤ 100)) (ld : Hid ((L d).length ≤ 100)) :
    Calls Tryz.prog 16 #[.agg #[.slice a1.a a1.n a1.c, .slice b1.a b1.n b1.c], .agg #[.slice a2.a a2.n a2.c, .slice b2.a b2.n b2.c]] w fun e w' => e = .returned (.int .i64 (cmpZ (a * d) (c * b))) ∧ Below w.heap.size w w' := by
  go_enter Tryz.func16, Tryz.ntmps16
  have hb : Below w.heap.size w ((w.alloc (.cells #[.slice a1.a a1.n a1.c, .slice b1.a b1.n b1.c] 29)).alloc (.cells #[.slice a2.a a2.n a2.c, .slice b2.a b2.n b2.c] 29)) := (((Below.refl _ _).alloc (Nat.le_refl _) _).alloc (by simp) _)
  replace ra1 := ra1.below hb
  replace rb1 := rb1.below hb
  replace ra2 := ra2.below hb
  replace rb2 := rb2.below hb
  have hB := hb
  have P1 : Pair ((w.alloc (.cells #[.slice a1.a a1.n a1.c, .slice b1.a b1.n b1.c] 29)).alloc (.cells #[.slice a2.a a2.n a2.c, .slice b2.a b2.n b2.c] 29)) (w.heap.size) 29 (.slice a1.a a1.n a1.c) (.slice b1.a b1.n b1.c) := by
    have h := (Pair.new w 29 (.slice a1.a a1.n a1.c) (.slice b1.a b1.n b1.c)).alloc (.cells #[.slice a2.a a2.n a2.c, .slice b2.a b2.n b2.c] 29)
    simpa only [World.size_alloc] using h
  have P2 : Pair ((w.alloc (.cells #[.slice a1.a a1.n a1.c, .slice b1.a b1.n b1.c] 29)).alloc (.cells #[.slice a2.a a2.n a2.c, .slice b2.a b2.n b2.c] 29)) (w.heap.size + 1) 29 (.slice a2.a a2.n a2.c) (.slice b2.a b2.n b2.c) := by
    have h := Pair.new (w.alloc (.cells #[.slice a1.a a1.n a1.c, .slice b1.a b1.n b1.c] 29)) 29 (.slice a2.a a2.n a2.c) (.slice b2.a b2.n b2.c)
    simpa only [World.size_alloc] using h
  clear hb
  have c0P1 := P1.c0
  have c1P1 := P1.c1
  have c0P2 := P2.c0
  have c1P2 := P2.c1
  have H5 := Lib.hid (crossed_nat a1 b1 a2 b2 (a) (b) (c) (d) ((w.alloc (.cells #[.slice a1.a a1.n a1.c, .slice b1.a b1.n b1.c] 29)).alloc (.cells #[.slice a2.a a2.n a2.c, .slice b2.a b2.n b2.c] 29)) ra1 rb1 ra2 rb2 (Lib.hid (Nat.le_trans la.out (by omega))) (Lib.hid (Nat.le_trans lb.out (by omega))) (Lib.hid (Nat.le_trans lc.out (by omega))) (Lib.hid (Nat.le_trans ld.out (by omega))))
  go_wp2_with fail
  clear c0P1 c1P1 c0P2 c1P2
  refine H5.out.mono ?_
  rintro e w6 ⟨x3, x4, rfl, rx3, rx4, hb⟩
  clear H5
  replace P1 := P1.below hb
  replace P2 := P2.below hb
  replace ra1 := ra1.below hb
  replace rb1 := rb1.below hb
  replace ra2 := ra2.below hb
  replace rb2 := rb2.below hb
  replace hB := hB.trans (hb.mono hB.size)
  clear hb
  have HLx3 : Hid ((L (a * d)).length ≤ 200) := Lib.hid (len_mul_le la.out ld.out)
  have HLx4 : Hid ((L (c * b)).length ≤ 200) := Lib.hid (len_mul_le lc.out lb.out)
  have c0P1 := P1.c0
  have c1P1 := P1.c1
  have c0P2 := P2.c0
  have c1P2 := P2.c1
  have H7 := Lib.hid (cmp_nat (.slice x3.a x3.n x3.c) (.slice x4.a x4.n x4.c) (a * d) (c * b) w6 rx3 rx4 (Nat.le_trans HLx3.out (by omega)) (Nat.le_trans HLx4.out (by omega)))
  go_wp2_with fail
  clear c0P1 c1P1 c0P2 c1P2
  refine H7.out.mono ?_
  rintro e w8 ⟨rfl, hb⟩
  clear H7
  replace P1 := P1.below hb
  replace P2 := P2.below hb
  replace ra1 := ra1.below hb
  replace rb1 := rb1.below hb
  replace ra2 := ra2.below hb
  replace rb2 := rb2.below hb
  replace rx3 := rx3.below hb
  replace rx4 := rx4.below hb
  replace hB := hB.trans (hb.mono hB.size)
  clear hb
  go_wp2_with fail
  go_ret
  exact ⟨rfl, hB⟩

set_option maxRecDepth 100000 in
set_option maxHeartbeats 4000000 in
set_option maxRecDepth 100000 in
set_option maxHeartbeats 4000000 in
theorem qgood_nat (a1 b1 : Sl) (a b : Nat) (w : World) (ra1 : RU w a1 a) (rb1 : RU w b1 b) (la : Hid ((L a).length ≤ 500)) (lb : Hid ((L b).length ≤ 500)) (HNE : Hid (b ≠ 0)) (t : Bool) (HT : Hid (t = decide (Nat.gcd a b = 1))) :
    Calls Tryz.prog 52 #[.agg #[.slice a1.a a1.n a1.c, .slice b1.a b1.n b1.c]] w fun e w' => e = .returned (.bool t) ∧ Below w.heap.size w w' := by
  go_enter Tryz.func52, Tryz.ntmps52
  have hb : Below w.heap.size w (w.alloc (.cells #[.slice a1.a a1.n a1.c, .slice b1.a b1.n b1.c] 29)) := ((Below.refl _ _).alloc (Nat.le_refl _) _)
  replace ra1 := ra1.below hb
  replace rb1 := rb1.below hb
  have hB := hb
  have P1 : Pair (w.alloc (.cells #[.slice a1.a a1.n a1.c, .slice b1.a b1.n b1.c] 29)) (w.heap.size) 29 (.slice a1.a a1.n a1.c) (.slice b1.a b1.n b1.c) := by
    have h := Pair.new w 29 (.slice a1.a a1.n a1.c) (.slice b1.a b1.n b1.c)
    simpa only [World.size_alloc] using h
  clear hb
  have c0P1 := P1.c0
  have c1P1 := P1.c1
  have H2 := Lib.hid (nGood_nat (.slice a1.a a1.n a1.c) (a) (w.alloc (.cells #[.slice a1.a a1.n a1.c, .slice b1.a b1.n b1.c] 29)) ra1 (Nat.le_trans la.out (by omega)))
  go_wp2_with fail
  clear c0P1 c1P1
  refine H2.out.mono ?_
  rintro e w3 ⟨rfl, rfl⟩
  clear H2
  have c0P1 := P1.c0
  have c1P1 := P1.c1
  have H4 := Lib.hid (nGood_nat (.slice b1.a b1.n b1.c) (b) (w.alloc (.cells #[.slice a1.a a1.n a1.c, .slice b1.a b1.n b1.c] 29)) rb1 (Nat.le_trans lb.out (by omega)))
  go_wp2_with fail
  clear c0P1 c1P1
  refine H4.out.mono ?_
  rintro e w5 ⟨rfl, rfl⟩
  clear H4
  have c0P1 := P1.c0
  have c1P1 := P1.c1
  have H6 := Lib.hid (isZero_nat (.slice b1.a b1.n b1.c) (b) (w.alloc (.cells #[.slice a1.a a1.n a1.c, .slice b1.a b1.n b1.c] 29)) rb1 (Nat.le_trans lb.out (by omega)) false (by simp [HNE.out]))
  go_wp2_with fail
  clear c0P1 c1P1
  refine H6.out.mono ?_
  rintro e w7 ⟨rfl, hb⟩
  clear H6
  replace P1 := P1.below hb
  replace ra1 := ra1.below hb
  replace rb1 := rb1.below hb
  replace hB := hB.trans (hb.mono hB.size)
  clear hb
  have c0P1 := P1.c0
  have c1P1 := P1.c1
  have H10 := Lib.hid (gcd_nat (.slice a1.a a1.n a1.c) (.slice b1.a b1.n b1.c) (a) (b) w7 ra1 rb1 (Nat.le_trans la.out (by omega)) (Nat.le_trans lb.out (by omega)))
  go_wp2_with fail
  clear c0P1 c1P1
  refine H10.out.mono ?_
  rintro e w11 ⟨v9, rfl, rx8, hb⟩
  clear H10
  replace P1 := P1.below hb
  replace ra1 := ra1.below hb
  replace rb1 := rb1.below hb
  replace hB := hB.trans (hb.mono hB.size)
  clear hb
  obtain ⟨x8, rfl, rx8⟩ := rx8.sl
  have HLx8 : Hid ((L (Nat.gcd a b)).length ≤ 500) := Lib.hid (gcd_len a HNE.out lb.out)
  have c0P1 := P1.c0
  have c1P1 := P1.c1
  have H12 := Lib.hid (isOne_nat (.slice x8.a x8.n x8.c) (Nat.gcd a b) w11 rx8 (Nat.le_trans HLx8.out (by omega)) t HT.out)
  go_wp2_with fail
  clear c0P1 c1P1
  refine H12.out.mono ?_
  rintro e w13 ⟨rfl, hb⟩
  clear H12
  replace P1 := P1.below hb
  replace ra1 := ra1.below hb
  replace rb1 := rb1.below hb
  replace rx8 := rx8.below hb
  replace hB := hB.trans (hb.mono hB.size)
  clear hb
  go_wp2_with fail
  go_ret
  exact ⟨rfl, hB⟩

set_option maxRecDepth 100000 in
set_option maxHeartbeats 4000000 in
theorem qsub_nat (a1 b1 a2 b2 : Sl) (a b c d : Nat) (w : World) (ra1 : RU w a1 a) (rb1 : RU w b1 b) (ra2 : RU w a2 c) (rb2 : RU w b2 d) (la : Hid ((L a).length ≤ 100)) (lb : Hid ((L b).length ≤ 100)) (lc : Hid ((L c).length ≤ 100)) (ld : Hid ((L d).length ≤ 100)) (HLE : Hid (c * b ≤ a * d)) (HNE : Hid (b * d ≠ 0)) :
    Calls Tryz.prog 60 #[.agg #[.slice a1.a a1.n a1.c, .slice b1.a b1.n b1.c], .agg #[.slice a2.a a2.n a2.c, .slice b2.a b2.n b2.c]] w fun e w' => ∃ p q : Sl, e = .returned (.tuple #[.agg #[.slice p.a p.n p.c, .slice q.a q.n q.c], .int .i64 0]) ∧ RU w' p (((a * d) - (c * b)) / Nat.gcd ((a * d) - (c * b)) (b * d)) ∧ RU w' q ((b * d) / Nat.gcd ((a * d) - (c * b)) (b * d)) ∧ Below w.heap.size w w' := by
  go_enter Tryz.func60, Tryz.ntmps60
  have hb : Below w.heap.size w (((w.alloc (.cells #[.slice a1.a a1.n a1.c, .slice b1.a b1.n b1.c] 29)).alloc (.cells #[.slice a2.a a2.n a2.c, .slice b2.a b2.n b2.c] 29)).alloc (.cells #[.slice none 0 0, .slice none 0 0] 29)) := ((((Below.refl _ _).alloc (Nat.le_refl _) _).alloc (by simp) _).alloc (by simp; omega) _)
  replace ra1 := ra1.below hb
  replace rb1 := rb1.below hb
  replace ra2 := ra2.below hb
  replace rb2 := rb2.below hb
  have hB := hb
  have P1 : Pair (((w.alloc (.cells #[.slice a1.a a1.n a1.c, .slice b1.a b1.n b1.c] 29)).alloc (.cells #[.slice a2.a a2.n a2.c, .slice b2.a b2.n b2.c] 29)).alloc (.cells #[.slice none 0 0, .slice none 0 0] 29)) (w.heap.size) 29 (.slice a1.a a1.n a1.c) (.slice b1.a b1.n b1.c) := by
    have h := ((Pair.new w 29 (.slice a1.a a1.n a1.c) (.slice b1.a b1.n b1.c)).alloc (.cells #[.slice a2.a a2.n a2.c, .slice b2.a b2.n b2.c] 29)).alloc (.cells #[.slice none 0 0, .slice none 0 0] 29)
    simpa only [World.size_alloc] using h
  have P2 : Pair (((w.alloc (.cells #[.slice a1.a a1.n a1.c, .slice b1.a b1.n b1.c] 29)).alloc (.cells #[.slice a2.a a2.n a2.c, .slice b2.a b2.n b2.c] 29)).alloc (.cells #[.slice none 0 0, .slice none 0 0] 29)) (w.heap.size + 1) 29 (.slice a2.a a2.n a2.c) (.slice b2.a b2.n b2.c) := by
    have h := (Pair.new (w.alloc (.cells #[.slice a1.a a1.n a1.c, .slice b1.a b1.n b1.c] 29)) 29 (.slice a2.a a2.n a2.c) (.slice b2.a b2.n b2.c)).alloc (.cells #[.slice none 0 0, .slice none 0 0] 29)
    simpa only [World.size_alloc] using h
  have P3 : Pair (((w.alloc (.cells #[.slice a1.a a1.n a1.c, .slice b1.a b1.n b1.c] 29)).alloc (.cells #[.slice a2.a a2.n a2.c, .slice b2.a b2.n b2.c] 29)).alloc (.cells #[.slice none 0 0, .slice none 0 0] 29)) (w.heap.size + 1 + 1) 29 (.slice none 0 0) (.slice none 0 0) := by
    have h := Pair.new ((w.alloc (.cells #[.slice a1.a a1.n a1.c, .slice b1.a b1.n b1.c] 29)).alloc (.cells #[.slice a2.a a2.n a2.c, .slice b2.a b2.n b2.c] 29)) 29 (.slice none 0 0) (.slice none 0 0)
    simpa only [World.size_alloc] using h
  clear hb
  have c0P1 := P1.c0
  have c1P1 := P1.c1
  have c0P2 := P2.c0
  have c1P2 := P2.c1
  have c0P3 := P3.c0
  have c1P3 := P3.c1
  have H6 := Lib.hid (crossed_nat a1 b1 a2 b2 (a) (b) (c) (d) (((w.alloc (.cells #[.slice a1.a a1.n a1.c, .slice b1.a b1.n b1.c] 29)).alloc (.cells #[.slice a2.a a2.n a2.c, .slice b2.a b2.n b2.c] 29)).alloc (.cells #[.slice none 0 0, .slice none 0 0] 29)) ra1 rb1 ra2 rb2 (Lib.hid (Nat.le_trans la.out (by omega))) (Lib.hid (Nat.le_trans lb.out (by omega))) (Lib.hid (Nat.le_trans lc.out (by omega))) (Lib.hid (Nat.le_trans ld.out (by omega))))
  go_wp2_with fail
  clear c0P1 c1P1 c0P2 c1P2 c0P3 c1P3
  refine H6.out.mono ?_
  rintro e w7 ⟨x4, x5, rfl, rx4, rx5, hb⟩
  clear H6
  replace P1 := P1.below hb
  replace P2 := P2.below hb
  replace P3 := P3.below hb
  replace ra1 := ra1.below hb
  replace rb1 := rb1.below hb
  replace ra2 := ra2.below hb
  replace rb2 := rb2.below hb
  replace hB := hB.trans (hb.mono hB.size)
  clear hb
  have HLx4 : Hid ((L (a * d)).length ≤ 200) := Lib.hid (len_mul_le la.out ld.out)
  have HLx5 : Hid ((L (c * b)).length ≤ 200) := Lib.hid (len_mul_le lc.out lb.out)
  have c0P1 := P1.c0
  have c1P1 := P1.c1
  have c0P2 := P2.c0
  have c1P2 := P2.c1
  have c0P3 := P3.c0
  have c1P3 := P3.c1
  have H10 := Lib.hid (sub_nat (.slice x4.a x4.n x4.c) (.slice x5.a x5.n x5.c) (a * d) (c * b) w7 rx4 rx5 (Nat.le_trans HLx4.out (by omega)) HLE.out)
  go_wp2_with fail
  clear c0P1 c1P1 c0P2 c1P2 c0P3 c1P3
  refine H10.out.mono ?_
  rintro e w11 ⟨v9, rfl, rx8, hb⟩
  clear H10
  replace P1 := P1.below hb
  replace P2 := P2.below hb
  replace P3 := P3.below hb
  replace ra1 := ra1.below hb
  replace rb1 := rb1.below hb
  replace ra2 := ra2.below hb
  replace rb2 := rb2.below hb
  replace rx4 := rx4.below hb
  replace rx5 := rx5.below hb
  replace hB := hB.trans (hb.mono hB.size)
  clear hb
  obtain ⟨x8, rfl, rx8⟩ := rx8.sl
  have HLx8 : Hid ((L ((a * d) - (c * b))).length ≤ 200) := Lib.hid (len_sub_le HLx4.out)
  have c0P1 := P1.c0
  have c1P1 := P1.c1
  have c0P2 := P2.c0
  have c1P2 := P2.c1
  have c0P3 := P3.c0
  have c1P3 := P3.c1
  have H14 := Lib.hid (mul_nat (.slice b1.a b1.n b1.c) (.slice b2.a b2.n b2.c) (b) (d) w11 rb1 rb2 (Nat.le_trans lb.out (by omega)) (Nat.le_trans ld.out (by omega)))
  go_wp2_with fail
  clear c0P1 c1P1 c0P2 c1P2 c0P3 c1P3
  refine H14.out.mono ?_
  rintro e w15 ⟨v13, rfl, rx12, hb⟩
  clear H14
  replace P1 := P1.below hb
  replace P2 := P2.below hb
  replace P3 := P3.below hb
  replace ra1 := ra1.below hb
  replace rb1 := rb1.below hb
  replace ra2 := ra2.below hb
  replace rb2 := rb2.below hb
  replace rx4 := rx4.below hb
  replace rx5 := rx5.below hb
  replace rx8 := rx8.below hb
  replace hB := hB.trans (hb.mono hB.size)
  clear hb
  obtain ⟨x12, rfl, rx12⟩ := rx12.sl
  have HLx12 : Hid ((L (b * d)).length ≤ 200) := Lib.hid (len_mul_le lb.out ld.out)
  have c0P1 := P1.c0
  have c1P1 := P1.c1
  have c0P2 := P2.c0
  have c1P2 := P2.c1
  have c0P3 := P3.c0
  have c1P3 := P3.c1
  have H18 := Lib.hid (of_nat (.slice x8.a x8.n x8.c) (.slice x12.a x12.n x12.c) ((a * d) - (c * b)) (b * d) w15 rx8 rx12 (Nat.le_trans HLx8.out (by omega)) (Nat.le_trans HLx12.out (by omega)) HNE.out)
  go_wp2_with fail
  clear c0P1 c1P1 c0P2 c1P2 c0P3 c1P3
  refine H18.out.mono ?_
  rintro e w19 ⟨x16, x17, rfl, rx16, rx17, hb⟩
  clear H18
  replace P1 := P1.below hb
  replace P2 := P2.below hb
  replace P3 := P3.below hb
  replace ra1 := ra1.below hb
  replace rb1 := rb1.below hb
  replace ra2 := ra2.below hb
  replace rb2 := rb2.below hb
  replace rx4 := rx4.below hb
  replace rx5 := rx5.below hb
  replace rx8 := rx8.below hb
  replace rx12 := rx12.below hb
  replace hB := hB.trans (hb.mono hB.size)
  clear hb
  have HLx16 : Hid ((L (((a * d) - (c * b)) / Nat.gcd ((a * d) - (c * b)) (b * d))).length ≤ 200) := Lib.hid (len_div_le HLx8.out)
  have HLx17 : Hid ((L ((b * d) / Nat.gcd ((a * d) - (c * b)) (b * d))).length ≤ 200) := Lib.hid (len_div_le HLx12.out)
  have c0P1 := P1.c0
  have c1P1 := P1.c1
  have c0P2 := P2.c0
  have c1P2 := P2.c1
  have c0P3 := P3.c0
  have c1P3 := P3.c1
  have z0P3 := P3.z0
  have z1P3 := P3.z1
  go_wp2_with fail
  replace ra1 := ra1.pset P3 (.slice x16.a x16.n x16.c) (.slice x17.a x17.n x17.c)
  replace rb1 := rb1.pset P3 (.slice x16.a x16.n x16.c) (.slice x17.a x17.n x17.c)
  replace ra2 := ra2.pset P3 (.slice x16.a x16.n x16.c) (.slice x17.a x17.n x17.c)
  replace rb2 := rb2.pset P3 (.slice x16.a x16.n x16.c) (.slice x17.a x17.n x17.c)
  replace rx4 := rx4.pset P3 (.slice x16.a x16.n x16.c) (.slice x17.a x17.n x17.c)
  replace rx5 := rx5.pset P3 (.slice x16.a x16.n x16.c) (.slice x17.a x17.n x17.c)
  replace rx8 := rx8.pset P3 (.slice x16.a x16.n x16.c) (.slice x17.a x17.n x17.c)
  replace rx12 := rx12.pset P3 (.slice x16.a x16.n x16.c) (.slice x17.a x17.n x17.c)
  replace rx16 := rx16.pset P3 (.slice x16.a x16.n x16.c) (.slice x17.a x17.n x17.c)
  replace rx17 := rx17.pset P3 (.slice x16.a x16.n x16.c) (.slice x17.a x17.n x17.c)
  replace hB := Below.pset hB (by omega : w.heap.size ≤ w.heap.size + 1 + 1) (.slice x16.a x16.n x16.c) (.slice x17.a x17.n x17.c)
  have P3x := P3.set (.slice x16.a x16.n x16.c) (.slice x17.a x17.n x17.c)
  generalize (w19.setCell ⟨w.heap.size + 1 + 1, 0, none⟩ (.slice x16.a x16.n x16.c)).setCell ⟨w.heap.size + 1 + 1, 1, none⟩ (.slice x17.a x17.n x17.c) = WW at ra1 rb1 ra2 rb2 rx4 rx5 rx8 rx12 rx16 rx17 P3x hB ⊢
  refine bodyPost_ret (v := .tuple #[.agg #[.slice x16.a x16.n x16.c, .slice x17.a x17.n x17.c], .int .i64 0]) ?_ rfl (⟨x16, x17, rfl, rx16, rx17, hB⟩)
  simp [results, Tryz.f60, go_sem, P3x.c0, P3x.c1]

set_option maxRecDepth 100000 in
set_option maxHeartbeats 4000000 in
theorem qsub_less (a1 b1 a2 b2 : Sl) (a b c d : Nat) (w : World) (ra1 : RU w a1 a) (rb1 : RU w b1 b) (ra2 : RU w a2 c) (rb2 : RU w b2 d) (la : Hid ((L a).length ≤ 100)) (lb : Hid ((L b).length ≤ 100)) (lc : Hid ((L c).length ≤ 100)) (ld : Hid ((L d).length ≤ 100)) (HLT : Hid (a * d < c * b)) :
    Calls Tryz.prog 60 #[.agg #[.slice a1.a a1.n a1.c, .slice b1.a b1.n b1.c], .agg #[.slice a2.a a2.n a2.c, .slice b2.a b2.n b2.c]] w fun e w' => e = .returned (.tuple #[.agg #[.slice none 0 0, .slice none 0 0], .int .i64 14]) ∧ Below w.heap.size w w' := by
  go_enter Tryz.func60, Tryz.ntmps60
  have hb : Below w.heap.size w (((w.alloc (.cells #[.slice a1.a a1.n a1.c, .slice b1.a b1.n b1.c] 29)).alloc (.cells #[.slice a2.a a2.n a2.c, .slice b2.a b2.n b2.c] 29)).alloc (.cells #[.slice none 0 0, .slice none 0 0] 29)) := ((((Below.refl _ _).alloc (Nat.le_refl _) _).alloc (by simp) _).alloc (by simp; omega) _)
  replace ra1 := ra1.below hb
  replace rb1 := rb1.below hb
  replace ra2 := ra2.below hb
  replace rb2 := rb2.below hb
  have hB := hb
  have P1 : Pair (((w.alloc (.cells #[.slice a1.a a1.n a1.c, .slice b1.a b1.n b1.c] 29)).alloc (.cells #[.slice a2.a a2.n a2.c, .slice b2.a b2.n b2.c] 29)).alloc (.cells #[.slice none 0 0, .slice none 0 0] 29)) (w.heap.size) 29 (.slice a1.a a1.n a1.c) (.slice b1.a b1.n b1.c) := by
    have h := ((Pair.new w 29 (.slice a1.a a1.n a1.c) (.slice b1.a b1.n b1.c)).alloc (.cells #[.slice a2.a a2.n a2.c, .slice b2.a b2.n b2.c] 29)).alloc (.cells #[.slice none 0 0, .slice none 0 0] 29)
    simpa only [World.size_alloc] using h
  have P2 : Pair (((w.alloc (.cells #[.slice a1.a a1.n a1.c, .slice b1.a b1.n b1.c] 29)).alloc (.cells #[.slice a2.a a2.n a2.c, .slice b2.a b2.n b2.c] 29)).alloc (.cells #[.slice none 0 0, .slice none 0 0] 29)) (w.heap.size + 1) 29 (.slice a2.a a2.n a2.c) (.slice b2.a b2.n b2.c) := by
    have h := (Pair.new (w.alloc (.cells #[.slice a1.a a1.n a1.c, .slice b1.a b1.n b1.c] 29)) 29 (.slice a2.a a2.n a2.c) (.slice b2.a b2.n b2.c)).alloc (.cells #[.slice none 0 0, .slice none 0 0] 29)
    simpa only [World.size_alloc] using h
  have P3 : Pair (((w.alloc (.cells #[.slice a1.a a1.n a1.c, .slice b1.a b1.n b1.c] 29)).alloc (.cells #[.slice a2.a a2.n a2.c, .slice b2.a b2.n b2.c] 29)).alloc (.cells #[.slice none 0 0, .slice none 0 0] 29)) (w.heap.size + 1 + 1) 29 (.slice none 0 0) (.slice none 0 0) := by
    have h := Pair.new ((w.alloc (.cells #[.slice a1.a a1.n a1.c, .slice b1.a b1.n b1.c] 29)).alloc (.cells #[.slice a2.a a2.n a2.c, .slice b2.a b2.n b2.c] 29)) 29 (.slice none 0 0) (.slice none 0 0)
    simpa only [World.size_alloc] using h
  clear hb
  have c0P1 := P1.c0
  have c1P1 := P1.c1
  have c0P2 := P2.c0
  have c1P2 := P2.c1
  have c0P3 := P3.c0
  have c1P3 := P3.c1
  have H6 := Lib.hid (crossed_nat a1 b1 a2 b2 (a) (b) (c) (d) (((w.alloc (.cells #[.slice a1.a a1.n a1.c, .slice b1.a b1.n b1.c] 29)).alloc (.cells #[.slice a2.a a2.n a2.c, .slice b2.a b2.n b2.c] 29)).alloc (.cells #[.slice none 0 0, .slice none 0 0] 29)) ra1 rb1 ra2 rb2 (Lib.hid (Nat.le_trans la.out (by omega))) (Lib.hid (Nat.le_trans lb.out (by omega))) (Lib.hid (Nat.le_trans lc.out (by omega))) (Lib.hid (Nat.le_trans ld.out (by omega))))
  go_wp2_with fail
  clear c0P1 c1P1 c0P2 c1P2 c0P3 c1P3
  refine H6.out.mono ?_
  rintro e w7 ⟨x4, x5, rfl, rx4, rx5, hb⟩
  clear H6
  replace P1 := P1.below hb
  replace P2 := P2.below hb
  replace P3 := P3.below hb
  replace ra1 := ra1.below hb
  replace rb1 := rb1.below hb
  replace ra2 := ra2.below hb
  replace rb2 := rb2.below hb
  replace hB := hB.trans (hb.mono hB.size)
  clear hb
  have HLx4 : Hid ((L (a * d)).length ≤ 200) := Lib.hid (len_mul_le la.out ld.out)
  have HLx5 : Hid ((L (c * b)).length ≤ 200) := Lib.hid (len_mul_le lc.out lb.out)
  have c0P1 := P1.c0
  have c1P1 := P1.c1
  have c0P2 := P2.c0
  have c1P2 := P2.c1
  have c0P3 := P3.c0
  have c1P3 := P3.c1
  have H8 := Lib.hid (nSub_less (.slice x4.a x4.n x4.c) (.slice x5.a x5.n x5.c) (a * d) (c * b) w7 rx4 rx5 (Nat.le_trans HLx4.out (by omega)) (Nat.le_trans HLx5.out (by omega)) HLT.out)
  go_wp2_with fail
  clear c0P1 c1P1 c0P2 c1P2 c0P3 c1P3
  refine H8.out.mono ?_
  rintro e w9 ⟨rfl, hb⟩
  clear H8
  replace P1 := P1.below hb
  replace P2 := P2.below hb
  replace P3 := P3.below hb
  replace ra1 := ra1.below hb
  replace rb1 := rb1.below hb
  replace ra2 := ra2.below hb
  replace rb2 := rb2.below hb
  replace rx4 := rx4.below hb
  replace rx5 := rx5.below hb
  replace hB := hB.trans (hb.mono hB.size)
  clear hb
  have c0P1 := P1.c0
  have c1P1 := P1.c1
  have c0P2 := P2.c0
  have c1P2 := P2.c1
  have c0P3 := P3.c0
  have c1P3 := P3.c1
  have z0P3 := P3.z0
  have z1P3 := P3.z1
  go_wp2_with fail
  replace ra1 := ra1.pset P3 (.slice none 0 0) (.slice none 0 0)
  replace rb1 := rb1.pset P3 (.slice none 0 0) (.slice none 0 0)
  replace ra2 := ra2.pset P3 (.slice none 0 0) (.slice none 0 0)
  replace rb2 := rb2.pset P3 (.slice none 0 0) (.slice none 0 0)
  replace rx4 := rx4.pset P3 (.slice none 0 0) (.slice none 0 0)
  replace rx5 := rx5.pset P3 (.slice none 0 0) (.slice none 0 0)
  replace hB := Below.pset hB (by omega : w.heap.size ≤ w.heap.size + 1 + 1) (.slice none 0 0) (.slice none 0 0)
  have P3x := P3.set (.slice none 0 0) (.slice none 0 0)
  generalize (w9.setCell ⟨w.heap.size + 1 + 1, 0, none⟩ (.slice none 0 0)).setCell ⟨w.heap.size + 1 + 1, 1, none⟩ (.slice none 0 0) = WW at ra1 rb1 ra2 rb2 rx4 rx5 P3x hB ⊢
  refine bodyPost_ret (v := .tuple #[.agg #[.slice none 0 0, .slice none 0 0], .int .i64 14]) ?_ rfl (⟨rfl, hB⟩)
  simp [results, Tryz.f60, go_sem, P3x.c0, P3x.c1]

set_option maxRecDepth 100000 in
set_option maxHeartbeats 4000000 in
theorem qdiv_nat (a1 b1 a2 b2 : Sl) (a b c d : Nat) (w : World) (ra1 : RU w a1 a) (rb1 : RU w b1 b) (ra2 : RU w a2 c) (rb2 : RU w b2 d) (la : Hid ((L a).length ≤ 100)) (lb : Hid ((L b).length ≤ 100)) (lc : Hid ((L c).length ≤ 100)) (ld : Hid ((L d).length ≤ 100)) (HNE : Hid (c * b ≠ 0)) :
    Calls Tryz.prog 59 #[.agg #[.slice a1.a a1.n a1.c, .slice b1.a b1.n b1.c], .agg #[.slice a2.a a2.n a2.c, .slice b2.a b2.n b2.c]] w fun e w' => ∃ p q : Sl, e = .returned (.tuple #[.agg #[.slice p.a p.n p.c, .slice q.a q.n q.c], .int .i64 0]) ∧ RU w' p ((a * d) / Nat.gcd (a * d) (c * b)) ∧ RU w' q ((c * b) / Nat.gcd (a * d) (c * b)) ∧ Below w.heap.size w w' := by
  go_enter Tryz.func59, Tryz.ntmps59
  have hb : Below w.heap.size w (((w.alloc (.cells #[.slice a1.a a1.n a1.c, .slice b1.a b1.n b1.c] 29)).alloc (.cells #[.slice a2.a a2.n a2.c, .slice b2.a b2.n b2.c] 29)).alloc (.cells #[.slice none 0 0, .slice none 0 0] 29)) := ((((Below.refl _ _).alloc (Nat.le_refl _) _).alloc (by simp) _).alloc (by simp; omega) _)
  replace ra1 := ra1.below hb
  replace rb1 := rb1.below hb
  replace ra2 := ra2.below hb
  replace rb2 := rb2.below hb
  have hB := hb
  have P1 : Pair (((w.alloc (.cells #[.slice a1.a a1.n a1.c, .slice b1.a b1.n b1.c] 29)).alloc (.cells #[.slice a2.a a2.n a2.c, .slice b2.a b2.n b2.c] 29)).alloc (.cells #[.slice none 0 0, .slice none 0 0] 29)) (w.heap.size) 29 (.slice a1.a a1.n a1.c) (.slice b1.a b1.n b1.c) := by
    have h := ((Pair.new w 29 (.slice a1.a a1.n a1.c) (.slice b1.a b1.n b1.c)).alloc (.cells #[.slice a2.a a2.n a2.c, .slice b2.a b2.n b2.c] 29)).alloc (.cells #[.slice none 0 0, .slice none 0 0] 29)
    simpa only [World.size_alloc] using h
  have P2 : Pair (((w.alloc (.cells #[.slice a1.a a1.n a1.c, .slice b1.a b1.n b1.c] 29)).alloc (.cells #[.slice a2.a a2.n a2.c, .slice b2.a b2.n b2.c] 29)).alloc (.cells #[.slice none 0 0, .slice none 0 0] 29)) (w.heap.size + 1) 29 (.slice a2.a a2.n a2.c) (.slice b2.a b2.n b2.c) := by
    have h := (Pair.new (w.alloc (.cells #[.slice a1.a a1.n a1.c, .slice b1.a b1.n b1.c] 29)) 29 (.slice a2.a a2.n a2.c) (.slice b2.a b2.n b2.c)).alloc (.cells #[.slice none 0 0, .slice none 0 0] 29)
    simpa only [World.size_alloc] using h
  have P3 : Pair (((w.alloc (.cells #[.slice a1.a a1.n a1.c, .slice b1.a b1.n b1.c] 29)).alloc (.cells #[.slice a2.a a2.n a2.c, .slice b2.a b2.n b2.c] 29)).alloc (.cells #[.slice none 0 0, .slice none 0 0] 29)) (w.heap.size + 1 + 1) 29 (.slice none 0 0) (.slice none 0 0) := by
    have h := Pair.new ((w.alloc (.cells #[.slice a1.a a1.n a1.c, .slice b1.a b1.n b1.c] 29)).alloc (.cells #[.slice a2.a a2.n a2.c, .slice b2.a b2.n b2.c] 29)) 29 (.slice none 0 0) (.slice none 0 0)
    simpa only [World.size_alloc] using h
  clear hb
  have c0P1 := P1.c0
  have c1P1 := P1.c1
  have c0P2 := P2.c0
  have c1P2 := P2.c1
  have c0P3 := P3.c0
  have c1P3 := P3.c1
  have H6 := Lib.hid (crossed_nat a1 b1 a2 b2 (a) (b) (c) (d) (((w.alloc (.cells #[.slice a1.a a1.n a1.c, .slice b1.a b1.n b1.c] 29)).alloc (.cells #[.slice a2.a a2.n a2.c, .slice b2.a b2.n b2.c] 29)).alloc (.cells #[.slice none 0 0, .slice none 0 0] 29)) ra1 rb1 ra2 rb2 (Lib.hid (Nat.le_trans la.out (by omega))) (Lib.hid (Nat.le_trans lb.out (by omega))) (Lib.hid (Nat.le_trans lc.out (by omega))) (Lib.hid (Nat.le_trans ld.out (by omega))))
  go_wp2_with fail
  clear c0P1 c1P1 c0P2 c1P2 c0P3 c1P3
  refine H6.out.mono ?_
  rintro e w7 ⟨x4, x5, rfl, rx4, rx5, hb⟩
  clear H6
  replace P1 := P1.below hb
  replace P2 := P2.below hb
  replace P3 := P3.below hb
  replace ra1 := ra1.below hb
  replace rb1 := rb1.below hb
  replace ra2 := ra2.below hb
  replace rb2 := rb2.below hb
  replace hB := hB.trans (hb.mono hB.size)
  clear hb
  have HLx4 : Hid ((L (a * d)).length ≤ 200) := Lib.hid (len_mul_le la.out ld.out)
  have HLx5 : Hid ((L (c * b)).length ≤ 200) := Lib.hid (len_mul_le lc.out lb.out)
  have c0P1 := P1.c0
  have c1P1 := P1.c1
  have c0P2 := P2.c0
  have c1P2 := P2.c1
  have c0P3 := P3.c0
  have c1P3 := P3.c1
  have H10 := Lib.hid (of_nat (.slice x4.a x4.n x4.c) (.slice x5.a x5.n x5.c) (a * d) (c * b) w7 rx4 rx5 (Nat.le_trans HLx4.out (by omega)) (Nat.le_trans HLx5.out (by omega)) HNE.out)
  go_wp2_with fail
  clear c0P1 c1P1 c0P2 c1P2 c0P3 c1P3
  refine H10.out.mono ?_
  rintro e w11 ⟨x8, x9, rfl, rx8, rx9, hb⟩
  clear H10
  replace P1 := P1.below hb
  replace P2 := P2.below hb
  replace P3 := P3.below hb
  replace ra1 := ra1.below hb
  replace rb1 := rb1.below hb
  replace ra2 := ra2.below hb
  replace rb2 := rb2.below hb
  replace rx4 := rx4.below hb
  replace rx5 := rx5.below hb
  replace hB := hB.trans (hb.mono hB.size)
  clear hb
  have HLx8 : Hid ((L ((a * d) / Nat.gcd (a * d) (c * b))).length ≤ 200) := Lib.hid (len_div_le HLx4.out)
  have HLx9 : Hid ((L ((c * b) / Nat.gcd (a * d) (c * b))).length ≤ 200) := Lib.hid (len_div_le HLx5.out)
  have c0P1 := P1.c0
  have c1P1 := P1.c1
  have c0P2 := P2.c0
  have c1P2 := P2.c1
  have c0P3 := P3.c0
  have c1P3 := P3.c1
  have z0P3 := P3.z0
  have z1P3 := P3.z1
  go_wp2_with fail
  replace ra1 := ra1.pset P3 (.slice x8.a x8.n x8.c) (.slice x9.a x9.n x9.c)
  replace rb1 := rb1.pset P3 (.slice x8.a x8.n x8.c) (.slice x9.a x9.n x9.c)
  replace ra2 := ra2.pset P3 (.slice x8.a x8.n x8.c) (.slice x9.a x9.n x9.c)
  replace rb2 := rb2.pset P3 (.slice x8.a x8.n x8.c) (.slice x9.a x9.n x9.c)
  replace rx4 := rx4.pset P3 (.slice x8.a x8.n x8.c) (.slice x9.a x9.n x9.c)
  replace rx5 := rx5.pset P3 (.slice x8.a x8.n x8.c) (.slice x9.a x9.n x9.c)
  replace rx8 := rx8.pset P3 (.slice x8.a x8.n x8.c) (.slice x9.a x9.n x9.c)
  replace rx9 := rx9.pset P3 (.slice x8.a x8.n x8.c) (.slice x9.a x9.n x9.c)
  replace hB := Below.pset hB (by omega : w.heap.size ≤ w.heap.size + 1 + 1) (.slice x8.a x8.n x8.c) (.slice x9.a x9.n x9.c)
  have P3x := P3.set (.slice x8.a x8.n x8.c) (.slice x9.a x9.n x9.c)
  generalize (w11.setCell ⟨w.heap.size + 1 + 1, 0, none⟩ (.slice x8.a x8.n x8.c)).setCell ⟨w.heap.size + 1 + 1, 1, none⟩ (.slice x9.a x9.n x9.c) = WW at ra1 rb1 ra2 rb2 rx4 rx5 rx8 rx9 P3x hB ⊢
  refine bodyPost_ret (v := .tuple #[.agg #[.slice x8.a x8.n x8.c, .slice x9.a x9.n x9.c], .int .i64 0]) ?_ rfl (⟨x8, x9, rfl, rx8, rx9, hB⟩)
  simp [results, Tryz.f59, go_sem, P3x.c0, P3x.c1]

set_option maxRecDepth 100000 in
set_option maxHeartbeats 4000000 in
theorem qdiv_zero (a1 b1 a2 b2 : Sl) (a b c d : Nat) (w : World) (ra1 : RU w a1 a) (rb1 : RU w b1 b) (ra2 : RU w a2 c) (rb2 : RU w b2 d) (la : Hid ((L a).length ≤ 100)) (lb : Hid ((L b).length ≤ 100)) (lc : Hid ((L c).length ≤ 100)) (ld : Hid ((L d).length ≤ 100)) (HZ : Hid (c * b = 0)) :
    Calls Tryz.prog 59 #[.agg #[.slice a1.a a1.n a1.c, .slice b1.a b1.n b1.c], .agg #[.slice a2.a a2.n a2.c, .slice b2.a b2.n b2.c]] w fun e w' => e = .returned (.tuple #[.agg #[.slice none 0 0, .slice none 0 0], .int .i64 16]) ∧ Below w.heap.size w w' := by
  go_enter Tryz.func59, Tryz.ntmps59
  have hb : Below w.heap.size w (((w.alloc (.cells #[.slice a1.a a1.n a1.c, .slice b1.a b1.n b1.c] 29)).alloc (.cells #[.slice a2.a a2.n a2.c, .slice b2.a b2.n b2.c] 29)).alloc (.cells #[.slice none 0 0, .slice none 0 0] 29)) := ((((Below.refl _ _).alloc (Nat.le_refl _) _).alloc (by simp) _).alloc (by simp; omega) _)
  replace ra1 := ra1.below hb
  replace rb1 := rb1.below hb
  replace ra2 := ra2.below hb
  replace rb2 := rb2.below hb
  have hB := hb
  have P1 : Pair (((w.alloc (.cells #[.slice a1.a a1.n a1.c, .slice b1.a b1.n b1.c] 29)).alloc (.cells #[.slice a2.a a2.n a2.c, .slice b2.a b2.n b2.c] 29)).alloc (.cells #[.slice none 0 0, .slice none 0 0] 29)) (w.heap.size) 29 (.slice a1.a a1.n a1.c) (.slice b1.a b1.n b1.c) := by
    have h := ((Pair.new w 29 (.slice a1.a a1.n a1.c) (.slice b1.a b1.n b1.c)).alloc (.cells #[.slice a2.a a2.n a2.c, .slice b2.a b2.n b2.c] 29)).alloc (.cells #[.slice none 0 0, .slice none 0 0] 29)
    simpa only [World.size_alloc] using h
  have P2 : Pair (((w.alloc (.cells #[.slice a1.a a1.n a1.c, .slice b1.a b1.n b1.c] 29)).alloc (.cells #[.slice a2.a a2.n a2.c, .slice b2.a b2.n b2.c] 29)).alloc (.cells #[.slice none 0 0, .slice none 0 0] 29)) (w.heap.size + 1) 29 (.slice a2.a a2.n a2.c) (.slice b2.a b2.n b2.c) := by
    have h := (Pair.new (w.alloc (.cells #[.slice a1.a a1.n a1.c, .slice b1.a b1.n b1.c] 29)) 29 (.slice a2.a a2.n a2.c) (.slice b2.a b2.n b2.c)).alloc (.cells #[.slice none 0 0, .slice none 0 0] 29)
    simpa only [World.size_alloc] using h
  have P3 : Pair (((w.alloc (.cells #[.slice a1.a a1.n a1.c, .slice b1.a b1.n b1.c] 29)).alloc (.cells #[.slice a2.a a2.n a2.c, .slice b2.a b2.n b2.c] 29)).alloc (.cells #[.slice none 0 0, .slice none 0 0] 29)) (w.heap.size + 1 + 1) 29 (.slice none 0 0) (.slice none 0 0) := by
    have h := Pair.new ((w.alloc (.cells #[.slice a1.a a1.n a1.c, .slice b1.a b1.n b1.c] 29)).alloc (.cells #[.slice a2.a a2.n a2.c, .slice b2.a b2.n b2.c] 29)) 29 (.slice none 0 0) (.slice none 0 0)
    simpa only [World.size_alloc] using h
  clear hb
  have c0P1 := P1.c0
  have c1P1 := P1.c1
  have c0P2 := P2.c0
  have c1P2 := P2.c1
  have c0P3 := P3.c0
  have c1P3 := P3.c1
  have H6 := Lib.hid (crossed_nat a1 b1 a2 b2 (a) (b) (c) (d) (((w.alloc (.cells #[.slice a1.a a1.n a1.c, .slice b1.a b1.n b1.c] 29)).alloc (.cells #[.slice a2.a a2.n a2.c, .slice b2.a b2.n b2.c] 29)).alloc (.cells #[.slice none 0 0, .slice none 0 0] 29)) ra1 rb1 ra2 rb2 (Lib.hid (Nat.le_trans la.out (by omega))) (Lib.hid (Nat.le_trans lb.out (by omega))) (Lib.hid (Nat.le_trans lc.out (by omega))) (Lib.hid (Nat.le_trans ld.out (by omega))))
  go_wp2_with fail
  clear c0P1 c1P1 c0P2 c1P2 c0P3 c1P3
  refine H6.out.mono ?_
  rintro e w7 ⟨x4, x5, rfl, rx4, rx5, hb⟩
  clear H6
  replace P1 := P1.below hb
  replace P2 := P2.below hb
  replace P3 := P3.below hb
  replace ra1 := ra1.below hb
  replace rb1 := rb1.below hb
  replace ra2 := ra2.below hb
  replace rb2 := rb2.below hb
  replace hB := hB.trans (hb.mono hB.size)
  clear hb
  have HLx4 : Hid ((L (a * d)).length ≤ 200) := Lib.hid (len_mul_le la.out ld.out)
  have HLx5 : Hid ((L (c * b)).length ≤ 200) := Lib.hid (len_mul_le lc.out lb.out)
  have c0P1 := P1.c0
  have c1P1 := P1.c1
  have c0P2 := P2.c0
  have c1P2 := P2.c1
  have c0P3 := P3.c0
  have c1P3 := P3.c1
  have H8 := Lib.hid (of_zero (.slice x4.a x4.n x4.c) (.slice x5.a x5.n x5.c) (c * b) w7 rx5 (Nat.le_trans HLx5.out (by omega)) HZ.out)
  go_wp2_with fail
  clear c0P1 c1P1 c0P2 c1P2 c0P3 c1P3
  refine H8.out.mono ?_
  rintro e w9 ⟨rfl, hb⟩
  clear H8
  replace P1 := P1.below hb
  replace P2 := P2.below hb
  replace P3 := P3.below hb
  replace ra1 := ra1.below hb
  replace rb1 := rb1.below hb
  replace ra2 := ra2.below hb
  replace rb2 := rb2.below hb
  replace rx4 := rx4.below hb
  replace rx5 := rx5.below hb
  replace hB := hB.trans (hb.mono hB.size)
  clear hb
  have c0P1 := P1.c0
  have c1P1 := P1.c1
  have c0P2 := P2.c0
  have c1P2 := P2.c1
  have c0P3 := P3.c0
  have c1P3 := P3.c1
  have z0P3 := P3.z0
  have z1P3 := P3.z1
  go_wp2_with fail
  replace ra1 := ra1.pset P3 (.slice none 0 0) (.slice none 0 0)
  replace rb1 := rb1.pset P3 (.slice none 0 0) (.slice none 0 0)
  replace ra2 := ra2.pset P3 (.slice none 0 0) (.slice none 0 0)
  replace rb2 := rb2.pset P3 (.slice none 0 0) (.slice none 0 0)
  replace rx4 := rx4.pset P3 (.slice none 0 0) (.slice none 0 0)
  replace rx5 := rx5.pset P3 (.slice none 0 0) (.slice none 0 0)
  replace hB := Below.pset hB (by omega : w.heap.size ≤ w.heap.size + 1 + 1) (.slice none 0 0) (.slice none 0 0)
  have P3x := P3.set (.slice none 0 0) (.slice none 0 0)
  generalize (w9.setCell ⟨w.heap.size + 1 + 1, 0, none⟩ (.slice none 0 0)).setCell ⟨w.heap.size + 1 + 1, 1, none⟩ (.slice none 0 0) = WW at ra1 rb1 ra2 rb2 rx4 rx5 P3x hB ⊢
  refine bodyPost_ret (v := .tuple #[.agg #[.slice none 0 0, .slice none 0 0], .int .i64 16]) ?_ rfl (⟨rfl, hB⟩)
  simp [results, Tryz.f59, go_sem, P3x.c0, P3x.c1]

end Go.Proofs.YtphllajedkpcbaaGreatDoor
