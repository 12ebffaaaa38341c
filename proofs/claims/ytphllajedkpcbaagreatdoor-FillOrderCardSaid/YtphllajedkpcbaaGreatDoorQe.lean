/-
  The document's ratios: Of, Int, Cmp, Add, Sub, Mul, Div, Floor; and whether a ratio is the document's. Condition: not more than a hundred limbs.
-/
import Derived.Test.YtphllajedkpcbaaGreatDoorQd
namespace Go.Proofs.YtphllajedkpcbaaGreatDoor
open Go.RowKit Go.Dig Go.Shelf Go.Proofs

section
variable (v1 v2 : Value) (a b : Nat) (w : World)
theorem rdiv_nat (h1 : Row w v1 (D a)) (h2 : Row w v2 (D b)) (l1 : (L a).length ≤ 1000) (l2 : (L b).length ≤ 1000) (hb : b ≠ 0) :
    Calls Tryz.prog 49 #[v1, v2] w fun e w' => ∃ q r, e = .returned (.tuple #[q, r]) ∧ Row w' q (D (a / b)) ∧ Row w' r (D (a % b)) ∧ Below w.heap.size w w' := Div_any v1 v2 a b w h1 h2 (by have := len_D a; omega) (by have := len_D b; omega) hb
theorem rgcd_nat (h1 : Row w v1 (D a)) (h2 : Row w v2 (D b)) (l1 : (L a).length ≤ 1000) (l2 : (L b).length ≤ 1000) :
    Calls Tryz.prog 48 #[v1, v2] w fun e w' => ∃ v, e = .returned v ∧ Row w' v (D (Nat.gcd a b)) ∧ Below w.heap.size w w' := Gcd_any v1 v2 a b w h1 h2 (by have := len_D a; omega) (by have := len_D b; omega)
theorem rsub_nat (h1 : Row w v1 (D a)) (h2 : Row w v2 (D b)) (l1 : (L a).length ≤ 1000) (hab : b ≤ a) :
    Calls Tryz.prog 72 #[v1, v2] w fun e w' => ∃ v, e = .returned v ∧ Row w' v (D (a - b)) ∧ Below w.heap.size w w' := Sub_any v1 v2 a b w h1 h2 (by have := len_D a; omega) hab
theorem rcmp_nat (h1 : Row w v1 (D a)) (h2 : Row w v2 (D b)) (l1 : (L a).length ≤ 1000) (l2 : (L b).length ≤ 1000) :
    Calls Tryz.prog 63 #[v1, v2] w fun e w' => e = .returned (.int .i64 (cmpZ a b)) ∧ Below w.heap.size w w' := Cmp_any v1 v2 a b w h1 h2 (by have := len_D a; omega) (by have := len_D b; omega)
end
set_option maxRecDepth 100000 in
set_option maxHeartbeats 4000000 in
theorem rof_sl (a1 b1 : Sl) (a b : Nat) (w : World) (ra1 : RD w a1 a) (rb1 : RD w b1 b) (la : Hid ((L a).length ≤ 500)) (lb : Hid ((L b).length ≤ 500)) (HNE : Hid (b ≠ 0)) :
    Calls Tryz.prog 22 #[.slice a1.a a1.n a1.c, .slice b1.a b1.n b1.c] w fun e w' => ∃ p q : Sl, e = .returned (.agg #[.slice p.a p.n p.c, .slice q.a q.n q.c]) ∧ RD w' p (a / Nat.gcd a b) ∧ RD w' q (b / Nat.gcd a b) ∧ Below w.heap.size w w' := by
  have HG : Hid (Nat.gcd a b ≠ 0) := Lib.hid (fun e => HNE.out (Nat.eq_zero_of_gcd_eq_zero_right e))
  go_enter Tryz.func22, Tryz.ntmps22
  have hb : Below w.heap.size w (w.alloc (.cells #[.slice none 0 0, .slice none 0 0] 32)) := ((Below.refl _ _).alloc (Nat.le_refl _) _)
  replace ra1 := ra1.below hb
  replace rb1 := rb1.below hb
  have hB := hb
  have P1 : Pair (w.alloc (.cells #[.slice none 0 0, .slice none 0 0] 32)) (w.heap.size) 32 (.slice none 0 0) (.slice none 0 0) := by
    have h := Pair.new w 32 (.slice none 0 0) (.slice none 0 0)
    simpa only [World.size_alloc] using h
  clear hb
  have c0P1 := P1.c0
  have c1P1 := P1.c1
  have H4 := Lib.hid (rgcd_nat (.slice a1.a a1.n a1.c) (.slice b1.a b1.n b1.c) (a) (b) (w.alloc (.cells #[.slice none 0 0, .slice none 0 0] 32)) ra1 rb1 (Nat.le_trans la.out (by omega)) (Nat.le_trans lb.out (by omega)))
  go_wp2_with fail
  clear c0P1 c1P1
  refine H4.out.mono ?_
  rintro e w5 ⟨v3, rfl, rx2, hb⟩
  clear H4
  replace P1 := P1.below hb
  replace ra1 := ra1.below hb
  replace rb1 := rb1.below hb
  replace hB := hB.trans (hb.mono hB.size)
  clear hb
  obtain ⟨x2, rfl, rx2⟩ := rx2.sl
  have HLx2 : Hid ((L (Nat.gcd a b)).length ≤ 500) := Lib.hid (gcd_len a HNE.out lb.out)
  have c0P1 := P1.c0
  have c1P1 := P1.c1
  have H9 := Lib.hid (rdiv_nat (.slice a1.a a1.n a1.c) (.slice x2.a x2.n x2.c) (a) (Nat.gcd a b) w5 ra1 rx2 (Nat.le_trans la.out (by omega)) (Nat.le_trans HLx2.out (by omega)) HG.out)
  go_wp2_with fail
  clear c0P1 c1P1
  refine H9.out.mono ?_
  rintro e w10 ⟨v7, v8, rfl, rx6, -, hb⟩
  clear H9
  replace P1 := P1.below hb
  replace ra1 := ra1.below hb
  replace rb1 := rb1.below hb
  replace rx2 := rx2.below hb
  replace hB := hB.trans (hb.mono hB.size)
  clear hb
  obtain ⟨x6, rfl, rx6⟩ := rx6.sl
  have HLx6 : Hid ((L (a / (Nat.gcd a b))).length ≤ 500) := Lib.hid (len_div_le la.out)
  have c0P1 := P1.c0
  have c1P1 := P1.c1
  have H14 := Lib.hid (rdiv_nat (.slice b1.a b1.n b1.c) (.slice x2.a x2.n x2.c) (b) (Nat.gcd a b) w10 rb1 rx2 (Nat.le_trans lb.out (by omega)) (Nat.le_trans HLx2.out (by omega)) HG.out)
  go_wp2_with fail
  clear c0P1 c1P1
  refine H14.out.mono ?_
  rintro e w15 ⟨v12, v13, rfl, rx11, -, hb⟩
  clear H14
  replace P1 := P1.below hb
  replace ra1 := ra1.below hb
  replace rb1 := rb1.below hb
  replace rx2 := rx2.below hb
  replace rx6 := rx6.below hb
  replace hB := hB.trans (hb.mono hB.size)
  clear hb
  obtain ⟨x11, rfl, rx11⟩ := rx11.sl
  have HLx11 : Hid ((L (b / (Nat.gcd a b))).length ≤ 500) := Lib.hid (len_div_le lb.out)
  have c0P1 := P1.c0
  have c1P1 := P1.c1
  have z0P1 := P1.z0
  have z1P1 := P1.z1
  go_wp2_with fail
  replace ra1 := ra1.pset P1 (.slice x6.a x6.n x6.c) (.slice x11.a x11.n x11.c)
  replace rb1 := rb1.pset P1 (.slice x6.a x6.n x6.c) (.slice x11.a x11.n x11.c)
  replace rx2 := rx2.pset P1 (.slice x6.a x6.n x6.c) (.slice x11.a x11.n x11.c)
  replace rx6 := rx6.pset P1 (.slice x6.a x6.n x6.c) (.slice x11.a x11.n x11.c)
  replace rx11 := rx11.pset P1 (.slice x6.a x6.n x6.c) (.slice x11.a x11.n x11.c)
  replace hB := Below.pset hB (by omega : w.heap.size ≤ w.heap.size) (.slice x6.a x6.n x6.c) (.slice x11.a x11.n x11.c)
  have P1x := P1.set (.slice x6.a x6.n x6.c) (.slice x11.a x11.n x11.c)
  generalize (w15.setCell ⟨w.heap.size, 0, none⟩ (.slice x6.a x6.n x6.c)).setCell ⟨w.heap.size, 1, none⟩ (.slice x11.a x11.n x11.c) = WW at ra1 rb1 rx2 rx6 rx11 P1x hB ⊢
  refine bodyPost_ret (v := .agg #[.slice x6.a x6.n x6.c, .slice x11.a x11.n x11.c]) ?_ rfl (⟨x6, x11, rfl, rx6, rx11, hB⟩)
  simp [results, Tryz.f22, go_sem, P1x.c0, P1x.c1]

set_option maxRecDepth 100000 in
set_option maxHeartbeats 4000000 in
set_option maxRecDepth 100000 in
set_option maxHeartbeats 4000000 in
theorem qis_nat (a1 b1 a2 b2 : Sl) (a b : Nat) (w : World) (ra1 : RU w a1 a) (rb1 : RU w b1 b) (ra2 : RD w a2 a) (rb2 : RD w b2 b) (la : Hid ((L a).length ≤ 500)) (lb : Hid ((L b).length ≤ 500)) :
    Calls Tryz.prog 14 #[.agg #[.slice a1.a a1.n a1.c, .slice b1.a b1.n b1.c], .agg #[.slice a2.a a2.n a2.c, .slice b2.a b2.n b2.c]] w fun e w' => e = .returned (.bool true) ∧ Below w.heap.size w w' := by
  go_enter Tryz.func14, Tryz.ntmps14
  have hb : Below w.heap.size w ((w.alloc (.cells #[.slice a1.a a1.n a1.c, .slice b1.a b1.n b1.c] 29)).alloc (.cells #[.slice a2.a a2.n a2.c, .slice b2.a b2.n b2.c] 32)) := (((Below.refl _ _).alloc (Nat.le_refl _) _).alloc (by simp) _)
  replace ra1 := ra1.below hb
  replace rb1 := rb1.below hb
  replace ra2 := ra2.below hb
  replace rb2 := rb2.below hb
  have hB := hb
  have P1 : Pair ((w.alloc (.cells #[.slice a1.a a1.n a1.c, .slice b1.a b1.n b1.c] 29)).alloc (.cells #[.slice a2.a a2.n a2.c, .slice b2.a b2.n b2.c] 32)) (w.heap.size) 29 (.slice a1.a a1.n a1.c) (.slice b1.a b1.n b1.c) := by
    have h := (Pair.new w 29 (.slice a1.a a1.n a1.c) (.slice b1.a b1.n b1.c)).alloc (.cells #[.slice a2.a a2.n a2.c, .slice b2.a b2.n b2.c] 32)
    simpa only [World.size_alloc] using h
  have P2 : Pair ((w.alloc (.cells #[.slice a1.a a1.n a1.c, .slice b1.a b1.n b1.c] 29)).alloc (.cells #[.slice a2.a a2.n a2.c, .slice b2.a b2.n b2.c] 32)) (w.heap.size + 1) 32 (.slice a2.a a2.n a2.c) (.slice b2.a b2.n b2.c) := by
    have h := Pair.new (w.alloc (.cells #[.slice a1.a a1.n a1.c, .slice b1.a b1.n b1.c] 29)) 32 (.slice a2.a a2.n a2.c) (.slice b2.a b2.n b2.c)
    simpa only [World.size_alloc] using h
  clear hb
  have c0P1 := P1.c0
  have c1P1 := P1.c1
  have c0P2 := P2.c0
  have c1P2 := P2.c1
  have H3 := Lib.hid (Is_true (.slice a1.a a1.n a1.c) (.slice a2.a a2.n a2.c) (a) ((w.alloc (.cells #[.slice a1.a a1.n a1.c, .slice b1.a b1.n b1.c] 29)).alloc (.cells #[.slice a2.a a2.n a2.c, .slice b2.a b2.n b2.c] 32)) ra1 ra2 (Nat.le_trans la.out (by omega)))
  go_wp2_with fail
  clear c0P1 c1P1 c0P2 c1P2
  refine H3.out.mono ?_
  rintro e w4 ⟨rfl, hb⟩
  clear H3
  replace P1 := P1.below hb
  replace P2 := P2.below hb
  replace ra1 := ra1.below hb
  replace rb1 := rb1.below hb
  replace ra2 := ra2.below hb
  replace rb2 := rb2.below hb
  replace hB := hB.trans (hb.mono hB.size)
  clear hb
  have c0P1 := P1.c0
  have c1P1 := P1.c1
  have c0P2 := P2.c0
  have c1P2 := P2.c1
  have H5 := Lib.hid (Is_true (.slice b1.a b1.n b1.c) (.slice b2.a b2.n b2.c) (b) w4 rb1 rb2 (Nat.le_trans lb.out (by omega)))
  go_wp2_with fail
  clear c0P1 c1P1 c0P2 c1P2
  refine H5.out.mono ?_
  rintro e w6 ⟨rfl, hb⟩
  clear H5
  replace P1 := P1.below hb
  replace P2 := P2.below hb
  replace ra1 := ra1.below hb
  replace rb1 := rb1.below hb
  replace ra2 := ra2.below hb
  replace rb2 := rb2.below hb
  replace hB := hB.trans (hb.mono hB.size)
  clear hb
  go_wp2_with fail
  go_ret
  exact ⟨rfl, hB⟩

set_option maxRecDepth 100000 in
set_option maxHeartbeats 4000000 in
theorem rqcmp_nat (a1 b1 a2 b2 : Sl) (a b c d : Nat) (w : World) (ra1 : RD w a1 a) (rb1 : RD w b1 b) (ra2 : RD w a2 c) (rb2 : RD w b2 d) (la : Hid ((L a).length ≤ 100)) (lb : Hid ((L b).length ≤ 100)) (lc : Hid ((L c).length ≤ 100)) (ld : Hid ((L d).length ≤ 100)) :
    Calls Tryz.prog 37 #[.agg #[.slice a1.a a1.n a1.c, .slice b1.a b1.n b1.c], .agg #[.slice a2.a a2.n a2.c, .slice b2.a b2.n b2.c]] w fun e w' => e = .returned (.int .i64 (cmpZ (a * d) (c * b))) ∧ Below w.heap.size w w' := by
  go_enter Tryz.func37, Tryz.ntmps37
  have hb : Below w.heap.size w ((w.alloc (.cells #[.slice a1.a a1.n a1.c, .slice b1.a b1.n b1.c] 32)).alloc (.cells #[.slice a2.a a2.n a2.c, .slice b2.a b2.n b2.c] 32)) := (((Below.refl _ _).alloc (Nat.le_refl _) _).alloc (by simp) _)
  replace ra1 := ra1.below hb
  replace rb1 := rb1.below hb
  replace ra2 := ra2.below hb
  replace rb2 := rb2.below hb
  have hB := hb
  have P1 : Pair ((w.alloc (.cells #[.slice a1.a a1.n a1.c, .slice b1.a b1.n b1.c] 32)).alloc (.cells #[.slice a2.a a2.n a2.c, .slice b2.a b2.n b2.c] 32)) (w.heap.size) 32 (.slice a1.a a1.n a1.c) (.slice b1.a b1.n b1.c) := by
    have h := (Pair.new w 32 (.slice a1.a a1.n a1.c) (.slice b1.a b1.n b1.c)).alloc (.cells #[.slice a2.a a2.n a2.c, .slice b2.a b2.n b2.c] 32)
    simpa only [World.size_alloc] using h
  have P2 : Pair ((w.alloc (.cells #[.slice a1.a a1.n a1.c, .slice b1.a b1.n b1.c] 32)).alloc (.cells #[.slice a2.a a2.n a2.c, .slice b2.a b2.n b2.c] 32)) (w.heap.size + 1) 32 (.slice a2.a a2.n a2.c) (.slice b2.a b2.n b2.c) := by
    have h := Pair.new (w.alloc (.cells #[.slice a1.a a1.n a1.c, .slice b1.a b1.n b1.c] 32)) 32 (.slice a2.a a2.n a2.c) (.slice b2.a b2.n b2.c)
    simpa only [World.size_alloc] using h
  clear hb
  have c0P1 := P1.c0
  have c1P1 := P1.c1
  have c0P2 := P2.c0
  have c1P2 := P2.c1
  go_wp2_with fail
  clear c0P1 c1P1 c0P2 c1P2
  have hb : Below ((w.alloc (.cells #[.slice a1.a a1.n a1.c, .slice b1.a b1.n b1.c] 32)).alloc (.cells #[.slice a2.a a2.n a2.c, .slice b2.a b2.n b2.c] 32)).heap.size ((w.alloc (.cells #[.slice a1.a a1.n a1.c, .slice b1.a b1.n b1.c] 32)).alloc (.cells #[.slice a2.a a2.n a2.c, .slice b2.a b2.n b2.c] 32)) ((w.alloc (.cells #[.slice a1.a a1.n a1.c, .slice b1.a b1.n b1.c] 32)).alloc (.cells #[.slice a2.a a2.n a2.c, .slice b2.a b2.n b2.c] 32)).drew := (Below.refl _ _).drew
  replace P1 := P1.below hb
  replace P2 := P2.below hb
  replace ra1 := ra1.below hb
  replace rb1 := rb1.below hb
  replace ra2 := ra2.below hb
  replace rb2 := rb2.below hb
  replace hB := hB.trans (hb.mono hB.size)
  clear hb
  refine Rd.regionT (fun X => Pair X (w.heap.size) 32 (.slice a1.a a1.n a1.c) (.slice b1.a b1.n b1.c) ∧ Pair X (w.heap.size + 1) 32 (.slice a2.a a2.n a2.c) (.slice b2.a b2.n b2.c)) [0, 1, 2, 3, 5, 6, 7, 8, 11] (.one 0 (.one 1 (.one 2 (.one 3 (.one 5 (.one 6 (.one 7 (.one 8 (.one 4 (.one 9 (.one 10 (.one 11 .done)))))))))))) (fun ac W => ∃ (y2 y3 y5 y6 y7 y8 y9 y10 y11 y12 y13 y14 y15 : Value), ac = { tmps := List.toArray (.agg #[.slice a1.a a1.n a1.c, .slice b1.a b1.n b1.c] :: .agg #[.slice a2.a a2.n a2.c, .slice b2.a b2.n b2.c] :: y2 :: y3 :: .int .i64 (cmpZ (a * d) (c * b)) :: y5 :: y6 :: y7 :: y8 :: y9 :: y10 :: y11 :: y12 :: y13 :: y14 :: y15 :: []), defers := [] } ∧ Below w.heap.size w W) (by kernel_rfl) (by kernel_rfl) (by kernel_rfl) ⟨P1, P2⟩ ?tree ?next
  case tree =>
    generalize ((w.alloc (.cells #[.slice a1.a a1.n a1.c, .slice b1.a b1.n b1.c] 32)).alloc (.cells #[.slice a2.a a2.n a2.c, .slice b2.a b2.n b2.c] 32)).drew = w3 at P1 P2 ra1 rb1 ra2 rb2 hB ⊢
    refine Rd.tr_float (.pointer (some ⟨w.heap.size, 0, none⟩)) (by simp only [List.getElem?_toArray, List.getElem?_cons_zero]; rfl) rfl (by rfl) (fun X _ => by go_simp) ?_
    simp only [Act.put, List.setIfInBounds_toArray, List.set_cons_succ, List.set_cons_zero]
    refine Rd.tr_float (.slice a1.a a1.n a1.c) (by simp only [List.getElem?_toArray, List.getElem?_cons_succ, List.getElem?_cons_zero]; rfl) rfl (by rfl) (fun X hX => by have h0 := hX.1.c0; have h1 := hX.1.c1; go_simp) ?_
    simp only [Act.put, List.setIfInBounds_toArray, List.set_cons_succ, List.set_cons_zero]
    refine Rd.tr_float (.pointer (some ⟨w.heap.size + 1, 1, none⟩)) (by simp only [List.getElem?_toArray, List.getElem?_cons_succ, List.getElem?_cons_zero]; rfl) rfl (by rfl) (fun X _ => by go_simp) ?_
    simp only [Act.put, List.setIfInBounds_toArray, List.set_cons_succ, List.set_cons_zero]
    refine Rd.tr_float (.slice b2.a b2.n b2.c) (by simp only [List.getElem?_toArray, List.getElem?_cons_succ, List.getElem?_cons_zero]; rfl) rfl (by rfl) (fun X hX => by have h0 := hX.2.c0; have h1 := hX.2.c1; go_simp) ?_
    simp only [Act.put, List.setIfInBounds_toArray, List.set_cons_succ, List.set_cons_zero]
    refine Rd.tr_float (.pointer (some ⟨w.heap.size + 1, 0, none⟩)) (by simp only [List.getElem?_toArray, List.getElem?_cons_succ, List.getElem?_cons_zero]; rfl) rfl (by rfl) (fun X _ => by go_simp) ?_
    simp only [Act.put, List.setIfInBounds_toArray, List.set_cons_succ, List.set_cons_zero]
    refine Rd.tr_float (.slice a2.a a2.n a2.c) (by simp only [List.getElem?_toArray, List.getElem?_cons_succ, List.getElem?_cons_zero]; rfl) rfl (by rfl) (fun X hX => by have h0 := hX.2.c0; have h1 := hX.2.c1; go_simp) ?_
    simp only [Act.put, List.setIfInBounds_toArray, List.set_cons_succ, List.set_cons_zero]
    refine Rd.tr_float (.pointer (some ⟨w.heap.size, 1, none⟩)) (by simp only [List.getElem?_toArray, List.getElem?_cons_succ, List.getElem?_cons_zero]; rfl) rfl (by rfl) (fun X _ => by go_simp) ?_
    simp only [Act.put, List.setIfInBounds_toArray, List.set_cons_succ, List.set_cons_zero]
    refine Rd.tr_float (.slice b1.a b1.n b1.c) (by simp only [List.getElem?_toArray, List.getElem?_cons_succ, List.getElem?_cons_zero]; rfl) rfl (by rfl) (fun X hX => by have h0 := hX.1.c0; have h1 := hX.1.c1; go_simp) ?_
    simp only [Act.put, List.setIfInBounds_toArray, List.set_cons_succ, List.set_cons_zero]
    refine Rd.tr_move (by simp only [List.getElem?_toArray, List.getElem?_cons_succ, List.getElem?_cons_zero]; rfl) rfl (by rfl) (fun K hK => ?_)
    have H6 := Lib.hid (rmul_nat (.slice a1.a a1.n a1.c) (.slice b2.a b2.n b2.c) (a) (d) w3 ra1 rb2 (Nat.le_trans la.out (by omega)) (Nat.le_trans ld.out (by omega)))
    go_simp
    refine H6.out.mono ?_
    rintro e w7 ⟨v5, rfl, rx4, hb⟩
    clear H6
    replace P1 := P1.below hb
    replace P2 := P2.below hb
    replace ra1 := ra1.below hb
    replace rb1 := rb1.below hb
    replace ra2 := ra2.below hb
    replace rb2 := rb2.below hb
    replace hB := hB.trans (hb.mono hB.size)
    clear hb
    obtain ⟨x4, rfl, rx4⟩ := rx4.sl
    have HLx4 : Hid ((L (a * d)).length ≤ 200) := Lib.hid (len_mul_le la.out ld.out)
    refine hK _ _ ⟨P1, P2⟩ ?_
    clear hK K
    refine Rd.tr_move (by simp only [List.getElem?_toArray, List.getElem?_cons_succ, List.getElem?_cons_zero]; rfl) rfl (by rfl) (fun K hK => ?_)
    have H10 := Lib.hid (rmul_nat (.slice a2.a a2.n a2.c) (.slice b1.a b1.n b1.c) (c) (b) w7 ra2 rb1 (Nat.le_trans lc.out (by omega)) (Nat.le_trans lb.out (by omega)))
    go_simp
    refine H10.out.mono ?_
    rintro e w11 ⟨v9, rfl, rx8, hb⟩
    clear H10
    replace P1 := P1.below hb
    replace P2 := P2.below hb
    replace ra1 := ra1.below hb
    replace rb1 := rb1.below hb
    replace ra2 := ra2.below hb
    replace rb2 := rb2.below hb
    replace rx4 := rx4.below hb
    replace hB := hB.trans (hb.mono hB.size)
    clear hb
    obtain ⟨x8, rfl, rx8⟩ := rx8.sl
    have HLx8 : Hid ((L (c * b)).length ≤ 200) := Lib.hid (len_mul_le lc.out lb.out)
    refine hK _ _ ⟨P1, P2⟩ ?_
    clear hK K
    refine Rd.tr_move (by simp only [List.getElem?_toArray, List.getElem?_cons_succ, List.getElem?_cons_zero]; rfl) rfl (by rfl) (fun K hK => ?_)
    have H12 := Lib.hid (rcmp_nat (.slice x4.a x4.n x4.c) (.slice x8.a x8.n x8.c) (a * d) (c * b) w11 rx4 rx8 (Nat.le_trans HLx4.out (by omega)) (Nat.le_trans HLx8.out (by omega)))
    go_simp
    refine H12.out.mono ?_
    rintro e w13 ⟨rfl, hb⟩
    clear H12
    replace P1 := P1.below hb
    replace P2 := P2.below hb
    replace ra1 := ra1.below hb
    replace rb1 := rb1.below hb
    replace ra2 := ra2.below hb
    replace rb2 := rb2.below hb
    replace rx4 := rx4.below hb
    replace rx8 := rx8.below hb
    replace hB := hB.trans (hb.mono hB.size)
    clear hb
    refine hK _ _ ⟨P1, P2⟩ ?_
    clear hK K
    refine Rd.tr_float (.int .i64 (cmpZ (a * d) (c * b))) (by simp only [List.getElem?_toArray, List.getElem?_cons_succ, List.getElem?_cons_zero]; rfl) rfl (by rfl) (fun X _ => by go_simp) ?_
    simp only [Act.put, List.setIfInBounds_toArray, List.set_cons_succ, List.set_cons_zero]
    exact Rd.tr_end (⟨_, _, _, _, _, _, _, _, _, _, _, _, _, rfl, hB⟩)
  case next =>
    rintro a3 W ⟨_, _, _, _, _, _, _, _, _, _, _, _, _, rfl, hB⟩
    go_wp2_with fail
    go_ret
    exact ⟨rfl, hB⟩

set_option maxRecDepth 100000 in
set_option maxHeartbeats 4000000 in
theorem rqadd_nat (a1 b1 a2 b2 : Sl) (a b c d : Nat) (w : World) (ra1 : RD w a1 a) (rb1 : RD w b1 b) (ra2 : RD w a2 c) (rb2 : RD w b2 d) (la : Hid ((L a).length ≤ 100)) (lb : Hid ((L b).length ≤ 100)) (lc : Hid ((L c).length ≤ 100)) (ld : Hid ((L d).length ≤ 100)) (HNE : Hid (b * d ≠ 0)) :
    Calls Tryz.prog 40 #[.agg #[.slice a1.a a1.n a1.c, .slice b1.a b1.n b1.c], .agg #[.slice a2.a a2.n a2.c, .slice b2.a b2.n b2.c]] w fun e w' => ∃ p q : Sl, e = .returned (.agg #[.slice p.a p.n p.c, .slice q.a q.n q.c]) ∧ RD w' p (((a * d) + (c * b)) / Nat.gcd ((a * d) + (c * b)) (b * d)) ∧ RD w' q ((b * d) / Nat.gcd ((a * d) + (c * b)) (b * d)) ∧ Below w.heap.size w w' := by
  go_enter Tryz.func40, Tryz.ntmps40
  have hb : Below w.heap.size w (((w.alloc (.cells #[.slice a1.a a1.n a1.c, .slice b1.a b1.n b1.c] 32)).alloc (.cells #[.slice a2.a a2.n a2.c, .slice b2.a b2.n b2.c] 32)).alloc (.cells #[.slice none 0 0, .slice none 0 0] 32)) := ((((Below.refl _ _).alloc (Nat.le_refl _) _).alloc (by simp) _).alloc (by simp; omega) _)
  replace ra1 := ra1.below hb
  replace rb1 := rb1.below hb
  replace ra2 := ra2.below hb
  replace rb2 := rb2.below hb
  have hB := hb
  have P1 : Pair (((w.alloc (.cells #[.slice a1.a a1.n a1.c, .slice b1.a b1.n b1.c] 32)).alloc (.cells #[.slice a2.a a2.n a2.c, .slice b2.a b2.n b2.c] 32)).alloc (.cells #[.slice none 0 0, .slice none 0 0] 32)) (w.heap.size) 32 (.slice a1.a a1.n a1.c) (.slice b1.a b1.n b1.c) := by
    have h := ((Pair.new w 32 (.slice a1.a a1.n a1.c) (.slice b1.a b1.n b1.c)).alloc (.cells #[.slice a2.a a2.n a2.c, .slice b2.a b2.n b2.c] 32)).alloc (.cells #[.slice none 0 0, .slice none 0 0] 32)
    simpa only [World.size_alloc] using h
  have P2 : Pair (((w.alloc (.cells #[.slice a1.a a1.n a1.c, .slice b1.a b1.n b1.c] 32)).alloc (.cells #[.slice a2.a a2.n a2.c, .slice b2.a b2.n b2.c] 32)).alloc (.cells #[.slice none 0 0, .slice none 0 0] 32)) (w.heap.size + 1) 32 (.slice a2.a a2.n a2.c) (.slice b2.a b2.n b2.c) := by
    have h := (Pair.new (w.alloc (.cells #[.slice a1.a a1.n a1.c, .slice b1.a b1.n b1.c] 32)) 32 (.slice a2.a a2.n a2.c) (.slice b2.a b2.n b2.c)).alloc (.cells #[.slice none 0 0, .slice none 0 0] 32)
    simpa only [World.size_alloc] using h
  have P3 : Pair (((w.alloc (.cells #[.slice a1.a a1.n a1.c, .slice b1.a b1.n b1.c] 32)).alloc (.cells #[.slice a2.a a2.n a2.c, .slice b2.a b2.n b2.c] 32)).alloc (.cells #[.slice none 0 0, .slice none 0 0] 32)) (w.heap.size + 1 + 1) 32 (.slice none 0 0) (.slice none 0 0) := by
    have h := Pair.new ((w.alloc (.cells #[.slice a1.a a1.n a1.c, .slice b1.a b1.n b1.c] 32)).alloc (.cells #[.slice a2.a a2.n a2.c, .slice b2.a b2.n b2.c] 32)) 32 (.slice none 0 0) (.slice none 0 0)
    simpa only [World.size_alloc] using h
  clear hb
  have c0P1 := P1.c0
  have c1P1 := P1.c1
  have c0P2 := P2.c0
  have c1P2 := P2.c1
  have c0P3 := P3.c0
  have c1P3 := P3.c1
  go_wp2_with fail
  clear c0P1 c1P1 c0P2 c1P2 c0P3 c1P3
  have hb : Below (((w.alloc (.cells #[.slice a1.a a1.n a1.c, .slice b1.a b1.n b1.c] 32)).alloc (.cells #[.slice a2.a a2.n a2.c, .slice b2.a b2.n b2.c] 32)).alloc (.cells #[.slice none 0 0, .slice none 0 0] 32)).heap.size (((w.alloc (.cells #[.slice a1.a a1.n a1.c, .slice b1.a b1.n b1.c] 32)).alloc (.cells #[.slice a2.a a2.n a2.c, .slice b2.a b2.n b2.c] 32)).alloc (.cells #[.slice none 0 0, .slice none 0 0] 32)) (((w.alloc (.cells #[.slice a1.a a1.n a1.c, .slice b1.a b1.n b1.c] 32)).alloc (.cells #[.slice a2.a a2.n a2.c, .slice b2.a b2.n b2.c] 32)).alloc (.cells #[.slice none 0 0, .slice none 0 0] 32)).drew := (Below.refl _ _).drew
  replace P1 := P1.below hb
  replace P2 := P2.below hb
  replace P3 := P3.below hb
  replace ra1 := ra1.below hb
  replace rb1 := rb1.below hb
  replace ra2 := ra2.below hb
  replace rb2 := rb2.below hb
  replace hB := hB.trans (hb.mono hB.size)
  clear hb
  refine Rd.regionT (fun X => Pair X (w.heap.size) 32 (.slice a1.a a1.n a1.c) (.slice b1.a b1.n b1.c) ∧ Pair X (w.heap.size + 1) 32 (.slice a2.a a2.n a2.c) (.slice b2.a b2.n b2.c)) [0, 1, 2, 3, 5, 6, 7, 8, 11, 12, 13, 14] (.one 0 (.one 1 (.one 2 (.one 3 (.one 5 (.one 6 (.one 7 (.one 8 (.one 11 (.one 12 (.one 13 (.one 14 (.one 4 (.one 9 (.one 10 (.one 15 (.one 16 (.one 17 .done)))))))))))))))))) (fun ac W => ∃ (p : Sl) (q : Sl) (y5 y6 y7 y8 y9 y10 y11 y12 y13 y14 y15 y16 y17 y18 y19 y20 y21 : Value), ac = { tmps := List.toArray (.agg #[.slice a1.a a1.n a1.c, .slice b1.a b1.n b1.c] :: .agg #[.slice a2.a a2.n a2.c, .slice b2.a b2.n b2.c] :: .pointer (some ⟨w.heap.size, 0, none⟩) :: .pointer (some ⟨w.heap.size + 1, 0, none⟩) :: .pointer (some ⟨w.heap.size + 1 + 1, 0, none⟩) :: y5 :: y6 :: y7 :: y8 :: y9 :: y10 :: y11 :: y12 :: y13 :: y14 :: y15 :: y16 :: y17 :: y18 :: y19 :: y20 :: y21 :: []), defers := [] } ∧ RD W p (((a * d) + (c * b)) / Nat.gcd ((a * d) + (c * b)) (b * d)) ∧ RD W q ((b * d) / Nat.gcd ((a * d) + (c * b)) (b * d)) ∧ Pair W (w.heap.size + 1 + 1) 32 (.slice p.a p.n p.c) (.slice q.a q.n q.c) ∧ Below w.heap.size w W) (by kernel_rfl) (by kernel_rfl) (by kernel_rfl) ⟨P1, P2⟩ ?tree ?next
  case tree =>
    generalize (((w.alloc (.cells #[.slice a1.a a1.n a1.c, .slice b1.a b1.n b1.c] 32)).alloc (.cells #[.slice a2.a a2.n a2.c, .slice b2.a b2.n b2.c] 32)).alloc (.cells #[.slice none 0 0, .slice none 0 0] 32)).drew = w4 at P1 P2 P3 ra1 rb1 ra2 rb2 hB ⊢
    refine Rd.tr_float (.pointer (some ⟨w.heap.size, 0, none⟩)) (by simp only [List.getElem?_toArray, List.getElem?_cons_zero]; rfl) rfl (by rfl) (fun X _ => by go_simp) ?_
    simp only [Act.put, List.setIfInBounds_toArray, List.set_cons_succ, List.set_cons_zero]
    refine Rd.tr_float (.slice a1.a a1.n a1.c) (by simp only [List.getElem?_toArray, List.getElem?_cons_succ, List.getElem?_cons_zero]; rfl) rfl (by rfl) (fun X hX => by have h0 := hX.1.c0; have h1 := hX.1.c1; go_simp) ?_
    simp only [Act.put, List.setIfInBounds_toArray, List.set_cons_succ, List.set_cons_zero]
    refine Rd.tr_float (.pointer (some ⟨w.heap.size + 1, 1, none⟩)) (by simp only [List.getElem?_toArray, List.getElem?_cons_succ, List.getElem?_cons_zero]; rfl) rfl (by rfl) (fun X _ => by go_simp) ?_
    simp only [Act.put, List.setIfInBounds_toArray, List.set_cons_succ, List.set_cons_zero]
    refine Rd.tr_float (.slice b2.a b2.n b2.c) (by simp only [List.getElem?_toArray, List.getElem?_cons_succ, List.getElem?_cons_zero]; rfl) rfl (by rfl) (fun X hX => by have h0 := hX.2.c0; have h1 := hX.2.c1; go_simp) ?_
    simp only [Act.put, List.setIfInBounds_toArray, List.set_cons_succ, List.set_cons_zero]
    refine Rd.tr_float (.pointer (some ⟨w.heap.size + 1, 0, none⟩)) (by simp only [List.getElem?_toArray, List.getElem?_cons_succ, List.getElem?_cons_zero]; rfl) rfl (by rfl) (fun X _ => by go_simp) ?_
    simp only [Act.put, List.setIfInBounds_toArray, List.set_cons_succ, List.set_cons_zero]
    refine Rd.tr_float (.slice a2.a a2.n a2.c) (by simp only [List.getElem?_toArray, List.getElem?_cons_succ, List.getElem?_cons_zero]; rfl) rfl (by rfl) (fun X hX => by have h0 := hX.2.c0; have h1 := hX.2.c1; go_simp) ?_
    simp only [Act.put, List.setIfInBounds_toArray, List.set_cons_succ, List.set_cons_zero]
    refine Rd.tr_float (.pointer (some ⟨w.heap.size, 1, none⟩)) (by simp only [List.getElem?_toArray, List.getElem?_cons_succ, List.getElem?_cons_zero]; rfl) rfl (by rfl) (fun X _ => by go_simp) ?_
    simp only [Act.put, List.setIfInBounds_toArray, List.set_cons_succ, List.set_cons_zero]
    refine Rd.tr_float (.slice b1.a b1.n b1.c) (by simp only [List.getElem?_toArray, List.getElem?_cons_succ, List.getElem?_cons_zero]; rfl) rfl (by rfl) (fun X hX => by have h0 := hX.1.c0; have h1 := hX.1.c1; go_simp) ?_
    simp only [Act.put, List.setIfInBounds_toArray, List.set_cons_succ, List.set_cons_zero]
    refine Rd.tr_float (.pointer (some ⟨w.heap.size, 1, none⟩)) (by simp only [List.getElem?_toArray, List.getElem?_cons_succ, List.getElem?_cons_zero]; rfl) rfl (by rfl) (fun X _ => by go_simp) ?_
    simp only [Act.put, List.setIfInBounds_toArray, List.set_cons_succ, List.set_cons_zero]
    refine Rd.tr_float (.slice b1.a b1.n b1.c) (by simp only [List.getElem?_toArray, List.getElem?_cons_succ, List.getElem?_cons_zero]; rfl) rfl (by rfl) (fun X hX => by have h0 := hX.1.c0; have h1 := hX.1.c1; go_simp) ?_
    simp only [Act.put, List.setIfInBounds_toArray, List.set_cons_succ, List.set_cons_zero]
    refine Rd.tr_float (.pointer (some ⟨w.heap.size + 1, 1, none⟩)) (by simp only [List.getElem?_toArray, List.getElem?_cons_succ, List.getElem?_cons_zero]; rfl) rfl (by rfl) (fun X _ => by go_simp) ?_
    simp only [Act.put, List.setIfInBounds_toArray, List.set_cons_succ, List.set_cons_zero]
    refine Rd.tr_float (.slice b2.a b2.n b2.c) (by simp only [List.getElem?_toArray, List.getElem?_cons_succ, List.getElem?_cons_zero]; rfl) rfl (by rfl) (fun X hX => by have h0 := hX.2.c0; have h1 := hX.2.c1; go_simp) ?_
    simp only [Act.put, List.setIfInBounds_toArray, List.set_cons_succ, List.set_cons_zero]
    refine Rd.tr_move (by simp only [List.getElem?_toArray, List.getElem?_cons_succ, List.getElem?_cons_zero]; rfl) rfl (by rfl) (fun K hK => ?_)
    have H7 := Lib.hid (rmul_nat (.slice a1.a a1.n a1.c) (.slice b2.a b2.n b2.c) (a) (d) w4 ra1 rb2 (Nat.le_trans la.out (by omega)) (Nat.le_trans ld.out (by omega)))
    go_simp
    refine H7.out.mono ?_
    rintro e w8 ⟨v6, rfl, rx5, hb⟩
    clear H7
    replace P1 := P1.below hb
    replace P2 := P2.below hb
    replace P3 := P3.below hb
    replace ra1 := ra1.below hb
    replace rb1 := rb1.below hb
    replace ra2 := ra2.below hb
    replace rb2 := rb2.below hb
    replace hB := hB.trans (hb.mono hB.size)
    clear hb
    obtain ⟨x5, rfl, rx5⟩ := rx5.sl
    have HLx5 : Hid ((L (a * d)).length ≤ 200) := Lib.hid (len_mul_le la.out ld.out)
    refine hK _ _ ⟨P1, P2⟩ ?_
    clear hK K
    refine Rd.tr_move (by simp only [List.getElem?_toArray, List.getElem?_cons_succ, List.getElem?_cons_zero]; rfl) rfl (by rfl) (fun K hK => ?_)
    have H11 := Lib.hid (rmul_nat (.slice a2.a a2.n a2.c) (.slice b1.a b1.n b1.c) (c) (b) w8 ra2 rb1 (Nat.le_trans lc.out (by omega)) (Nat.le_trans lb.out (by omega)))
    go_simp
    refine H11.out.mono ?_
    rintro e w12 ⟨v10, rfl, rx9, hb⟩
    clear H11
    replace P1 := P1.below hb
    replace P2 := P2.below hb
    replace P3 := P3.below hb
    replace ra1 := ra1.below hb
    replace rb1 := rb1.below hb
    replace ra2 := ra2.below hb
    replace rb2 := rb2.below hb
    replace rx5 := rx5.below hb
    replace hB := hB.trans (hb.mono hB.size)
    clear hb
    obtain ⟨x9, rfl, rx9⟩ := rx9.sl
    have HLx9 : Hid ((L (c * b)).length ≤ 200) := Lib.hid (len_mul_le lc.out lb.out)
    refine hK _ _ ⟨P1, P2⟩ ?_
    clear hK K
    refine Rd.tr_move (by simp only [List.getElem?_toArray, List.getElem?_cons_succ, List.getElem?_cons_zero]; rfl) rfl (by rfl) (fun K hK => ?_)
    have H15 := Lib.hid (radd_nat (.slice x5.a x5.n x5.c) (.slice x9.a x9.n x9.c) (a * d) (c * b) w12 rx5 rx9 (Nat.le_trans HLx5.out (by omega)) (Nat.le_trans HLx9.out (by omega)))
    go_simp
    refine H15.out.mono ?_
    rintro e w16 ⟨v14, rfl, rx13, hb⟩
    clear H15
    replace P1 := P1.below hb
    replace P2 := P2.below hb
    replace P3 := P3.below hb
    replace ra1 := ra1.below hb
    replace rb1 := rb1.below hb
    replace ra2 := ra2.below hb
    replace rb2 := rb2.below hb
    replace rx5 := rx5.below hb
    replace rx9 := rx9.below hb
    replace hB := hB.trans (hb.mono hB.size)
    clear hb
    obtain ⟨x13, rfl, rx13⟩ := rx13.sl
    have HLx13 : Hid ((L ((a * d) + (c * b))).length ≤ 401) := Lib.hid (len_add_le HLx5.out HLx9.out)
    refine hK _ _ ⟨P1, P2⟩ ?_
    clear hK K
    refine Rd.tr_move (by simp only [List.getElem?_toArray, List.getElem?_cons_succ, List.getElem?_cons_zero]; rfl) rfl (by rfl) (fun K hK => ?_)
    have H19 := Lib.hid (rmul_nat (.slice b1.a b1.n b1.c) (.slice b2.a b2.n b2.c) (b) (d) w16 rb1 rb2 (Nat.le_trans lb.out (by omega)) (Nat.le_trans ld.out (by omega)))
    go_simp
    refine H19.out.mono ?_
    rintro e w20 ⟨v18, rfl, rx17, hb⟩
    clear H19
    replace P1 := P1.below hb
    replace P2 := P2.below hb
    replace P3 := P3.below hb
    replace ra1 := ra1.below hb
    replace rb1 := rb1.below hb
    replace ra2 := ra2.below hb
    replace rb2 := rb2.below hb
    replace rx5 := rx5.below hb
    replace rx9 := rx9.below hb
    replace rx13 := rx13.below hb
    replace hB := hB.trans (hb.mono hB.size)
    clear hb
    obtain ⟨x17, rfl, rx17⟩ := rx17.sl
    have HLx17 : Hid ((L (b * d)).length ≤ 200) := Lib.hid (len_mul_le lb.out ld.out)
    refine hK _ _ ⟨P1, P2⟩ ?_
    clear hK K
    refine Rd.tr_move (by simp only [List.getElem?_toArray, List.getElem?_cons_succ, List.getElem?_cons_zero]; rfl) rfl (by rfl) (fun K hK => ?_)
    have H23 := Lib.hid (rof_sl x13 x17 ((a * d) + (c * b)) (b * d) w20 rx13 rx17 (Lib.hid (Nat.le_trans HLx13.out (by omega))) (Lib.hid (Nat.le_trans HLx17.out (by omega))) HNE.out)
    go_simp
    refine H23.out.mono ?_
    rintro e w24 ⟨x21, x22, rfl, rx21, rx22, hb⟩
    clear H23
    replace P1 := P1.below hb
    replace P2 := P2.below hb
    replace P3 := P3.below hb
    replace ra1 := ra1.below hb
    replace rb1 := rb1.below hb
    replace ra2 := ra2.below hb
    replace rb2 := rb2.below hb
    replace rx5 := rx5.below hb
    replace rx9 := rx9.below hb
    replace rx13 := rx13.below hb
    replace rx17 := rx17.below hb
    replace hB := hB.trans (hb.mono hB.size)
    clear hb
    have HLx21 : Hid ((L (((a * d) + (c * b)) / Nat.gcd ((a * d) + (c * b)) (b * d))).length ≤ 401) := Lib.hid (len_div_le HLx13.out)
    have HLx22 : Hid ((L ((b * d) / Nat.gcd ((a * d) + (c * b)) (b * d))).length ≤ 200) := Lib.hid (len_div_le HLx17.out)
    refine hK _ _ ⟨P1, P2⟩ ?_
    clear hK K
    refine Rd.tr_move (by simp only [List.getElem?_toArray, List.getElem?_cons_succ, List.getElem?_cons_zero]; rfl) rfl (by rfl) (fun K hK => ?_)
    have c0P3 := P3.c0
    have c1P3 := P3.c1
    have z0P3 := P3.z0
    have z1P3 := P3.z1
    go_simp
    clear c0P3 c1P3 z0P3 z1P3
    replace ra1 := ra1.pset P3 (.slice x21.a x21.n x21.c) (.slice x22.a x22.n x22.c)
    replace rb1 := rb1.pset P3 (.slice x21.a x21.n x21.c) (.slice x22.a x22.n x22.c)
    replace ra2 := ra2.pset P3 (.slice x21.a x21.n x21.c) (.slice x22.a x22.n x22.c)
    replace rb2 := rb2.pset P3 (.slice x21.a x21.n x21.c) (.slice x22.a x22.n x22.c)
    replace rx5 := rx5.pset P3 (.slice x21.a x21.n x21.c) (.slice x22.a x22.n x22.c)
    replace rx9 := rx9.pset P3 (.slice x21.a x21.n x21.c) (.slice x22.a x22.n x22.c)
    replace rx13 := rx13.pset P3 (.slice x21.a x21.n x21.c) (.slice x22.a x22.n x22.c)
    replace rx17 := rx17.pset P3 (.slice x21.a x21.n x21.c) (.slice x22.a x22.n x22.c)
    replace rx21 := rx21.pset P3 (.slice x21.a x21.n x21.c) (.slice x22.a x22.n x22.c)
    replace rx22 := rx22.pset P3 (.slice x21.a x21.n x21.c) (.slice x22.a x22.n x22.c)
    replace P1 := P1.other (B := w.heap.size + 1 + 1) (by omega) (.slice x21.a x21.n x21.c) (.slice x22.a x22.n x22.c)
    replace P2 := P2.other (B := w.heap.size + 1 + 1) (by omega) (.slice x21.a x21.n x21.c) (.slice x22.a x22.n x22.c)
    replace hB := Below.pset (B := w.heap.size + 1 + 1) hB (by omega) (.slice x21.a x21.n x21.c) (.slice x22.a x22.n x22.c)
    replace P3 := P3.set (.slice x21.a x21.n x21.c) (.slice x22.a x22.n x22.c)
    generalize (w24.setCell ⟨w.heap.size + 1 + 1, 0, none⟩ (.slice x21.a x21.n x21.c)).setCell ⟨w.heap.size + 1 + 1, 1, none⟩ (.slice x22.a x22.n x22.c) = w25 at P1 P2 P3 ra1 rb1 ra2 rb2 rx5 rx9 rx13 rx17 rx21 rx22 hB ⊢
    refine hK _ _ ⟨P1, P2⟩ ?_
    clear hK K
    exact Rd.tr_end (⟨x21, x22, _, _, _, _, _, _, _, _, _, _, _, _, _, _, _, _, _, rfl, rx21, rx22, P3, hB⟩)
  case next =>
    rintro a3 W ⟨p, q, _, _, _, _, _, _, _, _, _, _, _, _, _, _, _, _, _, rfl, rp, rq, PR, hB⟩
    go_wp2_with fail
    refine bodyPost_ret (v := (.agg #[.slice p.a p.n p.c, .slice q.a q.n q.c])) ?_ rfl ⟨p, q, rfl, rp, rq, hB⟩
    simp [results, Tryz.f40, go_sem, PR.c0, PR.c1]

set_option maxRecDepth 100000 in
set_option maxHeartbeats 4000000 in
theorem rqsub_nat (a1 b1 a2 b2 : Sl) (a b c d : Nat) (w : World) (ra1 : RD w a1 a) (rb1 : RD w b1 b) (ra2 : RD w a2 c) (rb2 : RD w b2 d) (la : Hid ((L a).length ≤ 100)) (lb : Hid ((L b).length ≤ 100)) (lc : Hid ((L c).length ≤ 100)) (ld : Hid ((L d).length ≤ 100)) (HLE : Hid (c * b ≤ a * d)) (HNE : Hid (b * d ≠ 0)) :
    Calls Tryz.prog 39 #[.agg #[.slice a1.a a1.n a1.c, .slice b1.a b1.n b1.c], .agg #[.slice a2.a a2.n a2.c, .slice b2.a b2.n b2.c]] w fun e w' => ∃ p q : Sl, e = .returned (.agg #[.slice p.a p.n p.c, .slice q.a q.n q.c]) ∧ RD w' p (((a * d) - (c * b)) / Nat.gcd ((a * d) - (c * b)) (b * d)) ∧ RD w' q ((b * d) / Nat.gcd ((a * d) - (c * b)) (b * d)) ∧ Below w.heap.size w w' := by
  go_enter Tryz.func39, Tryz.ntmps39
  have hb : Below w.heap.size w (((w.alloc (.cells #[.slice a1.a a1.n a1.c, .slice b1.a b1.n b1.c] 32)).alloc (.cells #[.slice a2.a a2.n a2.c, .slice b2.a b2.n b2.c] 32)).alloc (.cells #[.slice none 0 0, .slice none 0 0] 32)) := ((((Below.refl _ _).alloc (Nat.le_refl _) _).alloc (by simp) _).alloc (by simp; omega) _)
  replace ra1 := ra1.below hb
  replace rb1 := rb1.below hb
  replace ra2 := ra2.below hb
  replace rb2 := rb2.below hb
  have hB := hb
  have P1 : Pair (((w.alloc (.cells #[.slice a1.a a1.n a1.c, .slice b1.a b1.n b1.c] 32)).alloc (.cells #[.slice a2.a a2.n a2.c, .slice b2.a b2.n b2.c] 32)).alloc (.cells #[.slice none 0 0, .slice none 0 0] 32)) (w.heap.size) 32 (.slice a1.a a1.n a1.c) (.slice b1.a b1.n b1.c) := by
    have h := ((Pair.new w 32 (.slice a1.a a1.n a1.c) (.slice b1.a b1.n b1.c)).alloc (.cells #[.slice a2.a a2.n a2.c, .slice b2.a b2.n b2.c] 32)).alloc (.cells #[.slice none 0 0, .slice none 0 0] 32)
    simpa only [World.size_alloc] using h
  have P2 : Pair (((w.alloc (.cells #[.slice a1.a a1.n a1.c, .slice b1.a b1.n b1.c] 32)).alloc (.cells #[.slice a2.a a2.n a2.c, .slice b2.a b2.n b2.c] 32)).alloc (.cells #[.slice none 0 0, .slice none 0 0] 32)) (w.heap.size + 1) 32 (.slice a2.a a2.n a2.c) (.slice b2.a b2.n b2.c) := by
    have h := (Pair.new (w.alloc (.cells #[.slice a1.a a1.n a1.c, .slice b1.a b1.n b1.c] 32)) 32 (.slice a2.a a2.n a2.c) (.slice b2.a b2.n b2.c)).alloc (.cells #[.slice none 0 0, .slice none 0 0] 32)
    simpa only [World.size_alloc] using h
  have P3 : Pair (((w.alloc (.cells #[.slice a1.a a1.n a1.c, .slice b1.a b1.n b1.c] 32)).alloc (.cells #[.slice a2.a a2.n a2.c, .slice b2.a b2.n b2.c] 32)).alloc (.cells #[.slice none 0 0, .slice none 0 0] 32)) (w.heap.size + 1 + 1) 32 (.slice none 0 0) (.slice none 0 0) := by
    have h := Pair.new ((w.alloc (.cells #[.slice a1.a a1.n a1.c, .slice b1.a b1.n b1.c] 32)).alloc (.cells #[.slice a2.a a2.n a2.c, .slice b2.a b2.n b2.c] 32)) 32 (.slice none 0 0) (.slice none 0 0)
    simpa only [World.size_alloc] using h
  clear hb
  have c0P1 := P1.c0
  have c1P1 := P1.c1
  have c0P2 := P2.c0
  have c1P2 := P2.c1
  have c0P3 := P3.c0
  have c1P3 := P3.c1
  go_wp2_with fail
  clear c0P1 c1P1 c0P2 c1P2 c0P3 c1P3
  have hb : Below (((w.alloc (.cells #[.slice a1.a a1.n a1.c, .slice b1.a b1.n b1.c] 32)).alloc (.cells #[.slice a2.a a2.n a2.c, .slice b2.a b2.n b2.c] 32)).alloc (.cells #[.slice none 0 0, .slice none 0 0] 32)).heap.size (((w.alloc (.cells #[.slice a1.a a1.n a1.c, .slice b1.a b1.n b1.c] 32)).alloc (.cells #[.slice a2.a a2.n a2.c, .slice b2.a b2.n b2.c] 32)).alloc (.cells #[.slice none 0 0, .slice none 0 0] 32)) (((w.alloc (.cells #[.slice a1.a a1.n a1.c, .slice b1.a b1.n b1.c] 32)).alloc (.cells #[.slice a2.a a2.n a2.c, .slice b2.a b2.n b2.c] 32)).alloc (.cells #[.slice none 0 0, .slice none 0 0] 32)).drew := (Below.refl _ _).drew
  replace P1 := P1.below hb
  replace P2 := P2.below hb
  replace P3 := P3.below hb
  replace ra1 := ra1.below hb
  replace rb1 := rb1.below hb
  replace ra2 := ra2.below hb
  replace rb2 := rb2.below hb
  replace hB := hB.trans (hb.mono hB.size)
  clear hb
  refine Rd.regionT (fun X => Pair X (w.heap.size) 32 (.slice a1.a a1.n a1.c) (.slice b1.a b1.n b1.c) ∧ Pair X (w.heap.size + 1) 32 (.slice a2.a a2.n a2.c) (.slice b2.a b2.n b2.c)) [0, 1, 2, 3, 5, 6, 7, 8, 11, 12, 13, 14] (.one 0 (.one 1 (.one 2 (.one 3 (.one 5 (.one 6 (.one 7 (.one 8 (.one 11 (.one 12 (.one 13 (.one 14 (.one 4 (.one 9 (.one 10 (.one 15 (.one 16 (.one 17 .done)))))))))))))))))) (fun ac W => ∃ (p : Sl) (q : Sl) (y5 y6 y7 y8 y9 y10 y11 y12 y13 y14 y15 y16 y17 y18 y19 y20 y21 : Value), ac = { tmps := List.toArray (.agg #[.slice a1.a a1.n a1.c, .slice b1.a b1.n b1.c] :: .agg #[.slice a2.a a2.n a2.c, .slice b2.a b2.n b2.c] :: .pointer (some ⟨w.heap.size, 0, none⟩) :: .pointer (some ⟨w.heap.size + 1, 0, none⟩) :: .pointer (some ⟨w.heap.size + 1 + 1, 0, none⟩) :: y5 :: y6 :: y7 :: y8 :: y9 :: y10 :: y11 :: y12 :: y13 :: y14 :: y15 :: y16 :: y17 :: y18 :: y19 :: y20 :: y21 :: []), defers := [] } ∧ RD W p (((a * d) - (c * b)) / Nat.gcd ((a * d) - (c * b)) (b * d)) ∧ RD W q ((b * d) / Nat.gcd ((a * d) - (c * b)) (b * d)) ∧ Pair W (w.heap.size + 1 + 1) 32 (.slice p.a p.n p.c) (.slice q.a q.n q.c) ∧ Below w.heap.size w W) (by kernel_rfl) (by kernel_rfl) (by kernel_rfl) ⟨P1, P2⟩ ?tree ?next
  case tree =>
    generalize (((w.alloc (.cells #[.slice a1.a a1.n a1.c, .slice b1.a b1.n b1.c] 32)).alloc (.cells #[.slice a2.a a2.n a2.c, .slice b2.a b2.n b2.c] 32)).alloc (.cells #[.slice none 0 0, .slice none 0 0] 32)).drew = w4 at P1 P2 P3 ra1 rb1 ra2 rb2 hB ⊢
    refine Rd.tr_float (.pointer (some ⟨w.heap.size, 0, none⟩)) (by simp only [List.getElem?_toArray, List.getElem?_cons_zero]; rfl) rfl (by rfl) (fun X _ => by go_simp) ?_
    simp only [Act.put, List.setIfInBounds_toArray, List.set_cons_succ, List.set_cons_zero]
    refine Rd.tr_float (.slice a1.a a1.n a1.c) (by simp only [List.getElem?_toArray, List.getElem?_cons_succ, List.getElem?_cons_zero]; rfl) rfl (by rfl) (fun X hX => by have h0 := hX.1.c0; have h1 := hX.1.c1; go_simp) ?_
    simp only [Act.put, List.setIfInBounds_toArray, List.set_cons_succ, List.set_cons_zero]
    refine Rd.tr_float (.pointer (some ⟨w.heap.size + 1, 1, none⟩)) (by simp only [List.getElem?_toArray, List.getElem?_cons_succ, List.getElem?_cons_zero]; rfl) rfl (by rfl) (fun X _ => by go_simp) ?_
    simp only [Act.put, List.setIfInBounds_toArray, List.set_cons_succ, List.set_cons_zero]
    refine Rd.tr_float (.slice b2.a b2.n b2.c) (by simp only [List.getElem?_toArray, List.getElem?_cons_succ, List.getElem?_cons_zero]; rfl) rfl (by rfl) (fun X hX => by have h0 := hX.2.c0; have h1 := hX.2.c1; go_simp) ?_
    simp only [Act.put, List.setIfInBounds_toArray, List.set_cons_succ, List.set_cons_zero]
    refine Rd.tr_float (.pointer (some ⟨w.heap.size + 1, 0, none⟩)) (by simp only [List.getElem?_toArray, List.getElem?_cons_succ, List.getElem?_cons_zero]; rfl) rfl (by rfl) (fun X _ => by go_simp) ?_
    simp only [Act.put, List.setIfInBounds_toArray, List.set_cons_succ, List.set_cons_zero]
    refine Rd.tr_float (.slice a2.a a2.n a2.c) (by simp only [List.getElem?_toArray, List.getElem?_cons_succ, List.getElem?_cons_zero]; rfl) rfl (by rfl) (fun X hX => by have h0 := hX.2.c0; have h1 := hX.2.c1; go_simp) ?_
    simp only [Act.put, List.setIfInBounds_toArray, List.set_cons_succ, List.set_cons_zero]
    refine Rd.tr_float (.pointer (some ⟨w.heap.size, 1, none⟩)) (by simp only [List.getElem?_toArray, List.getElem?_cons_succ, List.getElem?_cons_zero]; rfl) rfl (by rfl) (fun X _ => by go_simp) ?_
    simp only [Act.put, List.setIfInBounds_toArray, List.set_cons_succ, List.set_cons_zero]
    refine Rd.tr_float (.slice b1.a b1.n b1.c) (by simp only [List.getElem?_toArray, List.getElem?_cons_succ, List.getElem?_cons_zero]; rfl) rfl (by rfl) (fun X hX => by have h0 := hX.1.c0; have h1 := hX.1.c1; go_simp) ?_
    simp only [Act.put, List.setIfInBounds_toArray, List.set_cons_succ, List.set_cons_zero]
    refine Rd.tr_float (.pointer (some ⟨w.heap.size, 1, none⟩)) (by simp only [List.getElem?_toArray, List.getElem?_cons_succ, List.getElem?_cons_zero]; rfl) rfl (by rfl) (fun X _ => by go_simp) ?_
    simp only [Act.put, List.setIfInBounds_toArray, List.set_cons_succ, List.set_cons_zero]
    refine Rd.tr_float (.slice b1.a b1.n b1.c) (by simp only [List.getElem?_toArray, List.getElem?_cons_succ, List.getElem?_cons_zero]; rfl) rfl (by rfl) (fun X hX => by have h0 := hX.1.c0; have h1 := hX.1.c1; go_simp) ?_
    simp only [Act.put, List.setIfInBounds_toArray, List.set_cons_succ, List.set_cons_zero]
    refine Rd.tr_float (.pointer (some ⟨w.heap.size + 1, 1, none⟩)) (by simp only [List.getElem?_toArray, List.getElem?_cons_succ, List.getElem?_cons_zero]; rfl) rfl (by rfl) (fun X _ => by go_simp) ?_
    simp only [Act.put, List.setIfInBounds_toArray, List.set_cons_succ, List.set_cons_zero]
    refine Rd.tr_float (.slice b2.a b2.n b2.c) (by simp only [List.getElem?_toArray, List.getElem?_cons_succ, List.getElem?_cons_zero]; rfl) rfl (by rfl) (fun X hX => by have h0 := hX.2.c0; have h1 := hX.2.c1; go_simp) ?_
    simp only [Act.put, List.setIfInBounds_toArray, List.set_cons_succ, List.set_cons_zero]
    refine Rd.tr_move (by simp only [List.getElem?_toArray, List.getElem?_cons_succ, List.getElem?_cons_zero]; rfl) rfl (by rfl) (fun K hK => ?_)
    have H7 := Lib.hid (rmul_nat (.slice a1.a a1.n a1.c) (.slice b2.a b2.n b2.c) (a) (d) w4 ra1 rb2 (Nat.le_trans la.out (by omega)) (Nat.le_trans ld.out (by omega)))
    go_simp
    refine H7.out.mono ?_
    rintro e w8 ⟨v6, rfl, rx5, hb⟩
    clear H7
    replace P1 := P1.below hb
    replace P2 := P2.below hb
    replace P3 := P3.below hb
    replace ra1 := ra1.below hb
    replace rb1 := rb1.below hb
    replace ra2 := ra2.below hb
    replace rb2 := rb2.below hb
    replace hB := hB.trans (hb.mono hB.size)
    clear hb
    obtain ⟨x5, rfl, rx5⟩ := rx5.sl
    have HLx5 : Hid ((L (a * d)).length ≤ 200) := Lib.hid (len_mul_le la.out ld.out)
    refine hK _ _ ⟨P1, P2⟩ ?_
    clear hK K
    refine Rd.tr_move (by simp only [List.getElem?_toArray, List.getElem?_cons_succ, List.getElem?_cons_zero]; rfl) rfl (by rfl) (fun K hK => ?_)
    have H11 := Lib.hid (rmul_nat (.slice a2.a a2.n a2.c) (.slice b1.a b1.n b1.c) (c) (b) w8 ra2 rb1 (Nat.le_trans lc.out (by omega)) (Nat.le_trans lb.out (by omega)))
    go_simp
    refine H11.out.mono ?_
    rintro e w12 ⟨v10, rfl, rx9, hb⟩
    clear H11
    replace P1 := P1.below hb
    replace P2 := P2.below hb
    replace P3 := P3.below hb
    replace ra1 := ra1.below hb
    replace rb1 := rb1.below hb
    replace ra2 := ra2.below hb
    replace rb2 := rb2.below hb
    replace rx5 := rx5.below hb
    replace hB := hB.trans (hb.mono hB.size)
    clear hb
    obtain ⟨x9, rfl, rx9⟩ := rx9.sl
    have HLx9 : Hid ((L (c * b)).length ≤ 200) := Lib.hid (len_mul_le lc.out lb.out)
    refine hK _ _ ⟨P1, P2⟩ ?_
    clear hK K
    refine Rd.tr_move (by simp only [List.getElem?_toArray, List.getElem?_cons_succ, List.getElem?_cons_zero]; rfl) rfl (by rfl) (fun K hK => ?_)
    have H15 := Lib.hid (rsub_nat (.slice x5.a x5.n x5.c) (.slice x9.a x9.n x9.c) (a * d) (c * b) w12 rx5 rx9 (Nat.le_trans HLx5.out (by omega)) HLE.out)
    go_simp
    refine H15.out.mono ?_
    rintro e w16 ⟨v14, rfl, rx13, hb⟩
    clear H15
    replace P1 := P1.below hb
    replace P2 := P2.below hb
    replace P3 := P3.below hb
    replace ra1 := ra1.below hb
    replace rb1 := rb1.below hb
    replace ra2 := ra2.below hb
    replace rb2 := rb2.below hb
    replace rx5 := rx5.below hb
    replace rx9 := rx9.below hb
    replace hB := hB.trans (hb.mono hB.size)
    clear hb
    obtain ⟨x13, rfl, rx13⟩ := rx13.sl
    have HLx13 : Hid ((L ((a * d) - (c * b))).length ≤ 200) := Lib.hid (len_sub_le HLx5.out)
    refine hK _ _ ⟨P1, P2⟩ ?_
    clear hK K
    refine Rd.tr_move (by simp only [List.getElem?_toArray, List.getElem?_cons_succ, List.getElem?_cons_zero]; rfl) rfl (by rfl) (fun K hK => ?_)
    have H19 := Lib.hid (rmul_nat (.slice b1.a b1.n b1.c) (.slice b2.a b2.n b2.c) (b) (d) w16 rb1 rb2 (Nat.le_trans lb.out (by omega)) (Nat.le_trans ld.out (by omega)))
    go_simp
    refine H19.out.mono ?_
    rintro e w20 ⟨v18, rfl, rx17, hb⟩
    clear H19
    replace P1 := P1.below hb
    replace P2 := P2.below hb
    replace P3 := P3.below hb
    replace ra1 := ra1.below hb
    replace rb1 := rb1.below hb
    replace ra2 := ra2.below hb
    replace rb2 := rb2.below hb
    replace rx5 := rx5.below hb
    replace rx9 := rx9.below hb
    replace rx13 := rx13.below hb
    replace hB := hB.trans (hb.mono hB.size)
    clear hb
    obtain ⟨x17, rfl, rx17⟩ := rx17.sl
    have HLx17 : Hid ((L (b * d)).length ≤ 200) := Lib.hid (len_mul_le lb.out ld.out)
    refine hK _ _ ⟨P1, P2⟩ ?_
    clear hK K
    refine Rd.tr_move (by simp only [List.getElem?_toArray, List.getElem?_cons_succ, List.getElem?_cons_zero]; rfl) rfl (by rfl) (fun K hK => ?_)
    have H23 := Lib.hid (rof_sl x13 x17 ((a * d) - (c * b)) (b * d) w20 rx13 rx17 (Lib.hid (Nat.le_trans HLx13.out (by omega))) (Lib.hid (Nat.le_trans HLx17.out (by omega))) HNE.out)
    go_simp
    refine H23.out.mono ?_
    rintro e w24 ⟨x21, x22, rfl, rx21, rx22, hb⟩
    clear H23
    replace P1 := P1.below hb
    replace P2 := P2.below hb
    replace P3 := P3.below hb
    replace ra1 := ra1.below hb
    replace rb1 := rb1.below hb
    replace ra2 := ra2.below hb
    replace rb2 := rb2.below hb
    replace rx5 := rx5.below hb
    replace rx9 := rx9.below hb
    replace rx13 := rx13.below hb
    replace rx17 := rx17.below hb
    replace hB := hB.trans (hb.mono hB.size)
    clear hb
    have HLx21 : Hid ((L (((a * d) - (c * b)) / Nat.gcd ((a * d) - (c * b)) (b * d))).length ≤ 200) := Lib.hid (len_div_le HLx13.out)
    have HLx22 : Hid ((L ((b * d) / Nat.gcd ((a * d) - (c * b)) (b * d))).length ≤ 200) := Lib.hid (len_div_le HLx17.out)
    refine hK _ _ ⟨P1, P2⟩ ?_
    clear hK K
    refine Rd.tr_move (by simp only [List.getElem?_toArray, List.getElem?_cons_succ, List.getElem?_cons_zero]; rfl) rfl (by rfl) (fun K hK => ?_)
    have c0P3 := P3.c0
    have c1P3 := P3.c1
    have z0P3 := P3.z0
    have z1P3 := P3.z1
    go_simp
    clear c0P3 c1P3 z0P3 z1P3
    replace ra1 := ra1.pset P3 (.slice x21.a x21.n x21.c) (.slice x22.a x22.n x22.c)
    replace rb1 := rb1.pset P3 (.slice x21.a x21.n x21.c) (.slice x22.a x22.n x22.c)
    replace ra2 := ra2.pset P3 (.slice x21.a x21.n x21.c) (.slice x22.a x22.n x22.c)
    replace rb2 := rb2.pset P3 (.slice x21.a x21.n x21.c) (.slice x22.a x22.n x22.c)
    replace rx5 := rx5.pset P3 (.slice x21.a x21.n x21.c) (.slice x22.a x22.n x22.c)
    replace rx9 := rx9.pset P3 (.slice x21.a x21.n x21.c) (.slice x22.a x22.n x22.c)
    replace rx13 := rx13.pset P3 (.slice x21.a x21.n x21.c) (.slice x22.a x22.n x22.c)
    replace rx17 := rx17.pset P3 (.slice x21.a x21.n x21.c) (.slice x22.a x22.n x22.c)
    replace rx21 := rx21.pset P3 (.slice x21.a x21.n x21.c) (.slice x22.a x22.n x22.c)
    replace rx22 := rx22.pset P3 (.slice x21.a x21.n x21.c) (.slice x22.a x22.n x22.c)
    replace P1 := P1.other (B := w.heap.size + 1 + 1) (by omega) (.slice x21.a x21.n x21.c) (.slice x22.a x22.n x22.c)
    replace P2 := P2.other (B := w.heap.size + 1 + 1) (by omega) (.slice x21.a x21.n x21.c) (.slice x22.a x22.n x22.c)
    replace hB := Below.pset (B := w.heap.size + 1 + 1) hB (by omega) (.slice x21.a x21.n x21.c) (.slice x22.a x22.n x22.c)
    replace P3 := P3.set (.slice x21.a x21.n x21.c) (.slice x22.a x22.n x22.c)
    generalize (w24.setCell ⟨w.heap.size + 1 + 1, 0, none⟩ (.slice x21.a x21.n x21.c)).setCell ⟨w.heap.size + 1 + 1, 1, none⟩ (.slice x22.a x22.n x22.c) = w25 at P1 P2 P3 ra1 rb1 ra2 rb2 rx5 rx9 rx13 rx17 rx21 rx22 hB ⊢
    refine hK _ _ ⟨P1, P2⟩ ?_
    clear hK K
    exact Rd.tr_end (⟨x21, x22, _, _, _, _, _, _, _, _, _, _, _, _, _, _, _, _, _, rfl, rx21, rx22, P3, hB⟩)
  case next =>
    rintro a3 W ⟨p, q, _, _, _, _, _, _, _, _, _, _, _, _, _, _, _, _, _, rfl, rp, rq, PR, hB⟩
    go_wp2_with fail
    refine bodyPost_ret (v := (.agg #[.slice p.a p.n p.c, .slice q.a q.n q.c])) ?_ rfl ⟨p, q, rfl, rp, rq, hB⟩
    simp [results, Tryz.f39, go_sem, PR.c0, PR.c1]

set_option maxRecDepth 100000 in
set_option maxHeartbeats 4000000 in
theorem rqmul_nat (a1 b1 a2 b2 : Sl) (a b c d : Nat) (w : World) (ra1 : RD w a1 a) (rb1 : RD w b1 b) (ra2 : RD w a2 c) (rb2 : RD w b2 d) (la : Hid ((L a).length ≤ 100)) (lb : Hid ((L b).length ≤ 100)) (lc : Hid ((L c).length ≤ 100)) (ld : Hid ((L d).length ≤ 100)) (HNE : Hid (b * d ≠ 0)) :
    Calls Tryz.prog 61 #[.agg #[.slice a1.a a1.n a1.c, .slice b1.a b1.n b1.c], .agg #[.slice a2.a a2.n a2.c, .slice b2.a b2.n b2.c]] w fun e w' => ∃ p q : Sl, e = .returned (.agg #[.slice p.a p.n p.c, .slice q.a q.n q.c]) ∧ RD w' p ((a * c) / Nat.gcd (a * c) (b * d)) ∧ RD w' q ((b * d) / Nat.gcd (a * c) (b * d)) ∧ Below w.heap.size w w' := by
  go_enter Tryz.func61, Tryz.ntmps61
  have hb : Below w.heap.size w (((w.alloc (.cells #[.slice a1.a a1.n a1.c, .slice b1.a b1.n b1.c] 32)).alloc (.cells #[.slice a2.a a2.n a2.c, .slice b2.a b2.n b2.c] 32)).alloc (.cells #[.slice none 0 0, .slice none 0 0] 32)) := ((((Below.refl _ _).alloc (Nat.le_refl _) _).alloc (by simp) _).alloc (by simp; omega) _)
  replace ra1 := ra1.below hb
  replace rb1 := rb1.below hb
  replace ra2 := ra2.below hb
  replace rb2 := rb2.below hb
  have hB := hb
  have P1 : Pair (((w.alloc (.cells #[.slice a1.a a1.n a1.c, .slice b1.a b1.n b1.c] 32)).alloc (.cells #[.slice a2.a a2.n a2.c, .slice b2.a b2.n b2.c] 32)).alloc (.cells #[.slice none 0 0, .slice none 0 0] 32)) (w.heap.size) 32 (.slice a1.a a1.n a1.c) (.slice b1.a b1.n b1.c) := by
    have h := ((Pair.new w 32 (.slice a1.a a1.n a1.c) (.slice b1.a b1.n b1.c)).alloc (.cells #[.slice a2.a a2.n a2.c, .slice b2.a b2.n b2.c] 32)).alloc (.cells #[.slice none 0 0, .slice none 0 0] 32)
    simpa only [World.size_alloc] using h
  have P2 : Pair (((w.alloc (.cells #[.slice a1.a a1.n a1.c, .slice b1.a b1.n b1.c] 32)).alloc (.cells #[.slice a2.a a2.n a2.c, .slice b2.a b2.n b2.c] 32)).alloc (.cells #[.slice none 0 0, .slice none 0 0] 32)) (w.heap.size + 1) 32 (.slice a2.a a2.n a2.c) (.slice b2.a b2.n b2.c) := by
    have h := (Pair.new (w.alloc (.cells #[.slice a1.a a1.n a1.c, .slice b1.a b1.n b1.c] 32)) 32 (.slice a2.a a2.n a2.c) (.slice b2.a b2.n b2.c)).alloc (.cells #[.slice none 0 0, .slice none 0 0] 32)
    simpa only [World.size_alloc] using h
  have P3 : Pair (((w.alloc (.cells #[.slice a1.a a1.n a1.c, .slice b1.a b1.n b1.c] 32)).alloc (.cells #[.slice a2.a a2.n a2.c, .slice b2.a b2.n b2.c] 32)).alloc (.cells #[.slice none 0 0, .slice none 0 0] 32)) (w.heap.size + 1 + 1) 32 (.slice none 0 0) (.slice none 0 0) := by
    have h := Pair.new ((w.alloc (.cells #[.slice a1.a a1.n a1.c, .slice b1.a b1.n b1.c] 32)).alloc (.cells #[.slice a2.a a2.n a2.c, .slice b2.a b2.n b2.c] 32)) 32 (.slice none 0 0) (.slice none 0 0)
    simpa only [World.size_alloc] using h
  clear hb
  have c0P1 := P1.c0
  have c1P1 := P1.c1
  have c0P2 := P2.c0
  have c1P2 := P2.c1
  have c0P3 := P3.c0
  have c1P3 := P3.c1
  go_wp2_with fail
  clear c0P1 c1P1 c0P2 c1P2 c0P3 c1P3
  have hb : Below (((w.alloc (.cells #[.slice a1.a a1.n a1.c, .slice b1.a b1.n b1.c] 32)).alloc (.cells #[.slice a2.a a2.n a2.c, .slice b2.a b2.n b2.c] 32)).alloc (.cells #[.slice none 0 0, .slice none 0 0] 32)).heap.size (((w.alloc (.cells #[.slice a1.a a1.n a1.c, .slice b1.a b1.n b1.c] 32)).alloc (.cells #[.slice a2.a a2.n a2.c, .slice b2.a b2.n b2.c] 32)).alloc (.cells #[.slice none 0 0, .slice none 0 0] 32)) (((w.alloc (.cells #[.slice a1.a a1.n a1.c, .slice b1.a b1.n b1.c] 32)).alloc (.cells #[.slice a2.a a2.n a2.c, .slice b2.a b2.n b2.c] 32)).alloc (.cells #[.slice none 0 0, .slice none 0 0] 32)).drew := (Below.refl _ _).drew
  replace P1 := P1.below hb
  replace P2 := P2.below hb
  replace P3 := P3.below hb
  replace ra1 := ra1.below hb
  replace rb1 := rb1.below hb
  replace ra2 := ra2.below hb
  replace rb2 := rb2.below hb
  replace hB := hB.trans (hb.mono hB.size)
  clear hb
  refine Rd.regionT (fun X => Pair X (w.heap.size) 32 (.slice a1.a a1.n a1.c) (.slice b1.a b1.n b1.c) ∧ Pair X (w.heap.size + 1) 32 (.slice a2.a a2.n a2.c) (.slice b2.a b2.n b2.c)) [0, 1, 2, 3, 5, 6, 7, 8] (.one 0 (.one 1 (.one 2 (.one 3 (.one 5 (.one 6 (.one 7 (.one 8 (.one 4 (.one 9 (.one 10 (.one 11 .done)))))))))))) (fun ac W => ∃ (p : Sl) (q : Sl) (y5 y6 y7 y8 y9 y10 y11 y12 y13 y14 y15 : Value), ac = { tmps := List.toArray (.agg #[.slice a1.a a1.n a1.c, .slice b1.a b1.n b1.c] :: .agg #[.slice a2.a a2.n a2.c, .slice b2.a b2.n b2.c] :: .pointer (some ⟨w.heap.size, 0, none⟩) :: .pointer (some ⟨w.heap.size + 1, 0, none⟩) :: .pointer (some ⟨w.heap.size + 1 + 1, 0, none⟩) :: y5 :: y6 :: y7 :: y8 :: y9 :: y10 :: y11 :: y12 :: y13 :: y14 :: y15 :: []), defers := [] } ∧ RD W p ((a * c) / Nat.gcd (a * c) (b * d)) ∧ RD W q ((b * d) / Nat.gcd (a * c) (b * d)) ∧ Pair W (w.heap.size + 1 + 1) 32 (.slice p.a p.n p.c) (.slice q.a q.n q.c) ∧ Below w.heap.size w W) (by kernel_rfl) (by kernel_rfl) (by kernel_rfl) ⟨P1, P2⟩ ?tree ?next
  case tree =>
    generalize (((w.alloc (.cells #[.slice a1.a a1.n a1.c, .slice b1.a b1.n b1.c] 32)).alloc (.cells #[.slice a2.a a2.n a2.c, .slice b2.a b2.n b2.c] 32)).alloc (.cells #[.slice none 0 0, .slice none 0 0] 32)).drew = w4 at P1 P2 P3 ra1 rb1 ra2 rb2 hB ⊢
    refine Rd.tr_float (.pointer (some ⟨w.heap.size, 0, none⟩)) (by simp only [List.getElem?_toArray, List.getElem?_cons_zero]; rfl) rfl (by rfl) (fun X _ => by go_simp) ?_
    simp only [Act.put, List.setIfInBounds_toArray, List.set_cons_succ, List.set_cons_zero]
    refine Rd.tr_float (.slice a1.a a1.n a1.c) (by simp only [List.getElem?_toArray, List.getElem?_cons_succ, List.getElem?_cons_zero]; rfl) rfl (by rfl) (fun X hX => by have h0 := hX.1.c0; have h1 := hX.1.c1; go_simp) ?_
    simp only [Act.put, List.setIfInBounds_toArray, List.set_cons_succ, List.set_cons_zero]
    refine Rd.tr_float (.pointer (some ⟨w.heap.size + 1, 0, none⟩)) (by simp only [List.getElem?_toArray, List.getElem?_cons_succ, List.getElem?_cons_zero]; rfl) rfl (by rfl) (fun X _ => by go_simp) ?_
    simp only [Act.put, List.setIfInBounds_toArray, List.set_cons_succ, List.set_cons_zero]
    refine Rd.tr_float (.slice a2.a a2.n a2.c) (by simp only [List.getElem?_toArray, List.getElem?_cons_succ, List.getElem?_cons_zero]; rfl) rfl (by rfl) (fun X hX => by have h0 := hX.2.c0; have h1 := hX.2.c1; go_simp) ?_
    simp only [Act.put, List.setIfInBounds_toArray, List.set_cons_succ, List.set_cons_zero]
    refine Rd.tr_float (.pointer (some ⟨w.heap.size, 1, none⟩)) (by simp only [List.getElem?_toArray, List.getElem?_cons_succ, List.getElem?_cons_zero]; rfl) rfl (by rfl) (fun X _ => by go_simp) ?_
    simp only [Act.put, List.setIfInBounds_toArray, List.set_cons_succ, List.set_cons_zero]
    refine Rd.tr_float (.slice b1.a b1.n b1.c) (by simp only [List.getElem?_toArray, List.getElem?_cons_succ, List.getElem?_cons_zero]; rfl) rfl (by rfl) (fun X hX => by have h0 := hX.1.c0; have h1 := hX.1.c1; go_simp) ?_
    simp only [Act.put, List.setIfInBounds_toArray, List.set_cons_succ, List.set_cons_zero]
    refine Rd.tr_float (.pointer (some ⟨w.heap.size + 1, 1, none⟩)) (by simp only [List.getElem?_toArray, List.getElem?_cons_succ, List.getElem?_cons_zero]; rfl) rfl (by rfl) (fun X _ => by go_simp) ?_
    simp only [Act.put, List.setIfInBounds_toArray, List.set_cons_succ, List.set_cons_zero]
    refine Rd.tr_float (.slice b2.a b2.n b2.c) (by simp only [List.getElem?_toArray, List.getElem?_cons_succ, List.getElem?_cons_zero]; rfl) rfl (by rfl) (fun X hX => by have h0 := hX.2.c0; have h1 := hX.2.c1; go_simp) ?_
    simp only [Act.put, List.setIfInBounds_toArray, List.set_cons_succ, List.set_cons_zero]
    refine Rd.tr_move (by simp only [List.getElem?_toArray, List.getElem?_cons_succ, List.getElem?_cons_zero]; rfl) rfl (by rfl) (fun K hK => ?_)
    have H7 := Lib.hid (rmul_nat (.slice a1.a a1.n a1.c) (.slice a2.a a2.n a2.c) (a) (c) w4 ra1 ra2 (Nat.le_trans la.out (by omega)) (Nat.le_trans lc.out (by omega)))
    go_simp
    refine H7.out.mono ?_
    rintro e w8 ⟨v6, rfl, rx5, hb⟩
    clear H7
    replace P1 := P1.below hb
    replace P2 := P2.below hb
    replace P3 := P3.below hb
    replace ra1 := ra1.below hb
    replace rb1 := rb1.below hb
    replace ra2 := ra2.below hb
    replace rb2 := rb2.below hb
    replace hB := hB.trans (hb.mono hB.size)
    clear hb
    obtain ⟨x5, rfl, rx5⟩ := rx5.sl
    have HLx5 : Hid ((L (a * c)).length ≤ 200) := Lib.hid (len_mul_le la.out lc.out)
    refine hK _ _ ⟨P1, P2⟩ ?_
    clear hK K
    refine Rd.tr_move (by simp only [List.getElem?_toArray, List.getElem?_cons_succ, List.getElem?_cons_zero]; rfl) rfl (by rfl) (fun K hK => ?_)
    have H11 := Lib.hid (rmul_nat (.slice b1.a b1.n b1.c) (.slice b2.a b2.n b2.c) (b) (d) w8 rb1 rb2 (Nat.le_trans lb.out (by omega)) (Nat.le_trans ld.out (by omega)))
    go_simp
    refine H11.out.mono ?_
    rintro e w12 ⟨v10, rfl, rx9, hb⟩
    clear H11
    replace P1 := P1.below hb
    replace P2 := P2.below hb
    replace P3 := P3.below hb
    replace ra1 := ra1.below hb
    replace rb1 := rb1.below hb
    replace ra2 := ra2.below hb
    replace rb2 := rb2.below hb
    replace rx5 := rx5.below hb
    replace hB := hB.trans (hb.mono hB.size)
    clear hb
    obtain ⟨x9, rfl, rx9⟩ := rx9.sl
    have HLx9 : Hid ((L (b * d)).length ≤ 200) := Lib.hid (len_mul_le lb.out ld.out)
    refine hK _ _ ⟨P1, P2⟩ ?_
    clear hK K
    refine Rd.tr_move (by simp only [List.getElem?_toArray, List.getElem?_cons_succ, List.getElem?_cons_zero]; rfl) rfl (by rfl) (fun K hK => ?_)
    have H15 := Lib.hid (rof_sl x5 x9 (a * c) (b * d) w12 rx5 rx9 (Lib.hid (Nat.le_trans HLx5.out (by omega))) (Lib.hid (Nat.le_trans HLx9.out (by omega))) HNE.out)
    go_simp
    refine H15.out.mono ?_
    rintro e w16 ⟨x13, x14, rfl, rx13, rx14, hb⟩
    clear H15
    replace P1 := P1.below hb
    replace P2 := P2.below hb
    replace P3 := P3.below hb
    replace ra1 := ra1.below hb
    replace rb1 := rb1.below hb
    replace ra2 := ra2.below hb
    replace rb2 := rb2.below hb
    replace rx5 := rx5.below hb
    replace rx9 := rx9.below hb
    replace hB := hB.trans (hb.mono hB.size)
    clear hb
    have HLx13 : Hid ((L ((a * c) / Nat.gcd (a * c) (b * d))).length ≤ 200) := Lib.hid (len_div_le HLx5.out)
    have HLx14 : Hid ((L ((b * d) / Nat.gcd (a * c) (b * d))).length ≤ 200) := Lib.hid (len_div_le HLx9.out)
    refine hK _ _ ⟨P1, P2⟩ ?_
    clear hK K
    refine Rd.tr_move (by simp only [List.getElem?_toArray, List.getElem?_cons_succ, List.getElem?_cons_zero]; rfl) rfl (by rfl) (fun K hK => ?_)
    have c0P3 := P3.c0
    have c1P3 := P3.c1
    have z0P3 := P3.z0
    have z1P3 := P3.z1
    go_simp
    clear c0P3 c1P3 z0P3 z1P3
    replace ra1 := ra1.pset P3 (.slice x13.a x13.n x13.c) (.slice x14.a x14.n x14.c)
    replace rb1 := rb1.pset P3 (.slice x13.a x13.n x13.c) (.slice x14.a x14.n x14.c)
    replace ra2 := ra2.pset P3 (.slice x13.a x13.n x13.c) (.slice x14.a x14.n x14.c)
    replace rb2 := rb2.pset P3 (.slice x13.a x13.n x13.c) (.slice x14.a x14.n x14.c)
    replace rx5 := rx5.pset P3 (.slice x13.a x13.n x13.c) (.slice x14.a x14.n x14.c)
    replace rx9 := rx9.pset P3 (.slice x13.a x13.n x13.c) (.slice x14.a x14.n x14.c)
    replace rx13 := rx13.pset P3 (.slice x13.a x13.n x13.c) (.slice x14.a x14.n x14.c)
    replace rx14 := rx14.pset P3 (.slice x13.a x13.n x13.c) (.slice x14.a x14.n x14.c)
    replace P1 := P1.other (B := w.heap.size + 1 + 1) (by omega) (.slice x13.a x13.n x13.c) (.slice x14.a x14.n x14.c)
    replace P2 := P2.other (B := w.heap.size + 1 + 1) (by omega) (.slice x13.a x13.n x13.c) (.slice x14.a x14.n x14.c)
    replace hB := Below.pset (B := w.heap.size + 1 + 1) hB (by omega) (.slice x13.a x13.n x13.c) (.slice x14.a x14.n x14.c)
    replace P3 := P3.set (.slice x13.a x13.n x13.c) (.slice x14.a x14.n x14.c)
    generalize (w16.setCell ⟨w.heap.size + 1 + 1, 0, none⟩ (.slice x13.a x13.n x13.c)).setCell ⟨w.heap.size + 1 + 1, 1, none⟩ (.slice x14.a x14.n x14.c) = w17 at P1 P2 P3 ra1 rb1 ra2 rb2 rx5 rx9 rx13 rx14 hB ⊢
    refine hK _ _ ⟨P1, P2⟩ ?_
    clear hK K
    exact Rd.tr_end (⟨x13, x14, _, _, _, _, _, _, _, _, _, _, _, rfl, rx13, rx14, P3, hB⟩)
  case next =>
    rintro a3 W ⟨p, q, _, _, _, _, _, _, _, _, _, _, _, rfl, rp, rq, PR, hB⟩
    go_wp2_with fail
    refine bodyPost_ret (v := (.agg #[.slice p.a p.n p.c, .slice q.a q.n q.c])) ?_ rfl ⟨p, q, rfl, rp, rq, hB⟩
    simp [results, Tryz.f61, go_sem, PR.c0, PR.c1]

set_option maxRecDepth 100000 in
set_option maxHeartbeats 4000000 in
theorem rqdiv_nat (a1 b1 a2 b2 : Sl) (a b c d : Nat) (w : World) (ra1 : RD w a1 a) (rb1 : RD w b1 b) (ra2 : RD w a2 c) (rb2 : RD w b2 d) (la : Hid ((L a).length ≤ 100)) (lb : Hid ((L b).length ≤ 100)) (lc : Hid ((L c).length ≤ 100)) (ld : Hid ((L d).length ≤ 100)) (HNE : Hid (b * c ≠ 0)) :
    Calls Tryz.prog 41 #[.agg #[.slice a1.a a1.n a1.c, .slice b1.a b1.n b1.c], .agg #[.slice a2.a a2.n a2.c, .slice b2.a b2.n b2.c]] w fun e w' => ∃ p q : Sl, e = .returned (.agg #[.slice p.a p.n p.c, .slice q.a q.n q.c]) ∧ RD w' p ((a * d) / Nat.gcd (a * d) (b * c)) ∧ RD w' q ((b * c) / Nat.gcd (a * d) (b * c)) ∧ Below w.heap.size w w' := by
  go_enter Tryz.func41, Tryz.ntmps41
  have hb : Below w.heap.size w (((w.alloc (.cells #[.slice a1.a a1.n a1.c, .slice b1.a b1.n b1.c] 32)).alloc (.cells #[.slice a2.a a2.n a2.c, .slice b2.a b2.n b2.c] 32)).alloc (.cells #[.slice none 0 0, .slice none 0 0] 32)) := ((((Below.refl _ _).alloc (Nat.le_refl _) _).alloc (by simp) _).alloc (by simp; omega) _)
  replace ra1 := ra1.below hb
  replace rb1 := rb1.below hb
  replace ra2 := ra2.below hb
  replace rb2 := rb2.below hb
  have hB := hb
  have P1 : Pair (((w.alloc (.cells #[.slice a1.a a1.n a1.c, .slice b1.a b1.n b1.c] 32)).alloc (.cells #[.slice a2.a a2.n a2.c, .slice b2.a b2.n b2.c] 32)).alloc (.cells #[.slice none 0 0, .slice none 0 0] 32)) (w.heap.size) 32 (.slice a1.a a1.n a1.c) (.slice b1.a b1.n b1.c) := by
    have h := ((Pair.new w 32 (.slice a1.a a1.n a1.c) (.slice b1.a b1.n b1.c)).alloc (.cells #[.slice a2.a a2.n a2.c, .slice b2.a b2.n b2.c] 32)).alloc (.cells #[.slice none 0 0, .slice none 0 0] 32)
    simpa only [World.size_alloc] using h
  have P2 : Pair (((w.alloc (.cells #[.slice a1.a a1.n a1.c, .slice b1.a b1.n b1.c] 32)).alloc (.cells #[.slice a2.a a2.n a2.c, .slice b2.a b2.n b2.c] 32)).alloc (.cells #[.slice none 0 0, .slice none 0 0] 32)) (w.heap.size + 1) 32 (.slice a2.a a2.n a2.c) (.slice b2.a b2.n b2.c) := by
    have h := (Pair.new (w.alloc (.cells #[.slice a1.a a1.n a1.c, .slice b1.a b1.n b1.c] 32)) 32 (.slice a2.a a2.n a2.c) (.slice b2.a b2.n b2.c)).alloc (.cells #[.slice none 0 0, .slice none 0 0] 32)
    simpa only [World.size_alloc] using h
  have P3 : Pair (((w.alloc (.cells #[.slice a1.a a1.n a1.c, .slice b1.a b1.n b1.c] 32)).alloc (.cells #[.slice a2.a a2.n a2.c, .slice b2.a b2.n b2.c] 32)).alloc (.cells #[.slice none 0 0, .slice none 0 0] 32)) (w.heap.size + 1 + 1) 32 (.slice none 0 0) (.slice none 0 0) := by
    have h := Pair.new ((w.alloc (.cells #[.slice a1.a a1.n a1.c, .slice b1.a b1.n b1.c] 32)).alloc (.cells #[.slice a2.a a2.n a2.c, .slice b2.a b2.n b2.c] 32)) 32 (.slice none 0 0) (.slice none 0 0)
    simpa only [World.size_alloc] using h
  clear hb
  have c0P1 := P1.c0
  have c1P1 := P1.c1
  have c0P2 := P2.c0
  have c1P2 := P2.c1
  have c0P3 := P3.c0
  have c1P3 := P3.c1
  go_wp2_with fail
  clear c0P1 c1P1 c0P2 c1P2 c0P3 c1P3
  have hb : Below (((w.alloc (.cells #[.slice a1.a a1.n a1.c, .slice b1.a b1.n b1.c] 32)).alloc (.cells #[.slice a2.a a2.n a2.c, .slice b2.a b2.n b2.c] 32)).alloc (.cells #[.slice none 0 0, .slice none 0 0] 32)).heap.size (((w.alloc (.cells #[.slice a1.a a1.n a1.c, .slice b1.a b1.n b1.c] 32)).alloc (.cells #[.slice a2.a a2.n a2.c, .slice b2.a b2.n b2.c] 32)).alloc (.cells #[.slice none 0 0, .slice none 0 0] 32)) (((w.alloc (.cells #[.slice a1.a a1.n a1.c, .slice b1.a b1.n b1.c] 32)).alloc (.cells #[.slice a2.a a2.n a2.c, .slice b2.a b2.n b2.c] 32)).alloc (.cells #[.slice none 0 0, .slice none 0 0] 32)).drew := (Below.refl _ _).drew
  replace P1 := P1.below hb
  replace P2 := P2.below hb
  replace P3 := P3.below hb
  replace ra1 := ra1.below hb
  replace rb1 := rb1.below hb
  replace ra2 := ra2.below hb
  replace rb2 := rb2.below hb
  replace hB := hB.trans (hb.mono hB.size)
  clear hb
  refine Rd.regionT (fun X => Pair X (w.heap.size) 32 (.slice a1.a a1.n a1.c) (.slice b1.a b1.n b1.c) ∧ Pair X (w.heap.size + 1) 32 (.slice a2.a a2.n a2.c) (.slice b2.a b2.n b2.c)) [0, 1, 2, 3, 5, 6, 7, 8] (.one 0 (.one 1 (.one 2 (.one 3 (.one 5 (.one 6 (.one 7 (.one 8 (.one 4 (.one 9 (.one 10 (.one 11 .done)))))))))))) (fun ac W => ∃ (p : Sl) (q : Sl) (y5 y6 y7 y8 y9 y10 y11 y12 y13 y14 y15 : Value), ac = { tmps := List.toArray (.agg #[.slice a1.a a1.n a1.c, .slice b1.a b1.n b1.c] :: .agg #[.slice a2.a a2.n a2.c, .slice b2.a b2.n b2.c] :: .pointer (some ⟨w.heap.size, 0, none⟩) :: .pointer (some ⟨w.heap.size + 1, 0, none⟩) :: .pointer (some ⟨w.heap.size + 1 + 1, 0, none⟩) :: y5 :: y6 :: y7 :: y8 :: y9 :: y10 :: y11 :: y12 :: y13 :: y14 :: y15 :: []), defers := [] } ∧ RD W p ((a * d) / Nat.gcd (a * d) (b * c)) ∧ RD W q ((b * c) / Nat.gcd (a * d) (b * c)) ∧ Pair W (w.heap.size + 1 + 1) 32 (.slice p.a p.n p.c) (.slice q.a q.n q.c) ∧ Below w.heap.size w W) (by kernel_rfl) (by kernel_rfl) (by kernel_rfl) ⟨P1, P2⟩ ?tree ?next
  case tree =>
    generalize (((w.alloc (.cells #[.slice a1.a a1.n a1.c, .slice b1.a b1.n b1.c] 32)).alloc (.cells #[.slice a2.a a2.n a2.c, .slice b2.a b2.n b2.c] 32)).alloc (.cells #[.slice none 0 0, .slice none 0 0] 32)).drew = w4 at P1 P2 P3 ra1 rb1 ra2 rb2 hB ⊢
    refine Rd.tr_float (.pointer (some ⟨w.heap.size, 0, none⟩)) (by simp only [List.getElem?_toArray, List.getElem?_cons_zero]; rfl) rfl (by rfl) (fun X _ => by go_simp) ?_
    simp only [Act.put, List.setIfInBounds_toArray, List.set_cons_succ, List.set_cons_zero]
    refine Rd.tr_float (.slice a1.a a1.n a1.c) (by simp only [List.getElem?_toArray, List.getElem?_cons_succ, List.getElem?_cons_zero]; rfl) rfl (by rfl) (fun X hX => by have h0 := hX.1.c0; have h1 := hX.1.c1; go_simp) ?_
    simp only [Act.put, List.setIfInBounds_toArray, List.set_cons_succ, List.set_cons_zero]
    refine Rd.tr_float (.pointer (some ⟨w.heap.size + 1, 1, none⟩)) (by simp only [List.getElem?_toArray, List.getElem?_cons_succ, List.getElem?_cons_zero]; rfl) rfl (by rfl) (fun X _ => by go_simp) ?_
    simp only [Act.put, List.setIfInBounds_toArray, List.set_cons_succ, List.set_cons_zero]
    refine Rd.tr_float (.slice b2.a b2.n b2.c) (by simp only [List.getElem?_toArray, List.getElem?_cons_succ, List.getElem?_cons_zero]; rfl) rfl (by rfl) (fun X hX => by have h0 := hX.2.c0; have h1 := hX.2.c1; go_simp) ?_
    simp only [Act.put, List.setIfInBounds_toArray, List.set_cons_succ, List.set_cons_zero]
    refine Rd.tr_float (.pointer (some ⟨w.heap.size, 1, none⟩)) (by simp only [List.getElem?_toArray, List.getElem?_cons_succ, List.getElem?_cons_zero]; rfl) rfl (by rfl) (fun X _ => by go_simp) ?_
    simp only [Act.put, List.setIfInBounds_toArray, List.set_cons_succ, List.set_cons_zero]
    refine Rd.tr_float (.slice b1.a b1.n b1.c) (by simp only [List.getElem?_toArray, List.getElem?_cons_succ, List.getElem?_cons_zero]; rfl) rfl (by rfl) (fun X hX => by have h0 := hX.1.c0; have h1 := hX.1.c1; go_simp) ?_
    simp only [Act.put, List.setIfInBounds_toArray, List.set_cons_succ, List.set_cons_zero]
    refine Rd.tr_float (.pointer (some ⟨w.heap.size + 1, 0, none⟩)) (by simp only [List.getElem?_toArray, List.getElem?_cons_succ, List.getElem?_cons_zero]; rfl) rfl (by rfl) (fun X _ => by go_simp) ?_
    simp only [Act.put, List.setIfInBounds_toArray, List.set_cons_succ, List.set_cons_zero]
    refine Rd.tr_float (.slice a2.a a2.n a2.c) (by simp only [List.getElem?_toArray, List.getElem?_cons_succ, List.getElem?_cons_zero]; rfl) rfl (by rfl) (fun X hX => by have h0 := hX.2.c0; have h1 := hX.2.c1; go_simp) ?_
    simp only [Act.put, List.setIfInBounds_toArray, List.set_cons_succ, List.set_cons_zero]
    refine Rd.tr_move (by simp only [List.getElem?_toArray, List.getElem?_cons_succ, List.getElem?_cons_zero]; rfl) rfl (by rfl) (fun K hK => ?_)
    have H7 := Lib.hid (rmul_nat (.slice a1.a a1.n a1.c) (.slice b2.a b2.n b2.c) (a) (d) w4 ra1 rb2 (Nat.le_trans la.out (by omega)) (Nat.le_trans ld.out (by omega)))
    go_simp
    refine H7.out.mono ?_
    rintro e w8 ⟨v6, rfl, rx5, hb⟩
    clear H7
    replace P1 := P1.below hb
    replace P2 := P2.below hb
    replace P3 := P3.below hb
    replace ra1 := ra1.below hb
    replace rb1 := rb1.below hb
    replace ra2 := ra2.below hb
    replace rb2 := rb2.below hb
    replace hB := hB.trans (hb.mono hB.size)
    clear hb
    obtain ⟨x5, rfl, rx5⟩ := rx5.sl
    have HLx5 : Hid ((L (a * d)).length ≤ 200) := Lib.hid (len_mul_le la.out ld.out)
    refine hK _ _ ⟨P1, P2⟩ ?_
    clear hK K
    refine Rd.tr_move (by simp only [List.getElem?_toArray, List.getElem?_cons_succ, List.getElem?_cons_zero]; rfl) rfl (by rfl) (fun K hK => ?_)
    have H11 := Lib.hid (rmul_nat (.slice b1.a b1.n b1.c) (.slice a2.a a2.n a2.c) (b) (c) w8 rb1 ra2 (Nat.le_trans lb.out (by omega)) (Nat.le_trans lc.out (by omega)))
    go_simp
    refine H11.out.mono ?_
    rintro e w12 ⟨v10, rfl, rx9, hb⟩
    clear H11
    replace P1 := P1.below hb
    replace P2 := P2.below hb
    replace P3 := P3.below hb
    replace ra1 := ra1.below hb
    replace rb1 := rb1.below hb
    replace ra2 := ra2.below hb
    replace rb2 := rb2.below hb
    replace rx5 := rx5.below hb
    replace hB := hB.trans (hb.mono hB.size)
    clear hb
    obtain ⟨x9, rfl, rx9⟩ := rx9.sl
    have HLx9 : Hid ((L (b * c)).length ≤ 200) := Lib.hid (len_mul_le lb.out lc.out)
    refine hK _ _ ⟨P1, P2⟩ ?_
    clear hK K
    refine Rd.tr_move (by simp only [List.getElem?_toArray, List.getElem?_cons_succ, List.getElem?_cons_zero]; rfl) rfl (by rfl) (fun K hK => ?_)
    have H15 := Lib.hid (rof_sl x5 x9 (a * d) (b * c) w12 rx5 rx9 (Lib.hid (Nat.le_trans HLx5.out (by omega))) (Lib.hid (Nat.le_trans HLx9.out (by omega))) HNE.out)
    go_simp
    refine H15.out.mono ?_
    rintro e w16 ⟨x13, x14, rfl, rx13, rx14, hb⟩
    clear H15
    replace P1 := P1.below hb
    replace P2 := P2.below hb
    replace P3 := P3.below hb
    replace ra1 := ra1.below hb
    replace rb1 := rb1.below hb
    replace ra2 := ra2.below hb
    replace rb2 := rb2.below hb
    replace rx5 := rx5.below hb
    replace rx9 := rx9.below hb
    replace hB := hB.trans (hb.mono hB.size)
    clear hb
    have HLx13 : Hid ((L ((a * d) / Nat.gcd (a * d) (b * c))).length ≤ 200) := Lib.hid (len_div_le HLx5.out)
    have HLx14 : Hid ((L ((b * c) / Nat.gcd (a * d) (b * c))).length ≤ 200) := Lib.hid (len_div_le HLx9.out)
    refine hK _ _ ⟨P1, P2⟩ ?_
    clear hK K
    refine Rd.tr_move (by simp only [List.getElem?_toArray, List.getElem?_cons_succ, List.getElem?_cons_zero]; rfl) rfl (by rfl) (fun K hK => ?_)
    have c0P3 := P3.c0
    have c1P3 := P3.c1
    have z0P3 := P3.z0
    have z1P3 := P3.z1
    go_simp
    clear c0P3 c1P3 z0P3 z1P3
    replace ra1 := ra1.pset P3 (.slice x13.a x13.n x13.c) (.slice x14.a x14.n x14.c)
    replace rb1 := rb1.pset P3 (.slice x13.a x13.n x13.c) (.slice x14.a x14.n x14.c)
    replace ra2 := ra2.pset P3 (.slice x13.a x13.n x13.c) (.slice x14.a x14.n x14.c)
    replace rb2 := rb2.pset P3 (.slice x13.a x13.n x13.c) (.slice x14.a x14.n x14.c)
    replace rx5 := rx5.pset P3 (.slice x13.a x13.n x13.c) (.slice x14.a x14.n x14.c)
    replace rx9 := rx9.pset P3 (.slice x13.a x13.n x13.c) (.slice x14.a x14.n x14.c)
    replace rx13 := rx13.pset P3 (.slice x13.a x13.n x13.c) (.slice x14.a x14.n x14.c)
    replace rx14 := rx14.pset P3 (.slice x13.a x13.n x13.c) (.slice x14.a x14.n x14.c)
    replace P1 := P1.other (B := w.heap.size + 1 + 1) (by omega) (.slice x13.a x13.n x13.c) (.slice x14.a x14.n x14.c)
    replace P2 := P2.other (B := w.heap.size + 1 + 1) (by omega) (.slice x13.a x13.n x13.c) (.slice x14.a x14.n x14.c)
    replace hB := Below.pset (B := w.heap.size + 1 + 1) hB (by omega) (.slice x13.a x13.n x13.c) (.slice x14.a x14.n x14.c)
    replace P3 := P3.set (.slice x13.a x13.n x13.c) (.slice x14.a x14.n x14.c)
    generalize (w16.setCell ⟨w.heap.size + 1 + 1, 0, none⟩ (.slice x13.a x13.n x13.c)).setCell ⟨w.heap.size + 1 + 1, 1, none⟩ (.slice x14.a x14.n x14.c) = w17 at P1 P2 P3 ra1 rb1 ra2 rb2 rx5 rx9 rx13 rx14 hB ⊢
    refine hK _ _ ⟨P1, P2⟩ ?_
    clear hK K
    exact Rd.tr_end (⟨x13, x14, _, _, _, _, _, _, _, _, _, _, _, rfl, rx13, rx14, P3, hB⟩)
  case next =>
    rintro a3 W ⟨p, q, _, _, _, _, _, _, _, _, _, _, _, rfl, rp, rq, PR, hB⟩
    go_wp2_with fail
    refine bodyPost_ret (v := (.agg #[.slice p.a p.n p.c, .slice q.a q.n q.c])) ?_ rfl ⟨p, q, rfl, rp, rq, hB⟩
    simp [results, Tryz.f41, go_sem, PR.c0, PR.c1]

set_option maxRecDepth 100000 in
set_option maxHeartbeats 4000000 in
theorem rint_pos (n : Nat) (hn : Hid (n < 9223372036854775808)) (w : World) :
    Calls Tryz.prog 35 #[.int .i64 (n : Int)] w fun e w' => ∃ p q : Sl, e = .returned (.agg #[.slice p.a p.n p.c, .slice q.a q.n q.c]) ∧ RD w' p n ∧ RD w' q 1 ∧ Below w.heap.size w w' := by
  go_enter Tryz.func35, Tryz.ntmps35
  have hb : Below w.heap.size w (w.alloc (.cells #[.slice none 0 0, .slice none 0 0] 32)) := ((Below.refl _ _).alloc (Nat.le_refl _) _)
  have hB := hb
  have P1 : Pair (w.alloc (.cells #[.slice none 0 0, .slice none 0 0] 32)) (w.heap.size) 32 (.slice none 0 0) (.slice none 0 0) := by
    have h := Pair.new w 32 (.slice none 0 0) (.slice none 0 0)
    simpa only [World.size_alloc] using h
  clear hb
  have c0P1 := P1.c0
  have c1P1 := P1.c1
  have H4 := Lib.hid (Of_any n (w.alloc (.cells #[.slice none 0 0, .slice none 0 0] 32)) hn.out)
  go_wp2_with fail
  clear c0P1 c1P1
  refine H4.out.mono ?_
  rintro e w5 ⟨v3, rfl, rx2, hb⟩
  clear H4
  replace P1 := P1.below hb
  replace hB := hB.trans (hb.mono hB.size)
  clear hb
  obtain ⟨x2, rfl, rx2⟩ := rx2.sl
  have HLx2 : Hid ((L (n)).length ≤ 1) := Lib.hid (one_row n (by have h : n < 9223372036854775808 := hn.out; omega))
  have c0P1 := P1.c0
  have c1P1 := P1.c1
  have H8 := Lib.hid (Of_any (1) w5 (by omega))
  go_wp2_with fail
  clear c0P1 c1P1
  refine H8.out.mono ?_
  rintro e w9 ⟨v7, rfl, rx6, hb⟩
  clear H8
  replace P1 := P1.below hb
  replace rx2 := rx2.below hb
  replace hB := hB.trans (hb.mono hB.size)
  clear hb
  obtain ⟨x6, rfl, rx6⟩ := rx6.sl
  have HLx6 : Hid ((L (1)).length ≤ 1) := Lib.hid (one_row (1) (by have h : 1 < 9223372036854775808 := (by omega); omega))
  have c0P1 := P1.c0
  have c1P1 := P1.c1
  have z0P1 := P1.z0
  have z1P1 := P1.z1
  go_wp2_with fail
  replace rx2 := rx2.pset P1 (.slice x2.a x2.n x2.c) (.slice x6.a x6.n x6.c)
  replace rx6 := rx6.pset P1 (.slice x2.a x2.n x2.c) (.slice x6.a x6.n x6.c)
  replace hB := Below.pset hB (by omega : w.heap.size ≤ w.heap.size) (.slice x2.a x2.n x2.c) (.slice x6.a x6.n x6.c)
  have P1x := P1.set (.slice x2.a x2.n x2.c) (.slice x6.a x6.n x6.c)
  generalize (w9.setCell ⟨w.heap.size, 0, none⟩ (.slice x2.a x2.n x2.c)).setCell ⟨w.heap.size, 1, none⟩ (.slice x6.a x6.n x6.c) = WW at rx2 rx6 P1x hB ⊢
  refine bodyPost_ret (v := .agg #[.slice x2.a x2.n x2.c, .slice x6.a x6.n x6.c]) ?_ rfl (⟨x2, x6, rfl, rx2, rx6, hB⟩)
  simp [results, Tryz.f35, go_sem, P1x.c0, P1x.c1]

set_option maxRecDepth 100000 in
set_option maxHeartbeats 4000000 in
theorem rint_neg (z : Int) (hz : Hid (z < 0)) (w : World) :
    Calls Tryz.prog 35 #[.int .i64 z] w fun e w' => ∃ p q : Sl, e = .returned (.agg #[.slice p.a p.n p.c, .slice q.a q.n q.c]) ∧ RD w' p 0 ∧ RD w' q 1 ∧ Below w.heap.size w w' := by
  have hmx : max z 0 = 0 := by have := hz.out; omega
  go_enter Tryz.func35, Tryz.ntmps35
  have hb : Below w.heap.size w (w.alloc (.cells #[.slice none 0 0, .slice none 0 0] 32)) := ((Below.refl _ _).alloc (Nat.le_refl _) _)
  have hB := hb
  have P1 : Pair (w.alloc (.cells #[.slice none 0 0, .slice none 0 0] 32)) (w.heap.size) 32 (.slice none 0 0) (.slice none 0 0) := by
    have h := Pair.new w 32 (.slice none 0 0) (.slice none 0 0)
    simpa only [World.size_alloc] using h
  clear hb
  have c0P1 := P1.c0
  have c1P1 := P1.c1
  have H4 := Lib.hid (Of_any (0) (w.alloc (.cells #[.slice none 0 0, .slice none 0 0] 32)) (by omega))
  go_wp2_with fail
  clear c0P1 c1P1
  refine H4.out.mono ?_
  rintro e w5 ⟨v3, rfl, rx2, hb⟩
  clear H4
  replace P1 := P1.below hb
  replace hB := hB.trans (hb.mono hB.size)
  clear hb
  obtain ⟨x2, rfl, rx2⟩ := rx2.sl
  have HLx2 : Hid ((L (0)).length ≤ 1) := Lib.hid (one_row (0) (by have h : 0 < 9223372036854775808 := (by omega); omega))
  have c0P1 := P1.c0
  have c1P1 := P1.c1
  have H8 := Lib.hid (Of_any (1) w5 (by omega))
  go_wp2_with fail
  clear c0P1 c1P1
  refine H8.out.mono ?_
  rintro e w9 ⟨v7, rfl, rx6, hb⟩
  clear H8
  replace P1 := P1.below hb
  replace rx2 := rx2.below hb
  replace hB := hB.trans (hb.mono hB.size)
  clear hb
  obtain ⟨x6, rfl, rx6⟩ := rx6.sl
  have HLx6 : Hid ((L (1)).length ≤ 1) := Lib.hid (one_row (1) (by have h : 1 < 9223372036854775808 := (by omega); omega))
  have c0P1 := P1.c0
  have c1P1 := P1.c1
  have z0P1 := P1.z0
  have z1P1 := P1.z1
  go_wp2_with fail
  replace rx2 := rx2.pset P1 (.slice x2.a x2.n x2.c) (.slice x6.a x6.n x6.c)
  replace rx6 := rx6.pset P1 (.slice x2.a x2.n x2.c) (.slice x6.a x6.n x6.c)
  replace hB := Below.pset hB (by omega : w.heap.size ≤ w.heap.size) (.slice x2.a x2.n x2.c) (.slice x6.a x6.n x6.c)
  have P1x := P1.set (.slice x2.a x2.n x2.c) (.slice x6.a x6.n x6.c)
  generalize (w9.setCell ⟨w.heap.size, 0, none⟩ (.slice x2.a x2.n x2.c)).setCell ⟨w.heap.size, 1, none⟩ (.slice x6.a x6.n x6.c) = WW at rx2 rx6 P1x hB ⊢
  refine bodyPost_ret (v := .agg #[.slice x2.a x2.n x2.c, .slice x6.a x6.n x6.c]) ?_ rfl (⟨x2, x6, rfl, rx2, rx6, hB⟩)
  simp [results, Tryz.f35, go_sem, P1x.c0, P1x.c1]

end Go.Proofs.YtphllajedkpcbaaGreatDoor
