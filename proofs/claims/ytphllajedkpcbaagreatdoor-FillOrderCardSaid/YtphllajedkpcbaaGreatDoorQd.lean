/-
  Add, Mul, Int of ratio: their answers, in naturals. Condition: not more than a hundred limbs.
-/
import Derived.Test.YtphllajedkpcbaaGreatDoorQc
namespace Go.Proofs.YtphllajedkpcbaaGreatDoor
open Go.RowKit Go.Dig Go.Shelf Go.Proofs

theorem wrap_u64 (n : Nat) (h : n < 18446744073709551616) : IntKind.u64.wrap (n : Int) = (n : Int) := by
  have e : (2 : Int) ^ IntKind.u64.bits = 18446744073709551616 := by decide
  simp only [IntKind.wrap, e]
  rw [if_neg (by simp [IntKind.signed])]
  omega
set_option maxRecDepth 100000 in
set_option maxHeartbeats 4000000 in
theorem qadd_nat (a1 b1 a2 b2 : Sl) (a b c d : Nat) (w : World) (ra1 : RU w a1 a) (rb1 : RU w b1 b) (ra2 : RU w a2 c) (rb2 : RU w b2 d) (la : Hid ((L a).length ≤ 100)) (lb : Hid ((L b).length ≤ 100)) (lc : Hid ((L c).length ≤ 100)) (ld : Hid ((L d).length ≤ 100)) (HNE : Hid (b * d ≠ 0)) :
    Calls Tryz.prog 15 #[.agg #[.slice a1.a a1.n a1.c, .slice b1.a b1.n b1.c], .agg #[.slice a2.a a2.n a2.c, .slice b2.a b2.n b2.c]] w fun e w' => ∃ p q : Sl, e = .returned (.agg #[.slice p.a p.n p.c, .slice q.a q.n q.c]) ∧ RU w' p (((a * d) + (c * b)) / Nat.gcd ((a * d) + (c * b)) (b * d)) ∧ RU w' q ((b * d) / Nat.gcd ((a * d) + (c * b)) (b * d)) ∧ Below w.heap.size w w' := by
  go_enter Tryz.func15, Tryz.ntmps15
  have hb : Below w.heap.size w (((w.alloc (.cells #[.slice a1.a a1.n a1.c, .slice b1.a b1.n b1.c] 29)).alloc (.cells #[.slice a2.a a2.n a2.c, .slice b2.a b2.n b2.c] 29)).alloc (.cells #[.slice none 0 0, .slice none 0 0] 29)) := ((((Below.refl _ _).alloc (Nat.le_refl _) _).alloc (by simp) _).alloc (by simp; omega) _)
  replace ra1 := ra1.below hb
  replace rb1 := rb1.below hb
  replace ra2 := ra2.below hb
  replace rb2 := rb2.below hb
  have hB := hb
  have P1 : Pair (((w.alloc (.cells #[.slice a1.a a1.n a1.c, .slice b1.a b1.n b1.c] 29)).alloc (.cells #[.slice a2.a a2.n a2.c, .slice b2.a b2.n b2.c] 29)).alloc (.cells #[.slice none 0 0, .slice none 0 0] 29)) (w.heap.size) 29 (.slice a1.a a1.n a1.c) (.slice b1.a b1.n b1.c) := by
    have h := ((Pair.new w 29 (.slice a1.a a1.n a1.c) (.slice b1.a b1.n b1.c)).alloc (.cells #[.slice a2.a a2.n a2.c, .slice b2.a b2.n b2.c] 29)).alloc (.cells #[.slice none 0 0, .slice none 0 0] 29)
    simpa only [World.size_alloc] using h
  have P2 : Pair (((w.alloc (.cells #[.slice a1.a a1.n a1.c, .slice b1.a b1.n b1.c] 29)).alloc (.cells #[.slice a2.a a2.n a2.c, .slice b2.a b2.n b2.c] 29)).alloc (.cells #[.slice none 0 0, .slice none 0 0] 29)) (w.heap.size + 1) 29 (.slice a2.a a2.n a2.c) (.slice b2.a b2.n b2.c) := by
    have h := (Pair.new (w.alloc (.cells #[.slice a1.a a1.n a1.c, .slice b1.a b1.n b1.c] 29)) 29 (.slice a2.a a2.n a2.c) (.slice b2.a b2.n b2.c)).alloc (.cells #[.slice none 0 0, .slice none 0 0] 29)
    simpa only [World.size_alloc] using h
  have P3 : Pair (((w.alloc (.cells #[.slice a1.a a1.n a1.c, .slice b1.a b1.n b1.c] 29)).alloc (.cells #[.slice a2.a a2.n a2.c, .slice b2.a b2.n b2.c] 29)).alloc (.cells #[.slice none 0 0, .slice none 0 0] 29)) (w.heap.size + 1 + 1) 29 (.slice none 0 0) (.slice none 0 0) := by
    have h := Pair.new ((w.alloc (.cells #[.slice a1.a a1.n a1.c, .slice b1.a b1.n b1.c] 29)).alloc (.cells #[.slice a2.a a2.n a2.c, .slice b2.a b2.n b2.c] 29)) 29 (.slice none 0 0) (.slice none 0 0)
    simpa only [World.size_alloc] using h
  clear hb
  have c0P1 := P1.c0
  have c1P1 := P1.c1
  have c0P2 := P2.c0
  have c1P2 := P2.c1
  have c0P3 := P3.c0
  have c1P3 := P3.c1
  have H6 := Lib.hid (crossed_nat a1 b1 a2 b2 (a) (b) (c) (d) (((w.alloc (.cells #[.slice a1.a a1.n a1.c, .slice b1.a b1.n b1.c] 29)).alloc (.cells #[.slice a2.a a2.n a2.c, .slice b2.a b2.n b2.c] 29)).alloc (.cells #[.slice none 0 0, .slice none 0 0] 29)) ra1 rb1 ra2 rb2 (Lib.hid (Nat.le_trans la.out (by omega))) (Lib.hid (Nat.le_trans lb.out (by omega))) (Lib.hid (Nat.le_trans lc.out (by omega))) (Lib.hid (Nat.le_trans ld.out (by omega))))
  go_wp2_with fail
  clear c0P1 c1P1 c0P2 c1P2 c0P3 c1P3
  refine H6.out.mono ?_
  rintro e w7 ⟨x4, x5, rfl, rx4, rx5, hb⟩
  clear H6
  replace P1 := P1.below hb
  replace P2 := P2.below hb
  replace P3 := P3.below hb
  replace ra1 := ra1.below hb
  replace rb1 := rb1.below hb
  replace ra2 := ra2.below hb
  replace rb2 := rb2.below hb
  replace hB := hB.trans (hb.mono hB.size)
  clear hb
  have HLx4 : Hid ((L (a * d)).length ≤ 200) := Lib.hid (len_mul_le la.out ld.out)
  have HLx5 : Hid ((L (c * b)).length ≤ 200) := Lib.hid (len_mul_le lc.out lb.out)
  have c0P1 := P1.c0
  have c1P1 := P1.c1
  have c0P2 := P2.c0
  have c1P2 := P2.c1
  have c0P3 := P3.c0
  have c1P3 := P3.c1
  go_wp2_with fail
  clear c0P1 c1P1 c0P2 c1P2 c0P3 c1P3
  have hb : Below w7.heap.size w7 w7.drew := (Below.refl _ _).drew
  replace P1 := P1.below hb
  replace P2 := P2.below hb
  replace P3 := P3.below hb
  replace ra1 := ra1.below hb
  replace rb1 := rb1.below hb
  replace ra2 := ra2.below hb
  replace rb2 := rb2.below hb
  replace rx4 := rx4.below hb
  replace rx5 := rx5.below hb
  replace hB := hB.trans (hb.mono hB.size)
  clear hb
  refine Rd.regionT (fun X => Pair X (w.heap.size) 29 (.slice a1.a a1.n a1.c) (.slice b1.a b1.n b1.c) ∧ Pair X (w.heap.size + 1) 29 (.slice a2.a a2.n a2.c) (.slice b2.a b2.n b2.c) ∧ Pair X (w.heap.size + 1 + 1) 29 (.slice none 0 0) (.slice none 0 0)) [0, 1, 3, 4, 5, 6, 9, 10, 11, 14] (.one 0 (.one 1 (.one 3 (.one 4 (.one 5 (.one 6 (.two 2 (.two 7 (.two 8 (.one 9 (.one 10 (.one 11 (.one 12 (.one 13 (.one 14 .done)))))) 12 (.one 8 (.one 9 (.one 10 (.one 11 (.one 13 (.one 14 .done))))))) 12 (.one 7 (.one 8 (.one 9 (.one 10 (.one 11 (.one 13 (.one 14 .done)))))))) 12 (.one 2 (.one 7 (.one 8 (.one 9 (.one 10 (.one 11 (.one 13 (.one 14 .done))))))))))))))) (fun ac W => ∃ (BB : Nat) (p : Sl) (q : Sl) (y8 y15 y16 y17 y18 y19 y20 y21 y22 y23 y24 y25 y26 : Value), ac = { tmps := List.toArray (.agg #[.slice a1.a a1.n a1.c, .slice b1.a b1.n b1.c] :: .agg #[.slice a2.a a2.n a2.c, .slice b2.a b2.n b2.c] :: .pointer (some ⟨w.heap.size, 0, none⟩) :: .pointer (some ⟨w.heap.size + 1, 0, none⟩) :: .pointer (some ⟨w.heap.size + 1 + 1, 0, none⟩) :: .slice x4.a x4.n x4.c :: .slice x5.a x5.n x5.c :: .pointer (some ⟨BB, 0, none⟩) :: y8 :: .tuple #[.slice x4.a x4.n x4.c, .slice x5.a x5.n x5.c] :: .agg #[.slice a1.a a1.n a1.c, .slice b1.a b1.n b1.c] :: .agg #[.slice a2.a a2.n a2.c, .slice b2.a b2.n b2.c] :: .tuple #[.slice x4.a x4.n x4.c, .slice x5.a x5.n x5.c] :: .slice x4.a x4.n x4.c :: .slice x5.a x5.n x5.c :: y15 :: y16 :: y17 :: y18 :: y19 :: y20 :: y21 :: y22 :: y23 :: y24 :: y25 :: y26 :: undef :: []), defers := [] } ∧ RU W p (((a * d) + (c * b)) / Nat.gcd ((a * d) + (c * b)) (b * d)) ∧ RU W q ((b * d) / Nat.gcd ((a * d) + (c * b)) (b * d)) ∧ Pair W BB 29 (.slice p.a p.n p.c) (.slice q.a q.n q.c) ∧ Pair W (w.heap.size + 1 + 1) 29 (.slice none 0 0) (.slice none 0 0) ∧ Below w.heap.size w W) (by kernel_rfl) (by kernel_rfl) (by kernel_rfl) ⟨P1, P2, P3⟩ ?tree ?next
  case tree =>
    generalize w7.drew = w8 at P1 P2 P3 ra1 rb1 ra2 rb2 rx4 rx5 hB ⊢
    refine Rd.tr_float (.slice x4.a x4.n x4.c) (by simp only [List.getElem?_toArray, List.getElem?_cons_zero]; rfl) rfl (by rfl) (fun X _ => by go_simp) ?_
    simp only [Act.put, List.setIfInBounds_toArray, List.set_cons_succ, List.set_cons_zero]
    refine Rd.tr_float (.slice x5.a x5.n x5.c) (by simp only [List.getElem?_toArray, List.getElem?_cons_succ, List.getElem?_cons_zero]; rfl) rfl (by rfl) (fun X _ => by go_simp) ?_
    simp only [Act.put, List.setIfInBounds_toArray, List.set_cons_succ, List.set_cons_zero]
    refine Rd.tr_float (.pointer (some ⟨w.heap.size, 1, none⟩)) (by simp only [List.getElem?_toArray, List.getElem?_cons_succ, List.getElem?_cons_zero]; rfl) rfl (by rfl) (fun X _ => by go_simp) ?_
    simp only [Act.put, List.setIfInBounds_toArray, List.set_cons_succ, List.set_cons_zero]
    refine Rd.tr_float (.slice b1.a b1.n b1.c) (by simp only [List.getElem?_toArray, List.getElem?_cons_succ, List.getElem?_cons_zero]; rfl) rfl (by rfl) (fun X hX => by have h0 := hX.1.c0; have h1 := hX.1.c1; go_simp) ?_
    simp only [Act.put, List.setIfInBounds_toArray, List.set_cons_succ, List.set_cons_zero]
    refine Rd.tr_float (.pointer (some ⟨w.heap.size + 1, 1, none⟩)) (by simp only [List.getElem?_toArray, List.getElem?_cons_succ, List.getElem?_cons_zero]; rfl) rfl (by rfl) (fun X _ => by go_simp) ?_
    simp only [Act.put, List.setIfInBounds_toArray, List.set_cons_succ, List.set_cons_zero]
    refine Rd.tr_float (.slice b2.a b2.n b2.c) (by simp only [List.getElem?_toArray, List.getElem?_cons_succ, List.getElem?_cons_zero]; rfl) rfl (by rfl) (fun X hX => by have h0 := hX.2.1.c0; have h1 := hX.2.1.c1; go_simp) ?_
    simp only [Act.put, List.setIfInBounds_toArray, List.set_cons_succ, List.set_cons_zero]
    refine Rd.tr_two (by simp only [List.getElem?_toArray, List.getElem?_cons_succ, List.getElem?_cons_zero]; rfl) (by rfl) (by simp only [List.getElem?_toArray, List.getElem?_cons_succ, List.getElem?_cons_zero]; rfl) (by rfl) (fun K hK => ?_) (fun K hK => ?_)
    · skip
      have H11 := Lib.hid (add_nat (.slice x4.a x4.n x4.c) (.slice x5.a x5.n x5.c) (a * d) (c * b) w8 rx4 rx5 (Nat.le_trans HLx4.out (by omega)) (Nat.le_trans HLx5.out (by omega)))
      go_simp
      refine H11.out.mono ?_
      rintro e w12 ⟨v10, rfl, rx9, hb⟩
      clear H11
      replace P1 := P1.below hb
      replace P2 := P2.below hb
      replace P3 := P3.below hb
      replace ra1 := ra1.below hb
      replace rb1 := rb1.below hb
      replace ra2 := ra2.below hb
      replace rb2 := rb2.below hb
      replace rx4 := rx4.below hb
      replace rx5 := rx5.below hb
      replace hB := hB.trans (hb.mono hB.size)
      clear hb
      obtain ⟨x9, rfl, rx9⟩ := rx9.sl
      have HLx9 : Hid ((L ((a * d) + (c * b))).length ≤ 401) := Lib.hid (len_add_le HLx4.out HLx5.out)
      refine hK _ _ ⟨P1, P2, P3⟩ ?_
      clear hK K
      refine Rd.tr_two (by simp only [List.getElem?_toArray, List.getElem?_cons_succ, List.getElem?_cons_zero]; rfl) (by rfl) (by simp only [List.getElem?_toArray, List.getElem?_cons_succ, List.getElem?_cons_zero]; rfl) (by rfl) (fun K hK => ?_) (fun K hK => ?_)
      · skip
        have H15 := Lib.hid (mul_nat (.slice b1.a b1.n b1.c) (.slice b2.a b2.n b2.c) (b) (d) w12 rb1 rb2 (Nat.le_trans lb.out (by omega)) (Nat.le_trans ld.out (by omega)))
        go_simp
        refine H15.out.mono ?_
        rintro e w16 ⟨v14, rfl, rx13, hb⟩
        clear H15
        replace P1 := P1.below hb
        replace P2 := P2.below hb
        replace P3 := P3.below hb
        replace ra1 := ra1.below hb
        replace rb1 := rb1.below hb
        replace ra2 := ra2.below hb
        replace rb2 := rb2.below hb
        replace rx4 := rx4.below hb
        replace rx5 := rx5.below hb
        replace rx9 := rx9.below hb
        replace hB := hB.trans (hb.mono hB.size)
        clear hb
        obtain ⟨x13, rfl, rx13⟩ := rx13.sl
        have HLx13 : Hid ((L (b * d)).length ≤ 200) := Lib.hid (len_mul_le lb.out ld.out)
        refine hK _ _ ⟨P1, P2, P3⟩ ?_
        clear hK K
        refine Rd.tr_two (by simp only [List.getElem?_toArray, List.getElem?_cons_succ, List.getElem?_cons_zero]; rfl) (by rfl) (by simp only [List.getElem?_toArray, List.getElem?_cons_succ, List.getElem?_cons_zero]; rfl) (by rfl) (fun K hK => ?_) (fun K hK => ?_)
        · skip
          have H19 := Lib.hid (of_nat (.slice x9.a x9.n x9.c) (.slice x13.a x13.n x13.c) ((a * d) + (c * b)) (b * d) w16 rx9 rx13 (Nat.le_trans HLx9.out (by omega)) (Nat.le_trans HLx13.out (by omega)) HNE.out)
          go_simp
          refine H19.out.mono ?_
          rintro e w20 ⟨x17, x18, rfl, rx17, rx18, hb⟩
          clear H19
          replace P1 := P1.below hb
          replace P2 := P2.below hb
          replace P3 := P3.below hb
          replace ra1 := ra1.below hb
          replace rb1 := rb1.below hb
          replace ra2 := ra2.below hb
          replace rb2 := rb2.below hb
          replace rx4 := rx4.below hb
          replace rx5 := rx5.below hb
          replace rx9 := rx9.below hb
          replace rx13 := rx13.below hb
          replace hB := hB.trans (hb.mono hB.size)
          clear hb
          have HLx17 : Hid ((L (((a * d) + (c * b)) / Nat.gcd ((a * d) + (c * b)) (b * d))).length ≤ 401) := Lib.hid (len_div_le HLx9.out)
          have HLx18 : Hid ((L ((b * d) / Nat.gcd ((a * d) + (c * b)) (b * d))).length ≤ 200) := Lib.hid (len_div_le HLx13.out)
          refine hK _ _ ⟨P1, P2, P3⟩ ?_
          clear hK K
          refine Rd.tr_float (.tuple #[.agg #[.slice x17.a x17.n x17.c, .slice x18.a x18.n x18.c], .int .i64 0]) (by simp only [List.getElem?_toArray, List.getElem?_cons_succ, List.getElem?_cons_zero]; rfl) rfl (by rfl) (fun X _ => by go_simp) ?_
          simp only [Act.put, List.setIfInBounds_toArray, List.set_cons_succ, List.set_cons_zero]
          refine Rd.tr_float (.agg #[.slice x17.a x17.n x17.c, .slice x18.a x18.n x18.c]) (by simp only [List.getElem?_toArray, List.getElem?_cons_succ, List.getElem?_cons_zero]; rfl) rfl (by rfl) (fun X _ => by go_simp) ?_
          simp only [Act.put, List.setIfInBounds_toArray, List.set_cons_succ, List.set_cons_zero]
          refine Rd.tr_float (.int .i64 0) (by simp only [List.getElem?_toArray, List.getElem?_cons_succ, List.getElem?_cons_zero]; rfl) rfl (by rfl) (fun X _ => by go_simp) ?_
          simp only [Act.put, List.setIfInBounds_toArray, List.set_cons_succ, List.set_cons_zero]
          refine Rd.tr_move (by simp only [List.getElem?_toArray, List.getElem?_cons_succ, List.getElem?_cons_zero]; rfl) rfl (by rfl) (fun K hK => ?_)
          go_simp
          have P21 := Pair.new w20 29 (.slice none 0 0) (.slice none 0 0)
          have nP1P21 := Nat.ne_of_lt P1.lt
          have nP2P21 := Nat.ne_of_lt P2.lt
          have nP3P21 := Nat.ne_of_lt P3.lt
          have gP21 := hB.size
          have hb : Below w20.heap.size w20 (w20.alloc (.cells #[.slice none 0 0, .slice none 0 0] 29)) := (Below.refl _ _).alloc (Nat.le_refl _) _
          replace P1 := P1.below hb
          replace P2 := P2.below hb
          replace P3 := P3.below hb
          replace ra1 := ra1.below hb
          replace rb1 := rb1.below hb
          replace ra2 := ra2.below hb
          replace rb2 := rb2.below hb
          replace rx4 := rx4.below hb
          replace rx5 := rx5.below hb
          replace rx9 := rx9.below hb
          replace rx13 := rx13.below hb
          replace rx17 := rx17.below hb
          replace rx18 := rx18.below hb
          replace hB := hB.trans (hb.mono hB.size)
          clear hb
          generalize w20.alloc (.cells #[.slice none 0 0, .slice none 0 0] 29) = w23 at P1 P2 P3 ra1 rb1 ra2 rb2 rx4 rx5 rx9 rx13 rx17 rx18 P21 hB ⊢
          generalize w20.heap.size = B22 at nP1P21 nP2P21 nP3P21 P21 gP21 ⊢
          refine hK _ _ ⟨P1, P2, P3⟩ ?_
          clear hK K
          refine Rd.tr_move (by simp only [List.getElem?_toArray, List.getElem?_cons_succ, List.getElem?_cons_zero]; rfl) rfl (by rfl) (fun K hK => ?_)
          have c0P21 := P21.c0
          have c1P21 := P21.c1
          have z0P21 := P21.z0
          have z1P21 := P21.z1
          go_simp
          clear c0P21 c1P21 z0P21 z1P21
          replace ra1 := ra1.pset P21 (.slice x17.a x17.n x17.c) (.slice x18.a x18.n x18.c)
          replace rb1 := rb1.pset P21 (.slice x17.a x17.n x17.c) (.slice x18.a x18.n x18.c)
          replace ra2 := ra2.pset P21 (.slice x17.a x17.n x17.c) (.slice x18.a x18.n x18.c)
          replace rb2 := rb2.pset P21 (.slice x17.a x17.n x17.c) (.slice x18.a x18.n x18.c)
          replace rx4 := rx4.pset P21 (.slice x17.a x17.n x17.c) (.slice x18.a x18.n x18.c)
          replace rx5 := rx5.pset P21 (.slice x17.a x17.n x17.c) (.slice x18.a x18.n x18.c)
          replace rx9 := rx9.pset P21 (.slice x17.a x17.n x17.c) (.slice x18.a x18.n x18.c)
          replace rx13 := rx13.pset P21 (.slice x17.a x17.n x17.c) (.slice x18.a x18.n x18.c)
          replace rx17 := rx17.pset P21 (.slice x17.a x17.n x17.c) (.slice x18.a x18.n x18.c)
          replace rx18 := rx18.pset P21 (.slice x17.a x17.n x17.c) (.slice x18.a x18.n x18.c)
          replace P1 := P1.other (B := B22) nP1P21 (.slice x17.a x17.n x17.c) (.slice x18.a x18.n x18.c)
          replace P2 := P2.other (B := B22) nP2P21 (.slice x17.a x17.n x17.c) (.slice x18.a x18.n x18.c)
          replace P3 := P3.other (B := B22) nP3P21 (.slice x17.a x17.n x17.c) (.slice x18.a x18.n x18.c)
          replace hB := Below.pset hB gP21 (.slice x17.a x17.n x17.c) (.slice x18.a x18.n x18.c)
          replace P21 := P21.set (.slice x17.a x17.n x17.c) (.slice x18.a x18.n x18.c)
          generalize (w23.setCell ⟨B22, 0, none⟩ (.slice x17.a x17.n x17.c)).setCell ⟨B22, 1, none⟩ (.slice x18.a x18.n x18.c) = w24 at P1 P2 P3 P21 ra1 rb1 ra2 rb2 rx4 rx5 rx9 rx13 rx17 rx18 hB ⊢
          refine hK _ _ ⟨P1, P2, P3⟩ ?_
          clear hK K
          refine Rd.tr_float (.int .i64 0) (by simp only [List.getElem?_toArray, List.getElem?_cons_succ, List.getElem?_cons_zero]; rfl) rfl (by rfl) (fun X _ => by go_simp) ?_
          simp only [Act.put, List.setIfInBounds_toArray, List.set_cons_succ, List.set_cons_zero]
          exact Rd.tr_end (⟨B22, x17, x18, _, _, _, _, _, _, _, _, _, _, _, _, _, rfl, rx17, rx18, P21, P3, hB⟩)
        · skip
          go_simp
          have P25 := Pair.new w16 29 (.slice none 0 0) (.slice none 0 0)
          have nP1P25 := Nat.ne_of_lt P1.lt
          have nP2P25 := Nat.ne_of_lt P2.lt
          have nP3P25 := Nat.ne_of_lt P3.lt
          have gP25 := hB.size
          have hb : Below w16.heap.size w16 (w16.alloc (.cells #[.slice none 0 0, .slice none 0 0] 29)) := (Below.refl _ _).alloc (Nat.le_refl _) _
          replace P1 := P1.below hb
          replace P2 := P2.below hb
          replace P3 := P3.below hb
          replace ra1 := ra1.below hb
          replace rb1 := rb1.below hb
          replace ra2 := ra2.below hb
          replace rb2 := rb2.below hb
          replace rx4 := rx4.below hb
          replace rx5 := rx5.below hb
          replace rx9 := rx9.below hb
          replace rx13 := rx13.below hb
          replace hB := hB.trans (hb.mono hB.size)
          clear hb
          generalize w16.alloc (.cells #[.slice none 0 0, .slice none 0 0] 29) = w27 at P1 P2 P3 ra1 rb1 ra2 rb2 rx4 rx5 rx9 rx13 P25 hB ⊢
          generalize w16.heap.size = B26 at nP1P25 nP2P25 nP3P25 P25 gP25 ⊢
          refine hK _ _ ⟨P1, P2, P3⟩ ?_
          clear hK K
          refine Rd.tr_move (by simp only [List.getElem?_toArray, List.getElem?_cons_succ, List.getElem?_cons_zero]; rfl) rfl (by rfl) (fun K hK => ?_)
          have H30 := Lib.hid (of_nat (.slice x9.a x9.n x9.c) (.slice x13.a x13.n x13.c) ((a * d) + (c * b)) (b * d) w27 rx9 rx13 (Nat.le_trans HLx9.out (by omega)) (Nat.le_trans HLx13.out (by omega)) HNE.out)
          go_simp
          refine H30.out.mono ?_
          rintro e w31 ⟨x28, x29, rfl, rx28, rx29, hb⟩
          clear H30
          replace P1 := P1.below hb
          replace P2 := P2.below hb
          replace P3 := P3.below hb
          replace P25 := P25.below hb
          replace ra1 := ra1.below hb
          replace rb1 := rb1.below hb
          replace ra2 := ra2.below hb
          replace rb2 := rb2.below hb
          replace rx4 := rx4.below hb
          replace rx5 := rx5.below hb
          replace rx9 := rx9.below hb
          replace rx13 := rx13.below hb
          replace hB := hB.trans (hb.mono hB.size)
          clear hb
          have HLx28 : Hid ((L (((a * d) + (c * b)) / Nat.gcd ((a * d) + (c * b)) (b * d))).length ≤ 401) := Lib.hid (len_div_le HLx9.out)
          have HLx29 : Hid ((L ((b * d) / Nat.gcd ((a * d) + (c * b)) (b * d))).length ≤ 200) := Lib.hid (len_div_le HLx13.out)
          refine hK _ _ ⟨P1, P2, P3⟩ ?_
          clear hK K
          refine Rd.tr_float (.tuple #[.agg #[.slice x28.a x28.n x28.c, .slice x29.a x29.n x29.c], .int .i64 0]) (by simp only [List.getElem?_toArray, List.getElem?_cons_succ, List.getElem?_cons_zero]; rfl) rfl (by rfl) (fun X _ => by go_simp) ?_
          simp only [Act.put, List.setIfInBounds_toArray, List.set_cons_succ, List.set_cons_zero]
          refine Rd.tr_float (.agg #[.slice x28.a x28.n x28.c, .slice x29.a x29.n x29.c]) (by simp only [List.getElem?_toArray, List.getElem?_cons_succ, List.getElem?_cons_zero]; rfl) rfl (by rfl) (fun X _ => by go_simp) ?_
          simp only [Act.put, List.setIfInBounds_toArray, List.set_cons_succ, List.set_cons_zero]
          refine Rd.tr_float (.int .i64 0) (by simp only [List.getElem?_toArray, List.getElem?_cons_succ, List.getElem?_cons_zero]; rfl) rfl (by rfl) (fun X _ => by go_simp) ?_
          simp only [Act.put, List.setIfInBounds_toArray, List.set_cons_succ, List.set_cons_zero]
          refine Rd.tr_move (by simp only [List.getElem?_toArray, List.getElem?_cons_succ, List.getElem?_cons_zero]; rfl) rfl (by rfl) (fun K hK => ?_)
          have c0P25 := P25.c0
          have c1P25 := P25.c1
          have z0P25 := P25.z0
          have z1P25 := P25.z1
          go_simp
          clear c0P25 c1P25 z0P25 z1P25
          replace ra1 := ra1.pset P25 (.slice x28.a x28.n x28.c) (.slice x29.a x29.n x29.c)
          replace rb1 := rb1.pset P25 (.slice x28.a x28.n x28.c) (.slice x29.a x29.n x29.c)
          replace ra2 := ra2.pset P25 (.slice x28.a x28.n x28.c) (.slice x29.a x29.n x29.c)
          replace rb2 := rb2.pset P25 (.slice x28.a x28.n x28.c) (.slice x29.a x29.n x29.c)
          replace rx4 := rx4.pset P25 (.slice x28.a x28.n x28.c) (.slice x29.a x29.n x29.c)
          replace rx5 := rx5.pset P25 (.slice x28.a x28.n x28.c) (.slice x29.a x29.n x29.c)
          replace rx9 := rx9.pset P25 (.slice x28.a x28.n x28.c) (.slice x29.a x29.n x29.c)
          replace rx13 := rx13.pset P25 (.slice x28.a x28.n x28.c) (.slice x29.a x29.n x29.c)
          replace rx28 := rx28.pset P25 (.slice x28.a x28.n x28.c) (.slice x29.a x29.n x29.c)
          replace rx29 := rx29.pset P25 (.slice x28.a x28.n x28.c) (.slice x29.a x29.n x29.c)
          replace P1 := P1.other (B := B26) nP1P25 (.slice x28.a x28.n x28.c) (.slice x29.a x29.n x29.c)
          replace P2 := P2.other (B := B26) nP2P25 (.slice x28.a x28.n x28.c) (.slice x29.a x29.n x29.c)
          replace P3 := P3.other (B := B26) nP3P25 (.slice x28.a x28.n x28.c) (.slice x29.a x29.n x29.c)
          replace hB := Below.pset hB gP25 (.slice x28.a x28.n x28.c) (.slice x29.a x29.n x29.c)
          replace P25 := P25.set (.slice x28.a x28.n x28.c) (.slice x29.a x29.n x29.c)
          generalize (w31.setCell ⟨B26, 0, none⟩ (.slice x28.a x28.n x28.c)).setCell ⟨B26, 1, none⟩ (.slice x29.a x29.n x29.c) = w32 at P1 P2 P3 P25 ra1 rb1 ra2 rb2 rx4 rx5 rx9 rx13 rx28 rx29 hB ⊢
          refine hK _ _ ⟨P1, P2, P3⟩ ?_
          clear hK K
          refine Rd.tr_float (.int .i64 0) (by simp only [List.getElem?_toArray, List.getElem?_cons_succ, List.getElem?_cons_zero]; rfl) rfl (by rfl) (fun X _ => by go_simp) ?_
          simp only [Act.put, List.setIfInBounds_toArray, List.set_cons_succ, List.set_cons_zero]
          exact Rd.tr_end (⟨B26, x28, x29, _, _, _, _, _, _, _, _, _, _, _, _, _, rfl, rx28, rx29, P25, P3, hB⟩)
      · skip
        go_simp
        have P33 := Pair.new w12 29 (.slice none 0 0) (.slice none 0 0)
        have nP1P33 := Nat.ne_of_lt P1.lt
        have nP2P33 := Nat.ne_of_lt P2.lt
        have nP3P33 := Nat.ne_of_lt P3.lt
        have gP33 := hB.size
        have hb : Below w12.heap.size w12 (w12.alloc (.cells #[.slice none 0 0, .slice none 0 0] 29)) := (Below.refl _ _).alloc (Nat.le_refl _) _
        replace P1 := P1.below hb
        replace P2 := P2.below hb
        replace P3 := P3.below hb
        replace ra1 := ra1.below hb
        replace rb1 := rb1.below hb
        replace ra2 := ra2.below hb
        replace rb2 := rb2.below hb
        replace rx4 := rx4.below hb
        replace rx5 := rx5.below hb
        replace rx9 := rx9.below hb
        replace hB := hB.trans (hb.mono hB.size)
        clear hb
        generalize w12.alloc (.cells #[.slice none 0 0, .slice none 0 0] 29) = w35 at P1 P2 P3 ra1 rb1 ra2 rb2 rx4 rx5 rx9 P33 hB ⊢
        generalize w12.heap.size = B34 at nP1P33 nP2P33 nP3P33 P33 gP33 ⊢
        refine hK _ _ ⟨P1, P2, P3⟩ ?_
        clear hK K
        refine Rd.tr_move (by simp only [List.getElem?_toArray, List.getElem?_cons_succ, List.getElem?_cons_zero]; rfl) rfl (by rfl) (fun K hK => ?_)
        have H38 := Lib.hid (mul_nat (.slice b1.a b1.n b1.c) (.slice b2.a b2.n b2.c) (b) (d) w35 rb1 rb2 (Nat.le_trans lb.out (by omega)) (Nat.le_trans ld.out (by omega)))
        go_simp
        refine H38.out.mono ?_
        rintro e w39 ⟨v37, rfl, rx36, hb⟩
        clear H38
        replace P1 := P1.below hb
        replace P2 := P2.below hb
        replace P3 := P3.below hb
        replace P33 := P33.below hb
        replace ra1 := ra1.below hb
        replace rb1 := rb1.below hb
        replace ra2 := ra2.below hb
        replace rb2 := rb2.below hb
        replace rx4 := rx4.below hb
        replace rx5 := rx5.below hb
        replace rx9 := rx9.below hb
        replace hB := hB.trans (hb.mono hB.size)
        clear hb
        obtain ⟨x36, rfl, rx36⟩ := rx36.sl
        have HLx36 : Hid ((L (b * d)).length ≤ 200) := Lib.hid (len_mul_le lb.out ld.out)
        refine hK _ _ ⟨P1, P2, P3⟩ ?_
        clear hK K
        refine Rd.tr_move (by simp only [List.getElem?_toArray, List.getElem?_cons_succ, List.getElem?_cons_zero]; rfl) rfl (by rfl) (fun K hK => ?_)
        have H42 := Lib.hid (of_nat (.slice x9.a x9.n x9.c) (.slice x36.a x36.n x36.c) ((a * d) + (c * b)) (b * d) w39 rx9 rx36 (Nat.le_trans HLx9.out (by omega)) (Nat.le_trans HLx36.out (by omega)) HNE.out)
        go_simp
        refine H42.out.mono ?_
        rintro e w43 ⟨x40, x41, rfl, rx40, rx41, hb⟩
        clear H42
        replace P1 := P1.below hb
        replace P2 := P2.below hb
        replace P3 := P3.below hb
        replace P33 := P33.below hb
        replace ra1 := ra1.below hb
        replace rb1 := rb1.below hb
        replace ra2 := ra2.below hb
        replace rb2 := rb2.below hb
        replace rx4 := rx4.below hb
        replace rx5 := rx5.below hb
        replace rx9 := rx9.below hb
        replace rx36 := rx36.below hb
        replace hB := hB.trans (hb.mono hB.size)
        clear hb
        have HLx40 : Hid ((L (((a * d) + (c * b)) / Nat.gcd ((a * d) + (c * b)) (b * d))).length ≤ 401) := Lib.hid (len_div_le HLx9.out)
        have HLx41 : Hid ((L ((b * d) / Nat.gcd ((a * d) + (c * b)) (b * d))).length ≤ 200) := Lib.hid (len_div_le HLx36.out)
        refine hK _ _ ⟨P1, P2, P3⟩ ?_
        clear hK K
        refine Rd.tr_float (.tuple #[.agg #[.slice x40.a x40.n x40.c, .slice x41.a x41.n x41.c], .int .i64 0]) (by simp only [List.getElem?_toArray, List.getElem?_cons_succ, List.getElem?_cons_zero]; rfl) rfl (by rfl) (fun X _ => by go_simp) ?_
        simp only [Act.put, List.setIfInBounds_toArray, List.set_cons_succ, List.set_cons_zero]
        refine Rd.tr_float (.agg #[.slice x40.a x40.n x40.c, .slice x41.a x41.n x41.c]) (by simp only [List.getElem?_toArray, List.getElem?_cons_succ, List.getElem?_cons_zero]; rfl) rfl (by rfl) (fun X _ => by go_simp) ?_
        simp only [Act.put, List.setIfInBounds_toArray, List.set_cons_succ, List.set_cons_zero]
        refine Rd.tr_float (.int .i64 0) (by simp only [List.getElem?_toArray, List.getElem?_cons_succ, List.getElem?_cons_zero]; rfl) rfl (by rfl) (fun X _ => by go_simp) ?_
        simp only [Act.put, List.setIfInBounds_toArray, List.set_cons_succ, List.set_cons_zero]
        refine Rd.tr_move (by simp only [List.getElem?_toArray, List.getElem?_cons_succ, List.getElem?_cons_zero]; rfl) rfl (by rfl) (fun K hK => ?_)
        have c0P33 := P33.c0
        have c1P33 := P33.c1
        have z0P33 := P33.z0
        have z1P33 := P33.z1
        go_simp
        clear c0P33 c1P33 z0P33 z1P33
        replace ra1 := ra1.pset P33 (.slice x40.a x40.n x40.c) (.slice x41.a x41.n x41.c)
        replace rb1 := rb1.pset P33 (.slice x40.a x40.n x40.c) (.slice x41.a x41.n x41.c)
        replace ra2 := ra2.pset P33 (.slice x40.a x40.n x40.c) (.slice x41.a x41.n x41.c)
        replace rb2 := rb2.pset P33 (.slice x40.a x40.n x40.c) (.slice x41.a x41.n x41.c)
        replace rx4 := rx4.pset P33 (.slice x40.a x40.n x40.c) (.slice x41.a x41.n x41.c)
        replace rx5 := rx5.pset P33 (.slice x40.a x40.n x40.c) (.slice x41.a x41.n x41.c)
        replace rx9 := rx9.pset P33 (.slice x40.a x40.n x40.c) (.slice x41.a x41.n x41.c)
        replace rx36 := rx36.pset P33 (.slice x40.a x40.n x40.c) (.slice x41.a x41.n x41.c)
        replace rx40 := rx40.pset P33 (.slice x40.a x40.n x40.c) (.slice x41.a x41.n x41.c)
        replace rx41 := rx41.pset P33 (.slice x40.a x40.n x40.c) (.slice x41.a x41.n x41.c)
        replace P1 := P1.other (B := B34) nP1P33 (.slice x40.a x40.n x40.c) (.slice x41.a x41.n x41.c)
        replace P2 := P2.other (B := B34) nP2P33 (.slice x40.a x40.n x40.c) (.slice x41.a x41.n x41.c)
        replace P3 := P3.other (B := B34) nP3P33 (.slice x40.a x40.n x40.c) (.slice x41.a x41.n x41.c)
        replace hB := Below.pset hB gP33 (.slice x40.a x40.n x40.c) (.slice x41.a x41.n x41.c)
        replace P33 := P33.set (.slice x40.a x40.n x40.c) (.slice x41.a x41.n x41.c)
        generalize (w43.setCell ⟨B34, 0, none⟩ (.slice x40.a x40.n x40.c)).setCell ⟨B34, 1, none⟩ (.slice x41.a x41.n x41.c) = w44 at P1 P2 P3 P33 ra1 rb1 ra2 rb2 rx4 rx5 rx9 rx36 rx40 rx41 hB ⊢
        refine hK _ _ ⟨P1, P2, P3⟩ ?_
        clear hK K
        refine Rd.tr_float (.int .i64 0) (by simp only [List.getElem?_toArray, List.getElem?_cons_succ, List.getElem?_cons_zero]; rfl) rfl (by rfl) (fun X _ => by go_simp) ?_
        simp only [Act.put, List.setIfInBounds_toArray, List.set_cons_succ, List.set_cons_zero]
        exact Rd.tr_end (⟨B34, x40, x41, _, _, _, _, _, _, _, _, _, _, _, _, _, rfl, rx40, rx41, P33, P3, hB⟩)
    · skip
      go_simp
      have P45 := Pair.new w8 29 (.slice none 0 0) (.slice none 0 0)
      have nP1P45 := Nat.ne_of_lt P1.lt
      have nP2P45 := Nat.ne_of_lt P2.lt
      have nP3P45 := Nat.ne_of_lt P3.lt
      have gP45 := hB.size
      have hb : Below w8.heap.size w8 (w8.alloc (.cells #[.slice none 0 0, .slice none 0 0] 29)) := (Below.refl _ _).alloc (Nat.le_refl _) _
      replace P1 := P1.below hb
      replace P2 := P2.below hb
      replace P3 := P3.below hb
      replace ra1 := ra1.below hb
      replace rb1 := rb1.below hb
      replace ra2 := ra2.below hb
      replace rb2 := rb2.below hb
      replace rx4 := rx4.below hb
      replace rx5 := rx5.below hb
      replace hB := hB.trans (hb.mono hB.size)
      clear hb
      generalize w8.alloc (.cells #[.slice none 0 0, .slice none 0 0] 29) = w47 at P1 P2 P3 ra1 rb1 ra2 rb2 rx4 rx5 P45 hB ⊢
      generalize w8.heap.size = B46 at nP1P45 nP2P45 nP3P45 P45 gP45 ⊢
      refine hK _ _ ⟨P1, P2, P3⟩ ?_
      clear hK K
      refine Rd.tr_move (by simp only [List.getElem?_toArray, List.getElem?_cons_succ, List.getElem?_cons_zero]; rfl) rfl (by rfl) (fun K hK => ?_)
      have H50 := Lib.hid (add_nat (.slice x4.a x4.n x4.c) (.slice x5.a x5.n x5.c) (a * d) (c * b) w47 rx4 rx5 (Nat.le_trans HLx4.out (by omega)) (Nat.le_trans HLx5.out (by omega)))
      go_simp
      refine H50.out.mono ?_
      rintro e w51 ⟨v49, rfl, rx48, hb⟩
      clear H50
      replace P1 := P1.below hb
      replace P2 := P2.below hb
      replace P3 := P3.below hb
      replace P45 := P45.below hb
      replace ra1 := ra1.below hb
      replace rb1 := rb1.below hb
      replace ra2 := ra2.below hb
      replace rb2 := rb2.below hb
      replace rx4 := rx4.below hb
      replace rx5 := rx5.below hb
      replace hB := hB.trans (hb.mono hB.size)
      clear hb
      obtain ⟨x48, rfl, rx48⟩ := rx48.sl
      have HLx48 : Hid ((L ((a * d) + (c * b))).length ≤ 401) := Lib.hid (len_add_le HLx4.out HLx5.out)
      refine hK _ _ ⟨P1, P2, P3⟩ ?_
      clear hK K
      refine Rd.tr_move (by simp only [List.getElem?_toArray, List.getElem?_cons_succ, List.getElem?_cons_zero]; rfl) rfl (by rfl) (fun K hK => ?_)
      have H54 := Lib.hid (mul_nat (.slice b1.a b1.n b1.c) (.slice b2.a b2.n b2.c) (b) (d) w51 rb1 rb2 (Nat.le_trans lb.out (by omega)) (Nat.le_trans ld.out (by omega)))
      go_simp
      refine H54.out.mono ?_
      rintro e w55 ⟨v53, rfl, rx52, hb⟩
      clear H54
      replace P1 := P1.below hb
      replace P2 := P2.below hb
      replace P3 := P3.below hb
      replace P45 := P45.below hb
      replace ra1 := ra1.below hb
      replace rb1 := rb1.below hb
      replace ra2 := ra2.below hb
      replace rb2 := rb2.below hb
      replace rx4 := rx4.below hb
      replace rx5 := rx5.below hb
      replace rx48 := rx48.below hb
      replace hB := hB.trans (hb.mono hB.size)
      clear hb
      obtain ⟨x52, rfl, rx52⟩ := rx52.sl
      have HLx52 : Hid ((L (b * d)).length ≤ 200) := Lib.hid (len_mul_le lb.out ld.out)
      refine hK _ _ ⟨P1, P2, P3⟩ ?_
      clear hK K
      refine Rd.tr_move (by simp only [List.getElem?_toArray, List.getElem?_cons_succ, List.getElem?_cons_zero]; rfl) rfl (by rfl) (fun K hK => ?_)
      have H58 := Lib.hid (of_nat (.slice x48.a x48.n x48.c) (.slice x52.a x52.n x52.c) ((a * d) + (c * b)) (b * d) w55 rx48 rx52 (Nat.le_trans HLx48.out (by omega)) (Nat.le_trans HLx52.out (by omega)) HNE.out)
      go_simp
      refine H58.out.mono ?_
      rintro e w59 ⟨x56, x57, rfl, rx56, rx57, hb⟩
      clear H58
      replace P1 := P1.below hb
      replace P2 := P2.below hb
      replace P3 := P3.below hb
      replace P45 := P45.below hb
      replace ra1 := ra1.below hb
      replace rb1 := rb1.below hb
      replace ra2 := ra2.below hb
      replace rb2 := rb2.below hb
      replace rx4 := rx4.below hb
      replace rx5 := rx5.below hb
      replace rx48 := rx48.below hb
      replace rx52 := rx52.below hb
      replace hB := hB.trans (hb.mono hB.size)
      clear hb
      have HLx56 : Hid ((L (((a * d) + (c * b)) / Nat.gcd ((a * d) + (c * b)) (b * d))).length ≤ 401) := Lib.hid (len_div_le HLx48.out)
      have HLx57 : Hid ((L ((b * d) / Nat.gcd ((a * d) + (c * b)) (b * d))).length ≤ 200) := Lib.hid (len_div_le HLx52.out)
      refine hK _ _ ⟨P1, P2, P3⟩ ?_
      clear hK K
      refine Rd.tr_float (.tuple #[.agg #[.slice x56.a x56.n x56.c, .slice x57.a x57.n x57.c], .int .i64 0]) (by simp only [List.getElem?_toArray, List.getElem?_cons_succ, List.getElem?_cons_zero]; rfl) rfl (by rfl) (fun X _ => by go_simp) ?_
      simp only [Act.put, List.setIfInBounds_toArray, List.set_cons_succ, List.set_cons_zero]
      refine Rd.tr_float (.agg #[.slice x56.a x56.n x56.c, .slice x57.a x57.n x57.c]) (by simp only [List.getElem?_toArray, List.getElem?_cons_succ, List.getElem?_cons_zero]; rfl) rfl (by rfl) (fun X _ => by go_simp) ?_
      simp only [Act.put, List.setIfInBounds_toArray, List.set_cons_succ, List.set_cons_zero]
      refine Rd.tr_float (.int .i64 0) (by simp only [List.getElem?_toArray, List.getElem?_cons_succ, List.getElem?_cons_zero]; rfl) rfl (by rfl) (fun X _ => by go_simp) ?_
      simp only [Act.put, List.setIfInBounds_toArray, List.set_cons_succ, List.set_cons_zero]
      refine Rd.tr_move (by simp only [List.getElem?_toArray, List.getElem?_cons_succ, List.getElem?_cons_zero]; rfl) rfl (by rfl) (fun K hK => ?_)
      have c0P45 := P45.c0
      have c1P45 := P45.c1
      have z0P45 := P45.z0
      have z1P45 := P45.z1
      go_simp
      clear c0P45 c1P45 z0P45 z1P45
      replace ra1 := ra1.pset P45 (.slice x56.a x56.n x56.c) (.slice x57.a x57.n x57.c)
      replace rb1 := rb1.pset P45 (.slice x56.a x56.n x56.c) (.slice x57.a x57.n x57.c)
      replace ra2 := ra2.pset P45 (.slice x56.a x56.n x56.c) (.slice x57.a x57.n x57.c)
      replace rb2 := rb2.pset P45 (.slice x56.a x56.n x56.c) (.slice x57.a x57.n x57.c)
      replace rx4 := rx4.pset P45 (.slice x56.a x56.n x56.c) (.slice x57.a x57.n x57.c)
      replace rx5 := rx5.pset P45 (.slice x56.a x56.n x56.c) (.slice x57.a x57.n x57.c)
      replace rx48 := rx48.pset P45 (.slice x56.a x56.n x56.c) (.slice x57.a x57.n x57.c)
      replace rx52 := rx52.pset P45 (.slice x56.a x56.n x56.c) (.slice x57.a x57.n x57.c)
      replace rx56 := rx56.pset P45 (.slice x56.a x56.n x56.c) (.slice x57.a x57.n x57.c)
      replace rx57 := rx57.pset P45 (.slice x56.a x56.n x56.c) (.slice x57.a x57.n x57.c)
      replace P1 := P1.other (B := B46) nP1P45 (.slice x56.a x56.n x56.c) (.slice x57.a x57.n x57.c)
      replace P2 := P2.other (B := B46) nP2P45 (.slice x56.a x56.n x56.c) (.slice x57.a x57.n x57.c)
      replace P3 := P3.other (B := B46) nP3P45 (.slice x56.a x56.n x56.c) (.slice x57.a x57.n x57.c)
      replace hB := Below.pset hB gP45 (.slice x56.a x56.n x56.c) (.slice x57.a x57.n x57.c)
      replace P45 := P45.set (.slice x56.a x56.n x56.c) (.slice x57.a x57.n x57.c)
      generalize (w59.setCell ⟨B46, 0, none⟩ (.slice x56.a x56.n x56.c)).setCell ⟨B46, 1, none⟩ (.slice x57.a x57.n x57.c) = w60 at P1 P2 P3 P45 ra1 rb1 ra2 rb2 rx4 rx5 rx48 rx52 rx56 rx57 hB ⊢
      refine hK _ _ ⟨P1, P2, P3⟩ ?_
      clear hK K
      refine Rd.tr_float (.int .i64 0) (by simp only [List.getElem?_toArray, List.getElem?_cons_succ, List.getElem?_cons_zero]; rfl) rfl (by rfl) (fun X _ => by go_simp) ?_
      simp only [Act.put, List.setIfInBounds_toArray, List.set_cons_succ, List.set_cons_zero]
      exact Rd.tr_end (⟨B46, x56, x57, _, _, _, _, _, _, _, _, _, _, _, _, _, rfl, rx56, rx57, P45, P3, hB⟩)
  case next =>
    rintro a3 W ⟨BB, p, q, _, _, _, _, _, _, _, _, _, _, _, _, _, rfl, rp, rq, PB, PR, hB⟩
    have c0 := PB.c0
    have c1 := PB.c1
    have e0 := PR.c0
    have e1 := PR.c1
    have z0 := PR.z0
    have z1 := PR.z1
    go_wp2_with fail
    replace rp := rp.pset PR (.slice p.a p.n p.c) (.slice q.a q.n q.c)
    replace rq := rq.pset PR (.slice p.a p.n p.c) (.slice q.a q.n q.c)
    replace hB := Below.pset hB (by omega : w.heap.size ≤ w.heap.size + 1 + 1) (.slice p.a p.n p.c) (.slice q.a q.n q.c)
    have PRx := PR.set (.slice p.a p.n p.c) (.slice q.a q.n q.c)
    generalize (W.setCell ⟨w.heap.size + 1 + 1, 0, none⟩ (.slice p.a p.n p.c)).setCell ⟨w.heap.size + 1 + 1, 1, none⟩ (.slice q.a q.n q.c) = WW at rp rq PRx hB ⊢
    refine bodyPost_ret (v := .agg #[.slice p.a p.n p.c, .slice q.a q.n q.c]) ?_ rfl (⟨p, q, rfl, rp, rq, hB⟩)
    simp [results, Tryz.f15, go_sem, PRx.c0, PRx.c1]

set_option maxRecDepth 100000 in
set_option maxHeartbeats 4000000 in
theorem qmul_nat (a1 b1 a2 b2 : Sl) (a b c d : Nat) (w : World) (ra1 : RU w a1 a) (rb1 : RU w b1 b) (ra2 : RU w a2 c) (rb2 : RU w b2 d) (la : Hid ((L a).length ≤ 100)) (lb : Hid ((L b).length ≤ 100)) (lc : Hid ((L c).length ≤ 100)) (ld : Hid ((L d).length ≤ 100)) (HNE : Hid (b * d ≠ 0)) :
    Calls Tryz.prog 18 #[.agg #[.slice a1.a a1.n a1.c, .slice b1.a b1.n b1.c], .agg #[.slice a2.a a2.n a2.c, .slice b2.a b2.n b2.c]] w fun e w' => ∃ p q : Sl, e = .returned (.agg #[.slice p.a p.n p.c, .slice q.a q.n q.c]) ∧ RU w' p ((a * c) / Nat.gcd (a * c) (b * d)) ∧ RU w' q ((b * d) / Nat.gcd (a * c) (b * d)) ∧ Below w.heap.size w w' := by
  go_enter Tryz.func18, Tryz.ntmps18
  have hb : Below w.heap.size w (((w.alloc (.cells #[.slice a1.a a1.n a1.c, .slice b1.a b1.n b1.c] 29)).alloc (.cells #[.slice a2.a a2.n a2.c, .slice b2.a b2.n b2.c] 29)).alloc (.cells #[.slice none 0 0, .slice none 0 0] 29)) := ((((Below.refl _ _).alloc (Nat.le_refl _) _).alloc (by simp) _).alloc (by simp; omega) _)
  replace ra1 := ra1.below hb
  replace rb1 := rb1.below hb
  replace ra2 := ra2.below hb
  replace rb2 := rb2.below hb
  have hB := hb
  have P1 : Pair (((w.alloc (.cells #[.slice a1.a a1.n a1.c, .slice b1.a b1.n b1.c] 29)).alloc (.cells #[.slice a2.a a2.n a2.c, .slice b2.a b2.n b2.c] 29)).alloc (.cells #[.slice none 0 0, .slice none 0 0] 29)) (w.heap.size) 29 (.slice a1.a a1.n a1.c) (.slice b1.a b1.n b1.c) := by
    have h := ((Pair.new w 29 (.slice a1.a a1.n a1.c) (.slice b1.a b1.n b1.c)).alloc (.cells #[.slice a2.a a2.n a2.c, .slice b2.a b2.n b2.c] 29)).alloc (.cells #[.slice none 0 0, .slice none 0 0] 29)
    simpa only [World.size_alloc] using h
  have P2 : Pair (((w.alloc (.cells #[.slice a1.a a1.n a1.c, .slice b1.a b1.n b1.c] 29)).alloc (.cells #[.slice a2.a a2.n a2.c, .slice b2.a b2.n b2.c] 29)).alloc (.cells #[.slice none 0 0, .slice none 0 0] 29)) (w.heap.size + 1) 29 (.slice a2.a a2.n a2.c) (.slice b2.a b2.n b2.c) := by
    have h := (Pair.new (w.alloc (.cells #[.slice a1.a a1.n a1.c, .slice b1.a b1.n b1.c] 29)) 29 (.slice a2.a a2.n a2.c) (.slice b2.a b2.n b2.c)).alloc (.cells #[.slice none 0 0, .slice none 0 0] 29)
    simpa only [World.size_alloc] using h
  have P3 : Pair (((w.alloc (.cells #[.slice a1.a a1.n a1.c, .slice b1.a b1.n b1.c] 29)).alloc (.cells #[.slice a2.a a2.n a2.c, .slice b2.a b2.n b2.c] 29)).alloc (.cells #[.slice none 0 0, .slice none 0 0] 29)) (w.heap.size + 1 + 1) 29 (.slice none 0 0) (.slice none 0 0) := by
    have h := Pair.new ((w.alloc (.cells #[.slice a1.a a1.n a1.c, .slice b1.a b1.n b1.c] 29)).alloc (.cells #[.slice a2.a a2.n a2.c, .slice b2.a b2.n b2.c] 29)) 29 (.slice none 0 0) (.slice none 0 0)
    simpa only [World.size_alloc] using h
  clear hb
  have c0P1 := P1.c0
  have c1P1 := P1.c1
  have c0P2 := P2.c0
  have c1P2 := P2.c1
  have c0P3 := P3.c0
  have c1P3 := P3.c1
  go_wp2_with fail
  clear c0P1 c1P1 c0P2 c1P2 c0P3 c1P3
  have hb : Below (((w.alloc (.cells #[.slice a1.a a1.n a1.c, .slice b1.a b1.n b1.c] 29)).alloc (.cells #[.slice a2.a a2.n a2.c, .slice b2.a b2.n b2.c] 29)).alloc (.cells #[.slice none 0 0, .slice none 0 0] 29)).heap.size (((w.alloc (.cells #[.slice a1.a a1.n a1.c, .slice b1.a b1.n b1.c] 29)).alloc (.cells #[.slice a2.a a2.n a2.c, .slice b2.a b2.n b2.c] 29)).alloc (.cells #[.slice none 0 0, .slice none 0 0] 29)) (((w.alloc (.cells #[.slice a1.a a1.n a1.c, .slice b1.a b1.n b1.c] 29)).alloc (.cells #[.slice a2.a a2.n a2.c, .slice b2.a b2.n b2.c] 29)).alloc (.cells #[.slice none 0 0, .slice none 0 0] 29)).drew := (Below.refl _ _).drew
  replace P1 := P1.below hb
  replace P2 := P2.below hb
  replace P3 := P3.below hb
  replace ra1 := ra1.below hb
  replace rb1 := rb1.below hb
  replace ra2 := ra2.below hb
  replace rb2 := rb2.below hb
  replace hB := hB.trans (hb.mono hB.size)
  clear hb
  refine Rd.regionT (fun X => Pair X (w.heap.size) 29 (.slice a1.a a1.n a1.c) (.slice b1.a b1.n b1.c) ∧ Pair X (w.heap.size + 1) 29 (.slice a2.a a2.n a2.c) (.slice b2.a b2.n b2.c) ∧ Pair X (w.heap.size + 1 + 1) 29 (.slice none 0 0) (.slice none 0 0)) [0, 1, 2, 3, 5, 6, 7, 8, 11, 12, 13, 16] (.one 0 (.one 1 (.one 2 (.one 3 (.one 5 (.one 6 (.one 7 (.one 8 (.two 4 (.two 9 (.two 10 (.one 11 (.one 12 (.one 13 (.one 14 (.one 15 (.one 16 .done)))))) 14 (.one 10 (.one 11 (.one 12 (.one 13 (.one 15 (.one 16 .done))))))) 14 (.one 9 (.one 10 (.one 11 (.one 12 (.one 13 (.one 15 (.one 16 .done)))))))) 14 (.one 4 (.one 9 (.one 10 (.one 11 (.one 12 (.one 13 (.one 15 (.one 16 .done))))))))))))))))) (fun ac W => ∃ (BB : Nat) (p : Sl) (q : Sl) (y6 y7 y8 y9 y10 y11 y12 y13 y14 y15 y16 y17 y18 y19 y20 : Value), ac = { tmps := List.toArray (.agg #[.slice a1.a a1.n a1.c, .slice b1.a b1.n b1.c] :: .agg #[.slice a2.a a2.n a2.c, .slice b2.a b2.n b2.c] :: .pointer (some ⟨w.heap.size, 0, none⟩) :: .pointer (some ⟨w.heap.size + 1, 0, none⟩) :: .pointer (some ⟨w.heap.size + 1 + 1, 0, none⟩) :: .pointer (some ⟨BB, 0, none⟩) :: y6 :: y7 :: y8 :: y9 :: y10 :: y11 :: y12 :: y13 :: y14 :: y15 :: y16 :: y17 :: y18 :: y19 :: y20 :: undef :: []), defers := [] } ∧ RU W p ((a * c) / Nat.gcd (a * c) (b * d)) ∧ RU W q ((b * d) / Nat.gcd (a * c) (b * d)) ∧ Pair W BB 29 (.slice p.a p.n p.c) (.slice q.a q.n q.c) ∧ Pair W (w.heap.size + 1 + 1) 29 (.slice none 0 0) (.slice none 0 0) ∧ Below w.heap.size w W) (by kernel_rfl) (by kernel_rfl) (by kernel_rfl) ⟨P1, P2, P3⟩ ?tree ?next
  case tree =>
    generalize (((w.alloc (.cells #[.slice a1.a a1.n a1.c, .slice b1.a b1.n b1.c] 29)).alloc (.cells #[.slice a2.a a2.n a2.c, .slice b2.a b2.n b2.c] 29)).alloc (.cells #[.slice none 0 0, .slice none 0 0] 29)).drew = w4 at P1 P2 P3 ra1 rb1 ra2 rb2 hB ⊢
    refine Rd.tr_float (.pointer (some ⟨w.heap.size, 0, none⟩)) (by simp only [List.getElem?_toArray, List.getElem?_cons_zero]; rfl) rfl (by rfl) (fun X _ => by go_simp) ?_
    simp only [Act.put, List.setIfInBounds_toArray, List.set_cons_succ, List.set_cons_zero]
    refine Rd.tr_float (.slice a1.a a1.n a1.c) (by simp only [List.getElem?_toArray, List.getElem?_cons_succ, List.getElem?_cons_zero]; rfl) rfl (by rfl) (fun X hX => by have h0 := hX.1.c0; have h1 := hX.1.c1; go_simp) ?_
    simp only [Act.put, List.setIfInBounds_toArray, List.set_cons_succ, List.set_cons_zero]
    refine Rd.tr_float (.pointer (some ⟨w.heap.size + 1, 0, none⟩)) (by simp only [List.getElem?_toArray, List.getElem?_cons_succ, List.getElem?_cons_zero]; rfl) rfl (by rfl) (fun X _ => by go_simp) ?_
    simp only [Act.put, List.setIfInBounds_toArray, List.set_cons_succ, List.set_cons_zero]
    refine Rd.tr_float (.slice a2.a a2.n a2.c) (by simp only [List.getElem?_toArray, List.getElem?_cons_succ, List.getElem?_cons_zero]; rfl) rfl (by rfl) (fun X hX => by have h0 := hX.2.1.c0; have h1 := hX.2.1.c1; go_simp) ?_
    simp only [Act.put, List.setIfInBounds_toArray, List.set_cons_succ, List.set_cons_zero]
    refine Rd.tr_float (.pointer (some ⟨w.heap.size, 1, none⟩)) (by simp only [List.getElem?_toArray, List.getElem?_cons_succ, List.getElem?_cons_zero]; rfl) rfl (by rfl) (fun X _ => by go_simp) ?_
    simp only [Act.put, List.setIfInBounds_toArray, List.set_cons_succ, List.set_cons_zero]
    refine Rd.tr_float (.slice b1.a b1.n b1.c) (by simp only [List.getElem?_toArray, List.getElem?_cons_succ, List.getElem?_cons_zero]; rfl) rfl (by rfl) (fun X hX => by have h0 := hX.1.c0; have h1 := hX.1.c1; go_simp) ?_
    simp only [Act.put, List.setIfInBounds_toArray, List.set_cons_succ, List.set_cons_zero]
    refine Rd.tr_float (.pointer (some ⟨w.heap.size + 1, 1, none⟩)) (by simp only [List.getElem?_toArray, List.getElem?_cons_succ, List.getElem?_cons_zero]; rfl) rfl (by rfl) (fun X _ => by go_simp) ?_
    simp only [Act.put, List.setIfInBounds_toArray, List.set_cons_succ, List.set_cons_zero]
    refine Rd.tr_float (.slice b2.a b2.n b2.c) (by simp only [List.getElem?_toArray, List.getElem?_cons_succ, List.getElem?_cons_zero]; rfl) rfl (by rfl) (fun X hX => by have h0 := hX.2.1.c0; have h1 := hX.2.1.c1; go_simp) ?_
    simp only [Act.put, List.setIfInBounds_toArray, List.set_cons_succ, List.set_cons_zero]
    refine Rd.tr_two (by simp only [List.getElem?_toArray, List.getElem?_cons_succ, List.getElem?_cons_zero]; rfl) (by rfl) (by simp only [List.getElem?_toArray, List.getElem?_cons_succ, List.getElem?_cons_zero]; rfl) (by rfl) (fun K hK => ?_) (fun K hK => ?_)
    · skip
      have H7 := Lib.hid (mul_nat (.slice a1.a a1.n a1.c) (.slice a2.a a2.n a2.c) (a) (c) w4 ra1 ra2 (Nat.le_trans la.out (by omega)) (Nat.le_trans lc.out (by omega)))
      go_simp
      refine H7.out.mono ?_
      rintro e w8 ⟨v6, rfl, rx5, hb⟩
      clear H7
      replace P1 := P1.below hb
      replace P2 := P2.below hb
      replace P3 := P3.below hb
      replace ra1 := ra1.below hb
      replace rb1 := rb1.below hb
      replace ra2 := ra2.below hb
      replace rb2 := rb2.below hb
      replace hB := hB.trans (hb.mono hB.size)
      clear hb
      obtain ⟨x5, rfl, rx5⟩ := rx5.sl
      have HLx5 : Hid ((L (a * c)).length ≤ 200) := Lib.hid (len_mul_le la.out lc.out)
      refine hK _ _ ⟨P1, P2, P3⟩ ?_
      clear hK K
      refine Rd.tr_two (by simp only [List.getElem?_toArray, List.getElem?_cons_succ, List.getElem?_cons_zero]; rfl) (by rfl) (by simp only [List.getElem?_toArray, List.getElem?_cons_succ, List.getElem?_cons_zero]; rfl) (by rfl) (fun K hK => ?_) (fun K hK => ?_)
      · skip
        have H11 := Lib.hid (mul_nat (.slice b1.a b1.n b1.c) (.slice b2.a b2.n b2.c) (b) (d) w8 rb1 rb2 (Nat.le_trans lb.out (by omega)) (Nat.le_trans ld.out (by omega)))
        go_simp
        refine H11.out.mono ?_
        rintro e w12 ⟨v10, rfl, rx9, hb⟩
        clear H11
        replace P1 := P1.below hb
        replace P2 := P2.below hb
        replace P3 := P3.below hb
        replace ra1 := ra1.below hb
        replace rb1 := rb1.below hb
        replace ra2 := ra2.below hb
        replace rb2 := rb2.below hb
        replace rx5 := rx5.below hb
        replace hB := hB.trans (hb.mono hB.size)
        clear hb
        obtain ⟨x9, rfl, rx9⟩ := rx9.sl
        have HLx9 : Hid ((L (b * d)).length ≤ 200) := Lib.hid (len_mul_le lb.out ld.out)
        refine hK _ _ ⟨P1, P2, P3⟩ ?_
        clear hK K
        refine Rd.tr_two (by simp only [List.getElem?_toArray, List.getElem?_cons_succ, List.getElem?_cons_zero]; rfl) (by rfl) (by simp only [List.getElem?_toArray, List.getElem?_cons_succ, List.getElem?_cons_zero]; rfl) (by rfl) (fun K hK => ?_) (fun K hK => ?_)
        · skip
          have H15 := Lib.hid (of_nat (.slice x5.a x5.n x5.c) (.slice x9.a x9.n x9.c) (a * c) (b * d) w12 rx5 rx9 (Nat.le_trans HLx5.out (by omega)) (Nat.le_trans HLx9.out (by omega)) HNE.out)
          go_simp
          refine H15.out.mono ?_
          rintro e w16 ⟨x13, x14, rfl, rx13, rx14, hb⟩
          clear H15
          replace P1 := P1.below hb
          replace P2 := P2.below hb
          replace P3 := P3.below hb
          replace ra1 := ra1.below hb
          replace rb1 := rb1.below hb
          replace ra2 := ra2.below hb
          replace rb2 := rb2.below hb
          replace rx5 := rx5.below hb
          replace rx9 := rx9.below hb
          replace hB := hB.trans (hb.mono hB.size)
          clear hb
          have HLx13 : Hid ((L ((a * c) / Nat.gcd (a * c) (b * d))).length ≤ 200) := Lib.hid (len_div_le HLx5.out)
          have HLx14 : Hid ((L ((b * d) / Nat.gcd (a * c) (b * d))).length ≤ 200) := Lib.hid (len_div_le HLx9.out)
          refine hK _ _ ⟨P1, P2, P3⟩ ?_
          clear hK K
          refine Rd.tr_float (.tuple #[.agg #[.slice x13.a x13.n x13.c, .slice x14.a x14.n x14.c], .int .i64 0]) (by simp only [List.getElem?_toArray, List.getElem?_cons_succ, List.getElem?_cons_zero]; rfl) rfl (by rfl) (fun X _ => by go_simp) ?_
          simp only [Act.put, List.setIfInBounds_toArray, List.set_cons_succ, List.set_cons_zero]
          refine Rd.tr_float (.agg #[.slice x13.a x13.n x13.c, .slice x14.a x14.n x14.c]) (by simp only [List.getElem?_toArray, List.getElem?_cons_succ, List.getElem?_cons_zero]; rfl) rfl (by rfl) (fun X _ => by go_simp) ?_
          simp only [Act.put, List.setIfInBounds_toArray, List.set_cons_succ, List.set_cons_zero]
          refine Rd.tr_float (.int .i64 0) (by simp only [List.getElem?_toArray, List.getElem?_cons_succ, List.getElem?_cons_zero]; rfl) rfl (by rfl) (fun X _ => by go_simp) ?_
          simp only [Act.put, List.setIfInBounds_toArray, List.set_cons_succ, List.set_cons_zero]
          refine Rd.tr_move (by simp only [List.getElem?_toArray, List.getElem?_cons_succ, List.getElem?_cons_zero]; rfl) rfl (by rfl) (fun K hK => ?_)
          go_simp
          have P17 := Pair.new w16 29 (.slice none 0 0) (.slice none 0 0)
          have nP1P17 := Nat.ne_of_lt P1.lt
          have nP2P17 := Nat.ne_of_lt P2.lt
          have nP3P17 := Nat.ne_of_lt P3.lt
          have gP17 := hB.size
          have hb : Below w16.heap.size w16 (w16.alloc (.cells #[.slice none 0 0, .slice none 0 0] 29)) := (Below.refl _ _).alloc (Nat.le_refl _) _
          replace P1 := P1.below hb
          replace P2 := P2.below hb
          replace P3 := P3.below hb
          replace ra1 := ra1.below hb
          replace rb1 := rb1.below hb
          replace ra2 := ra2.below hb
          replace rb2 := rb2.below hb
          replace rx5 := rx5.below hb
          replace rx9 := rx9.below hb
          replace rx13 := rx13.below hb
          replace rx14 := rx14.below hb
          replace hB := hB.trans (hb.mono hB.size)
          clear hb
          generalize w16.alloc (.cells #[.slice none 0 0, .slice none 0 0] 29) = w19 at P1 P2 P3 ra1 rb1 ra2 rb2 rx5 rx9 rx13 rx14 P17 hB ⊢
          generalize w16.heap.size = B18 at nP1P17 nP2P17 nP3P17 P17 gP17 ⊢
          refine hK _ _ ⟨P1, P2, P3⟩ ?_
          clear hK K
          refine Rd.tr_move (by simp only [List.getElem?_toArray, List.getElem?_cons_succ, List.getElem?_cons_zero]; rfl) rfl (by rfl) (fun K hK => ?_)
          have c0P17 := P17.c0
          have c1P17 := P17.c1
          have z0P17 := P17.z0
          have z1P17 := P17.z1
          go_simp
          clear c0P17 c1P17 z0P17 z1P17
          replace ra1 := ra1.pset P17 (.slice x13.a x13.n x13.c) (.slice x14.a x14.n x14.c)
          replace rb1 := rb1.pset P17 (.slice x13.a x13.n x13.c) (.slice x14.a x14.n x14.c)
          replace ra2 := ra2.pset P17 (.slice x13.a x13.n x13.c) (.slice x14.a x14.n x14.c)
          replace rb2 := rb2.pset P17 (.slice x13.a x13.n x13.c) (.slice x14.a x14.n x14.c)
          replace rx5 := rx5.pset P17 (.slice x13.a x13.n x13.c) (.slice x14.a x14.n x14.c)
          replace rx9 := rx9.pset P17 (.slice x13.a x13.n x13.c) (.slice x14.a x14.n x14.c)
          replace rx13 := rx13.pset P17 (.slice x13.a x13.n x13.c) (.slice x14.a x14.n x14.c)
          replace rx14 := rx14.pset P17 (.slice x13.a x13.n x13.c) (.slice x14.a x14.n x14.c)
          replace P1 := P1.other (B := B18) nP1P17 (.slice x13.a x13.n x13.c) (.slice x14.a x14.n x14.c)
          replace P2 := P2.other (B := B18) nP2P17 (.slice x13.a x13.n x13.c) (.slice x14.a x14.n x14.c)
          replace P3 := P3.other (B := B18) nP3P17 (.slice x13.a x13.n x13.c) (.slice x14.a x14.n x14.c)
          replace hB := Below.pset hB gP17 (.slice x13.a x13.n x13.c) (.slice x14.a x14.n x14.c)
          replace P17 := P17.set (.slice x13.a x13.n x13.c) (.slice x14.a x14.n x14.c)
          generalize (w19.setCell ⟨B18, 0, none⟩ (.slice x13.a x13.n x13.c)).setCell ⟨B18, 1, none⟩ (.slice x14.a x14.n x14.c) = w20 at P1 P2 P3 P17 ra1 rb1 ra2 rb2 rx5 rx9 rx13 rx14 hB ⊢
          refine hK _ _ ⟨P1, P2, P3⟩ ?_
          clear hK K
          refine Rd.tr_float (.int .i64 0) (by simp only [List.getElem?_toArray, List.getElem?_cons_succ, List.getElem?_cons_zero]; rfl) rfl (by rfl) (fun X _ => by go_simp) ?_
          simp only [Act.put, List.setIfInBounds_toArray, List.set_cons_succ, List.set_cons_zero]
          exact Rd.tr_end (⟨B18, x13, x14, _, _, _, _, _, _, _, _, _, _, _, _, _, _, _, rfl, rx13, rx14, P17, P3, hB⟩)
        · skip
          go_simp
          have P21 := Pair.new w12 29 (.slice none 0 0) (.slice none 0 0)
          have nP1P21 := Nat.ne_of_lt P1.lt
          have nP2P21 := Nat.ne_of_lt P2.lt
          have nP3P21 := Nat.ne_of_lt P3.lt
          have gP21 := hB.size
          have hb : Below w12.heap.size w12 (w12.alloc (.cells #[.slice none 0 0, .slice none 0 0] 29)) := (Below.refl _ _).alloc (Nat.le_refl _) _
          replace P1 := P1.below hb
          replace P2 := P2.below hb
          replace P3 := P3.below hb
          replace ra1 := ra1.below hb
          replace rb1 := rb1.below hb
          replace ra2 := ra2.below hb
          replace rb2 := rb2.below hb
          replace rx5 := rx5.below hb
          replace rx9 := rx9.below hb
          replace hB := hB.trans (hb.mono hB.size)
          clear hb
          generalize w12.alloc (.cells #[.slice none 0 0, .slice none 0 0] 29) = w23 at P1 P2 P3 ra1 rb1 ra2 rb2 rx5 rx9 P21 hB ⊢
          generalize w12.heap.size = B22 at nP1P21 nP2P21 nP3P21 P21 gP21 ⊢
          refine hK _ _ ⟨P1, P2, P3⟩ ?_
          clear hK K
          refine Rd.tr_move (by simp only [List.getElem?_toArray, List.getElem?_cons_succ, List.getElem?_cons_zero]; rfl) rfl (by rfl) (fun K hK => ?_)
          have H26 := Lib.hid (of_nat (.slice x5.a x5.n x5.c) (.slice x9.a x9.n x9.c) (a * c) (b * d) w23 rx5 rx9 (Nat.le_trans HLx5.out (by omega)) (Nat.le_trans HLx9.out (by omega)) HNE.out)
          go_simp
          refine H26.out.mono ?_
          rintro e w27 ⟨x24, x25, rfl, rx24, rx25, hb⟩
          clear H26
          replace P1 := P1.below hb
          replace P2 := P2.below hb
          replace P3 := P3.below hb
          replace P21 := P21.below hb
          replace ra1 := ra1.below hb
          replace rb1 := rb1.below hb
          replace ra2 := ra2.below hb
          replace rb2 := rb2.below hb
          replace rx5 := rx5.below hb
          replace rx9 := rx9.below hb
          replace hB := hB.trans (hb.mono hB.size)
          clear hb
          have HLx24 : Hid ((L ((a * c) / Nat.gcd (a * c) (b * d))).length ≤ 200) := Lib.hid (len_div_le HLx5.out)
          have HLx25 : Hid ((L ((b * d) / Nat.gcd (a * c) (b * d))).length ≤ 200) := Lib.hid (len_div_le HLx9.out)
          refine hK _ _ ⟨P1, P2, P3⟩ ?_
          clear hK K
          refine Rd.tr_float (.tuple #[.agg #[.slice x24.a x24.n x24.c, .slice x25.a x25.n x25.c], .int .i64 0]) (by simp only [List.getElem?_toArray, List.getElem?_cons_succ, List.getElem?_cons_zero]; rfl) rfl (by rfl) (fun X _ => by go_simp) ?_
          simp only [Act.put, List.setIfInBounds_toArray, List.set_cons_succ, List.set_cons_zero]
          refine Rd.tr_float (.agg #[.slice x24.a x24.n x24.c, .slice x25.a x25.n x25.c]) (by simp only [List.getElem?_toArray, List.getElem?_cons_succ, List.getElem?_cons_zero]; rfl) rfl (by rfl) (fun X _ => by go_simp) ?_
          simp only [Act.put, List.setIfInBounds_toArray, List.set_cons_succ, List.set_cons_zero]
          refine Rd.tr_float (.int .i64 0) (by simp only [List.getElem?_toArray, List.getElem?_cons_succ, List.getElem?_cons_zero]; rfl) rfl (by rfl) (fun X _ => by go_simp) ?_
          simp only [Act.put, List.setIfInBounds_toArray, List.set_cons_succ, List.set_cons_zero]
          refine Rd.tr_move (by simp only [List.getElem?_toArray, List.getElem?_cons_succ, List.getElem?_cons_zero]; rfl) rfl (by rfl) (fun K hK => ?_)
          have c0P21 := P21.c0
          have c1P21 := P21.c1
          have z0P21 := P21.z0
          have z1P21 := P21.z1
          go_simp
          clear c0P21 c1P21 z0P21 z1P21
          replace ra1 := ra1.pset P21 (.slice x24.a x24.n x24.c) (.slice x25.a x25.n x25.c)
          replace rb1 := rb1.pset P21 (.slice x24.a x24.n x24.c) (.slice x25.a x25.n x25.c)
          replace ra2 := ra2.pset P21 (.slice x24.a x24.n x24.c) (.slice x25.a x25.n x25.c)
          replace rb2 := rb2.pset P21 (.slice x24.a x24.n x24.c) (.slice x25.a x25.n x25.c)
          replace rx5 := rx5.pset P21 (.slice x24.a x24.n x24.c) (.slice x25.a x25.n x25.c)
          replace rx9 := rx9.pset P21 (.slice x24.a x24.n x24.c) (.slice x25.a x25.n x25.c)
          replace rx24 := rx24.pset P21 (.slice x24.a x24.n x24.c) (.slice x25.a x25.n x25.c)
          replace rx25 := rx25.pset P21 (.slice x24.a x24.n x24.c) (.slice x25.a x25.n x25.c)
          replace P1 := P1.other (B := B22) nP1P21 (.slice x24.a x24.n x24.c) (.slice x25.a x25.n x25.c)
          replace P2 := P2.other (B := B22) nP2P21 (.slice x24.a x24.n x24.c) (.slice x25.a x25.n x25.c)
          replace P3 := P3.other (B := B22) nP3P21 (.slice x24.a x24.n x24.c) (.slice x25.a x25.n x25.c)
          replace hB := Below.pset hB gP21 (.slice x24.a x24.n x24.c) (.slice x25.a x25.n x25.c)
          replace P21 := P21.set (.slice x24.a x24.n x24.c) (.slice x25.a x25.n x25.c)
          generalize (w27.setCell ⟨B22, 0, none⟩ (.slice x24.a x24.n x24.c)).setCell ⟨B22, 1, none⟩ (.slice x25.a x25.n x25.c) = w28 at P1 P2 P3 P21 ra1 rb1 ra2 rb2 rx5 rx9 rx24 rx25 hB ⊢
          refine hK _ _ ⟨P1, P2, P3⟩ ?_
          clear hK K
          refine Rd.tr_float (.int .i64 0) (by simp only [List.getElem?_toArray, List.getElem?_cons_succ, List.getElem?_cons_zero]; rfl) rfl (by rfl) (fun X _ => by go_simp) ?_
          simp only [Act.put, List.setIfInBounds_toArray, List.set_cons_succ, List.set_cons_zero]
          exact Rd.tr_end (⟨B22, x24, x25, _, _, _, _, _, _, _, _, _, _, _, _, _, _, _, rfl, rx24, rx25, P21, P3, hB⟩)
      · skip
        go_simp
        have P29 := Pair.new w8 29 (.slice none 0 0) (.slice none 0 0)
        have nP1P29 := Nat.ne_of_lt P1.lt
        have nP2P29 := Nat.ne_of_lt P2.lt
        have nP3P29 := Nat.ne_of_lt P3.lt
        have gP29 := hB.size
        have hb : Below w8.heap.size w8 (w8.alloc (.cells #[.slice none 0 0, .slice none 0 0] 29)) := (Below.refl _ _).alloc (Nat.le_refl _) _
        replace P1 := P1.below hb
        replace P2 := P2.below hb
        replace P3 := P3.below hb
        replace ra1 := ra1.below hb
        replace rb1 := rb1.below hb
        replace ra2 := ra2.below hb
        replace rb2 := rb2.below hb
        replace rx5 := rx5.below hb
        replace hB := hB.trans (hb.mono hB.size)
        clear hb
        generalize w8.alloc (.cells #[.slice none 0 0, .slice none 0 0] 29) = w31 at P1 P2 P3 ra1 rb1 ra2 rb2 rx5 P29 hB ⊢
        generalize w8.heap.size = B30 at nP1P29 nP2P29 nP3P29 P29 gP29 ⊢
        refine hK _ _ ⟨P1, P2, P3⟩ ?_
        clear hK K
        refine Rd.tr_move (by simp only [List.getElem?_toArray, List.getElem?_cons_succ, List.getElem?_cons_zero]; rfl) rfl (by rfl) (fun K hK => ?_)
        have H34 := Lib.hid (mul_nat (.slice b1.a b1.n b1.c) (.slice b2.a b2.n b2.c) (b) (d) w31 rb1 rb2 (Nat.le_trans lb.out (by omega)) (Nat.le_trans ld.out (by omega)))
        go_simp
        refine H34.out.mono ?_
        rintro e w35 ⟨v33, rfl, rx32, hb⟩
        clear H34
        replace P1 := P1.below hb
        replace P2 := P2.below hb
        replace P3 := P3.below hb
        replace P29 := P29.below hb
        replace ra1 := ra1.below hb
        replace rb1 := rb1.below hb
        replace ra2 := ra2.below hb
        replace rb2 := rb2.below hb
        replace rx5 := rx5.below hb
        replace hB := hB.trans (hb.mono hB.size)
        clear hb
        obtain ⟨x32, rfl, rx32⟩ := rx32.sl
        have HLx32 : Hid ((L (b * d)).length ≤ 200) := Lib.hid (len_mul_le lb.out ld.out)
        refine hK _ _ ⟨P1, P2, P3⟩ ?_
        clear hK K
        refine Rd.tr_move (by simp only [List.getElem?_toArray, List.getElem?_cons_succ, List.getElem?_cons_zero]; rfl) rfl (by rfl) (fun K hK => ?_)
        have H38 := Lib.hid (of_nat (.slice x5.a x5.n x5.c) (.slice x32.a x32.n x32.c) (a * c) (b * d) w35 rx5 rx32 (Nat.le_trans HLx5.out (by omega)) (Nat.le_trans HLx32.out (by omega)) HNE.out)
        go_simp
        refine H38.out.mono ?_
        rintro e w39 ⟨x36, x37, rfl, rx36, rx37, hb⟩
        clear H38
        replace P1 := P1.below hb
        replace P2 := P2.below hb
        replace P3 := P3.below hb
        replace P29 := P29.below hb
        replace ra1 := ra1.below hb
        replace rb1 := rb1.below hb
        replace ra2 := ra2.below hb
        replace rb2 := rb2.below hb
        replace rx5 := rx5.below hb
        replace rx32 := rx32.below hb
        replace hB := hB.trans (hb.mono hB.size)
        clear hb
        have HLx36 : Hid ((L ((a * c) / Nat.gcd (a * c) (b * d))).length ≤ 200) := Lib.hid (len_div_le HLx5.out)
        have HLx37 : Hid ((L ((b * d) / Nat.gcd (a * c) (b * d))).length ≤ 200) := Lib.hid (len_div_le HLx32.out)
        refine hK _ _ ⟨P1, P2, P3⟩ ?_
        clear hK K
        refine Rd.tr_float (.tuple #[.agg #[.slice x36.a x36.n x36.c, .slice x37.a x37.n x37.c], .int .i64 0]) (by simp only [List.getElem?_toArray, List.getElem?_cons_succ, List.getElem?_cons_zero]; rfl) rfl (by rfl) (fun X _ => by go_simp) ?_
        simp only [Act.put, List.setIfInBounds_toArray, List.set_cons_succ, List.set_cons_zero]
        refine Rd.tr_float (.agg #[.slice x36.a x36.n x36.c, .slice x37.a x37.n x37.c]) (by simp only [List.getElem?_toArray, List.getElem?_cons_succ, List.getElem?_cons_zero]; rfl) rfl (by rfl) (fun X _ => by go_simp) ?_
        simp only [Act.put, List.setIfInBounds_toArray, List.set_cons_succ, List.set_cons_zero]
        refine Rd.tr_float (.int .i64 0) (by simp only [List.getElem?_toArray, List.getElem?_cons_succ, List.getElem?_cons_zero]; rfl) rfl (by rfl) (fun X _ => by go_simp) ?_
        simp only [Act.put, List.setIfInBounds_toArray, List.set_cons_succ, List.set_cons_zero]
        refine Rd.tr_move (by simp only [List.getElem?_toArray, List.getElem?_cons_succ, List.getElem?_cons_zero]; rfl) rfl (by rfl) (fun K hK => ?_)
        have c0P29 := P29.c0
        have c1P29 := P29.c1
        have z0P29 := P29.z0
        have z1P29 := P29.z1
        go_simp
        clear c0P29 c1P29 z0P29 z1P29
        replace ra1 := ra1.pset P29 (.slice x36.a x36.n x36.c) (.slice x37.a x37.n x37.c)
        replace rb1 := rb1.pset P29 (.slice x36.a x36.n x36.c) (.slice x37.a x37.n x37.c)
        replace ra2 := ra2.pset P29 (.slice x36.a x36.n x36.c) (.slice x37.a x37.n x37.c)
        replace rb2 := rb2.pset P29 (.slice x36.a x36.n x36.c) (.slice x37.a x37.n x37.c)
        replace rx5 := rx5.pset P29 (.slice x36.a x36.n x36.c) (.slice x37.a x37.n x37.c)
        replace rx32 := rx32.pset P29 (.slice x36.a x36.n x36.c) (.slice x37.a x37.n x37.c)
        replace rx36 := rx36.pset P29 (.slice x36.a x36.n x36.c) (.slice x37.a x37.n x37.c)
        replace rx37 := rx37.pset P29 (.slice x36.a x36.n x36.c) (.slice x37.a x37.n x37.c)
        replace P1 := P1.other (B := B30) nP1P29 (.slice x36.a x36.n x36.c) (.slice x37.a x37.n x37.c)
        replace P2 := P2.other (B := B30) nP2P29 (.slice x36.a x36.n x36.c) (.slice x37.a x37.n x37.c)
        replace P3 := P3.other (B := B30) nP3P29 (.slice x36.a x36.n x36.c) (.slice x37.a x37.n x37.c)
        replace hB := Below.pset hB gP29 (.slice x36.a x36.n x36.c) (.slice x37.a x37.n x37.c)
        replace P29 := P29.set (.slice x36.a x36.n x36.c) (.slice x37.a x37.n x37.c)
        generalize (w39.setCell ⟨B30, 0, none⟩ (.slice x36.a x36.n x36.c)).setCell ⟨B30, 1, none⟩ (.slice x37.a x37.n x37.c) = w40 at P1 P2 P3 P29 ra1 rb1 ra2 rb2 rx5 rx32 rx36 rx37 hB ⊢
        refine hK _ _ ⟨P1, P2, P3⟩ ?_
        clear hK K
        refine Rd.tr_float (.int .i64 0) (by simp only [List.getElem?_toArray, List.getElem?_cons_succ, List.getElem?_cons_zero]; rfl) rfl (by rfl) (fun X _ => by go_simp) ?_
        simp only [Act.put, List.setIfInBounds_toArray, List.set_cons_succ, List.set_cons_zero]
        exact Rd.tr_end (⟨B30, x36, x37, _, _, _, _, _, _, _, _, _, _, _, _, _, _, _, rfl, rx36, rx37, P29, P3, hB⟩)
    · skip
      go_simp
      have P41 := Pair.new w4 29 (.slice none 0 0) (.slice none 0 0)
      have nP1P41 := Nat.ne_of_lt P1.lt
      have nP2P41 := Nat.ne_of_lt P2.lt
      have nP3P41 := Nat.ne_of_lt P3.lt
      have gP41 := hB.size
      have hb : Below w4.heap.size w4 (w4.alloc (.cells #[.slice none 0 0, .slice none 0 0] 29)) := (Below.refl _ _).alloc (Nat.le_refl _) _
      replace P1 := P1.below hb
      replace P2 := P2.below hb
      replace P3 := P3.below hb
      replace ra1 := ra1.below hb
      replace rb1 := rb1.below hb
      replace ra2 := ra2.below hb
      replace rb2 := rb2.below hb
      replace hB := hB.trans (hb.mono hB.size)
      clear hb
      generalize w4.alloc (.cells #[.slice none 0 0, .slice none 0 0] 29) = w43 at P1 P2 P3 ra1 rb1 ra2 rb2 P41 hB ⊢
      generalize w4.heap.size = B42 at nP1P41 nP2P41 nP3P41 P41 gP41 ⊢
      refine hK _ _ ⟨P1, P2, P3⟩ ?_
      clear hK K
      refine Rd.tr_move (by simp only [List.getElem?_toArray, List.getElem?_cons_succ, List.getElem?_cons_zero]; rfl) rfl (by rfl) (fun K hK => ?_)
      have H46 := Lib.hid (mul_nat (.slice a1.a a1.n a1.c) (.slice a2.a a2.n a2.c) (a) (c) w43 ra1 ra2 (Nat.le_trans la.out (by omega)) (Nat.le_trans lc.out (by omega)))
      go_simp
      refine H46.out.mono ?_
      rintro e w47 ⟨v45, rfl, rx44, hb⟩
      clear H46
      replace P1 := P1.below hb
      replace P2 := P2.below hb
      replace P3 := P3.below hb
      replace P41 := P41.below hb
      replace ra1 := ra1.below hb
      replace rb1 := rb1.below hb
      replace ra2 := ra2.below hb
      replace rb2 := rb2.below hb
      replace hB := hB.trans (hb.mono hB.size)
      clear hb
      obtain ⟨x44, rfl, rx44⟩ := rx44.sl
      have HLx44 : Hid ((L (a * c)).length ≤ 200) := Lib.hid (len_mul_le la.out lc.out)
      refine hK _ _ ⟨P1, P2, P3⟩ ?_
      clear hK K
      refine Rd.tr_move (by simp only [List.getElem?_toArray, List.getElem?_cons_succ, List.getElem?_cons_zero]; rfl) rfl (by rfl) (fun K hK => ?_)
      have H50 := Lib.hid (mul_nat (.slice b1.a b1.n b1.c) (.slice b2.a b2.n b2.c) (b) (d) w47 rb1 rb2 (Nat.le_trans lb.out (by omega)) (Nat.le_trans ld.out (by omega)))
      go_simp
      refine H50.out.mono ?_
      rintro e w51 ⟨v49, rfl, rx48, hb⟩
      clear H50
      replace P1 := P1.below hb
      replace P2 := P2.below hb
      replace P3 := P3.below hb
      replace P41 := P41.below hb
      replace ra1 := ra1.below hb
      replace rb1 := rb1.below hb
      replace ra2 := ra2.below hb
      replace rb2 := rb2.below hb
      replace rx44 := rx44.below hb
      replace hB := hB.trans (hb.mono hB.size)
      clear hb
      obtain ⟨x48, rfl, rx48⟩ := rx48.sl
      have HLx48 : Hid ((L (b * d)).length ≤ 200) := Lib.hid (len_mul_le lb.out ld.out)
      refine hK _ _ ⟨P1, P2, P3⟩ ?_
      clear hK K
      refine Rd.tr_move (by simp only [List.getElem?_toArray, List.getElem?_cons_succ, List.getElem?_cons_zero]; rfl) rfl (by rfl) (fun K hK => ?_)
      have H54 := Lib.hid (of_nat (.slice x44.a x44.n x44.c) (.slice x48.a x48.n x48.c) (a * c) (b * d) w51 rx44 rx48 (Nat.le_trans HLx44.out (by omega)) (Nat.le_trans HLx48.out (by omega)) HNE.out)
      go_simp
      refine H54.out.mono ?_
      rintro e w55 ⟨x52, x53, rfl, rx52, rx53, hb⟩
      clear H54
      replace P1 := P1.below hb
      replace P2 := P2.below hb
      replace P3 := P3.below hb
      replace P41 := P41.below hb
      replace ra1 := ra1.below hb
      replace rb1 := rb1.below hb
      replace ra2 := ra2.below hb
      replace rb2 := rb2.below hb
      replace rx44 := rx44.below hb
      replace rx48 := rx48.below hb
      replace hB := hB.trans (hb.mono hB.size)
      clear hb
      have HLx52 : Hid ((L ((a * c) / Nat.gcd (a * c) (b * d))).length ≤ 200) := Lib.hid (len_div_le HLx44.out)
      have HLx53 : Hid ((L ((b * d) / Nat.gcd (a * c) (b * d))).length ≤ 200) := Lib.hid (len_div_le HLx48.out)
      refine hK _ _ ⟨P1, P2, P3⟩ ?_
      clear hK K
      refine Rd.tr_float (.tuple #[.agg #[.slice x52.a x52.n x52.c, .slice x53.a x53.n x53.c], .int .i64 0]) (by simp only [List.getElem?_toArray, List.getElem?_cons_succ, List.getElem?_cons_zero]; rfl) rfl (by rfl) (fun X _ => by go_simp) ?_
      simp only [Act.put, List.setIfInBounds_toArray, List.set_cons_succ, List.set_cons_zero]
      refine Rd.tr_float (.agg #[.slice x52.a x52.n x52.c, .slice x53.a x53.n x53.c]) (by simp only [List.getElem?_toArray, List.getElem?_cons_succ, List.getElem?_cons_zero]; rfl) rfl (by rfl) (fun X _ => by go_simp) ?_
      simp only [Act.put, List.setIfInBounds_toArray, List.set_cons_succ, List.set_cons_zero]
      refine Rd.tr_float (.int .i64 0) (by simp only [List.getElem?_toArray, List.getElem?_cons_succ, List.getElem?_cons_zero]; rfl) rfl (by rfl) (fun X _ => by go_simp) ?_
      simp only [Act.put, List.setIfInBounds_toArray, List.set_cons_succ, List.set_cons_zero]
      refine Rd.tr_move (by simp only [List.getElem?_toArray, List.getElem?_cons_succ, List.getElem?_cons_zero]; rfl) rfl (by rfl) (fun K hK => ?_)
      have c0P41 := P41.c0
      have c1P41 := P41.c1
      have z0P41 := P41.z0
      have z1P41 := P41.z1
      go_simp
      clear c0P41 c1P41 z0P41 z1P41
      replace ra1 := ra1.pset P41 (.slice x52.a x52.n x52.c) (.slice x53.a x53.n x53.c)
      replace rb1 := rb1.pset P41 (.slice x52.a x52.n x52.c) (.slice x53.a x53.n x53.c)
      replace ra2 := ra2.pset P41 (.slice x52.a x52.n x52.c) (.slice x53.a x53.n x53.c)
      replace rb2 := rb2.pset P41 (.slice x52.a x52.n x52.c) (.slice x53.a x53.n x53.c)
      replace rx44 := rx44.pset P41 (.slice x52.a x52.n x52.c) (.slice x53.a x53.n x53.c)
      replace rx48 := rx48.pset P41 (.slice x52.a x52.n x52.c) (.slice x53.a x53.n x53.c)
      replace rx52 := rx52.pset P41 (.slice x52.a x52.n x52.c) (.slice x53.a x53.n x53.c)
      replace rx53 := rx53.pset P41 (.slice x52.a x52.n x52.c) (.slice x53.a x53.n x53.c)
      replace P1 := P1.other (B := B42) nP1P41 (.slice x52.a x52.n x52.c) (.slice x53.a x53.n x53.c)
      replace P2 := P2.other (B := B42) nP2P41 (.slice x52.a x52.n x52.c) (.slice x53.a x53.n x53.c)
      replace P3 := P3.other (B := B42) nP3P41 (.slice x52.a x52.n x52.c) (.slice x53.a x53.n x53.c)
      replace hB := Below.pset hB gP41 (.slice x52.a x52.n x52.c) (.slice x53.a x53.n x53.c)
      replace P41 := P41.set (.slice x52.a x52.n x52.c) (.slice x53.a x53.n x53.c)
      generalize (w55.setCell ⟨B42, 0, none⟩ (.slice x52.a x52.n x52.c)).setCell ⟨B42, 1, none⟩ (.slice x53.a x53.n x53.c) = w56 at P1 P2 P3 P41 ra1 rb1 ra2 rb2 rx44 rx48 rx52 rx53 hB ⊢
      refine hK _ _ ⟨P1, P2, P3⟩ ?_
      clear hK K
      refine Rd.tr_float (.int .i64 0) (by simp only [List.getElem?_toArray, List.getElem?_cons_succ, List.getElem?_cons_zero]; rfl) rfl (by rfl) (fun X _ => by go_simp) ?_
      simp only [Act.put, List.setIfInBounds_toArray, List.set_cons_succ, List.set_cons_zero]
      exact Rd.tr_end (⟨B42, x52, x53, _, _, _, _, _, _, _, _, _, _, _, _, _, _, _, rfl, rx52, rx53, P41, P3, hB⟩)
  case next =>
    rintro a3 W ⟨BB, p, q, _, _, _, _, _, _, _, _, _, _, _, _, _, _, _, rfl, rp, rq, PB, PR, hB⟩
    have c0 := PB.c0
    have c1 := PB.c1
    have e0 := PR.c0
    have e1 := PR.c1
    have z0 := PR.z0
    have z1 := PR.z1
    go_wp2_with fail
    replace rp := rp.pset PR (.slice p.a p.n p.c) (.slice q.a q.n q.c)
    replace rq := rq.pset PR (.slice p.a p.n p.c) (.slice q.a q.n q.c)
    replace hB := Below.pset hB (by omega : w.heap.size ≤ w.heap.size + 1 + 1) (.slice p.a p.n p.c) (.slice q.a q.n q.c)
    have PRx := PR.set (.slice p.a p.n p.c) (.slice q.a q.n q.c)
    generalize (W.setCell ⟨w.heap.size + 1 + 1, 0, none⟩ (.slice p.a p.n p.c)).setCell ⟨w.heap.size + 1 + 1, 1, none⟩ (.slice q.a q.n q.c) = WW at rp rq PRx hB ⊢
    refine bodyPost_ret (v := .agg #[.slice p.a p.n p.c, .slice q.a q.n q.c]) ?_ rfl (⟨p, q, rfl, rp, rq, hB⟩)
    simp [results, Tryz.f18, go_sem, PRx.c0, PRx.c1]

set_option maxRecDepth 100000 in
set_option maxHeartbeats 4000000 in
theorem qint_pos (n : Nat) (hn : Hid (n < 9223372036854775808)) (w : World) :
    Calls Tryz.prog 13 #[.int .i64 (n : Int)] w fun e w' => ∃ p q : Sl, e = .returned (.agg #[.slice p.a p.n p.c, .slice q.a q.n q.c]) ∧ RU w' p n ∧ RU w' q 1 ∧ Below w.heap.size w w' := by
  have hwr : IntKind.u64.wrap (n : Int) = (n : Int) := by have := hn.out; exact wrap_u64 n (by omega)
  go_enter Tryz.func13, Tryz.ntmps13
  have hb : Below w.heap.size w (w.alloc (.cells #[.slice none 0 0, .slice none 0 0] 29)) := ((Below.refl _ _).alloc (Nat.le_refl _) _)
  have hB := hb
  have P1 : Pair (w.alloc (.cells #[.slice none 0 0, .slice none 0 0] 29)) (w.heap.size) 29 (.slice none 0 0) (.slice none 0 0) := by
    have h := Pair.new w 29 (.slice none 0 0) (.slice none 0 0)
    simpa only [World.size_alloc] using h
  clear hb
  have c0P1 := P1.c0
  have c1P1 := P1.c1
  have H4 := Lib.hid (nOf_any n (w.alloc (.cells #[.slice none 0 0, .slice none 0 0] 29)) (Nat.lt_trans hn.out (by omega)))
  go_wp2_with fail
  clear c0P1 c1P1
  refine H4.out.mono ?_
  rintro e w5 ⟨v3, rfl, rx2, hb⟩
  clear H4
  replace P1 := P1.below hb
  replace hB := hB.trans (hb.mono hB.size)
  clear hb
  obtain ⟨x2, rfl, rx2⟩ := rx2.sl
  have HLx2 : Hid ((L (n)).length ≤ 1) := Lib.hid (one_row n (Nat.lt_trans hn.out (by omega)))
  have c0P1 := P1.c0
  have c1P1 := P1.c1
  have H8 := Lib.hid (nOf_any (1) w5 (by omega))
  go_wp2_with fail
  clear c0P1 c1P1
  refine H8.out.mono ?_
  rintro e w9 ⟨v7, rfl, rx6, hb⟩
  clear H8
  replace P1 := P1.below hb
  replace rx2 := rx2.below hb
  replace hB := hB.trans (hb.mono hB.size)
  clear hb
  obtain ⟨x6, rfl, rx6⟩ := rx6.sl
  have HLx6 : Hid ((L (1)).length ≤ 1) := Lib.hid (one_row (1) (by omega))
  have c0P1 := P1.c0
  have c1P1 := P1.c1
  have z0P1 := P1.z0
  have z1P1 := P1.z1
  go_wp2_with fail
  replace rx2 := rx2.pset P1 (.slice x2.a x2.n x2.c) (.slice x6.a x6.n x6.c)
  replace rx6 := rx6.pset P1 (.slice x2.a x2.n x2.c) (.slice x6.a x6.n x6.c)
  replace hB := Below.pset hB (by omega : w.heap.size ≤ w.heap.size) (.slice x2.a x2.n x2.c) (.slice x6.a x6.n x6.c)
  have P1x := P1.set (.slice x2.a x2.n x2.c) (.slice x6.a x6.n x6.c)
  generalize (w9.setCell ⟨w.heap.size, 0, none⟩ (.slice x2.a x2.n x2.c)).setCell ⟨w.heap.size, 1, none⟩ (.slice x6.a x6.n x6.c) = WW at rx2 rx6 P1x hB ⊢
  refine bodyPost_ret (v := .agg #[.slice x2.a x2.n x2.c, .slice x6.a x6.n x6.c]) ?_ rfl (⟨x2, x6, rfl, rx2, rx6, hB⟩)
  simp [results, Tryz.f13, go_sem, P1x.c0, P1x.c1]

set_option maxRecDepth 100000 in
set_option maxHeartbeats 4000000 in
theorem qint_neg (z : Int) (hz : Hid (z < 0)) (w : World) :
    Calls Tryz.prog 13 #[.int .i64 z] w fun e w' => ∃ p q : Sl, e = .returned (.agg #[.slice p.a p.n p.c, .slice q.a q.n q.c]) ∧ RU w' p 0 ∧ RU w' q 1 ∧ Below w.heap.size w w' := by
  have hmx : max z 0 = 0 := by have := hz.out; omega
  go_enter Tryz.func13, Tryz.ntmps13
  have hb : Below w.heap.size w (w.alloc (.cells #[.slice none 0 0, .slice none 0 0] 29)) := ((Below.refl _ _).alloc (Nat.le_refl _) _)
  have hB := hb
  have P1 : Pair (w.alloc (.cells #[.slice none 0 0, .slice none 0 0] 29)) (w.heap.size) 29 (.slice none 0 0) (.slice none 0 0) := by
    have h := Pair.new w 29 (.slice none 0 0) (.slice none 0 0)
    simpa only [World.size_alloc] using h
  clear hb
  have c0P1 := P1.c0
  have c1P1 := P1.c1
  have H4 := Lib.hid (nOf_any (0) (w.alloc (.cells #[.slice none 0 0, .slice none 0 0] 29)) (by omega))
  go_wp2_with fail
  clear c0P1 c1P1
  refine H4.out.mono ?_
  rintro e w5 ⟨v3, rfl, rx2, hb⟩
  clear H4
  replace P1 := P1.below hb
  replace hB := hB.trans (hb.mono hB.size)
  clear hb
  obtain ⟨x2, rfl, rx2⟩ := rx2.sl
  have HLx2 : Hid ((L (0)).length ≤ 1) := Lib.hid (one_row (0) (by omega))
  have c0P1 := P1.c0
  have c1P1 := P1.c1
  have H8 := Lib.hid (nOf_any (1) w5 (by omega))
  go_wp2_with fail
  clear c0P1 c1P1
  refine H8.out.mono ?_
  rintro e w9 ⟨v7, rfl, rx6, hb⟩
  clear H8
  replace P1 := P1.below hb
  replace rx2 := rx2.below hb
  replace hB := hB.trans (hb.mono hB.size)
  clear hb
  obtain ⟨x6, rfl, rx6⟩ := rx6.sl
  have HLx6 : Hid ((L (1)).length ≤ 1) := Lib.hid (one_row (1) (by omega))
  have c0P1 := P1.c0
  have c1P1 := P1.c1
  have z0P1 := P1.z0
  have z1P1 := P1.z1
  go_wp2_with fail
  replace rx2 := rx2.pset P1 (.slice x2.a x2.n x2.c) (.slice x6.a x6.n x6.c)
  replace rx6 := rx6.pset P1 (.slice x2.a x2.n x2.c) (.slice x6.a x6.n x6.c)
  replace hB := Below.pset hB (by omega : w.heap.size ≤ w.heap.size) (.slice x2.a x2.n x2.c) (.slice x6.a x6.n x6.c)
  have P1x := P1.set (.slice x2.a x2.n x2.c) (.slice x6.a x6.n x6.c)
  generalize (w9.setCell ⟨w.heap.size, 0, none⟩ (.slice x2.a x2.n x2.c)).setCell ⟨w.heap.size, 1, none⟩ (.slice x6.a x6.n x6.c) = WW at rx2 rx6 P1x hB ⊢
  refine bodyPost_ret (v := .agg #[.slice x2.a x2.n x2.c, .slice x6.a x6.n x6.c]) ?_ rfl (⟨x2, x6, rfl, rx2, rx6, hB⟩)
  simp [results, Tryz.f13, go_sem, P1x.c0, P1x.c1]

end Go.Proofs.YtphllajedkpcbaaGreatDoor
