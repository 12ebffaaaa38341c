/-
  crossed, Cmp, Floor, Good, Int of ratio: their answers, in naturals. Condition: not more than a hundred limbs.
-/
import Derived.Test.YtnfoblmfjldheaaDoorQa
import Derived.Test.YtnfoblmfjldheaaDoorRx
namespace Go.Proofs.YtnfoblmfjldheaaDoor
open Go.RowKit Go.Dig Go.Shelf Go.Proofs

theorem len_mul_le {a b m n : Nat} (h1 : (L a).length ≤ m) (h2 : (L b).length ≤ n) : (L (a * b)).length ≤ m + n := Nat.le_trans (len_mul a b) (by omega)
theorem len_add_le {a b m n : Nat} (h1 : (L a).length ≤ m) (h2 : (L b).length ≤ n) : (L (a + b)).length ≤ m + n + 1 := Nat.le_trans (len_add a b) (by omega)
theorem len_div_le {a b m : Nat} (h : (L a).length ≤ m) : (L (a / b)).length ≤ m := Nat.le_trans (len_mono (Nat.div_le_self a b)) h
theorem len_sub_le {a b m : Nat} (h : (L a).length ≤ m) : (L (a - b)).length ≤ m := Nat.le_trans (len_mono (Nat.sub_le a b)) h
set_option maxRecDepth 100000 in
set_option maxHeartbeats 4000000 in
theorem crossed_nat (a1 b1 a2 b2 : Sl) (a b c d : Nat) (w : World) (ra1 : RU w a1 a) (rb1 : RU w b1 b) (ra2 : RU w a2 c) (rb2 : RU w b2 d) (la : Hid ((L a).length ≤ 100)) (lb : Hid ((L b).length ≤ 100)) (lc : Hid ((L c).length ≤ 100)) (ld : Hid ((L d).length ≤ 100)) :
    Calls Tryd.prog 50 #[.agg #[.slice a1.a a1.n a1.c, .slice b1.a b1.n b1.c], .agg #[.slice a2.a a2.n a2.c, .slice b2.a b2.n b2.c]] w fun e w' => ∃ p q : Sl, e = .returned (.tuple #[.slice p.a p.n p.c, .slice q.a q.n q.c]) ∧ RU w' p (a * d) ∧ RU w' q (c * b) ∧ Below w.heap.size w w' := by
  go_enter Tryd.func50, Tryd.ntmps50
  have hb : Below w.heap.size w ((w.alloc (.cells #[.slice a1.a a1.n a1.c, .slice b1.a b1.n b1.c] 30)).alloc (.cells #[.slice a2.a a2.n a2.c, .slice b2.a b2.n b2.c] 30)) := (((Below.refl _ _).alloc (Nat.le_refl _) _).alloc (by simp) _)
  replace ra1 := ra1.below hb
  replace rb1 := rb1.below hb
  replace ra2 := ra2.below hb
  replace rb2 := rb2.below hb
  have hB := hb
  have P1 : Pair ((w.alloc (.cells #[.slice a1.a a1.n a1.c, .slice b1.a b1.n b1.c] 30)).alloc (.cells #[.slice a2.a a2.n a2.c, .slice b2.a b2.n b2.c] 30)) (w.heap.size) 30 (.slice a1.a a1.n a1.c) (.slice b1.a b1.n b1.c) := by
    have h := (Pair.new w 30 (.slice a1.a a1.n a1.c) (.slice b1.a b1.n b1.c)).alloc (.cells #[.slice a2.a a2.n a2.c, .slice b2.a b2.n b2.c] 30)
    simpa only [World.size_alloc] using h
  have P2 : Pair ((w.alloc (.cells #[.slice a1.a a1.n a1.c, .slice b1.a b1.n b1.c] 30)).alloc (.cells #[.slice a2.a a2.n a2.c, .slice b2.a b2.n b2.c] 30)) (w.heap.size + 1) 30 (.slice a2.a a2.n a2.c) (.slice b2.a b2.n b2.c) := by
    have h := Pair.new (w.alloc (.cells #[.slice a1.a a1.n a1.c, .slice b1.a b1.n b1.c] 30)) 30 (.slice a2.a a2.n a2.c) (.slice b2.a b2.n b2.c)
    simpa only [World.size_alloc] using h
  clear hb
  have c0P1 := P1.c0
  have c1P1 := P1.c1
  have c0P2 := P2.c0
  have c1P2 := P2.c1
  go_wp2_with fail
  clear c0P1 c1P1 c0P2 c1P2
  have hb : Below ((w.alloc (.cells #[.slice a1.a a1.n a1.c, .slice b1.a b1.n b1.c] 30)).alloc (.cells #[.slice a2.a a2.n a2.c, .slice b2.a b2.n b2.c] 30)).heap.size ((w.alloc (.cells #[.slice a1.a a1.n a1.c, .slice b1.a b1.n b1.c] 30)).alloc (.cells #[.slice a2.a a2.n a2.c, .slice b2.a b2.n b2.c] 30)) ((w.alloc (.cells #[.slice a1.a a1.n a1.c, .slice b1.a b1.n b1.c] 30)).alloc (.cells #[.slice a2.a a2.n a2.c, .slice b2.a b2.n b2.c] 30)).drew := (Below.refl _ _).drew
  replace P1 := P1.below hb
  replace P2 := P2.below hb
  replace ra1 := ra1.below hb
  replace rb1 := rb1.below hb
  replace ra2 := ra2.below hb
  replace rb2 := rb2.below hb
  replace hB := hB.trans (hb.mono hB.size)
  clear hb
  refine Rd.regionT (fun X => Pair X (w.heap.size) 30 (.slice a1.a a1.n a1.c) (.slice b1.a b1.n b1.c) ∧ Pair X (w.heap.size + 1) 30 (.slice a2.a a2.n a2.c) (.slice b2.a b2.n b2.c)) [0, 1, 2, 3, 5, 6, 7, 8, 10, 11] (.one 0 (.one 1 (.one 2 (.one 3 (.one 5 (.one 6 (.one 7 (.one 8 (.one 4 (.one 9 (.one 10 (.one 11 .done)))))))))))) (fun ac W => ∃ (p : Sl) (q : Sl) (y2 y3 y6 y7 y8 y9 y10 y11 y12 y13 y14 y15 : Value), ac = { tmps := List.toArray (.agg #[.slice a1.a a1.n a1.c, .slice b1.a b1.n b1.c] :: .agg #[.slice a2.a a2.n a2.c, .slice b2.a b2.n b2.c] :: y2 :: y3 :: .slice p.a p.n p.c :: .slice q.a q.n q.c :: y6 :: y7 :: y8 :: y9 :: y10 :: y11 :: y12 :: y13 :: y14 :: y15 :: []), defers := [] } ∧ RU W p (a * d) ∧ RU W q (c * b) ∧ Below w.heap.size w W) (by kernel_rfl) (by kernel_rfl) (by kernel_rfl) ⟨P1, P2⟩ ?tree ?next
  case tree =>
    generalize ((w.alloc (.cells #[.slice a1.a a1.n a1.c, .slice b1.a b1.n b1.c] 30)).alloc (.cells #[.slice a2.a a2.n a2.c, .slice b2.a b2.n b2.c] 30)).drew = w3 at P1 P2 ra1 rb1 ra2 rb2 hB ⊢
    refine Rd.tr_float (.pointer (some ⟨w.heap.size, 0, none⟩)) (by simp only [List.getElem?_toArray, List.getElem?_cons_zero]; rfl) rfl (by rfl) (fun X _ => by go_simp) ?_
    simp only [Act.put, List.setIfInBounds_toArray, List.set_cons_succ, List.set_cons_zero]
    refine Rd.tr_float (.slice a1.a a1.n a1.c) (by simp only [List.getElem?_toArray, List.getElem?_cons_succ, List.getElem?_cons_zero]; rfl) rfl (by rfl) (fun X hX => by have h0 := hX.1.c0; have h1 := hX.1.c1; go_simp) ?_
    simp only [Act.put, List.setIfInBounds_toArray, List.set_cons_succ, List.set_cons_zero]
    refine Rd.tr_float (.pointer (some ⟨w.heap.size + 1, 1, none⟩)) (by simp only [List.getElem?_toArray, List.getElem?_cons_succ, List.getElem?_cons_zero]; rfl) rfl (by rfl) (fun X _ => by go_simp) ?_
    simp only [Act.put, List.setIfInBounds_toArray, List.set_cons_succ, List.set_cons_zero]
    refine Rd.tr_float (.slice b2.a b2.n b2.c) (by simp only [List.getElem?_toArray, List.getElem?_cons_succ, List.getElem?_cons_zero]; rfl) rfl (by rfl) (fun X hX => by have h0 := hX.2.c0; have h1 := hX.2.c1; go_simp) ?_
    simp only [Act.put, List.setIfInBounds_toArray, List.set_cons_succ, List.set_cons_zero]
    refine Rd.tr_float (.pointer (some ⟨w.heap.size + 1, 0, none⟩)) (by simp only [List.getElem?_toArray, List.getElem?_cons_succ, List.getElem?_cons_zero]; rfl) rfl (by rfl) (fun X _ => by go_simp) ?_
    simp only [Act.put, List.setIfInBounds_toArray, List.set_cons_succ, List.set_cons_zero]
    refine Rd.tr_float (.slice a2.a a2.n a2.c) (by simp only [List.getElem?_toArray, List.getElem?_cons_succ, List.getElem?_cons_zero]; rfl) rfl (by rfl) (fun X hX => by have h0 := hX.2.c0; have h1 := hX.2.c1; go_simp) ?_
    simp only [Act.put, List.setIfInBounds_toArray, List.set_cons_succ, List.set_cons_zero]
    refine Rd.tr_float (.pointer (some ⟨w.heap.size, 1, none⟩)) (by simp only [List.getElem?_toArray, List.getElem?_cons_succ, List.getElem?_cons_zero]; rfl) rfl (by rfl) (fun X _ => by go_simp) ?_
    simp only [Act.put, List.setIfInBounds_toArray, List.set_cons_succ, List.set_cons_zero]
    refine Rd.tr_float (.slice b1.a b1.n b1.c) (by simp only [List.getElem?_toArray, List.getElem?_cons_succ, List.getElem?_cons_zero]; rfl) rfl (by rfl) (fun X hX => by have h0 := hX.1.c0; have h1 := hX.1.c1; go_simp) ?_
    simp only [Act.put, List.setIfInBounds_toArray, List.set_cons_succ, List.set_cons_zero]
    refine Rd.tr_move (by simp only [List.getElem?_toArray, List.getElem?_cons_succ, List.getElem?_cons_zero]; rfl) rfl (by rfl) (fun K hK => ?_)
    have H6 := Lib.hid (mul_nat (.slice a1.a a1.n a1.c) (.slice b2.a b2.n b2.c) (a) (d) w3 ra1 rb2 (Nat.le_trans la.out (by omega)) (Nat.le_trans ld.out (by omega)))
    go_simp
    refine H6.out.mono ?_
    rintro e w7 ⟨v5, rfl, rx4, hb⟩
    clear H6
    replace P1 := P1.below hb
    replace P2 := P2.below hb
    replace ra1 := ra1.below hb
    replace rb1 := rb1.below hb
    replace ra2 := ra2.below hb
    replace rb2 := rb2.below hb
    replace hB := hB.trans (hb.mono hB.size)
    clear hb
    obtain ⟨x4, rfl, rx4⟩ := rx4.sl
    have HLx4 : Hid ((L (a * d)).length ≤ 200) := Lib.hid (len_mul_le la.out ld.out)
    refine hK _ _ ⟨P1, P2⟩ ?_
    clear hK K
    refine Rd.tr_move (by simp only [List.getElem?_toArray, List.getElem?_cons_succ, List.getElem?_cons_zero]; rfl) rfl (by rfl) (fun K hK => ?_)
    have H10 := Lib.hid (mul_nat (.slice a2.a a2.n a2.c) (.slice b1.a b1.n b1.c) (c) (b) w7 ra2 rb1 (Nat.le_trans lc.out (by omega)) (Nat.le_trans lb.out (by omega)))
    go_simp
    refine H10.out.mono ?_
    rintro e w11 ⟨v9, rfl, rx8, hb⟩
    clear H10
    replace P1 := P1.below hb
    replace P2 := P2.below hb
    replace ra1 := ra1.below hb
    replace rb1 := rb1.below hb
    replace ra2 := ra2.below hb
    replace rb2 := rb2.below hb
    replace rx4 := rx4.below hb
    replace hB := hB.trans (hb.mono hB.size)
    clear hb
    obtain ⟨x8, rfl, rx8⟩ := rx8.sl
    have HLx8 : Hid ((L (c * b)).length ≤ 200) := Lib.hid (len_mul_le lc.out lb.out)
    refine hK _ _ ⟨P1, P2⟩ ?_
    clear hK K
    refine Rd.tr_float (.slice x4.a x4.n x4.c) (by simp only [List.getElem?_toArray, List.getElem?_cons_succ, List.getElem?_cons_zero]; rfl) rfl (by rfl) (fun X _ => by go_simp) ?_
    simp only [Act.put, List.setIfInBounds_toArray, List.set_cons_succ, List.set_cons_zero]
    refine Rd.tr_float (.slice x8.a x8.n x8.c) (by simp only [List.getElem?_toArray, List.getElem?_cons_succ, List.getElem?_cons_zero]; rfl) rfl (by rfl) (fun X _ => by go_simp) ?_
    simp only [Act.put, List.setIfInBounds_toArray, List.set_cons_succ, List.set_cons_zero]
    exact Rd.tr_end (⟨x4, x8, _, _, _, _, _, _, _, _, _, _, _, _, rfl, rx4, rx8, hB⟩)
  case next =>
    rintro a3 W ⟨p, q, _, _, _, _, _, _, _, _, _, _, _, _, rfl, rp, rq, hB⟩
    go_wp2_with fail
    go_ret2
    exact ⟨p, q, rfl, rp, rq, hB⟩

end Go.Proofs.YtnfoblmfjldheaaDoor
