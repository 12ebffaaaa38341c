/-
  The walk of RatioGoods: whatever the limbs, it answers true, and leaves all memory as it was. No condition.
-/
import Derived.Test.YtnfoblmfjldheaaDoorQm
import Derived.Test.YtnfoblmfjldheaaDoorQn
namespace Go.Proofs.YtnfoblmfjldheaaDoor
open Go.RowKit Go.Dig Go.Shelf Go.Proofs

theorem RA.lng {w : World} {p : Sl} {l : List Nat} (h : RA w p l) : p.n = l.length := by
  obtain ⟨a, c, e, -, -⟩ := h.row
  cases p; cases e; rfl
theorem eqg0 {n : Nat} (h : n ≠ 0) : ((n : Int) == 0) = false := by rw [beq_eq_false_iff_ne]; omega
theorem eqg1 {n : Nat} (h : n = 0) : ((n : Int) == 0) = true := by subst h; rfl
set_option maxRecDepth 100000 in
set_option maxHeartbeats 4000000 in
theorem goods_d1 (f1 f2 : Sl) (l11 l12 : List Nat) (w : World) (rf1 : RA w f1 l11) (rf2 : RA w f2 l12) (h1 : 4 < f1.n) :
    Calls Tryd.prog 4 #[.agg #[.slice f1.a f1.n f1.c, .slice f2.a f2.n f2.c]] w fun e w' => e = .returned (.bool true) ∧ Below w.heap.size w w' := by
  go_enter Tryd.func4, Tryd.ntmps4
  have hb : Below w.heap.size w (w.alloc (.cells #[.slice f1.a f1.n f1.c, .slice f2.a f2.n f2.c] 24)) := ((Below.refl _ _).alloc (Nat.le_refl _) _)
  replace rf1 := rf1.below hb
  replace rf2 := rf2.below hb
  have hB := hb
  have P1 : Pair (w.alloc (.cells #[.slice f1.a f1.n f1.c, .slice f2.a f2.n f2.c] 24)) (w.heap.size) 24 (.slice f1.a f1.n f1.c) (.slice f2.a f2.n f2.c) := by
    have h := Pair.new w 24 (.slice f1.a f1.n f1.c) (.slice f2.a f2.n f2.c)
    simpa only [World.size_alloc] using h
  clear hb
  have c0P1 := P1.c0
  have c1P1 := P1.c1
  have H2 := Lib.hid (awake_any (w.alloc (.cells #[.slice f1.a f1.n f1.c, .slice f2.a f2.n f2.c] 24)))
  go_wp2_with fail
  clear c0P1 c1P1
  refine H2.out.mono ?_
  rintro e w3 ⟨rfl, hb⟩
  clear H2
  replace P1 := P1.below hb
  replace rf1 := rf1.below hb
  replace rf2 := rf2.below hb
  replace hB := hB.trans (hb.mono hB.size)
  clear hb
  have c0P1 := P1.c0
  have c1P1 := P1.c1
  have H4 := Lib.hid (awake_any w3)
  go_wp2_with fail
  clear c0P1 c1P1
  refine H4.out.mono ?_
  rintro e w5 ⟨rfl, hb⟩
  clear H4
  replace P1 := P1.below hb
  replace rf1 := rf1.below hb
  replace rf2 := rf2.below hb
  replace hB := hB.trans (hb.mono hB.size)
  clear hb
  have c0P1 := P1.c0
  have c1P1 := P1.c1
  go_wp2_with fail
  go_ret
  exact ⟨rfl, hB⟩

set_option maxRecDepth 100000 in
set_option maxHeartbeats 4000000 in
theorem goods_d2 (f1 f2 : Sl) (l11 l12 : List Nat) (w : World) (rf1 : RA w f1 l11) (rf2 : RA w f2 l12) (h1 : f1.n ≤ 4) (h2 : 4 < f2.n) :
    Calls Tryd.prog 4 #[.agg #[.slice f1.a f1.n f1.c, .slice f2.a f2.n f2.c]] w fun e w' => e = .returned (.bool true) ∧ Below w.heap.size w w' := by
  go_enter Tryd.func4, Tryd.ntmps4
  have hb : Below w.heap.size w (w.alloc (.cells #[.slice f1.a f1.n f1.c, .slice f2.a f2.n f2.c] 24)) := ((Below.refl _ _).alloc (Nat.le_refl _) _)
  replace rf1 := rf1.below hb
  replace rf2 := rf2.below hb
  have hB := hb
  have P1 : Pair (w.alloc (.cells #[.slice f1.a f1.n f1.c, .slice f2.a f2.n f2.c] 24)) (w.heap.size) 24 (.slice f1.a f1.n f1.c) (.slice f2.a f2.n f2.c) := by
    have h := Pair.new w 24 (.slice f1.a f1.n f1.c) (.slice f2.a f2.n f2.c)
    simpa only [World.size_alloc] using h
  clear hb
  have c0P1 := P1.c0
  have c1P1 := P1.c1
  have H2 := Lib.hid (awake_any (w.alloc (.cells #[.slice f1.a f1.n f1.c, .slice f2.a f2.n f2.c] 24)))
  go_wp2_with fail
  clear c0P1 c1P1
  refine H2.out.mono ?_
  rintro e w3 ⟨rfl, hb⟩
  clear H2
  replace P1 := P1.below hb
  replace rf1 := rf1.below hb
  replace rf2 := rf2.below hb
  replace hB := hB.trans (hb.mono hB.size)
  clear hb
  have c0P1 := P1.c0
  have c1P1 := P1.c1
  have H4 := Lib.hid (awake_any w3)
  go_wp2_with fail
  clear c0P1 c1P1
  refine H4.out.mono ?_
  rintro e w5 ⟨rfl, hb⟩
  clear H4
  replace P1 := P1.below hb
  replace rf1 := rf1.below hb
  replace rf2 := rf2.below hb
  replace hB := hB.trans (hb.mono hB.size)
  clear hb
  have c0P1 := P1.c0
  have c1P1 := P1.c1
  go_wp2_with fail
  go_ret
  exact ⟨rfl, hB⟩

set_option maxRecDepth 100000 in
set_option maxHeartbeats 4000000 in
theorem goods_live (f1 f2 : Sl) (l11 l12 : List Nat) (w : World) (rf1 : RA w f1 l11) (rf2 : RA w f2 l12) (S11 : Hid (SmallU l11)) (S12 : Hid (SmallU l12)) (h1 : f1.n ≤ 4) (h2 : f2.n ≤ 4) (K1 : Hid (l11.length ≤ 1000000)) (K2 : Hid (l12.length ≤ 1000000)) :
    Calls Tryd.prog 4 #[.agg #[.slice f1.a f1.n f1.c, .slice f2.a f2.n f2.c]] w fun e w' => e = .returned (.bool true) ∧ Below w.heap.size w w' := by
  go_enter Tryd.func4, Tryd.ntmps4
  have hb : Below w.heap.size w (w.alloc (.cells #[.slice f1.a f1.n f1.c, .slice f2.a f2.n f2.c] 24)) := ((Below.refl _ _).alloc (Nat.le_refl _) _)
  replace rf1 := rf1.below hb
  replace rf2 := rf2.below hb
  have hB := hb
  have P1 : Pair (w.alloc (.cells #[.slice f1.a f1.n f1.c, .slice f2.a f2.n f2.c] 24)) (w.heap.size) 24 (.slice f1.a f1.n f1.c) (.slice f2.a f2.n f2.c) := by
    have h := Pair.new w 24 (.slice f1.a f1.n f1.c) (.slice f2.a f2.n f2.c)
    simpa only [World.size_alloc] using h
  clear hb
  have c0P1 := P1.c0
  have c1P1 := P1.c1
  have H2 := Lib.hid (awake_any (w.alloc (.cells #[.slice f1.a f1.n f1.c, .slice f2.a f2.n f2.c] 24)))
  go_wp2_with fail
  clear c0P1 c1P1
  refine H2.out.mono ?_
  rintro e w3 ⟨rfl, hb⟩
  clear H2
  replace P1 := P1.below hb
  replace rf1 := rf1.below hb
  replace rf2 := rf2.below hb
  replace hB := hB.trans (hb.mono hB.size)
  clear hb
  have c0P1 := P1.c0
  have c1P1 := P1.c1
  go_wp2_with fail
  clear c0P1 c1P1
  have hb : Below w3.heap.size w3 w3.drew := (Below.refl _ _).drew
  replace P1 := P1.below hb
  replace rf1 := rf1.below hb
  replace rf2 := rf2.below hb
  replace hB := hB.trans (hb.mono hB.size)
  clear hb
  refine Rd.regionT (fun X => Pair X (w.heap.size) 24 (.slice f1.a f1.n f1.c) (.slice f2.a f2.n f2.c)) [1, 2, 5, 6, 8] (.one 1 (.one 2 (.one 5 (.one 6 (.three 0 (.three 3 (.two 4 (.two 7 (.one 8 (.one 9 (.one 10 .done))) 9 (.one 7 (.one 8 (.one 10 .done)))) 9 (.one 4 (.one 7 (.one 8 (.one 10 .done))))) 4 (.two 3 (.two 7 (.one 8 (.one 9 (.one 10 .done))) 9 (.one 7 (.one 8 (.one 10 .done)))) 9 (.one 3 (.one 7 (.one 8 (.one 10 .done))))) 9 (.two 3 (.one 4 (.one 7 (.one 8 (.one 10 .done)))) 4 (.one 3 (.one 7 (.one 8 (.one 10 .done)))))) 4 (.two 0 (.two 3 (.two 7 (.one 8 (.one 9 (.one 10 .done))) 9 (.one 7 (.one 8 (.one 10 .done)))) 9 (.one 3 (.one 7 (.one 8 (.one 10 .done))))) 9 (.one 0 (.one 3 (.one 7 (.one 8 (.one 10 .done)))))) 9 (.two 0 (.two 3 (.one 4 (.one 7 (.one 8 (.one 10 .done)))) 4 (.one 3 (.one 7 (.one 8 (.one 10 .done))))) 4 (.one 0 (.one 3 (.one 7 (.one 8 (.one 10 .done))))))))))) (fun ac W => ∃ (BB : Nat) (p : Sl) (q : Sl) (y6 y7 y8 y9 y10 y11 y12 y13 y14 y15 y16 y17 y18 y19 y21 y22 y23 y24 y25 y26 y27 y28 y29 : Value), ac = { tmps := List.toArray (.agg #[.slice f1.a f1.n f1.c, .slice f2.a f2.n f2.c] :: .pointer (some ⟨w.heap.size, 0, none⟩) :: .bool false :: .pointer (some ⟨BB, 0, none⟩) :: undef :: undef :: y6 :: y7 :: y8 :: y9 :: y10 :: y11 :: y12 :: y13 :: y14 :: y15 :: y16 :: y17 :: y18 :: y19 :: undef :: y21 :: y22 :: y23 :: y24 :: y25 :: y26 :: y27 :: y28 :: y29 :: undef :: undef :: undef :: undef :: undef :: undef :: undef :: undef :: undef :: undef :: undef :: undef :: undef :: undef :: undef :: undef :: undef :: undef :: undef :: undef :: undef :: undef :: undef :: undef :: undef :: undef :: undef :: undef :: undef :: undef :: undef :: undef :: undef :: undef :: []), defers := [] } ∧ RL W p l11 ∧ RL W q l12 ∧ Pair W BB 30 (.slice p.a p.n p.c) (.slice q.a q.n q.c) ∧ Pair W (w.heap.size) 24 (.slice f1.a f1.n f1.c) (.slice f2.a f2.n f2.c) ∧ RA W f1 l11 ∧ RA W f2 l12 ∧ Below w.heap.size w W) (by kernel_rfl) (by kernel_rfl) (by kernel_rfl) P1 ?tree ?next
  case tree =>
    generalize w3.drew = w4 at P1 rf1 rf2 hB ⊢
    refine Rd.tr_float (.pointer (some ⟨w.heap.size, 0, none⟩)) (by simp only [List.getElem?_toArray, List.getElem?_cons_succ, List.getElem?_cons_zero]; rfl) rfl (by rfl) (fun X _ => by go_simp) ?_
    simp only [Act.put, List.setIfInBounds_toArray, List.set_cons_succ, List.set_cons_zero]
    refine Rd.tr_float (.slice f1.a f1.n f1.c) (by simp only [List.getElem?_toArray, List.getElem?_cons_succ, List.getElem?_cons_zero]; rfl) rfl (by rfl) (fun X hX => by have h0 := hX.c0; have h1 := hX.c1; go_simp) ?_
    simp only [Act.put, List.setIfInBounds_toArray, List.set_cons_succ, List.set_cons_zero]
    refine Rd.tr_float (.pointer (some ⟨w.heap.size, 1, none⟩)) (by simp only [List.getElem?_toArray, List.getElem?_cons_succ, List.getElem?_cons_zero]; rfl) rfl (by rfl) (fun X _ => by go_simp) ?_
    simp only [Act.put, List.setIfInBounds_toArray, List.set_cons_succ, List.set_cons_zero]
    refine Rd.tr_float (.slice f2.a f2.n f2.c) (by simp only [List.getElem?_toArray, List.getElem?_cons_succ, List.getElem?_cons_zero]; rfl) rfl (by rfl) (fun X hX => by have h0 := hX.c0; have h1 := hX.c1; go_simp) ?_
    simp only [Act.put, List.setIfInBounds_toArray, List.set_cons_succ, List.set_cons_zero]
    refine Rd.tr_three (by simp only [List.getElem?_toArray, List.getElem?_cons_zero]; rfl) (by rfl) (by simp only [List.getElem?_toArray, List.getElem?_cons_succ, List.getElem?_cons_zero]; rfl) (by rfl) (by simp only [List.getElem?_toArray, List.getElem?_cons_succ, List.getElem?_cons_zero]; rfl) (by rfl) (fun K hK => ?_) (fun K hK => ?_) (fun K hK => ?_)
    · skip
      go_simp
      have hb : Below w4.heap.size w4 (w4.alloc (.cells #[] 64)) := (Below.refl _ _).alloc (Nat.le_refl _) _
      have E7 : Emp (w4.alloc (.cells #[] 64)) w4.heap.size := World.alloc_heap_new _ _
      have gE7 := hB.size
      replace P1 := P1.below hb
      replace rf1 := rf1.below hb
      replace rf2 := rf2.below hb
      replace hB := hB.trans (hb.mono hB.size)
      clear hb
      generalize w4.alloc (.cells #[] 64) = w6 at P1 rf1 rf2 E7 hB ⊢
      generalize w4.heap.size = B5 at gE7 E7 ⊢
      refine hK _ _ P1 ?_
      clear hK K
      refine Rd.tr_three (by simp only [List.getElem?_toArray, List.getElem?_cons_succ, List.getElem?_cons_zero]; rfl) (by rfl) (by simp only [List.getElem?_toArray, List.getElem?_cons_succ, List.getElem?_cons_zero]; rfl) (by rfl) (by simp only [List.getElem?_toArray, List.getElem?_cons_succ, List.getElem?_cons_zero]; rfl) (by rfl) (fun K hK => ?_) (fun K hK => ?_) (fun K hK => ?_)
      · skip
        obtain ⟨v10, w8, H11, rx9, hb⟩ := copied_gen w6 B5 E7 (.slice f1.a f1.n f1.c) l11 rf1 (Nat.le_trans K1.out (by omega)) 28
        refine wp_append _ _ 28 22 rfl (.slice (some ⟨B5, 0, none⟩) 0 0) (.slice f1.a f1.n f1.c) v10 w8 (by rfl) (by rfl) H11 ?_
        clear H11
        simp only [Act.put, List.setIfInBounds_toArray, List.set_cons_succ, List.set_cons_zero]
        replace P1 := P1.below hb
        replace rf1 := rf1.below hb
        replace rf2 := rf2.below hb
        replace E7 := E7.below hb
        replace hB := hB.trans (hb.mono hB.size)
        clear hb
        obtain ⟨x9, rfl, rx9⟩ := rx9.slg
        refine hK _ _ P1 ?_
        clear hK K
        refine Rd.tr_two (by simp only [List.getElem?_toArray, List.getElem?_cons_succ, List.getElem?_cons_zero]; rfl) (by rfl) (by simp only [List.getElem?_toArray, List.getElem?_cons_succ, List.getElem?_cons_zero]; rfl) (by rfl) (fun K hK => ?_) (fun K hK => ?_)
        · skip
          go_simp
          have hb : Below w8.heap.size w8 (w8.alloc (.cells #[] 64)) := (Below.refl _ _).alloc (Nat.le_refl _) _
          have E14 : Emp (w8.alloc (.cells #[] 64)) w8.heap.size := World.alloc_heap_new _ _
          have gE14 := hB.size
          replace P1 := P1.below hb
          replace rf1 := rf1.below hb
          replace rf2 := rf2.below hb
          replace E7 := E7.below hb
          replace rx9 := rx9.below hb
          replace hB := hB.trans (hb.mono hB.size)
          clear hb
          generalize w8.alloc (.cells #[] 64) = w13 at P1 rf1 rf2 E7 rx9 E14 hB ⊢
          generalize w8.heap.size = B12 at gE14 E14 ⊢
          refine hK _ _ P1 ?_
          clear hK K
          refine Rd.tr_two (by simp only [List.getElem?_toArray, List.getElem?_cons_succ, List.getElem?_cons_zero]; rfl) (by rfl) (by simp only [List.getElem?_toArray, List.getElem?_cons_succ, List.getElem?_cons_zero]; rfl) (by rfl) (fun K hK => ?_) (fun K hK => ?_)
          · skip
            obtain ⟨v17, w15, H18, rx16, hb⟩ := copied_gen w13 B12 E14 (.slice f2.a f2.n f2.c) l12 rf2 (Nat.le_trans K2.out (by omega)) 28
            refine wp_append _ _ 28 22 rfl (.slice (some ⟨B12, 0, none⟩) 0 0) (.slice f2.a f2.n f2.c) v17 w15 (by rfl) (by rfl) H18 ?_
            clear H18
            simp only [Act.put, List.setIfInBounds_toArray, List.set_cons_succ, List.set_cons_zero]
            replace P1 := P1.below hb
            replace rf1 := rf1.below hb
            replace rf2 := rf2.below hb
            replace E7 := E7.below hb
            replace rx9 := rx9.below hb
            replace E14 := E14.below hb
            replace hB := hB.trans (hb.mono hB.size)
            clear hb
            obtain ⟨x16, rfl, rx16⟩ := rx16.slg
            refine hK _ _ P1 ?_
            clear hK K
            refine Rd.tr_float (.agg #[.slice x9.a x9.n x9.c, .slice x16.a x16.n x16.c]) (by simp only [List.getElem?_toArray, List.getElem?_cons_succ, List.getElem?_cons_zero]; rfl) rfl (by rfl) (fun X _ => by go_simp) ?_
            simp only [Act.put, List.setIfInBounds_toArray, List.set_cons_succ, List.set_cons_zero]
            refine Rd.tr_move (by simp only [List.getElem?_toArray, List.getElem?_cons_succ, List.getElem?_cons_zero]; rfl) rfl (by rfl) (fun K hK => ?_)
            go_simp
            have P19 := Pair.new w15 30 (.slice none 0 0) (.slice none 0 0)
            have nP1P19 := P1.lt
            have gP19 := hB.size
            have hb : Below w15.heap.size w15 (w15.alloc (.cells #[.slice none 0 0, .slice none 0 0] 30)) := (Below.refl _ _).alloc (Nat.le_refl _) _
            replace P1 := P1.below hb
            replace rf1 := rf1.below hb
            replace rf2 := rf2.below hb
            replace E7 := E7.below hb
            replace rx9 := rx9.below hb
            replace E14 := E14.below hb
            replace rx16 := rx16.below hb
            replace hB := hB.trans (hb.mono hB.size)
            clear hb
            generalize w15.alloc (.cells #[.slice none 0 0, .slice none 0 0] 30) = w21 at P1 rf1 rf2 E7 rx9 E14 rx16 P19 hB ⊢
            generalize w15.heap.size = B20 at nP1P19 P19 gP19 ⊢
            refine hK _ _ P1 ?_
            clear hK K
            refine Rd.tr_move (by simp only [List.getElem?_toArray, List.getElem?_cons_succ, List.getElem?_cons_zero]; rfl) rfl (by rfl) (fun K hK => ?_)
            have c0P19 := P19.c0
            have c1P19 := P19.c1
            have z0P19 := P19.z0
            have z1P19 := P19.z1
            go_simp
            clear c0P19 c1P19 z0P19 z1P19
            replace rf1 := rf1.pset P19 (.slice x9.a x9.n x9.c) (.slice x16.a x16.n x16.c)
            replace rf2 := rf2.pset P19 (.slice x9.a x9.n x9.c) (.slice x16.a x16.n x16.c)
            replace E7 := E7.pset P19 (.slice x9.a x9.n x9.c) (.slice x16.a x16.n x16.c)
            replace rx9 := rx9.pset P19 (.slice x9.a x9.n x9.c) (.slice x16.a x16.n x16.c)
            replace E14 := E14.pset P19 (.slice x9.a x9.n x9.c) (.slice x16.a x16.n x16.c)
            replace rx16 := rx16.pset P19 (.slice x9.a x9.n x9.c) (.slice x16.a x16.n x16.c)
            replace P1 := P1.other (B := B20) (Nat.ne_of_lt nP1P19) (.slice x9.a x9.n x9.c) (.slice x16.a x16.n x16.c)
            replace hB := Below.pset (B := B20) hB gP19 (.slice x9.a x9.n x9.c) (.slice x16.a x16.n x16.c)
            replace P19 := P19.set (.slice x9.a x9.n x9.c) (.slice x16.a x16.n x16.c)
            generalize (w21.setCell ⟨B20, 0, none⟩ (.slice x9.a x9.n x9.c)).setCell ⟨B20, 1, none⟩ (.slice x16.a x16.n x16.c) = w22 at P1 P19 rf1 rf2 E7 rx9 E14 rx16 hB ⊢
            refine hK _ _ P1 ?_
            clear hK K
            exact Rd.tr_end (⟨B20, x9, x16, _, _, _, _, _, _, _, _, _, _, _, _, _, _, _, _, _, _, _, _, _, _, _, rfl, rx9, rx16, P19, P1, rf1, rf2, hB⟩)
          · skip
            go_simp
            have P23 := Pair.new w13 30 (.slice none 0 0) (.slice none 0 0)
            have nP1P23 := P1.lt
            have gP23 := hB.size
            have hb : Below w13.heap.size w13 (w13.alloc (.cells #[.slice none 0 0, .slice none 0 0] 30)) := (Below.refl _ _).alloc (Nat.le_refl _) _
            replace P1 := P1.below hb
            replace rf1 := rf1.below hb
            replace rf2 := rf2.below hb
            replace E7 := E7.below hb
            replace rx9 := rx9.below hb
            replace E14 := E14.below hb
            replace hB := hB.trans (hb.mono hB.size)
            clear hb
            generalize w13.alloc (.cells #[.slice none 0 0, .slice none 0 0] 30) = w25 at P1 rf1 rf2 E7 rx9 E14 P23 hB ⊢
            generalize w13.heap.size = B24 at nP1P23 P23 gP23 ⊢
            refine hK _ _ P1 ?_
            clear hK K
            refine Rd.tr_move (by simp only [List.getElem?_toArray, List.getElem?_cons_succ, List.getElem?_cons_zero]; rfl) rfl (by rfl) (fun K hK => ?_)
            obtain ⟨v28, w26, H29, rx27, hb⟩ := copied_gen w25 B12 E14 (.slice f2.a f2.n f2.c) l12 rf2 (Nat.le_trans K2.out (by omega)) 28
            refine wp_append _ _ 28 22 rfl (.slice (some ⟨B12, 0, none⟩) 0 0) (.slice f2.a f2.n f2.c) v28 w26 (by rfl) (by rfl) H29 ?_
            clear H29
            simp only [Act.put, List.setIfInBounds_toArray, List.set_cons_succ, List.set_cons_zero]
            replace P1 := P1.below hb
            replace P23 := P23.below hb
            replace rf1 := rf1.below hb
            replace rf2 := rf2.below hb
            replace E7 := E7.below hb
            replace rx9 := rx9.below hb
            replace E14 := E14.below hb
            replace hB := hB.trans (hb.mono hB.size)
            clear hb
            obtain ⟨x27, rfl, rx27⟩ := rx27.slg
            refine hK _ _ P1 ?_
            clear hK K
            refine Rd.tr_float (.agg #[.slice x9.a x9.n x9.c, .slice x27.a x27.n x27.c]) (by simp only [List.getElem?_toArray, List.getElem?_cons_succ, List.getElem?_cons_zero]; rfl) rfl (by rfl) (fun X _ => by go_simp) ?_
            simp only [Act.put, List.setIfInBounds_toArray, List.set_cons_succ, List.set_cons_zero]
            refine Rd.tr_move (by simp only [List.getElem?_toArray, List.getElem?_cons_succ, List.getElem?_cons_zero]; rfl) rfl (by rfl) (fun K hK => ?_)
            have c0P23 := P23.c0
            have c1P23 := P23.c1
            have z0P23 := P23.z0
            have z1P23 := P23.z1
            go_simp
            clear c0P23 c1P23 z0P23 z1P23
            replace rf1 := rf1.pset P23 (.slice x9.a x9.n x9.c) (.slice x27.a x27.n x27.c)
            replace rf2 := rf2.pset P23 (.slice x9.a x9.n x9.c) (.slice x27.a x27.n x27.c)
            replace E7 := E7.pset P23 (.slice x9.a x9.n x9.c) (.slice x27.a x27.n x27.c)
            replace rx9 := rx9.pset P23 (.slice x9.a x9.n x9.c) (.slice x27.a x27.n x27.c)
            replace E14 := E14.pset P23 (.slice x9.a x9.n x9.c) (.slice x27.a x27.n x27.c)
            replace rx27 := rx27.pset P23 (.slice x9.a x9.n x9.c) (.slice x27.a x27.n x27.c)
            replace P1 := P1.other (B := B24) (Nat.ne_of_lt nP1P23) (.slice x9.a x9.n x9.c) (.slice x27.a x27.n x27.c)
            replace hB := Below.pset (B := B24) hB gP23 (.slice x9.a x9.n x9.c) (.slice x27.a x27.n x27.c)
            replace P23 := P23.set (.slice x9.a x9.n x9.c) (.slice x27.a x27.n x27.c)
            generalize (w26.setCell ⟨B24, 0, none⟩ (.slice x9.a x9.n x9.c)).setCell ⟨B24, 1, none⟩ (.slice x27.a x27.n x27.c) = w30 at P1 P23 rf1 rf2 E7 rx9 E14 rx27 hB ⊢
            refine hK _ _ P1 ?_
            clear hK K
            exact Rd.tr_end (⟨B24, x9, x27, _, _, _, _, _, _, _, _, _, _, _, _, _, _, _, _, _, _, _, _, _, _, _, rfl, rx9, rx27, P23, P1, rf1, rf2, hB⟩)
        · skip
          go_simp
          have P31 := Pair.new w8 30 (.slice none 0 0) (.slice none 0 0)
          have nP1P31 := P1.lt
          have gP31 := hB.size
          have hb : Below w8.heap.size w8 (w8.alloc (.cells #[.slice none 0 0, .slice none 0 0] 30)) := (Below.refl _ _).alloc (Nat.le_refl _) _
          replace P1 := P1.below hb
          replace rf1 := rf1.below hb
          replace rf2 := rf2.below hb
          replace E7 := E7.below hb
          replace rx9 := rx9.below hb
          replace hB := hB.trans (hb.mono hB.size)
          clear hb
          generalize w8.alloc (.cells #[.slice none 0 0, .slice none 0 0] 30) = w33 at P1 rf1 rf2 E7 rx9 P31 hB ⊢
          generalize w8.heap.size = B32 at nP1P31 P31 gP31 ⊢
          refine hK _ _ P1 ?_
          clear hK K
          refine Rd.tr_move (by simp only [List.getElem?_toArray, List.getElem?_cons_succ, List.getElem?_cons_zero]; rfl) rfl (by rfl) (fun K hK => ?_)
          go_simp
          have hb : Below w33.heap.size w33 (w33.alloc (.cells #[] 64)) := (Below.refl _ _).alloc (Nat.le_refl _) _
          have E36 : Emp (w33.alloc (.cells #[] 64)) w33.heap.size := World.alloc_heap_new _ _
          have gE36 := hB.size
          replace P1 := P1.below hb
          replace P31 := P31.below hb
          replace rf1 := rf1.below hb
          replace rf2 := rf2.below hb
          replace E7 := E7.below hb
          replace rx9 := rx9.below hb
          replace hB := hB.trans (hb.mono hB.size)
          clear hb
          generalize w33.alloc (.cells #[] 64) = w35 at P1 P31 rf1 rf2 E7 rx9 E36 hB ⊢
          generalize w33.heap.size = B34 at gE36 E36 ⊢
          refine hK _ _ P1 ?_
          clear hK K
          refine Rd.tr_move (by simp only [List.getElem?_toArray, List.getElem?_cons_succ, List.getElem?_cons_zero]; rfl) rfl (by rfl) (fun K hK => ?_)
          obtain ⟨v39, w37, H40, rx38, hb⟩ := copied_gen w35 B34 E36 (.slice f2.a f2.n f2.c) l12 rf2 (Nat.le_trans K2.out (by omega)) 28
          refine wp_append _ _ 28 22 rfl (.slice (some ⟨B34, 0, none⟩) 0 0) (.slice f2.a f2.n f2.c) v39 w37 (by rfl) (by rfl) H40 ?_
          clear H40
          simp only [Act.put, List.setIfInBounds_toArray, List.set_cons_succ, List.set_cons_zero]
          replace P1 := P1.below hb
          replace P31 := P31.below hb
          replace rf1 := rf1.below hb
          replace rf2 := rf2.below hb
          replace E7 := E7.below hb
          replace rx9 := rx9.below hb
          replace E36 := E36.below hb
          replace hB := hB.trans (hb.mono hB.size)
          clear hb
          obtain ⟨x38, rfl, rx38⟩ := rx38.slg
          refine hK _ _ P1 ?_
          clear hK K
          refine Rd.tr_float (.agg #[.slice x9.a x9.n x9.c, .slice x38.a x38.n x38.c]) (by simp only [List.getElem?_toArray, List.getElem?_cons_succ, List.getElem?_cons_zero]; rfl) rfl (by rfl) (fun X _ => by go_simp) ?_
          simp only [Act.put, List.setIfInBounds_toArray, List.set_cons_succ, List.set_cons_zero]
          refine Rd.tr_move (by simp only [List.getElem?_toArray, List.getElem?_cons_succ, List.getElem?_cons_zero]; rfl) rfl (by rfl) (fun K hK => ?_)
          have c0P31 := P31.c0
          have c1P31 := P31.c1
          have z0P31 := P31.z0
          have z1P31 := P31.z1
          go_simp
          clear c0P31 c1P31 z0P31 z1P31
          replace rf1 := rf1.pset P31 (.slice x9.a x9.n x9.c) (.slice x38.a x38.n x38.c)
          replace rf2 := rf2.pset P31 (.slice x9.a x9.n x9.c) (.slice x38.a x38.n x38.c)
          replace E7 := E7.pset P31 (.slice x9.a x9.n x9.c) (.slice x38.a x38.n x38.c)
          replace rx9 := rx9.pset P31 (.slice x9.a x9.n x9.c) (.slice x38.a x38.n x38.c)
          replace E36 := E36.pset P31 (.slice x9.a x9.n x9.c) (.slice x38.a x38.n x38.c)
          replace rx38 := rx38.pset P31 (.slice x9.a x9.n x9.c) (.slice x38.a x38.n x38.c)
          replace P1 := P1.other (B := B32) (Nat.ne_of_lt nP1P31) (.slice x9.a x9.n x9.c) (.slice x38.a x38.n x38.c)
          replace hB := Below.pset (B := B32) hB gP31 (.slice x9.a x9.n x9.c) (.slice x38.a x38.n x38.c)
          replace P31 := P31.set (.slice x9.a x9.n x9.c) (.slice x38.a x38.n x38.c)
          generalize (w37.setCell ⟨B32, 0, none⟩ (.slice x9.a x9.n x9.c)).setCell ⟨B32, 1, none⟩ (.slice x38.a x38.n x38.c) = w41 at P1 P31 rf1 rf2 E7 rx9 E36 rx38 hB ⊢
          refine hK _ _ P1 ?_
          clear hK K
          exact Rd.tr_end (⟨B32, x9, x38, _, _, _, _, _, _, _, _, _, _, _, _, _, _, _, _, _, _, _, _, _, _, _, rfl, rx9, rx38, P31, P1, rf1, rf2, hB⟩)
      · skip
        go_simp
        have hb : Below w6.heap.size w6 (w6.alloc (.cells #[] 64)) := (Below.refl _ _).alloc (Nat.le_refl _) _
        have E44 : Emp (w6.alloc (.cells #[] 64)) w6.heap.size := World.alloc_heap_new _ _
        have gE44 := hB.size
        replace P1 := P1.below hb
        replace rf1 := rf1.below hb
        replace rf2 := rf2.below hb
        replace E7 := E7.below hb
        replace hB := hB.trans (hb.mono hB.size)
        clear hb
        generalize w6.alloc (.cells #[] 64) = w43 at P1 rf1 rf2 E7 E44 hB ⊢
        generalize w6.heap.size = B42 at gE44 E44 ⊢
        refine hK _ _ P1 ?_
        clear hK K
        refine Rd.tr_two (by simp only [List.getElem?_toArray, List.getElem?_cons_succ, List.getElem?_cons_zero]; rfl) (by rfl) (by simp only [List.getElem?_toArray, List.getElem?_cons_succ, List.getElem?_cons_zero]; rfl) (by rfl) (fun K hK => ?_) (fun K hK => ?_)
        · skip
          obtain ⟨v47, w45, H48, rx46, hb⟩ := copied_gen w43 B5 E7 (.slice f1.a f1.n f1.c) l11 rf1 (Nat.le_trans K1.out (by omega)) 28
          refine wp_append _ _ 28 22 rfl (.slice (some ⟨B5, 0, none⟩) 0 0) (.slice f1.a f1.n f1.c) v47 w45 (by rfl) (by rfl) H48 ?_
          clear H48
          simp only [Act.put, List.setIfInBounds_toArray, List.set_cons_succ, List.set_cons_zero]
          replace P1 := P1.below hb
          replace rf1 := rf1.below hb
          replace rf2 := rf2.below hb
          replace E7 := E7.below hb
          replace E44 := E44.below hb
          replace hB := hB.trans (hb.mono hB.size)
          clear hb
          obtain ⟨x46, rfl, rx46⟩ := rx46.slg
          refine hK _ _ P1 ?_
          clear hK K
          refine Rd.tr_two (by simp only [List.getElem?_toArray, List.getElem?_cons_succ, List.getElem?_cons_zero]; rfl) (by rfl) (by simp only [List.getElem?_toArray, List.getElem?_cons_succ, List.getElem?_cons_zero]; rfl) (by rfl) (fun K hK => ?_) (fun K hK => ?_)
          · skip
            obtain ⟨v51, w49, H52, rx50, hb⟩ := copied_gen w45 B42 E44 (.slice f2.a f2.n f2.c) l12 rf2 (Nat.le_trans K2.out (by omega)) 28
            refine wp_append _ _ 28 22 rfl (.slice (some ⟨B42, 0, none⟩) 0 0) (.slice f2.a f2.n f2.c) v51 w49 (by rfl) (by rfl) H52 ?_
            clear H52
            simp only [Act.put, List.setIfInBounds_toArray, List.set_cons_succ, List.set_cons_zero]
            replace P1 := P1.below hb
            replace rf1 := rf1.below hb
            replace rf2 := rf2.below hb
            replace E7 := E7.below hb
            replace E44 := E44.below hb
            replace rx46 := rx46.below hb
            replace hB := hB.trans (hb.mono hB.size)
            clear hb
            obtain ⟨x50, rfl, rx50⟩ := rx50.slg
            refine hK _ _ P1 ?_
            clear hK K
            refine Rd.tr_float (.agg #[.slice x46.a x46.n x46.c, .slice x50.a x50.n x50.c]) (by simp only [List.getElem?_toArray, List.getElem?_cons_succ, List.getElem?_cons_zero]; rfl) rfl (by rfl) (fun X _ => by go_simp) ?_
            simp only [Act.put, List.setIfInBounds_toArray, List.set_cons_succ, List.set_cons_zero]
            refine Rd.tr_move (by simp only [List.getElem?_toArray, List.getElem?_cons_succ, List.getElem?_cons_zero]; rfl) rfl (by rfl) (fun K hK => ?_)
            go_simp
            have P53 := Pair.new w49 30 (.slice none 0 0) (.slice none 0 0)
            have nP1P53 := P1.lt
            have gP53 := hB.size
            have hb : Below w49.heap.size w49 (w49.alloc (.cells #[.slice none 0 0, .slice none 0 0] 30)) := (Below.refl _ _).alloc (Nat.le_refl _) _
            replace P1 := P1.below hb
            replace rf1 := rf1.below hb
            replace rf2 := rf2.below hb
            replace E7 := E7.below hb
            replace E44 := E44.below hb
            replace rx46 := rx46.below hb
            replace rx50 := rx50.below hb
            replace hB := hB.trans (hb.mono hB.size)
            clear hb
            generalize w49.alloc (.cells #[.slice none 0 0, .slice none 0 0] 30) = w55 at P1 rf1 rf2 E7 E44 rx46 rx50 P53 hB ⊢
            generalize w49.heap.size = B54 at nP1P53 P53 gP53 ⊢
            refine hK _ _ P1 ?_
            clear hK K
            refine Rd.tr_move (by simp only [List.getElem?_toArray, List.getElem?_cons_succ, List.getElem?_cons_zero]; rfl) rfl (by rfl) (fun K hK => ?_)
            have c0P53 := P53.c0
            have c1P53 := P53.c1
            have z0P53 := P53.z0
            have z1P53 := P53.z1
            go_simp
            clear c0P53 c1P53 z0P53 z1P53
            replace rf1 := rf1.pset P53 (.slice x46.a x46.n x46.c) (.slice x50.a x50.n x50.c)
            replace rf2 := rf2.pset P53 (.slice x46.a x46.n x46.c) (.slice x50.a x50.n x50.c)
            replace E7 := E7.pset P53 (.slice x46.a x46.n x46.c) (.slice x50.a x50.n x50.c)
            replace E44 := E44.pset P53 (.slice x46.a x46.n x46.c) (.slice x50.a x50.n x50.c)
            replace rx46 := rx46.pset P53 (.slice x46.a x46.n x46.c) (.slice x50.a x50.n x50.c)
            replace rx50 := rx50.pset P53 (.slice x46.a x46.n x46.c) (.slice x50.a x50.n x50.c)
            replace P1 := P1.other (B := B54) (Nat.ne_of_lt nP1P53) (.slice x46.a x46.n x46.c) (.slice x50.a x50.n x50.c)
            replace hB := Below.pset (B := B54) hB gP53 (.slice x46.a x46.n x46.c) (.slice x50.a x50.n x50.c)
            replace P53 := P53.set (.slice x46.a x46.n x46.c) (.slice x50.a x50.n x50.c)
            generalize (w55.setCell ⟨B54, 0, none⟩ (.slice x46.a x46.n x46.c)).setCell ⟨B54, 1, none⟩ (.slice x50.a x50.n x50.c) = w56 at P1 P53 rf1 rf2 E7 E44 rx46 rx50 hB ⊢
            refine hK _ _ P1 ?_
            clear hK K
            exact Rd.tr_end (⟨B54, x46, x50, _, _, _, _, _, _, _, _, _, _, _, _, _, _, _, _, _, _, _, _, _, _, _, rfl, rx46, rx50, P53, P1, rf1, rf2, hB⟩)
          · skip
            go_simp
            have P57 := Pair.new w45 30 (.slice none 0 0) (.slice none 0 0)
            have nP1P57 := P1.lt
            have gP57 := hB.size
            have hb : Below w45.heap.size w45 (w45.alloc (.cells #[.slice none 0 0, .slice none 0 0] 30)) := (Below.refl _ _).alloc (Nat.le_refl _) _
            replace P1 := P1.below hb
            replace rf1 := rf1.below hb
            replace rf2 := rf2.below hb
            replace E7 := E7.below hb
            replace E44 := E44.below hb
            replace rx46 := rx46.below hb
            replace hB := hB.trans (hb.mono hB.size)
            clear hb
            generalize w45.alloc (.cells #[.slice none 0 0, .slice none 0 0] 30) = w59 at P1 rf1 rf2 E7 E44 rx46 P57 hB ⊢
            generalize w45.heap.size = B58 at nP1P57 P57 gP57 ⊢
            refine hK _ _ P1 ?_
            clear hK K
            refine Rd.tr_move (by simp only [List.getElem?_toArray, List.getElem?_cons_succ, List.getElem?_cons_zero]; rfl) rfl (by rfl) (fun K hK => ?_)
            obtain ⟨v62, w60, H63, rx61, hb⟩ := copied_gen w59 B42 E44 (.slice f2.a f2.n f2.c) l12 rf2 (Nat.le_trans K2.out (by omega)) 28
            refine wp_append _ _ 28 22 rfl (.slice (some ⟨B42, 0, none⟩) 0 0) (.slice f2.a f2.n f2.c) v62 w60 (by rfl) (by rfl) H63 ?_
            clear H63
            simp only [Act.put, List.setIfInBounds_toArray, List.set_cons_succ, List.set_cons_zero]
            replace P1 := P1.below hb
            replace P57 := P57.below hb
            replace rf1 := rf1.below hb
            replace rf2 := rf2.below hb
            replace E7 := E7.below hb
            replace E44 := E44.below hb
            replace rx46 := rx46.below hb
            replace hB := hB.trans (hb.mono hB.size)
            clear hb
            obtain ⟨x61, rfl, rx61⟩ := rx61.slg
            refine hK _ _ P1 ?_
            clear hK K
            refine Rd.tr_float (.agg #[.slice x46.a x46.n x46.c, .slice x61.a x61.n x61.c]) (by simp only [List.getElem?_toArray, List.getElem?_cons_succ, List.getElem?_cons_zero]; rfl) rfl (by rfl) (fun X _ => by go_simp) ?_
            simp only [Act.put, List.setIfInBounds_toArray, List.set_cons_succ, List.set_cons_zero]
            refine Rd.tr_move (by simp only [List.getElem?_toArray, List.getElem?_cons_succ, List.getElem?_cons_zero]; rfl) rfl (by rfl) (fun K hK => ?_)
            have c0P57 := P57.c0
            have c1P57 := P57.c1
            have z0P57 := P57.z0
            have z1P57 := P57.z1
            go_simp
            clear c0P57 c1P57 z0P57 z1P57
            replace rf1 := rf1.pset P57 (.slice x46.a x46.n x46.c) (.slice x61.a x61.n x61.c)
            replace rf2 := rf2.pset P57 (.slice x46.a x46.n x46.c) (.slice x61.a x61.n x61.c)
            replace E7 := E7.pset P57 (.slice x46.a x46.n x46.c) (.slice x61.a x61.n x61.c)
            replace E44 := E44.pset P57 (.slice x46.a x46.n x46.c) (.slice x61.a x61.n x61.c)
            replace rx46 := rx46.pset P57 (.slice x46.a x46.n x46.c) (.slice x61.a x61.n x61.c)
            replace rx61 := rx61.pset P57 (.slice x46.a x46.n x46.c) (.slice x61.a x61.n x61.c)
            replace P1 := P1.other (B := B58) (Nat.ne_of_lt nP1P57) (.slice x46.a x46.n x46.c) (.slice x61.a x61.n x61.c)
            replace hB := Below.pset (B := B58) hB gP57 (.slice x46.a x46.n x46.c) (.slice x61.a x61.n x61.c)
            replace P57 := P57.set (.slice x46.a x46.n x46.c) (.slice x61.a x61.n x61.c)
            generalize (w60.setCell ⟨B58, 0, none⟩ (.slice x46.a x46.n x46.c)).setCell ⟨B58, 1, none⟩ (.slice x61.a x61.n x61.c) = w64 at P1 P57 rf1 rf2 E7 E44 rx46 rx61 hB ⊢
            refine hK _ _ P1 ?_
            clear hK K
            exact Rd.tr_end (⟨B58, x46, x61, _, _, _, _, _, _, _, _, _, _, _, _, _, _, _, _, _, _, _, _, _, _, _, rfl, rx46, rx61, P57, P1, rf1, rf2, hB⟩)
        · skip
          go_simp
          have P65 := Pair.new w43 30 (.slice none 0 0) (.slice none 0 0)
          have nP1P65 := P1.lt
          have gP65 := hB.size
          have hb : Below w43.heap.size w43 (w43.alloc (.cells #[.slice none 0 0, .slice none 0 0] 30)) := (Below.refl _ _).alloc (Nat.le_refl _) _
          replace P1 := P1.below hb
          replace rf1 := rf1.below hb
          replace rf2 := rf2.below hb
          replace E7 := E7.below hb
          replace E44 := E44.below hb
          replace hB := hB.trans (hb.mono hB.size)
          clear hb
          generalize w43.alloc (.cells #[.slice none 0 0, .slice none 0 0] 30) = w67 at P1 rf1 rf2 E7 E44 P65 hB ⊢
          generalize w43.heap.size = B66 at nP1P65 P65 gP65 ⊢
          refine hK _ _ P1 ?_
          clear hK K
          refine Rd.tr_move (by simp only [List.getElem?_toArray, List.getElem?_cons_succ, List.getElem?_cons_zero]; rfl) rfl (by rfl) (fun K hK => ?_)
          obtain ⟨v70, w68, H71, rx69, hb⟩ := copied_gen w67 B5 E7 (.slice f1.a f1.n f1.c) l11 rf1 (Nat.le_trans K1.out (by omega)) 28
          refine wp_append _ _ 28 22 rfl (.slice (some ⟨B5, 0, none⟩) 0 0) (.slice f1.a f1.n f1.c) v70 w68 (by rfl) (by rfl) H71 ?_
          clear H71
          simp only [Act.put, List.setIfInBounds_toArray, List.set_cons_succ, List.set_cons_zero]
          replace P1 := P1.below hb
          replace P65 := P65.below hb
          replace rf1 := rf1.below hb
          replace rf2 := rf2.below hb
          replace E7 := E7.below hb
          replace E44 := E44.below hb
          replace hB := hB.trans (hb.mono hB.size)
          clear hb
          obtain ⟨x69, rfl, rx69⟩ := rx69.slg
          refine hK _ _ P1 ?_
          clear hK K
          refine Rd.tr_move (by simp only [List.getElem?_toArray, List.getElem?_cons_succ, List.getElem?_cons_zero]; rfl) rfl (by rfl) (fun K hK => ?_)
          obtain ⟨v74, w72, H75, rx73, hb⟩ := copied_gen w68 B42 E44 (.slice f2.a f2.n f2.c) l12 rf2 (Nat.le_trans K2.out (by omega)) 28
          refine wp_append _ _ 28 22 rfl (.slice (some ⟨B42, 0, none⟩) 0 0) (.slice f2.a f2.n f2.c) v74 w72 (by rfl) (by rfl) H75 ?_
          clear H75
          simp only [Act.put, List.setIfInBounds_toArray, List.set_cons_succ, List.set_cons_zero]
          replace P1 := P1.below hb
          replace P65 := P65.below hb
          replace rf1 := rf1.below hb
          replace rf2 := rf2.below hb
          replace E7 := E7.below hb
          replace E44 := E44.below hb
          replace rx69 := rx69.below hb
          replace hB := hB.trans (hb.mono hB.size)
          clear hb
          obtain ⟨x73, rfl, rx73⟩ := rx73.slg
          refine hK _ _ P1 ?_
          clear hK K
          refine Rd.tr_float (.agg #[.slice x69.a x69.n x69.c, .slice x73.a x73.n x73.c]) (by simp only [List.getElem?_toArray, List.getElem?_cons_succ, List.getElem?_cons_zero]; rfl) rfl (by rfl) (fun X _ => by go_simp) ?_
          simp only [Act.put, List.setIfInBounds_toArray, List.set_cons_succ, List.set_cons_zero]
          refine Rd.tr_move (by simp only [List.getElem?_toArray, List.getElem?_cons_succ, List.getElem?_cons_zero]; rfl) rfl (by rfl) (fun K hK => ?_)
          have c0P65 := P65.c0
          have c1P65 := P65.c1
          have z0P65 := P65.z0
          have z1P65 := P65.z1
          go_simp
          clear c0P65 c1P65 z0P65 z1P65
          replace rf1 := rf1.pset P65 (.slice x69.a x69.n x69.c) (.slice x73.a x73.n x73.c)
          replace rf2 := rf2.pset P65 (.slice x69.a x69.n x69.c) (.slice x73.a x73.n x73.c)
          replace E7 := E7.pset P65 (.slice x69.a x69.n x69.c) (.slice x73.a x73.n x73.c)
          replace E44 := E44.pset P65 (.slice x69.a x69.n x69.c) (.slice x73.a x73.n x73.c)
          replace rx69 := rx69.pset P65 (.slice x69.a x69.n x69.c) (.slice x73.a x73.n x73.c)
          replace rx73 := rx73.pset P65 (.slice x69.a x69.n x69.c) (.slice x73.a x73.n x73.c)
          replace P1 := P1.other (B := B66) (Nat.ne_of_lt nP1P65) (.slice x69.a x69.n x69.c) (.slice x73.a x73.n x73.c)
          replace hB := Below.pset (B := B66) hB gP65 (.slice x69.a x69.n x69.c) (.slice x73.a x73.n x73.c)
          replace P65 := P65.set (.slice x69.a x69.n x69.c) (.slice x73.a x73.n x73.c)
          generalize (w72.setCell ⟨B66, 0, none⟩ (.slice x69.a x69.n x69.c)).setCell ⟨B66, 1, none⟩ (.slice x73.a x73.n x73.c) = w76 at P1 P65 rf1 rf2 E7 E44 rx69 rx73 hB ⊢
          refine hK _ _ P1 ?_
          clear hK K
          exact Rd.tr_end (⟨B66, x69, x73, _, _, _, _, _, _, _, _, _, _, _, _, _, _, _, _, _, _, _, _, _, _, _, rfl, rx69, rx73, P65, P1, rf1, rf2, hB⟩)
      · skip
        go_simp
        have P77 := Pair.new w6 30 (.slice none 0 0) (.slice none 0 0)
        have nP1P77 := P1.lt
        have gP77 := hB.size
        have hb : Below w6.heap.size w6 (w6.alloc (.cells #[.slice none 0 0, .slice none 0 0] 30)) := (Below.refl _ _).alloc (Nat.le_refl _) _
        replace P1 := P1.below hb
        replace rf1 := rf1.below hb
        replace rf2 := rf2.below hb
        replace E7 := E7.below hb
        replace hB := hB.trans (hb.mono hB.size)
        clear hb
        generalize w6.alloc (.cells #[.slice none 0 0, .slice none 0 0] 30) = w79 at P1 rf1 rf2 E7 P77 hB ⊢
        generalize w6.heap.size = B78 at nP1P77 P77 gP77 ⊢
        refine hK _ _ P1 ?_
        clear hK K
        refine Rd.tr_two (by simp only [List.getElem?_toArray, List.getElem?_cons_succ, List.getElem?_cons_zero]; rfl) (by rfl) (by simp only [List.getElem?_toArray, List.getElem?_cons_succ, List.getElem?_cons_zero]; rfl) (by rfl) (fun K hK => ?_) (fun K hK => ?_)
        · skip
          obtain ⟨v82, w80, H83, rx81, hb⟩ := copied_gen w79 B5 E7 (.slice f1.a f1.n f1.c) l11 rf1 (Nat.le_trans K1.out (by omega)) 28
          refine wp_append _ _ 28 22 rfl (.slice (some ⟨B5, 0, none⟩) 0 0) (.slice f1.a f1.n f1.c) v82 w80 (by rfl) (by rfl) H83 ?_
          clear H83
          simp only [Act.put, List.setIfInBounds_toArray, List.set_cons_succ, List.set_cons_zero]
          replace P1 := P1.below hb
          replace P77 := P77.below hb
          replace rf1 := rf1.below hb
          replace rf2 := rf2.below hb
          replace E7 := E7.below hb
          replace hB := hB.trans (hb.mono hB.size)
          clear hb
          obtain ⟨x81, rfl, rx81⟩ := rx81.slg
          refine hK _ _ P1 ?_
          clear hK K
          refine Rd.tr_move (by simp only [List.getElem?_toArray, List.getElem?_cons_succ, List.getElem?_cons_zero]; rfl) rfl (by rfl) (fun K hK => ?_)
          go_simp
          have hb : Below w80.heap.size w80 (w80.alloc (.cells #[] 64)) := (Below.refl _ _).alloc (Nat.le_refl _) _
          have E86 : Emp (w80.alloc (.cells #[] 64)) w80.heap.size := World.alloc_heap_new _ _
          have gE86 := hB.size
          replace P1 := P1.below hb
          replace P77 := P77.below hb
          replace rf1 := rf1.below hb
          replace rf2 := rf2.below hb
          replace E7 := E7.below hb
          replace rx81 := rx81.below hb
          replace hB := hB.trans (hb.mono hB.size)
          clear hb
          generalize w80.alloc (.cells #[] 64) = w85 at P1 P77 rf1 rf2 E7 rx81 E86 hB ⊢
          generalize w80.heap.size = B84 at gE86 E86 ⊢
          refine hK _ _ P1 ?_
          clear hK K
          refine Rd.tr_move (by simp only [List.getElem?_toArray, List.getElem?_cons_succ, List.getElem?_cons_zero]; rfl) rfl (by rfl) (fun K hK => ?_)
          obtain ⟨v89, w87, H90, rx88, hb⟩ := copied_gen w85 B84 E86 (.slice f2.a f2.n f2.c) l12 rf2 (Nat.le_trans K2.out (by omega)) 28
          refine wp_append _ _ 28 22 rfl (.slice (some ⟨B84, 0, none⟩) 0 0) (.slice f2.a f2.n f2.c) v89 w87 (by rfl) (by rfl) H90 ?_
          clear H90
          simp only [Act.put, List.setIfInBounds_toArray, List.set_cons_succ, List.set_cons_zero]
          replace P1 := P1.below hb
          replace P77 := P77.below hb
          replace rf1 := rf1.below hb
          replace rf2 := rf2.below hb
          replace E7 := E7.below hb
          replace rx81 := rx81.below hb
          replace E86 := E86.below hb
          replace hB := hB.trans (hb.mono hB.size)
          clear hb
          obtain ⟨x88, rfl, rx88⟩ := rx88.slg
          refine hK _ _ P1 ?_
          clear hK K
          refine Rd.tr_float (.agg #[.slice x81.a x81.n x81.c, .slice x88.a x88.n x88.c]) (by simp only [List.getElem?_toArray, List.getElem?_cons_succ, List.getElem?_cons_zero]; rfl) rfl (by rfl) (fun X _ => by go_simp) ?_
          simp only [Act.put, List.setIfInBounds_toArray, List.set_cons_succ, List.set_cons_zero]
          refine Rd.tr_move (by simp only [List.getElem?_toArray, List.getElem?_cons_succ, List.getElem?_cons_zero]; rfl) rfl (by rfl) (fun K hK => ?_)
          have c0P77 := P77.c0
          have c1P77 := P77.c1
          have z0P77 := P77.z0
          have z1P77 := P77.z1
          go_simp
          clear c0P77 c1P77 z0P77 z1P77
          replace rf1 := rf1.pset P77 (.slice x81.a x81.n x81.c) (.slice x88.a x88.n x88.c)
          replace rf2 := rf2.pset P77 (.slice x81.a x81.n x81.c) (.slice x88.a x88.n x88.c)
          replace E7 := E7.pset P77 (.slice x81.a x81.n x81.c) (.slice x88.a x88.n x88.c)
          replace rx81 := rx81.pset P77 (.slice x81.a x81.n x81.c) (.slice x88.a x88.n x88.c)
          replace E86 := E86.pset P77 (.slice x81.a x81.n x81.c) (.slice x88.a x88.n x88.c)
          replace rx88 := rx88.pset P77 (.slice x81.a x81.n x81.c) (.slice x88.a x88.n x88.c)
          replace P1 := P1.other (B := B78) (Nat.ne_of_lt nP1P77) (.slice x81.a x81.n x81.c) (.slice x88.a x88.n x88.c)
          replace hB := Below.pset (B := B78) hB gP77 (.slice x81.a x81.n x81.c) (.slice x88.a x88.n x88.c)
          replace P77 := P77.set (.slice x81.a x81.n x81.c) (.slice x88.a x88.n x88.c)
          generalize (w87.setCell ⟨B78, 0, none⟩ (.slice x81.a x81.n x81.c)).setCell ⟨B78, 1, none⟩ (.slice x88.a x88.n x88.c) = w91 at P1 P77 rf1 rf2 E7 rx81 E86 rx88 hB ⊢
          refine hK _ _ P1 ?_
          clear hK K
          exact Rd.tr_end (⟨B78, x81, x88, _, _, _, _, _, _, _, _, _, _, _, _, _, _, _, _, _, _, _, _, _, _, _, rfl, rx81, rx88, P77, P1, rf1, rf2, hB⟩)
        · skip
          go_simp
          have hb : Below w79.heap.size w79 (w79.alloc (.cells #[] 64)) := (Below.refl _ _).alloc (Nat.le_refl _) _
          have E94 : Emp (w79.alloc (.cells #[] 64)) w79.heap.size := World.alloc_heap_new _ _
          have gE94 := hB.size
          replace P1 := P1.below hb
          replace P77 := P77.below hb
          replace rf1 := rf1.below hb
          replace rf2 := rf2.below hb
          replace E7 := E7.below hb
          replace hB := hB.trans (hb.mono hB.size)
          clear hb
          generalize w79.alloc (.cells #[] 64) = w93 at P1 P77 rf1 rf2 E7 E94 hB ⊢
          generalize w79.heap.size = B92 at gE94 E94 ⊢
          refine hK _ _ P1 ?_
          clear hK K
          refine Rd.tr_move (by simp only [List.getElem?_toArray, List.getElem?_cons_succ, List.getElem?_cons_zero]; rfl) rfl (by rfl) (fun K hK => ?_)
          obtain ⟨v97, w95, H98, rx96, hb⟩ := copied_gen w93 B5 E7 (.slice f1.a f1.n f1.c) l11 rf1 (Nat.le_trans K1.out (by omega)) 28
          refine wp_append _ _ 28 22 rfl (.slice (some ⟨B5, 0, none⟩) 0 0) (.slice f1.a f1.n f1.c) v97 w95 (by rfl) (by rfl) H98 ?_
          clear H98
          simp only [Act.put, List.setIfInBounds_toArray, List.set_cons_succ, List.set_cons_zero]
          replace P1 := P1.below hb
          replace P77 := P77.below hb
          replace rf1 := rf1.below hb
          replace rf2 := rf2.below hb
          replace E7 := E7.below hb
          replace E94 := E94.below hb
          replace hB := hB.trans (hb.mono hB.size)
          clear hb
          obtain ⟨x96, rfl, rx96⟩ := rx96.slg
          refine hK _ _ P1 ?_
          clear hK K
          refine Rd.tr_move (by simp only [List.getElem?_toArray, List.getElem?_cons_succ, List.getElem?_cons_zero]; rfl) rfl (by rfl) (fun K hK => ?_)
          obtain ⟨v101, w99, H102, rx100, hb⟩ := copied_gen w95 B92 E94 (.slice f2.a f2.n f2.c) l12 rf2 (Nat.le_trans K2.out (by omega)) 28
          refine wp_append _ _ 28 22 rfl (.slice (some ⟨B92, 0, none⟩) 0 0) (.slice f2.a f2.n f2.c) v101 w99 (by rfl) (by rfl) H102 ?_
          clear H102
          simp only [Act.put, List.setIfInBounds_toArray, List.set_cons_succ, List.set_cons_zero]
          replace P1 := P1.below hb
          replace P77 := P77.below hb
          replace rf1 := rf1.below hb
          replace rf2 := rf2.below hb
          replace E7 := E7.below hb
          replace E94 := E94.below hb
          replace rx96 := rx96.below hb
          replace hB := hB.trans (hb.mono hB.size)
          clear hb
          obtain ⟨x100, rfl, rx100⟩ := rx100.slg
          refine hK _ _ P1 ?_
          clear hK K
          refine Rd.tr_float (.agg #[.slice x96.a x96.n x96.c, .slice x100.a x100.n x100.c]) (by simp only [List.getElem?_toArray, List.getElem?_cons_succ, List.getElem?_cons_zero]; rfl) rfl (by rfl) (fun X _ => by go_simp) ?_
          simp only [Act.put, List.setIfInBounds_toArray, List.set_cons_succ, List.set_cons_zero]
          refine Rd.tr_move (by simp only [List.getElem?_toArray, List.getElem?_cons_succ, List.getElem?_cons_zero]; rfl) rfl (by rfl) (fun K hK => ?_)
          have c0P77 := P77.c0
          have c1P77 := P77.c1
          have z0P77 := P77.z0
          have z1P77 := P77.z1
          go_simp
          clear c0P77 c1P77 z0P77 z1P77
          replace rf1 := rf1.pset P77 (.slice x96.a x96.n x96.c) (.slice x100.a x100.n x100.c)
          replace rf2 := rf2.pset P77 (.slice x96.a x96.n x96.c) (.slice x100.a x100.n x100.c)
          replace E7 := E7.pset P77 (.slice x96.a x96.n x96.c) (.slice x100.a x100.n x100.c)
          replace E94 := E94.pset P77 (.slice x96.a x96.n x96.c) (.slice x100.a x100.n x100.c)
          replace rx96 := rx96.pset P77 (.slice x96.a x96.n x96.c) (.slice x100.a x100.n x100.c)
          replace rx100 := rx100.pset P77 (.slice x96.a x96.n x96.c) (.slice x100.a x100.n x100.c)
          replace P1 := P1.other (B := B78) (Nat.ne_of_lt nP1P77) (.slice x96.a x96.n x96.c) (.slice x100.a x100.n x100.c)
          replace hB := Below.pset (B := B78) hB gP77 (.slice x96.a x96.n x96.c) (.slice x100.a x100.n x100.c)
          replace P77 := P77.set (.slice x96.a x96.n x96.c) (.slice x100.a x100.n x100.c)
          generalize (w99.setCell ⟨B78, 0, none⟩ (.slice x96.a x96.n x96.c)).setCell ⟨B78, 1, none⟩ (.slice x100.a x100.n x100.c) = w103 at P1 P77 rf1 rf2 E7 E94 rx96 rx100 hB ⊢
          refine hK _ _ P1 ?_
          clear hK K
          exact Rd.tr_end (⟨B78, x96, x100, _, _, _, _, _, _, _, _, _, _, _, _, _, _, _, _, _, _, _, _, _, _, _, rfl, rx96, rx100, P77, P1, rf1, rf2, hB⟩)
    · skip
      go_simp
      have hb : Below w4.heap.size w4 (w4.alloc (.cells #[] 64)) := (Below.refl _ _).alloc (Nat.le_refl _) _
      have E106 : Emp (w4.alloc (.cells #[] 64)) w4.heap.size := World.alloc_heap_new _ _
      have gE106 := hB.size
      replace P1 := P1.below hb
      replace rf1 := rf1.below hb
      replace rf2 := rf2.below hb
      replace hB := hB.trans (hb.mono hB.size)
      clear hb
      generalize w4.alloc (.cells #[] 64) = w105 at P1 rf1 rf2 E106 hB ⊢
      generalize w4.heap.size = B104 at gE106 E106 ⊢
      refine hK _ _ P1 ?_
      clear hK K
      refine Rd.tr_two (by simp only [List.getElem?_toArray, List.getElem?_cons_zero]; rfl) (by rfl) (by simp only [List.getElem?_toArray, List.getElem?_cons_succ, List.getElem?_cons_zero]; rfl) (by rfl) (fun K hK => ?_) (fun K hK => ?_)
      · skip
        go_simp
        have hb : Below w105.heap.size w105 (w105.alloc (.cells #[] 64)) := (Below.refl _ _).alloc (Nat.le_refl _) _
        have E109 : Emp (w105.alloc (.cells #[] 64)) w105.heap.size := World.alloc_heap_new _ _
        have gE109 := hB.size
        replace P1 := P1.below hb
        replace rf1 := rf1.below hb
        replace rf2 := rf2.below hb
        replace E106 := E106.below hb
        replace hB := hB.trans (hb.mono hB.size)
        clear hb
        generalize w105.alloc (.cells #[] 64) = w108 at P1 rf1 rf2 E106 E109 hB ⊢
        generalize w105.heap.size = B107 at gE109 E109 ⊢
        refine hK _ _ P1 ?_
        clear hK K
        refine Rd.tr_two (by simp only [List.getElem?_toArray, List.getElem?_cons_succ, List.getElem?_cons_zero]; rfl) (by rfl) (by simp only [List.getElem?_toArray, List.getElem?_cons_succ, List.getElem?_cons_zero]; rfl) (by rfl) (fun K hK => ?_) (fun K hK => ?_)
        · skip
          obtain ⟨v112, w110, H113, rx111, hb⟩ := copied_gen w108 B107 E109 (.slice f1.a f1.n f1.c) l11 rf1 (Nat.le_trans K1.out (by omega)) 28
          refine wp_append _ _ 28 22 rfl (.slice (some ⟨B107, 0, none⟩) 0 0) (.slice f1.a f1.n f1.c) v112 w110 (by rfl) (by rfl) H113 ?_
          clear H113
          simp only [Act.put, List.setIfInBounds_toArray, List.set_cons_succ, List.set_cons_zero]
          replace P1 := P1.below hb
          replace rf1 := rf1.below hb
          replace rf2 := rf2.below hb
          replace E106 := E106.below hb
          replace E109 := E109.below hb
          replace hB := hB.trans (hb.mono hB.size)
          clear hb
          obtain ⟨x111, rfl, rx111⟩ := rx111.slg
          refine hK _ _ P1 ?_
          clear hK K
          refine Rd.tr_two (by simp only [List.getElem?_toArray, List.getElem?_cons_succ, List.getElem?_cons_zero]; rfl) (by rfl) (by simp only [List.getElem?_toArray, List.getElem?_cons_succ, List.getElem?_cons_zero]; rfl) (by rfl) (fun K hK => ?_) (fun K hK => ?_)
          · skip
            obtain ⟨v116, w114, H117, rx115, hb⟩ := copied_gen w110 B104 E106 (.slice f2.a f2.n f2.c) l12 rf2 (Nat.le_trans K2.out (by omega)) 28
            refine wp_append _ _ 28 22 rfl (.slice (some ⟨B104, 0, none⟩) 0 0) (.slice f2.a f2.n f2.c) v116 w114 (by rfl) (by rfl) H117 ?_
            clear H117
            simp only [Act.put, List.setIfInBounds_toArray, List.set_cons_succ, List.set_cons_zero]
            replace P1 := P1.below hb
            replace rf1 := rf1.below hb
            replace rf2 := rf2.below hb
            replace E106 := E106.below hb
            replace E109 := E109.below hb
            replace rx111 := rx111.below hb
            replace hB := hB.trans (hb.mono hB.size)
            clear hb
            obtain ⟨x115, rfl, rx115⟩ := rx115.slg
            refine hK _ _ P1 ?_
            clear hK K
            refine Rd.tr_float (.agg #[.slice x111.a x111.n x111.c, .slice x115.a x115.n x115.c]) (by simp only [List.getElem?_toArray, List.getElem?_cons_succ, List.getElem?_cons_zero]; rfl) rfl (by rfl) (fun X _ => by go_simp) ?_
            simp only [Act.put, List.setIfInBounds_toArray, List.set_cons_succ, List.set_cons_zero]
            refine Rd.tr_move (by simp only [List.getElem?_toArray, List.getElem?_cons_succ, List.getElem?_cons_zero]; rfl) rfl (by rfl) (fun K hK => ?_)
            go_simp
            have P118 := Pair.new w114 30 (.slice none 0 0) (.slice none 0 0)
            have nP1P118 := P1.lt
            have gP118 := hB.size
            have hb : Below w114.heap.size w114 (w114.alloc (.cells #[.slice none 0 0, .slice none 0 0] 30)) := (Below.refl _ _).alloc (Nat.le_refl _) _
            replace P1 := P1.below hb
            replace rf1 := rf1.below hb
            replace rf2 := rf2.below hb
            replace E106 := E106.below hb
            replace E109 := E109.below hb
            replace rx111 := rx111.below hb
            replace rx115 := rx115.below hb
            replace hB := hB.trans (hb.mono hB.size)
            clear hb
            generalize w114.alloc (.cells #[.slice none 0 0, .slice none 0 0] 30) = w120 at P1 rf1 rf2 E106 E109 rx111 rx115 P118 hB ⊢
            generalize w114.heap.size = B119 at nP1P118 P118 gP118 ⊢
            refine hK _ _ P1 ?_
            clear hK K
            refine Rd.tr_move (by simp only [List.getElem?_toArray, List.getElem?_cons_succ, List.getElem?_cons_zero]; rfl) rfl (by rfl) (fun K hK => ?_)
            have c0P118 := P118.c0
            have c1P118 := P118.c1
            have z0P118 := P118.z0
            have z1P118 := P118.z1
            go_simp
            clear c0P118 c1P118 z0P118 z1P118
            replace rf1 := rf1.pset P118 (.slice x111.a x111.n x111.c) (.slice x115.a x115.n x115.c)
            replace rf2 := rf2.pset P118 (.slice x111.a x111.n x111.c) (.slice x115.a x115.n x115.c)
            replace E106 := E106.pset P118 (.slice x111.a x111.n x111.c) (.slice x115.a x115.n x115.c)
            replace E109 := E109.pset P118 (.slice x111.a x111.n x111.c) (.slice x115.a x115.n x115.c)
            replace rx111 := rx111.pset P118 (.slice x111.a x111.n x111.c) (.slice x115.a x115.n x115.c)
            replace rx115 := rx115.pset P118 (.slice x111.a x111.n x111.c) (.slice x115.a x115.n x115.c)
            replace P1 := P1.other (B := B119) (Nat.ne_of_lt nP1P118) (.slice x111.a x111.n x111.c) (.slice x115.a x115.n x115.c)
            replace hB := Below.pset (B := B119) hB gP118 (.slice x111.a x111.n x111.c) (.slice x115.a x115.n x115.c)
            replace P118 := P118.set (.slice x111.a x111.n x111.c) (.slice x115.a x115.n x115.c)
            generalize (w120.setCell ⟨B119, 0, none⟩ (.slice x111.a x111.n x111.c)).setCell ⟨B119, 1, none⟩ (.slice x115.a x115.n x115.c) = w121 at P1 P118 rf1 rf2 E106 E109 rx111 rx115 hB ⊢
            refine hK _ _ P1 ?_
            clear hK K
            exact Rd.tr_end (⟨B119, x111, x115, _, _, _, _, _, _, _, _, _, _, _, _, _, _, _, _, _, _, _, _, _, _, _, rfl, rx111, rx115, P118, P1, rf1, rf2, hB⟩)
          · skip
            go_simp
            have P122 := Pair.new w110 30 (.slice none 0 0) (.slice none 0 0)
            have nP1P122 := P1.lt
            have gP122 := hB.size
            have hb : Below w110.heap.size w110 (w110.alloc (.cells #[.slice none 0 0, .slice none 0 0] 30)) := (Below.refl _ _).alloc (Nat.le_refl _) _
            replace P1 := P1.below hb
            replace rf1 := rf1.below hb
            replace rf2 := rf2.below hb
            replace E106 := E106.below hb
            replace E109 := E109.below hb
            replace rx111 := rx111.below hb
            replace hB := hB.trans (hb.mono hB.size)
            clear hb
            generalize w110.alloc (.cells #[.slice none 0 0, .slice none 0 0] 30) = w124 at P1 rf1 rf2 E106 E109 rx111 P122 hB ⊢
            generalize w110.heap.size = B123 at nP1P122 P122 gP122 ⊢
            refine hK _ _ P1 ?_
            clear hK K
            refine Rd.tr_move (by simp only [List.getElem?_toArray, List.getElem?_cons_succ, List.getElem?_cons_zero]; rfl) rfl (by rfl) (fun K hK => ?_)
            obtain ⟨v127, w125, H128, rx126, hb⟩ := copied_gen w124 B104 E106 (.slice f2.a f2.n f2.c) l12 rf2 (Nat.le_trans K2.out (by omega)) 28
            refine wp_append _ _ 28 22 rfl (.slice (some ⟨B104, 0, none⟩) 0 0) (.slice f2.a f2.n f2.c) v127 w125 (by rfl) (by rfl) H128 ?_
            clear H128
            simp only [Act.put, List.setIfInBounds_toArray, List.set_cons_succ, List.set_cons_zero]
            replace P1 := P1.below hb
            replace P122 := P122.below hb
            replace rf1 := rf1.below hb
            replace rf2 := rf2.below hb
            replace E106 := E106.below hb
            replace E109 := E109.below hb
            replace rx111 := rx111.below hb
            replace hB := hB.trans (hb.mono hB.size)
            clear hb
            obtain ⟨x126, rfl, rx126⟩ := rx126.slg
            refine hK _ _ P1 ?_
            clear hK K
            refine Rd.tr_float (.agg #[.slice x111.a x111.n x111.c, .slice x126.a x126.n x126.c]) (by simp only [List.getElem?_toArray, List.getElem?_cons_succ, List.getElem?_cons_zero]; rfl) rfl (by rfl) (fun X _ => by go_simp) ?_
            simp only [Act.put, List.setIfInBounds_toArray, List.set_cons_succ, List.set_cons_zero]
            refine Rd.tr_move (by simp only [List.getElem?_toArray, List.getElem?_cons_succ, List.getElem?_cons_zero]; rfl) rfl (by rfl) (fun K hK => ?_)
            have c0P122 := P122.c0
            have c1P122 := P122.c1
            have z0P122 := P122.z0
            have z1P122 := P122.z1
            go_simp
            clear c0P122 c1P122 z0P122 z1P122
            replace rf1 := rf1.pset P122 (.slice x111.a x111.n x111.c) (.slice x126.a x126.n x126.c)
            replace rf2 := rf2.pset P122 (.slice x111.a x111.n x111.c) (.slice x126.a x126.n x126.c)
            replace E106 := E106.pset P122 (.slice x111.a x111.n x111.c) (.slice x126.a x126.n x126.c)
            replace E109 := E109.pset P122 (.slice x111.a x111.n x111.c) (.slice x126.a x126.n x126.c)
            replace rx111 := rx111.pset P122 (.slice x111.a x111.n x111.c) (.slice x126.a x126.n x126.c)
            replace rx126 := rx126.pset P122 (.slice x111.a x111.n x111.c) (.slice x126.a x126.n x126.c)
            replace P1 := P1.other (B := B123) (Nat.ne_of_lt nP1P122) (.slice x111.a x111.n x111.c) (.slice x126.a x126.n x126.c)
            replace hB := Below.pset (B := B123) hB gP122 (.slice x111.a x111.n x111.c) (.slice x126.a x126.n x126.c)
            replace P122 := P122.set (.slice x111.a x111.n x111.c) (.slice x126.a x126.n x126.c)
            generalize (w125.setCell ⟨B123, 0, none⟩ (.slice x111.a x111.n x111.c)).setCell ⟨B123, 1, none⟩ (.slice x126.a x126.n x126.c) = w129 at P1 P122 rf1 rf2 E106 E109 rx111 rx126 hB ⊢
            refine hK _ _ P1 ?_
            clear hK K
            exact Rd.tr_end (⟨B123, x111, x126, _, _, _, _, _, _, _, _, _, _, _, _, _, _, _, _, _, _, _, _, _, _, _, rfl, rx111, rx126, P122, P1, rf1, rf2, hB⟩)
        · skip
          go_simp
          have P130 := Pair.new w108 30 (.slice none 0 0) (.slice none 0 0)
          have nP1P130 := P1.lt
          have gP130 := hB.size
          have hb : Below w108.heap.size w108 (w108.alloc (.cells #[.slice none 0 0, .slice none 0 0] 30)) := (Below.refl _ _).alloc (Nat.le_refl _) _
          replace P1 := P1.below hb
          replace rf1 := rf1.below hb
          replace rf2 := rf2.below hb
          replace E106 := E106.below hb
          replace E109 := E109.below hb
          replace hB := hB.trans (hb.mono hB.size)
          clear hb
          generalize w108.alloc (.cells #[.slice none 0 0, .slice none 0 0] 30) = w132 at P1 rf1 rf2 E106 E109 P130 hB ⊢
          generalize w108.heap.size = B131 at nP1P130 P130 gP130 ⊢
          refine hK _ _ P1 ?_
          clear hK K
          refine Rd.tr_move (by simp only [List.getElem?_toArray, List.getElem?_cons_succ, List.getElem?_cons_zero]; rfl) rfl (by rfl) (fun K hK => ?_)
          obtain ⟨v135, w133, H136, rx134, hb⟩ := copied_gen w132 B107 E109 (.slice f1.a f1.n f1.c) l11 rf1 (Nat.le_trans K1.out (by omega)) 28
          refine wp_append _ _ 28 22 rfl (.slice (some ⟨B107, 0, none⟩) 0 0) (.slice f1.a f1.n f1.c) v135 w133 (by rfl) (by rfl) H136 ?_
          clear H136
          simp only [Act.put, List.setIfInBounds_toArray, List.set_cons_succ, List.set_cons_zero]
          replace P1 := P1.below hb
          replace P130 := P130.below hb
          replace rf1 := rf1.below hb
          replace rf2 := rf2.below hb
          replace E106 := E106.below hb
          replace E109 := E109.below hb
          replace hB := hB.trans (hb.mono hB.size)
          clear hb
          obtain ⟨x134, rfl, rx134⟩ := rx134.slg
          refine hK _ _ P1 ?_
          clear hK K
          refine Rd.tr_move (by simp only [List.getElem?_toArray, List.getElem?_cons_succ, List.getElem?_cons_zero]; rfl) rfl (by rfl) (fun K hK => ?_)
          obtain ⟨v139, w137, H140, rx138, hb⟩ := copied_gen w133 B104 E106 (.slice f2.a f2.n f2.c) l12 rf2 (Nat.le_trans K2.out (by omega)) 28
          refine wp_append _ _ 28 22 rfl (.slice (some ⟨B104, 0, none⟩) 0 0) (.slice f2.a f2.n f2.c) v139 w137 (by rfl) (by rfl) H140 ?_
          clear H140
          simp only [Act.put, List.setIfInBounds_toArray, List.set_cons_succ, List.set_cons_zero]
          replace P1 := P1.below hb
          replace P130 := P130.below hb
          replace rf1 := rf1.below hb
          replace rf2 := rf2.below hb
          replace E106 := E106.below hb
          replace E109 := E109.below hb
          replace rx134 := rx134.below hb
          replace hB := hB.trans (hb.mono hB.size)
          clear hb
          obtain ⟨x138, rfl, rx138⟩ := rx138.slg
          refine hK _ _ P1 ?_
          clear hK K
          refine Rd.tr_float (.agg #[.slice x134.a x134.n x134.c, .slice x138.a x138.n x138.c]) (by simp only [List.getElem?_toArray, List.getElem?_cons_succ, List.getElem?_cons_zero]; rfl) rfl (by rfl) (fun X _ => by go_simp) ?_
          simp only [Act.put, List.setIfInBounds_toArray, List.set_cons_succ, List.set_cons_zero]
          refine Rd.tr_move (by simp only [List.getElem?_toArray, List.getElem?_cons_succ, List.getElem?_cons_zero]; rfl) rfl (by rfl) (fun K hK => ?_)
          have c0P130 := P130.c0
          have c1P130 := P130.c1
          have z0P130 := P130.z0
          have z1P130 := P130.z1
          go_simp
          clear c0P130 c1P130 z0P130 z1P130
          replace rf1 := rf1.pset P130 (.slice x134.a x134.n x134.c) (.slice x138.a x138.n x138.c)
          replace rf2 := rf2.pset P130 (.slice x134.a x134.n x134.c) (.slice x138.a x138.n x138.c)
          replace E106 := E106.pset P130 (.slice x134.a x134.n x134.c) (.slice x138.a x138.n x138.c)
          replace E109 := E109.pset P130 (.slice x134.a x134.n x134.c) (.slice x138.a x138.n x138.c)
          replace rx134 := rx134.pset P130 (.slice x134.a x134.n x134.c) (.slice x138.a x138.n x138.c)
          replace rx138 := rx138.pset P130 (.slice x134.a x134.n x134.c) (.slice x138.a x138.n x138.c)
          replace P1 := P1.other (B := B131) (Nat.ne_of_lt nP1P130) (.slice x134.a x134.n x134.c) (.slice x138.a x138.n x138.c)
          replace hB := Below.pset (B := B131) hB gP130 (.slice x134.a x134.n x134.c) (.slice x138.a x138.n x138.c)
          replace P130 := P130.set (.slice x134.a x134.n x134.c) (.slice x138.a x138.n x138.c)
          generalize (w137.setCell ⟨B131, 0, none⟩ (.slice x134.a x134.n x134.c)).setCell ⟨B131, 1, none⟩ (.slice x138.a x138.n x138.c) = w141 at P1 P130 rf1 rf2 E106 E109 rx134 rx138 hB ⊢
          refine hK _ _ P1 ?_
          clear hK K
          exact Rd.tr_end (⟨B131, x134, x138, _, _, _, _, _, _, _, _, _, _, _, _, _, _, _, _, _, _, _, _, _, _, _, rfl, rx134, rx138, P130, P1, rf1, rf2, hB⟩)
      · skip
        go_simp
        have P142 := Pair.new w105 30 (.slice none 0 0) (.slice none 0 0)
        have nP1P142 := P1.lt
        have gP142 := hB.size
        have hb : Below w105.heap.size w105 (w105.alloc (.cells #[.slice none 0 0, .slice none 0 0] 30)) := (Below.refl _ _).alloc (Nat.le_refl _) _
        replace P1 := P1.below hb
        replace rf1 := rf1.below hb
        replace rf2 := rf2.below hb
        replace E106 := E106.below hb
        replace hB := hB.trans (hb.mono hB.size)
        clear hb
        generalize w105.alloc (.cells #[.slice none 0 0, .slice none 0 0] 30) = w144 at P1 rf1 rf2 E106 P142 hB ⊢
        generalize w105.heap.size = B143 at nP1P142 P142 gP142 ⊢
        refine hK _ _ P1 ?_
        clear hK K
        refine Rd.tr_move (by simp only [List.getElem?_toArray, List.getElem?_cons_zero]; rfl) rfl (by rfl) (fun K hK => ?_)
        go_simp
        have hb : Below w144.heap.size w144 (w144.alloc (.cells #[] 64)) := (Below.refl _ _).alloc (Nat.le_refl _) _
        have E147 : Emp (w144.alloc (.cells #[] 64)) w144.heap.size := World.alloc_heap_new _ _
        have gE147 := hB.size
        replace P1 := P1.below hb
        replace P142 := P142.below hb
        replace rf1 := rf1.below hb
        replace rf2 := rf2.below hb
        replace E106 := E106.below hb
        replace hB := hB.trans (hb.mono hB.size)
        clear hb
        generalize w144.alloc (.cells #[] 64) = w146 at P1 P142 rf1 rf2 E106 E147 hB ⊢
        generalize w144.heap.size = B145 at gE147 E147 ⊢
        refine hK _ _ P1 ?_
        clear hK K
        refine Rd.tr_move (by simp only [List.getElem?_toArray, List.getElem?_cons_succ, List.getElem?_cons_zero]; rfl) rfl (by rfl) (fun K hK => ?_)
        obtain ⟨v150, w148, H151, rx149, hb⟩ := copied_gen w146 B145 E147 (.slice f1.a f1.n f1.c) l11 rf1 (Nat.le_trans K1.out (by omega)) 28
        refine wp_append _ _ 28 22 rfl (.slice (some ⟨B145, 0, none⟩) 0 0) (.slice f1.a f1.n f1.c) v150 w148 (by rfl) (by rfl) H151 ?_
        clear H151
        simp only [Act.put, List.setIfInBounds_toArray, List.set_cons_succ, List.set_cons_zero]
        replace P1 := P1.below hb
        replace P142 := P142.below hb
        replace rf1 := rf1.below hb
        replace rf2 := rf2.below hb
        replace E106 := E106.below hb
        replace E147 := E147.below hb
        replace hB := hB.trans (hb.mono hB.size)
        clear hb
        obtain ⟨x149, rfl, rx149⟩ := rx149.slg
        refine hK _ _ P1 ?_
        clear hK K
        refine Rd.tr_move (by simp only [List.getElem?_toArray, List.getElem?_cons_succ, List.getElem?_cons_zero]; rfl) rfl (by rfl) (fun K hK => ?_)
        obtain ⟨v154, w152, H155, rx153, hb⟩ := copied_gen w148 B104 E106 (.slice f2.a f2.n f2.c) l12 rf2 (Nat.le_trans K2.out (by omega)) 28
        refine wp_append _ _ 28 22 rfl (.slice (some ⟨B104, 0, none⟩) 0 0) (.slice f2.a f2.n f2.c) v154 w152 (by rfl) (by rfl) H155 ?_
        clear H155
        simp only [Act.put, List.setIfInBounds_toArray, List.set_cons_succ, List.set_cons_zero]
        replace P1 := P1.below hb
        replace P142 := P142.below hb
        replace rf1 := rf1.below hb
        replace rf2 := rf2.below hb
        replace E106 := E106.below hb
        replace E147 := E147.below hb
        replace rx149 := rx149.below hb
        replace hB := hB.trans (hb.mono hB.size)
        clear hb
        obtain ⟨x153, rfl, rx153⟩ := rx153.slg
        refine hK _ _ P1 ?_
        clear hK K
        refine Rd.tr_float (.agg #[.slice x149.a x149.n x149.c, .slice x153.a x153.n x153.c]) (by simp only [List.getElem?_toArray, List.getElem?_cons_succ, List.getElem?_cons_zero]; rfl) rfl (by rfl) (fun X _ => by go_simp) ?_
        simp only [Act.put, List.setIfInBounds_toArray, List.set_cons_succ, List.set_cons_zero]
        refine Rd.tr_move (by simp only [List.getElem?_toArray, List.getElem?_cons_succ, List.getElem?_cons_zero]; rfl) rfl (by rfl) (fun K hK => ?_)
        have c0P142 := P142.c0
        have c1P142 := P142.c1
        have z0P142 := P142.z0
        have z1P142 := P142.z1
        go_simp
        clear c0P142 c1P142 z0P142 z1P142
        replace rf1 := rf1.pset P142 (.slice x149.a x149.n x149.c) (.slice x153.a x153.n x153.c)
        replace rf2 := rf2.pset P142 (.slice x149.a x149.n x149.c) (.slice x153.a x153.n x153.c)
        replace E106 := E106.pset P142 (.slice x149.a x149.n x149.c) (.slice x153.a x153.n x153.c)
        replace E147 := E147.pset P142 (.slice x149.a x149.n x149.c) (.slice x153.a x153.n x153.c)
        replace rx149 := rx149.pset P142 (.slice x149.a x149.n x149.c) (.slice x153.a x153.n x153.c)
        replace rx153 := rx153.pset P142 (.slice x149.a x149.n x149.c) (.slice x153.a x153.n x153.c)
        replace P1 := P1.other (B := B143) (Nat.ne_of_lt nP1P142) (.slice x149.a x149.n x149.c) (.slice x153.a x153.n x153.c)
        replace hB := Below.pset (B := B143) hB gP142 (.slice x149.a x149.n x149.c) (.slice x153.a x153.n x153.c)
        replace P142 := P142.set (.slice x149.a x149.n x149.c) (.slice x153.a x153.n x153.c)
        generalize (w152.setCell ⟨B143, 0, none⟩ (.slice x149.a x149.n x149.c)).setCell ⟨B143, 1, none⟩ (.slice x153.a x153.n x153.c) = w156 at P1 P142 rf1 rf2 E106 E147 rx149 rx153 hB ⊢
        refine hK _ _ P1 ?_
        clear hK K
        exact Rd.tr_end (⟨B143, x149, x153, _, _, _, _, _, _, _, _, _, _, _, _, _, _, _, _, _, _, _, _, _, _, _, rfl, rx149, rx153, P142, P1, rf1, rf2, hB⟩)
    · skip
      go_simp
      have P157 := Pair.new w4 30 (.slice none 0 0) (.slice none 0 0)
      have nP1P157 := P1.lt
      have gP157 := hB.size
      have hb : Below w4.heap.size w4 (w4.alloc (.cells #[.slice none 0 0, .slice none 0 0] 30)) := (Below.refl _ _).alloc (Nat.le_refl _) _
      replace P1 := P1.below hb
      replace rf1 := rf1.below hb
      replace rf2 := rf2.below hb
      replace hB := hB.trans (hb.mono hB.size)
      clear hb
      generalize w4.alloc (.cells #[.slice none 0 0, .slice none 0 0] 30) = w159 at P1 rf1 rf2 P157 hB ⊢
      generalize w4.heap.size = B158 at nP1P157 P157 gP157 ⊢
      refine hK _ _ P1 ?_
      clear hK K
      refine Rd.tr_two (by simp only [List.getElem?_toArray, List.getElem?_cons_zero]; rfl) (by rfl) (by simp only [List.getElem?_toArray, List.getElem?_cons_succ, List.getElem?_cons_zero]; rfl) (by rfl) (fun K hK => ?_) (fun K hK => ?_)
      · skip
        go_simp
        have hb : Below w159.heap.size w159 (w159.alloc (.cells #[] 64)) := (Below.refl _ _).alloc (Nat.le_refl _) _
        have E162 : Emp (w159.alloc (.cells #[] 64)) w159.heap.size := World.alloc_heap_new _ _
        have gE162 := hB.size
        replace P1 := P1.below hb
        replace P157 := P157.below hb
        replace rf1 := rf1.below hb
        replace rf2 := rf2.below hb
        replace hB := hB.trans (hb.mono hB.size)
        clear hb
        generalize w159.alloc (.cells #[] 64) = w161 at P1 P157 rf1 rf2 E162 hB ⊢
        generalize w159.heap.size = B160 at gE162 E162 ⊢
        refine hK _ _ P1 ?_
        clear hK K
        refine Rd.tr_two (by simp only [List.getElem?_toArray, List.getElem?_cons_succ, List.getElem?_cons_zero]; rfl) (by rfl) (by simp only [List.getElem?_toArray, List.getElem?_cons_succ, List.getElem?_cons_zero]; rfl) (by rfl) (fun K hK => ?_) (fun K hK => ?_)
        · skip
          obtain ⟨v165, w163, H166, rx164, hb⟩ := copied_gen w161 B160 E162 (.slice f1.a f1.n f1.c) l11 rf1 (Nat.le_trans K1.out (by omega)) 28
          refine wp_append _ _ 28 22 rfl (.slice (some ⟨B160, 0, none⟩) 0 0) (.slice f1.a f1.n f1.c) v165 w163 (by rfl) (by rfl) H166 ?_
          clear H166
          simp only [Act.put, List.setIfInBounds_toArray, List.set_cons_succ, List.set_cons_zero]
          replace P1 := P1.below hb
          replace P157 := P157.below hb
          replace rf1 := rf1.below hb
          replace rf2 := rf2.below hb
          replace E162 := E162.below hb
          replace hB := hB.trans (hb.mono hB.size)
          clear hb
          obtain ⟨x164, rfl, rx164⟩ := rx164.slg
          refine hK _ _ P1 ?_
          clear hK K
          refine Rd.tr_move (by simp only [List.getElem?_toArray, List.getElem?_cons_succ, List.getElem?_cons_zero]; rfl) rfl (by rfl) (fun K hK => ?_)
          go_simp
          have hb : Below w163.heap.size w163 (w163.alloc (.cells #[] 64)) := (Below.refl _ _).alloc (Nat.le_refl _) _
          have E169 : Emp (w163.alloc (.cells #[] 64)) w163.heap.size := World.alloc_heap_new _ _
          have gE169 := hB.size
          replace P1 := P1.below hb
          replace P157 := P157.below hb
          replace rf1 := rf1.below hb
          replace rf2 := rf2.below hb
          replace E162 := E162.below hb
          replace rx164 := rx164.below hb
          replace hB := hB.trans (hb.mono hB.size)
          clear hb
          generalize w163.alloc (.cells #[] 64) = w168 at P1 P157 rf1 rf2 E162 rx164 E169 hB ⊢
          generalize w163.heap.size = B167 at gE169 E169 ⊢
          refine hK _ _ P1 ?_
          clear hK K
          refine Rd.tr_move (by simp only [List.getElem?_toArray, List.getElem?_cons_succ, List.getElem?_cons_zero]; rfl) rfl (by rfl) (fun K hK => ?_)
          obtain ⟨v172, w170, H173, rx171, hb⟩ := copied_gen w168 B167 E169 (.slice f2.a f2.n f2.c) l12 rf2 (Nat.le_trans K2.out (by omega)) 28
          refine wp_append _ _ 28 22 rfl (.slice (some ⟨B167, 0, none⟩) 0 0) (.slice f2.a f2.n f2.c) v172 w170 (by rfl) (by rfl) H173 ?_
          clear H173
          simp only [Act.put, List.setIfInBounds_toArray, List.set_cons_succ, List.set_cons_zero]
          replace P1 := P1.below hb
          replace P157 := P157.below hb
          replace rf1 := rf1.below hb
          replace rf2 := rf2.below hb
          replace E162 := E162.below hb
          replace rx164 := rx164.below hb
          replace E169 := E169.below hb
          replace hB := hB.trans (hb.mono hB.size)
          clear hb
          obtain ⟨x171, rfl, rx171⟩ := rx171.slg
          refine hK _ _ P1 ?_
          clear hK K
          refine Rd.tr_float (.agg #[.slice x164.a x164.n x164.c, .slice x171.a x171.n x171.c]) (by simp only [List.getElem?_toArray, List.getElem?_cons_succ, List.getElem?_cons_zero]; rfl) rfl (by rfl) (fun X _ => by go_simp) ?_
          simp only [Act.put, List.setIfInBounds_toArray, List.set_cons_succ, List.set_cons_zero]
          refine Rd.tr_move (by simp only [List.getElem?_toArray, List.getElem?_cons_succ, List.getElem?_cons_zero]; rfl) rfl (by rfl) (fun K hK => ?_)
          have c0P157 := P157.c0
          have c1P157 := P157.c1
          have z0P157 := P157.z0
          have z1P157 := P157.z1
          go_simp
          clear c0P157 c1P157 z0P157 z1P157
          replace rf1 := rf1.pset P157 (.slice x164.a x164.n x164.c) (.slice x171.a x171.n x171.c)
          replace rf2 := rf2.pset P157 (.slice x164.a x164.n x164.c) (.slice x171.a x171.n x171.c)
          replace E162 := E162.pset P157 (.slice x164.a x164.n x164.c) (.slice x171.a x171.n x171.c)
          replace rx164 := rx164.pset P157 (.slice x164.a x164.n x164.c) (.slice x171.a x171.n x171.c)
          replace E169 := E169.pset P157 (.slice x164.a x164.n x164.c) (.slice x171.a x171.n x171.c)
          replace rx171 := rx171.pset P157 (.slice x164.a x164.n x164.c) (.slice x171.a x171.n x171.c)
          replace P1 := P1.other (B := B158) (Nat.ne_of_lt nP1P157) (.slice x164.a x164.n x164.c) (.slice x171.a x171.n x171.c)
          replace hB := Below.pset (B := B158) hB gP157 (.slice x164.a x164.n x164.c) (.slice x171.a x171.n x171.c)
          replace P157 := P157.set (.slice x164.a x164.n x164.c) (.slice x171.a x171.n x171.c)
          generalize (w170.setCell ⟨B158, 0, none⟩ (.slice x164.a x164.n x164.c)).setCell ⟨B158, 1, none⟩ (.slice x171.a x171.n x171.c) = w174 at P1 P157 rf1 rf2 E162 rx164 E169 rx171 hB ⊢
          refine hK _ _ P1 ?_
          clear hK K
          exact Rd.tr_end (⟨B158, x164, x171, _, _, _, _, _, _, _, _, _, _, _, _, _, _, _, _, _, _, _, _, _, _, _, rfl, rx164, rx171, P157, P1, rf1, rf2, hB⟩)
        · skip
          go_simp
          have hb : Below w161.heap.size w161 (w161.alloc (.cells #[] 64)) := (Below.refl _ _).alloc (Nat.le_refl _) _
          have E177 : Emp (w161.alloc (.cells #[] 64)) w161.heap.size := World.alloc_heap_new _ _
          have gE177 := hB.size
          replace P1 := P1.below hb
          replace P157 := P157.below hb
          replace rf1 := rf1.below hb
          replace rf2 := rf2.below hb
          replace E162 := E162.below hb
          replace hB := hB.trans (hb.mono hB.size)
          clear hb
          generalize w161.alloc (.cells #[] 64) = w176 at P1 P157 rf1 rf2 E162 E177 hB ⊢
          generalize w161.heap.size = B175 at gE177 E177 ⊢
          refine hK _ _ P1 ?_
          clear hK K
          refine Rd.tr_move (by simp only [List.getElem?_toArray, List.getElem?_cons_succ, List.getElem?_cons_zero]; rfl) rfl (by rfl) (fun K hK => ?_)
          obtain ⟨v180, w178, H181, rx179, hb⟩ := copied_gen w176 B160 E162 (.slice f1.a f1.n f1.c) l11 rf1 (Nat.le_trans K1.out (by omega)) 28
          refine wp_append _ _ 28 22 rfl (.slice (some ⟨B160, 0, none⟩) 0 0) (.slice f1.a f1.n f1.c) v180 w178 (by rfl) (by rfl) H181 ?_
          clear H181
          simp only [Act.put, List.setIfInBounds_toArray, List.set_cons_succ, List.set_cons_zero]
          replace P1 := P1.below hb
          replace P157 := P157.below hb
          replace rf1 := rf1.below hb
          replace rf2 := rf2.below hb
          replace E162 := E162.below hb
          replace E177 := E177.below hb
          replace hB := hB.trans (hb.mono hB.size)
          clear hb
          obtain ⟨x179, rfl, rx179⟩ := rx179.slg
          refine hK _ _ P1 ?_
          clear hK K
          refine Rd.tr_move (by simp only [List.getElem?_toArray, List.getElem?_cons_succ, List.getElem?_cons_zero]; rfl) rfl (by rfl) (fun K hK => ?_)
          obtain ⟨v184, w182, H185, rx183, hb⟩ := copied_gen w178 B175 E177 (.slice f2.a f2.n f2.c) l12 rf2 (Nat.le_trans K2.out (by omega)) 28
          refine wp_append _ _ 28 22 rfl (.slice (some ⟨B175, 0, none⟩) 0 0) (.slice f2.a f2.n f2.c) v184 w182 (by rfl) (by rfl) H185 ?_
          clear H185
          simp only [Act.put, List.setIfInBounds_toArray, List.set_cons_succ, List.set_cons_zero]
          replace P1 := P1.below hb
          replace P157 := P157.below hb
          replace rf1 := rf1.below hb
          replace rf2 := rf2.below hb
          replace E162 := E162.below hb
          replace E177 := E177.below hb
          replace rx179 := rx179.below hb
          replace hB := hB.trans (hb.mono hB.size)
          clear hb
          obtain ⟨x183, rfl, rx183⟩ := rx183.slg
          refine hK _ _ P1 ?_
          clear hK K
          refine Rd.tr_float (.agg #[.slice x179.a x179.n x179.c, .slice x183.a x183.n x183.c]) (by simp only [List.getElem?_toArray, List.getElem?_cons_succ, List.getElem?_cons_zero]; rfl) rfl (by rfl) (fun X _ => by go_simp) ?_
          simp only [Act.put, List.setIfInBounds_toArray, List.set_cons_succ, List.set_cons_zero]
          refine Rd.tr_move (by simp only [List.getElem?_toArray, List.getElem?_cons_succ, List.getElem?_cons_zero]; rfl) rfl (by rfl) (fun K hK => ?_)
          have c0P157 := P157.c0
          have c1P157 := P157.c1
          have z0P157 := P157.z0
          have z1P157 := P157.z1
          go_simp
          clear c0P157 c1P157 z0P157 z1P157
          replace rf1 := rf1.pset P157 (.slice x179.a x179.n x179.c) (.slice x183.a x183.n x183.c)
          replace rf2 := rf2.pset P157 (.slice x179.a x179.n x179.c) (.slice x183.a x183.n x183.c)
          replace E162 := E162.pset P157 (.slice x179.a x179.n x179.c) (.slice x183.a x183.n x183.c)
          replace E177 := E177.pset P157 (.slice x179.a x179.n x179.c) (.slice x183.a x183.n x183.c)
          replace rx179 := rx179.pset P157 (.slice x179.a x179.n x179.c) (.slice x183.a x183.n x183.c)
          replace rx183 := rx183.pset P157 (.slice x179.a x179.n x179.c) (.slice x183.a x183.n x183.c)
          replace P1 := P1.other (B := B158) (Nat.ne_of_lt nP1P157) (.slice x179.a x179.n x179.c) (.slice x183.a x183.n x183.c)
          replace hB := Below.pset (B := B158) hB gP157 (.slice x179.a x179.n x179.c) (.slice x183.a x183.n x183.c)
          replace P157 := P157.set (.slice x179.a x179.n x179.c) (.slice x183.a x183.n x183.c)
          generalize (w182.setCell ⟨B158, 0, none⟩ (.slice x179.a x179.n x179.c)).setCell ⟨B158, 1, none⟩ (.slice x183.a x183.n x183.c) = w186 at P1 P157 rf1 rf2 E162 E177 rx179 rx183 hB ⊢
          refine hK _ _ P1 ?_
          clear hK K
          exact Rd.tr_end (⟨B158, x179, x183, _, _, _, _, _, _, _, _, _, _, _, _, _, _, _, _, _, _, _, _, _, _, _, rfl, rx179, rx183, P157, P1, rf1, rf2, hB⟩)
      · skip
        go_simp
        have hb : Below w159.heap.size w159 (w159.alloc (.cells #[] 64)) := (Below.refl _ _).alloc (Nat.le_refl _) _
        have E189 : Emp (w159.alloc (.cells #[] 64)) w159.heap.size := World.alloc_heap_new _ _
        have gE189 := hB.size
        replace P1 := P1.below hb
        replace P157 := P157.below hb
        replace rf1 := rf1.below hb
        replace rf2 := rf2.below hb
        replace hB := hB.trans (hb.mono hB.size)
        clear hb
        generalize w159.alloc (.cells #[] 64) = w188 at P1 P157 rf1 rf2 E189 hB ⊢
        generalize w159.heap.size = B187 at gE189 E189 ⊢
        refine hK _ _ P1 ?_
        clear hK K
        refine Rd.tr_move (by simp only [List.getElem?_toArray, List.getElem?_cons_zero]; rfl) rfl (by rfl) (fun K hK => ?_)
        go_simp
        have hb : Below w188.heap.size w188 (w188.alloc (.cells #[] 64)) := (Below.refl _ _).alloc (Nat.le_refl _) _
        have E192 : Emp (w188.alloc (.cells #[] 64)) w188.heap.size := World.alloc_heap_new _ _
        have gE192 := hB.size
        replace P1 := P1.below hb
        replace P157 := P157.below hb
        replace rf1 := rf1.below hb
        replace rf2 := rf2.below hb
        replace E189 := E189.below hb
        replace hB := hB.trans (hb.mono hB.size)
        clear hb
        generalize w188.alloc (.cells #[] 64) = w191 at P1 P157 rf1 rf2 E189 E192 hB ⊢
        generalize w188.heap.size = B190 at gE192 E192 ⊢
        refine hK _ _ P1 ?_
        clear hK K
        refine Rd.tr_move (by simp only [List.getElem?_toArray, List.getElem?_cons_succ, List.getElem?_cons_zero]; rfl) rfl (by rfl) (fun K hK => ?_)
        obtain ⟨v195, w193, H196, rx194, hb⟩ := copied_gen w191 B190 E192 (.slice f1.a f1.n f1.c) l11 rf1 (Nat.le_trans K1.out (by omega)) 28
        refine wp_append _ _ 28 22 rfl (.slice (some ⟨B190, 0, none⟩) 0 0) (.slice f1.a f1.n f1.c) v195 w193 (by rfl) (by rfl) H196 ?_
        clear H196
        simp only [Act.put, List.setIfInBounds_toArray, List.set_cons_succ, List.set_cons_zero]
        replace P1 := P1.below hb
        replace P157 := P157.below hb
        replace rf1 := rf1.below hb
        replace rf2 := rf2.below hb
        replace E189 := E189.below hb
        replace E192 := E192.below hb
        replace hB := hB.trans (hb.mono hB.size)
        clear hb
        obtain ⟨x194, rfl, rx194⟩ := rx194.slg
        refine hK _ _ P1 ?_
        clear hK K
        refine Rd.tr_move (by simp only [List.getElem?_toArray, List.getElem?_cons_succ, List.getElem?_cons_zero]; rfl) rfl (by rfl) (fun K hK => ?_)
        obtain ⟨v199, w197, H200, rx198, hb⟩ := copied_gen w193 B187 E189 (.slice f2.a f2.n f2.c) l12 rf2 (Nat.le_trans K2.out (by omega)) 28
        refine wp_append _ _ 28 22 rfl (.slice (some ⟨B187, 0, none⟩) 0 0) (.slice f2.a f2.n f2.c) v199 w197 (by rfl) (by rfl) H200 ?_
        clear H200
        simp only [Act.put, List.setIfInBounds_toArray, List.set_cons_succ, List.set_cons_zero]
        replace P1 := P1.below hb
        replace P157 := P157.below hb
        replace rf1 := rf1.below hb
        replace rf2 := rf2.below hb
        replace E189 := E189.below hb
        replace E192 := E192.below hb
        replace rx194 := rx194.below hb
        replace hB := hB.trans (hb.mono hB.size)
        clear hb
        obtain ⟨x198, rfl, rx198⟩ := rx198.slg
        refine hK _ _ P1 ?_
        clear hK K
        refine Rd.tr_float (.agg #[.slice x194.a x194.n x194.c, .slice x198.a x198.n x198.c]) (by simp only [List.getElem?_toArray, List.getElem?_cons_succ, List.getElem?_cons_zero]; rfl) rfl (by rfl) (fun X _ => by go_simp) ?_
        simp only [Act.put, List.setIfInBounds_toArray, List.set_cons_succ, List.set_cons_zero]
        refine Rd.tr_move (by simp only [List.getElem?_toArray, List.getElem?_cons_succ, List.getElem?_cons_zero]; rfl) rfl (by rfl) (fun K hK => ?_)
        have c0P157 := P157.c0
        have c1P157 := P157.c1
        have z0P157 := P157.z0
        have z1P157 := P157.z1
        go_simp
        clear c0P157 c1P157 z0P157 z1P157
        replace rf1 := rf1.pset P157 (.slice x194.a x194.n x194.c) (.slice x198.a x198.n x198.c)
        replace rf2 := rf2.pset P157 (.slice x194.a x194.n x194.c) (.slice x198.a x198.n x198.c)
        replace E189 := E189.pset P157 (.slice x194.a x194.n x194.c) (.slice x198.a x198.n x198.c)
        replace E192 := E192.pset P157 (.slice x194.a x194.n x194.c) (.slice x198.a x198.n x198.c)
        replace rx194 := rx194.pset P157 (.slice x194.a x194.n x194.c) (.slice x198.a x198.n x198.c)
        replace rx198 := rx198.pset P157 (.slice x194.a x194.n x194.c) (.slice x198.a x198.n x198.c)
        replace P1 := P1.other (B := B158) (Nat.ne_of_lt nP1P157) (.slice x194.a x194.n x194.c) (.slice x198.a x198.n x198.c)
        replace hB := Below.pset (B := B158) hB gP157 (.slice x194.a x194.n x194.c) (.slice x198.a x198.n x198.c)
        replace P157 := P157.set (.slice x194.a x194.n x194.c) (.slice x198.a x198.n x198.c)
        generalize (w197.setCell ⟨B158, 0, none⟩ (.slice x194.a x194.n x194.c)).setCell ⟨B158, 1, none⟩ (.slice x198.a x198.n x198.c) = w201 at P1 P157 rf1 rf2 E189 E192 rx194 rx198 hB ⊢
        refine hK _ _ P1 ?_
        clear hK K
        exact Rd.tr_end (⟨B158, x194, x198, _, _, _, _, _, _, _, _, _, _, _, _, _, _, _, _, _, _, _, _, _, _, _, rfl, rx194, rx198, P157, P1, rf1, rf2, hB⟩)
  case next =>
    rintro a3 W ⟨BB, p, q, y6, y7, y8, y9, y10, y11, y12, y13, y14, y15, y16, y17, y18, y19, y21, y22, y23, y24, y25, y26, y27, y28, y29, rfl, rp, rq, PB, P1, rf1, rf2, hB⟩
    rcases Bool.eq_false_or_eq_true (goodB l11) with g1 | g1
    rotate_left
    · skip
      have HG1 := Lib.hid g1
      clear g1
      have c0P1 := P1.c0
      have c1P1 := P1.c1
      have c0PB := PB.c0
      have c1PB := PB.c1
      have H202 := Lib.hid (rGood_any (.slice f1.a f1.n f1.c) l11 W rf1.row K1.out)
      rw [HG1.out] at H202
      go_wp2_with fail
      clear c0P1 c1P1 c0PB c1PB
      refine H202.out.mono ?_
      rintro e w203 ⟨rfl, rfl⟩
      clear H202
      have c0P1 := P1.c0
      have c1P1 := P1.c1
      have c0PB := PB.c0
      have c1PB := PB.c1
      have H204 := Lib.hid (qgood_no1 p q l11 l12 W rp rq K1 HG1)
      go_wp2_with fail
      clear c0P1 c1P1 c0PB c1PB
      refine H204.out.mono ?_
      rintro e w205 ⟨rfl, hb⟩
      clear H204
      replace P1 := P1.below hb
      replace PB := PB.below hb
      replace rf1 := rf1.below hb
      replace rf2 := rf2.below hb
      replace rp := rp.below hb
      replace rq := rq.below hb
      replace hB := hB.trans (hb.mono hB.size)
      clear hb
      have c0P1 := P1.c0
      have c1P1 := P1.c1
      have c0PB := PB.c0
      have c1PB := PB.c1
      go_wp2_with fail
      go_ret
      exact ⟨rfl, hB⟩
    rcases Bool.eq_false_or_eq_true (goodB l12) with g2 | g2
    rotate_left
    · skip
      have HG1 := Lib.hid g1
      have HG2 := Lib.hid g2
      clear g1 g2
      have c0P1 := P1.c0
      have c1P1 := P1.c1
      have c0PB := PB.c0
      have c1PB := PB.c1
      have H206 := Lib.hid (rGood_any (.slice f1.a f1.n f1.c) l11 W rf1.row K1.out)
      rw [HG1.out] at H206
      go_wp2_with fail
      clear c0P1 c1P1 c0PB c1PB
      refine H206.out.mono ?_
      rintro e w207 ⟨rfl, rfl⟩
      clear H206
      have c0P1 := P1.c0
      have c1P1 := P1.c1
      have c0PB := PB.c0
      have c1PB := PB.c1
      have H208 := Lib.hid (rGood_any (.slice f2.a f2.n f2.c) l12 W rf2.row K2.out)
      rw [HG2.out] at H208
      go_wp2_with fail
      clear c0P1 c1P1 c0PB c1PB
      refine H208.out.mono ?_
      rintro e w209 ⟨rfl, rfl⟩
      clear H208
      have c0P1 := P1.c0
      have c1P1 := P1.c1
      have c0PB := PB.c0
      have c1PB := PB.c1
      have H210 := Lib.hid (qgood_no2 p q l11 l12 W rp rq K1 K2 HG1 HG2)
      go_wp2_with fail
      clear c0P1 c1P1 c0PB c1PB
      refine H210.out.mono ?_
      rintro e w211 ⟨rfl, hb⟩
      clear H210
      replace P1 := P1.below hb
      replace PB := PB.below hb
      replace rf1 := rf1.below hb
      replace rf2 := rf2.below hb
      replace rp := rp.below hb
      replace rq := rq.below hb
      replace hB := hB.trans (hb.mono hB.size)
      clear hb
      have c0P1 := P1.c0
      have c1P1 := P1.c1
      have c0PB := PB.c0
      have c1PB := PB.c1
      go_wp2_with fail
      go_ret
      exact ⟨rfl, hB⟩
    by_cases h3 : f2.n = 0
    · skip
      have HG1 := Lib.hid g1
      have HG2 := Lib.hid g2
      clear g1 g2
      have hf2 := eqg1 h3
      have HE : Hid (l12 = L 0) := Lib.hid (List.length_eq_zero_iff.1 (rf2.lng.symm.trans h3))
      clear h3
      have c0P1 := P1.c0
      have c1P1 := P1.c1
      have c0PB := PB.c0
      have c1PB := PB.c1
      have H212 := Lib.hid (rGood_any (.slice f1.a f1.n f1.c) l11 W rf1.row K1.out)
      rw [HG1.out] at H212
      go_wp2_with fail
      clear c0P1 c1P1 c0PB c1PB
      refine H212.out.mono ?_
      rintro e w213 ⟨rfl, rfl⟩
      clear H212
      have c0P1 := P1.c0
      have c1P1 := P1.c1
      have c0PB := PB.c0
      have c1PB := PB.c1
      have H214 := Lib.hid (rGood_any (.slice f2.a f2.n f2.c) l12 W rf2.row K2.out)
      rw [HG2.out] at H214
      go_wp2_with fail
      clear c0P1 c1P1 c0PB c1PB
      refine H214.out.mono ?_
      rintro e w215 ⟨rfl, rfl⟩
      clear H214
      have c0P1 := P1.c0
      have c1P1 := P1.c1
      have c0PB := PB.c0
      have c1PB := PB.c1
      have H216 := Lib.hid (qgood_no3 p q l11 W rp (HE.out ▸ rq) K1 (HE.out ▸ K2) HG1 (HE.out ▸ HG2))
      go_wp2_with fail
      clear c0P1 c1P1 c0PB c1PB
      refine H216.out.mono ?_
      rintro e w217 ⟨rfl, hb⟩
      clear H216
      replace P1 := P1.below hb
      replace PB := PB.below hb
      replace rf1 := rf1.below hb
      replace rf2 := rf2.below hb
      replace rp := rp.below hb
      replace rq := rq.below hb
      replace hB := hB.trans (hb.mono hB.size)
      clear hb
      have c0P1 := P1.c0
      have c1P1 := P1.c1
      have c0PB := PB.c0
      have c1PB := PB.c1
      go_wp2_with fail
      go_ret
      exact ⟨rfl, hB⟩
    obtain ⟨a, rfl⟩ := nat_of_good g1 S11.out
    obtain ⟨b, rfl⟩ := nat_of_good g2 S12.out
    have HNE : Hid (b ≠ 0) := Lib.hid (by rintro rfl; exact h3 rf2.lng)
    have la : Hid ((L a).length ≤ 4) := Lib.hid (rf1.lng ▸ h1)
    have lb : Hid ((L b).length ≤ 4) := Lib.hid (rf2.lng ▸ h2)
    have hf2 := eqg0 h3
    by_cases hg : Nat.gcd a b = 1
    · skip
      have HG1 := Lib.hid g1
      have HG2 := Lib.hid g2
      clear g1 g2
      have HT : Hid (true = decide (Nat.gcd a b = 1)) := Lib.hid (by simp [hg])
      have HC : Hid (cmpZ (Nat.gcd a b) 1 = 0) := Lib.hid (by rw [hg]; exact cmpZ_eq 1)
      clear hg h3
      have c0P1 := P1.c0
      have c1P1 := P1.c1
      have c0PB := PB.c0
      have c1PB := PB.c1
      have H218 := Lib.hid (rGood_any (.slice f1.a f1.n f1.c) (L a) W rf1.row K1.out)
      rw [HG1.out] at H218
      go_wp2_with fail
      clear c0P1 c1P1 c0PB c1PB
      refine H218.out.mono ?_
      rintro e w219 ⟨rfl, rfl⟩
      clear H218
      have c0P1 := P1.c0
      have c1P1 := P1.c1
      have c0PB := PB.c0
      have c1PB := PB.c1
      have H220 := Lib.hid (rGood_any (.slice f2.a f2.n f2.c) (L b) W rf2.row K2.out)
      rw [HG2.out] at H220
      go_wp2_with fail
      clear c0P1 c1P1 c0PB c1PB
      refine H220.out.mono ?_
      rintro e w221 ⟨rfl, rfl⟩
      clear H220
      have c0P1 := P1.c0
      have c1P1 := P1.c1
      have c0PB := PB.c0
      have c1PB := PB.c1
      go_wp2_with fail
      clear c0P1 c1P1 c0PB c1PB
      have hb : Below W.heap.size W W.drew := (Below.refl _ _).drew
      replace P1 := P1.below hb
      replace PB := PB.below hb
      replace rf1 := rf1.below hb
      replace rf2 := rf2.below hb
      replace rp := rp.below hb
      replace rq := rq.below hb
      replace hB := hB.trans (hb.mono hB.size)
      clear hb
      refine Rd.regionT (fun X => Pair X (w.heap.size) 24 (.slice f1.a f1.n f1.c) (.slice f2.a f2.n f2.c) ∧ Pair X (BB) 30 (.slice p.a p.n p.c) (.slice q.a q.n q.c)) [0, 1, 3, 4, 6, 7] (.one 0 (.one 1 (.one 3 (.one 4 (.one 2 (.one 5 (.one 6 (.one 7 .done)))))))) (fun ac W2 => ∃ (r : Sl) (s : Sl) (y49 y50 y51 y52 y53 y54 : Value), ac = { tmps := List.toArray (.agg #[.slice f1.a f1.n f1.c, .slice f2.a f2.n f2.c] :: .pointer (some ⟨w.heap.size, 0, none⟩) :: .bool false :: .pointer (some ⟨BB, 0, none⟩) :: .slice r.a r.n r.c :: .slice s.a s.n s.c :: y6 :: y7 :: y8 :: y9 :: y10 :: y11 :: y12 :: y13 :: y14 :: y15 :: y16 :: y17 :: y18 :: y19 :: undef :: y21 :: y22 :: y23 :: y24 :: y25 :: y26 :: y27 :: y28 :: y29 :: .pointer (some ⟨w.heap.size, 0, none⟩) :: .slice f1.a f1.n f1.c :: .bool true :: .bool false :: .bool false :: .pointer (some ⟨w.heap.size, 1, none⟩) :: .slice f2.a f2.n f2.c :: .bool true :: .bool false :: .bool false :: .bool false :: .pointer (some ⟨w.heap.size, 1, none⟩) :: .slice f2.a f2.n f2.c :: .int .i64 (f2.n : Int) :: .bool false :: .bool false :: undef :: undef :: undef :: y49 :: y50 :: y51 :: y52 :: y53 :: y54 :: undef :: undef :: undef :: undef :: undef :: undef :: undef :: undef :: undef :: []), defers := [] } ∧ Pair W2 (w.heap.size) 24 (.slice f1.a f1.n f1.c) (.slice f2.a f2.n f2.c) ∧ Pair W2 (BB) 30 (.slice p.a p.n p.c) (.slice q.a q.n q.c) ∧ RU W2 p a ∧ RU W2 q b ∧ RD W2 r a ∧ RD W2 s b ∧ Below w.heap.size w W2) (by kernel_rfl) (by kernel_rfl) (by kernel_rfl) ⟨P1, PB⟩ ?tree ?next
      case tree =>
        generalize W.drew = w222 at P1 PB rf1 rf2 rp rq hB ⊢
        refine Rd.tr_float (.pointer (some ⟨w.heap.size, 0, none⟩)) (by simp only [List.getElem?_toArray, List.getElem?_cons_zero]; rfl) rfl (by rfl) (fun X _ => by go_simp) ?_
        simp only [Act.put, List.setIfInBounds_toArray, List.set_cons_succ, List.set_cons_zero]
        refine Rd.tr_float (.slice f1.a f1.n f1.c) (by simp only [List.getElem?_toArray, List.getElem?_cons_succ, List.getElem?_cons_zero]; rfl) rfl (by rfl) (fun X hX => by have h0 := hX.1.c0; have h1 := hX.1.c1; go_simp) ?_
        simp only [Act.put, List.setIfInBounds_toArray, List.set_cons_succ, List.set_cons_zero]
        refine Rd.tr_float (.pointer (some ⟨w.heap.size, 1, none⟩)) (by simp only [List.getElem?_toArray, List.getElem?_cons_succ, List.getElem?_cons_zero]; rfl) rfl (by rfl) (fun X _ => by go_simp) ?_
        simp only [Act.put, List.setIfInBounds_toArray, List.set_cons_succ, List.set_cons_zero]
        refine Rd.tr_float (.slice f2.a f2.n f2.c) (by simp only [List.getElem?_toArray, List.getElem?_cons_succ, List.getElem?_cons_zero]; rfl) rfl (by rfl) (fun X hX => by have h0 := hX.1.c0; have h1 := hX.1.c1; go_simp) ?_
        simp only [Act.put, List.setIfInBounds_toArray, List.set_cons_succ, List.set_cons_zero]
        refine Rd.tr_move (by simp only [List.getElem?_toArray, List.getElem?_cons_succ, List.getElem?_cons_zero]; rfl) rfl (by rfl) (fun K hK => ?_)
        have H225 := Lib.hid (limbs_nat (.slice f1.a f1.n f1.c) (a) w222 rf1.row (Nat.le_trans la.out (by omega)))
        go_simp
        refine H225.out.mono ?_
        rintro e w226 ⟨v224, rfl, rx223, hb⟩
        clear H225
        replace P1 := P1.below hb
        replace PB := PB.below hb
        replace rf1 := rf1.below hb
        replace rf2 := rf2.below hb
        replace rp := rp.below hb
        replace rq := rq.below hb
        replace hB := hB.trans (hb.mono hB.size)
        clear hb
        obtain ⟨x223, rfl, rx223⟩ := rx223.sl
        refine hK _ _ ⟨P1, PB⟩ ?_
        clear hK K
        refine Rd.tr_move (by simp only [List.getElem?_toArray, List.getElem?_cons_succ, List.getElem?_cons_zero]; rfl) rfl (by rfl) (fun K hK => ?_)
        have H229 := Lib.hid (limbs_nat (.slice f2.a f2.n f2.c) (b) w226 rf2.row (Nat.le_trans lb.out (by omega)))
        go_simp
        refine H229.out.mono ?_
        rintro e w230 ⟨v228, rfl, rx227, hb⟩
        clear H229
        replace P1 := P1.below hb
        replace PB := PB.below hb
        replace rf1 := rf1.below hb
        replace rf2 := rf2.below hb
        replace rp := rp.below hb
        replace rq := rq.below hb
        replace rx223 := rx223.below hb
        replace hB := hB.trans (hb.mono hB.size)
        clear hb
        obtain ⟨x227, rfl, rx227⟩ := rx227.sl
        refine hK _ _ ⟨P1, PB⟩ ?_
        clear hK K
        refine Rd.tr_float (.slice x223.a x223.n x223.c) (by simp only [List.getElem?_toArray, List.getElem?_cons_succ, List.getElem?_cons_zero]; rfl) rfl (by rfl) (fun X _ => by go_simp) ?_
        simp only [Act.put, List.setIfInBounds_toArray, List.set_cons_succ, List.set_cons_zero]
        refine Rd.tr_float (.slice x227.a x227.n x227.c) (by simp only [List.getElem?_toArray, List.getElem?_cons_succ, List.getElem?_cons_zero]; rfl) rfl (by rfl) (fun X _ => by go_simp) ?_
        simp only [Act.put, List.setIfInBounds_toArray, List.set_cons_succ, List.set_cons_zero]
        exact Rd.tr_end (⟨x223, x227, _, _, _, _, _, _, rfl, P1, PB, rp, rq, rx223, rx227, hB⟩)
      case next =>
        rintro a4 W2 ⟨r, s, u49, u50, u51, u52, u53, u54, rfl, P1, PB, rp, rq, rr, rs, hB⟩
        have c0P1 := P1.c0
        have c1P1 := P1.c1
        have c0PB := PB.c0
        have c1PB := PB.c1
        have H231 := Lib.hid (qgood_nat p q a b W2 rp rq (Lib.hid (Nat.le_trans la.out (by omega))) (Lib.hid (Nat.le_trans lb.out (by omega))) HNE true HT)
        go_wp2_with fail
        clear c0P1 c1P1 c0PB c1PB
        refine H231.out.mono ?_
        rintro e w232 ⟨rfl, hb⟩
        clear H231
        replace P1 := P1.below hb
        replace PB := PB.below hb
        replace rp := rp.below hb
        replace rq := rq.below hb
        replace rr := rr.below hb
        replace rs := rs.below hb
        replace hB := hB.trans (hb.mono hB.size)
        clear hb
        have c0P1 := P1.c0
        have c1P1 := P1.c1
        have c0PB := PB.c0
        have c1PB := PB.c1
        have H235 := Lib.hid (rgcd_nat (.slice r.a r.n r.c) (.slice s.a s.n s.c) (a) (b) w232 rr rs (Nat.le_trans la.out (by omega)) (Nat.le_trans lb.out (by omega)))
        go_wp2_with fail
        clear c0P1 c1P1 c0PB c1PB
        refine H235.out.mono ?_
        rintro e w236 ⟨v234, rfl, rx233, hb⟩
        clear H235
        replace P1 := P1.below hb
        replace PB := PB.below hb
        replace rp := rp.below hb
        replace rq := rq.below hb
        replace rr := rr.below hb
        replace rs := rs.below hb
        replace hB := hB.trans (hb.mono hB.size)
        clear hb
        obtain ⟨x233, rfl, rx233⟩ := rx233.sl
        have HLx233 : Hid ((L (Nat.gcd a b)).length ≤ 4) := Lib.hid (gcd_len a HNE.out lb.out)
        have c0P1 := P1.c0
        have c1P1 := P1.c1
        have c0PB := PB.c0
        have c1PB := PB.c1
        have H239 := Lib.hid (Of_any (1) w236 (by omega))
        go_wp2_with fail
        clear c0P1 c1P1 c0PB c1PB
        refine H239.out.mono ?_
        rintro e w240 ⟨v238, rfl, rx237, hb⟩
        clear H239
        replace P1 := P1.below hb
        replace PB := PB.below hb
        replace rp := rp.below hb
        replace rq := rq.below hb
        replace rr := rr.below hb
        replace rs := rs.below hb
        replace rx233 := rx233.below hb
        replace hB := hB.trans (hb.mono hB.size)
        clear hb
        obtain ⟨x237, rfl, rx237⟩ := rx237.sl
        have HLx237 : Hid ((L (1)).length ≤ 1) := Lib.hid (one_row (1) (by have h : 1 < 9223372036854775808 := (by omega); omega))
        have c0P1 := P1.c0
        have c1P1 := P1.c1
        have c0PB := PB.c0
        have c1PB := PB.c1
        have H241 := Lib.hid (rcmp_nat (.slice x233.a x233.n x233.c) (.slice x237.a x237.n x237.c) (Nat.gcd a b) (1) w240 rx233 rx237 (Nat.le_trans HLx233.out (by omega)) (Nat.le_trans HLx237.out (by omega)))
        rw [HC.out] at H241
        go_wp2_with fail
        clear c0P1 c1P1 c0PB c1PB
        refine H241.out.mono ?_
        rintro e w242 ⟨rfl, hb⟩
        clear H241
        replace P1 := P1.below hb
        replace PB := PB.below hb
        replace rp := rp.below hb
        replace rq := rq.below hb
        replace rr := rr.below hb
        replace rs := rs.below hb
        replace rx233 := rx233.below hb
        replace rx237 := rx237.below hb
        replace hB := hB.trans (hb.mono hB.size)
        clear hb
        have c0P1 := P1.c0
        have c1P1 := P1.c1
        have c0PB := PB.c0
        have c1PB := PB.c1
        go_wp2_with fail
        go_ret
        exact ⟨rfl, hB⟩
    · skip
      have HG1 := Lib.hid g1
      have HG2 := Lib.hid g2
      clear g1 g2
      have HT : Hid (false = decide (Nat.gcd a b = 1)) := Lib.hid (by simp [hg])
      have HC : Hid (cmpZ (Nat.gcd a b) 1 = 1) := Lib.hid (cmpZ_gt (by have h0 := gcd_ne a HNE.out; omega))
      clear hg h3
      have c0P1 := P1.c0
      have c1P1 := P1.c1
      have c0PB := PB.c0
      have c1PB := PB.c1
      have H243 := Lib.hid (rGood_any (.slice f1.a f1.n f1.c) (L a) W rf1.row K1.out)
      rw [HG1.out] at H243
      go_wp2_with fail
      clear c0P1 c1P1 c0PB c1PB
      refine H243.out.mono ?_
      rintro e w244 ⟨rfl, rfl⟩
      clear H243
      have c0P1 := P1.c0
      have c1P1 := P1.c1
      have c0PB := PB.c0
      have c1PB := PB.c1
      have H245 := Lib.hid (rGood_any (.slice f2.a f2.n f2.c) (L b) W rf2.row K2.out)
      rw [HG2.out] at H245
      go_wp2_with fail
      clear c0P1 c1P1 c0PB c1PB
      refine H245.out.mono ?_
      rintro e w246 ⟨rfl, rfl⟩
      clear H245
      have c0P1 := P1.c0
      have c1P1 := P1.c1
      have c0PB := PB.c0
      have c1PB := PB.c1
      go_wp2_with fail
      clear c0P1 c1P1 c0PB c1PB
      have hb : Below W.heap.size W W.drew := (Below.refl _ _).drew
      replace P1 := P1.below hb
      replace PB := PB.below hb
      replace rf1 := rf1.below hb
      replace rf2 := rf2.below hb
      replace rp := rp.below hb
      replace rq := rq.below hb
      replace hB := hB.trans (hb.mono hB.size)
      clear hb
      refine Rd.regionT (fun X => Pair X (w.heap.size) 24 (.slice f1.a f1.n f1.c) (.slice f2.a f2.n f2.c) ∧ Pair X (BB) 30 (.slice p.a p.n p.c) (.slice q.a q.n q.c)) [0, 1, 3, 4, 6, 7] (.one 0 (.one 1 (.one 3 (.one 4 (.one 2 (.one 5 (.one 6 (.one 7 .done)))))))) (fun ac W2 => ∃ (r : Sl) (s : Sl) (y49 y50 y51 y52 y53 y54 : Value), ac = { tmps := List.toArray (.agg #[.slice f1.a f1.n f1.c, .slice f2.a f2.n f2.c] :: .pointer (some ⟨w.heap.size, 0, none⟩) :: .bool false :: .pointer (some ⟨BB, 0, none⟩) :: .slice r.a r.n r.c :: .slice s.a s.n s.c :: y6 :: y7 :: y8 :: y9 :: y10 :: y11 :: y12 :: y13 :: y14 :: y15 :: y16 :: y17 :: y18 :: y19 :: undef :: y21 :: y22 :: y23 :: y24 :: y25 :: y26 :: y27 :: y28 :: y29 :: .pointer (some ⟨w.heap.size, 0, none⟩) :: .slice f1.a f1.n f1.c :: .bool true :: .bool false :: .bool false :: .pointer (some ⟨w.heap.size, 1, none⟩) :: .slice f2.a f2.n f2.c :: .bool true :: .bool false :: .bool false :: .bool false :: .pointer (some ⟨w.heap.size, 1, none⟩) :: .slice f2.a f2.n f2.c :: .int .i64 (f2.n : Int) :: .bool false :: .bool false :: undef :: undef :: undef :: y49 :: y50 :: y51 :: y52 :: y53 :: y54 :: undef :: undef :: undef :: undef :: undef :: undef :: undef :: undef :: undef :: []), defers := [] } ∧ Pair W2 (w.heap.size) 24 (.slice f1.a f1.n f1.c) (.slice f2.a f2.n f2.c) ∧ Pair W2 (BB) 30 (.slice p.a p.n p.c) (.slice q.a q.n q.c) ∧ RU W2 p a ∧ RU W2 q b ∧ RD W2 r a ∧ RD W2 s b ∧ Below w.heap.size w W2) (by kernel_rfl) (by kernel_rfl) (by kernel_rfl) ⟨P1, PB⟩ ?tree ?next
      case tree =>
        generalize W.drew = w247 at P1 PB rf1 rf2 rp rq hB ⊢
        refine Rd.tr_float (.pointer (some ⟨w.heap.size, 0, none⟩)) (by simp only [List.getElem?_toArray, List.getElem?_cons_zero]; rfl) rfl (by rfl) (fun X _ => by go_simp) ?_
        simp only [Act.put, List.setIfInBounds_toArray, List.set_cons_succ, List.set_cons_zero]
        refine Rd.tr_float (.slice f1.a f1.n f1.c) (by simp only [List.getElem?_toArray, List.getElem?_cons_succ, List.getElem?_cons_zero]; rfl) rfl (by rfl) (fun X hX => by have h0 := hX.1.c0; have h1 := hX.1.c1; go_simp) ?_
        simp only [Act.put, List.setIfInBounds_toArray, List.set_cons_succ, List.set_cons_zero]
        refine Rd.tr_float (.pointer (some ⟨w.heap.size, 1, none⟩)) (by simp only [List.getElem?_toArray, List.getElem?_cons_succ, List.getElem?_cons_zero]; rfl) rfl (by rfl) (fun X _ => by go_simp) ?_
        simp only [Act.put, List.setIfInBounds_toArray, List.set_cons_succ, List.set_cons_zero]
        refine Rd.tr_float (.slice f2.a f2.n f2.c) (by simp only [List.getElem?_toArray, List.getElem?_cons_succ, List.getElem?_cons_zero]; rfl) rfl (by rfl) (fun X hX => by have h0 := hX.1.c0; have h1 := hX.1.c1; go_simp) ?_
        simp only [Act.put, List.setIfInBounds_toArray, List.set_cons_succ, List.set_cons_zero]
        refine Rd.tr_move (by simp only [List.getElem?_toArray, List.getElem?_cons_succ, List.getElem?_cons_zero]; rfl) rfl (by rfl) (fun K hK => ?_)
        have H250 := Lib.hid (limbs_nat (.slice f1.a f1.n f1.c) (a) w247 rf1.row (Nat.le_trans la.out (by omega)))
        go_simp
        refine H250.out.mono ?_
        rintro e w251 ⟨v249, rfl, rx248, hb⟩
        clear H250
        replace P1 := P1.below hb
        replace PB := PB.below hb
        replace rf1 := rf1.below hb
        replace rf2 := rf2.below hb
        replace rp := rp.below hb
        replace rq := rq.below hb
        replace hB := hB.trans (hb.mono hB.size)
        clear hb
        obtain ⟨x248, rfl, rx248⟩ := rx248.sl
        refine hK _ _ ⟨P1, PB⟩ ?_
        clear hK K
        refine Rd.tr_move (by simp only [List.getElem?_toArray, List.getElem?_cons_succ, List.getElem?_cons_zero]; rfl) rfl (by rfl) (fun K hK => ?_)
        have H254 := Lib.hid (limbs_nat (.slice f2.a f2.n f2.c) (b) w251 rf2.row (Nat.le_trans lb.out (by omega)))
        go_simp
        refine H254.out.mono ?_
        rintro e w255 ⟨v253, rfl, rx252, hb⟩
        clear H254
        replace P1 := P1.below hb
        replace PB := PB.below hb
        replace rf1 := rf1.below hb
        replace rf2 := rf2.below hb
        replace rp := rp.below hb
        replace rq := rq.below hb
        replace rx248 := rx248.below hb
        replace hB := hB.trans (hb.mono hB.size)
        clear hb
        obtain ⟨x252, rfl, rx252⟩ := rx252.sl
        refine hK _ _ ⟨P1, PB⟩ ?_
        clear hK K
        refine Rd.tr_float (.slice x248.a x248.n x248.c) (by simp only [List.getElem?_toArray, List.getElem?_cons_succ, List.getElem?_cons_zero]; rfl) rfl (by rfl) (fun X _ => by go_simp) ?_
        simp only [Act.put, List.setIfInBounds_toArray, List.set_cons_succ, List.set_cons_zero]
        refine Rd.tr_float (.slice x252.a x252.n x252.c) (by simp only [List.getElem?_toArray, List.getElem?_cons_succ, List.getElem?_cons_zero]; rfl) rfl (by rfl) (fun X _ => by go_simp) ?_
        simp only [Act.put, List.setIfInBounds_toArray, List.set_cons_succ, List.set_cons_zero]
        exact Rd.tr_end (⟨x248, x252, _, _, _, _, _, _, rfl, P1, PB, rp, rq, rx248, rx252, hB⟩)
      case next =>
        rintro a4 W2 ⟨r, s, u49, u50, u51, u52, u53, u54, rfl, P1, PB, rp, rq, rr, rs, hB⟩
        have c0P1 := P1.c0
        have c1P1 := P1.c1
        have c0PB := PB.c0
        have c1PB := PB.c1
        have H256 := Lib.hid (qgood_nat p q a b W2 rp rq (Lib.hid (Nat.le_trans la.out (by omega))) (Lib.hid (Nat.le_trans lb.out (by omega))) HNE false HT)
        go_wp2_with fail
        clear c0P1 c1P1 c0PB c1PB
        refine H256.out.mono ?_
        rintro e w257 ⟨rfl, hb⟩
        clear H256
        replace P1 := P1.below hb
        replace PB := PB.below hb
        replace rp := rp.below hb
        replace rq := rq.below hb
        replace rr := rr.below hb
        replace rs := rs.below hb
        replace hB := hB.trans (hb.mono hB.size)
        clear hb
        have c0P1 := P1.c0
        have c1P1 := P1.c1
        have c0PB := PB.c0
        have c1PB := PB.c1
        have H260 := Lib.hid (rgcd_nat (.slice r.a r.n r.c) (.slice s.a s.n s.c) (a) (b) w257 rr rs (Nat.le_trans la.out (by omega)) (Nat.le_trans lb.out (by omega)))
        go_wp2_with fail
        clear c0P1 c1P1 c0PB c1PB
        refine H260.out.mono ?_
        rintro e w261 ⟨v259, rfl, rx258, hb⟩
        clear H260
        replace P1 := P1.below hb
        replace PB := PB.below hb
        replace rp := rp.below hb
        replace rq := rq.below hb
        replace rr := rr.below hb
        replace rs := rs.below hb
        replace hB := hB.trans (hb.mono hB.size)
        clear hb
        obtain ⟨x258, rfl, rx258⟩ := rx258.sl
        have HLx258 : Hid ((L (Nat.gcd a b)).length ≤ 4) := Lib.hid (gcd_len a HNE.out lb.out)
        have c0P1 := P1.c0
        have c1P1 := P1.c1
        have c0PB := PB.c0
        have c1PB := PB.c1
        have H264 := Lib.hid (Of_any (1) w261 (by omega))
        go_wp2_with fail
        clear c0P1 c1P1 c0PB c1PB
        refine H264.out.mono ?_
        rintro e w265 ⟨v263, rfl, rx262, hb⟩
        clear H264
        replace P1 := P1.below hb
        replace PB := PB.below hb
        replace rp := rp.below hb
        replace rq := rq.below hb
        replace rr := rr.below hb
        replace rs := rs.below hb
        replace rx258 := rx258.below hb
        replace hB := hB.trans (hb.mono hB.size)
        clear hb
        obtain ⟨x262, rfl, rx262⟩ := rx262.sl
        have HLx262 : Hid ((L (1)).length ≤ 1) := Lib.hid (one_row (1) (by have h : 1 < 9223372036854775808 := (by omega); omega))
        have c0P1 := P1.c0
        have c1P1 := P1.c1
        have c0PB := PB.c0
        have c1PB := PB.c1
        have H266 := Lib.hid (rcmp_nat (.slice x258.a x258.n x258.c) (.slice x262.a x262.n x262.c) (Nat.gcd a b) (1) w265 rx258 rx262 (Nat.le_trans HLx258.out (by omega)) (Nat.le_trans HLx262.out (by omega)))
        rw [HC.out] at H266
        go_wp2_with fail
        clear c0P1 c1P1 c0PB c1PB
        refine H266.out.mono ?_
        rintro e w267 ⟨rfl, hb⟩
        clear H266
        replace P1 := P1.below hb
        replace PB := PB.below hb
        replace rp := rp.below hb
        replace rq := rq.below hb
        replace rr := rr.below hb
        replace rs := rs.below hb
        replace rx258 := rx258.below hb
        replace rx262 := rx262.below hb
        replace hB := hB.trans (hb.mono hB.size)
        clear hb
        have c0P1 := P1.c0
        have c1P1 := P1.c1
        have c0PB := PB.c0
        have c1PB := PB.c1
        go_wp2_with fail
        go_ret
        exact ⟨rfl, hB⟩

theorem goods_any (f1 f2 : Sl) (l11 l12 : List Nat) (w : World) (rf1 : RA w f1 l11) (rf2 : RA w f2 l12) (S11 : Hid (SmallU l11)) (S12 : Hid (SmallU l12)) :
    Calls Tryd.prog 4 #[.agg #[.slice f1.a f1.n f1.c, .slice f2.a f2.n f2.c]] w fun e w' => e = .returned (.bool true) ∧ Below w.heap.size w w' := by
  have e1 := rf1.lng
  have e2 := rf2.lng
  by_cases h1 : f1.n ≤ 4
  · by_cases h2 : f2.n ≤ 4
    · have K1 : Hid (l11.length ≤ 1000000) := Lib.hid (by omega)
      have K2 : Hid (l12.length ≤ 1000000) := Lib.hid (by omega)
      exact goods_live f1 f2 l11 l12 w rf1 rf2 S11 S12 h1 h2 K1 K2
    · exact goods_d2 f1 f2 l11 l12 w rf1 rf2 h1 (by omega)
  · exact goods_d1 f1 f2 l11 l12 w rf1 rf2 (by omega)
end Go.Proofs.YtnfoblmfjldheaaDoor
