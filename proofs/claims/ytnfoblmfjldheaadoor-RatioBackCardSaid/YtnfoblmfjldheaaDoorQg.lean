/-
  made, where limbs are a ratio's: it, and the document's. Condition: at most four limbs each.
-/
import Derived.Test.YtnfoblmfjldheaaDoorQf
namespace Go.Proofs.YtnfoblmfjldheaaDoor
open Go.RowKit Go.Dig Go.Shelf Go.Proofs

set_option maxRecDepth 100000 in
set_option maxHeartbeats 100000000 in
theorem made_yes (f1 f2 : Sl) (a b : Nat) (w : World) (rf1 : RA w f1 (L a)) (rf2 : RA w f2 (L b)) (la : Hid ((L a).length ≤ 4)) (lb : Hid ((L b).length ≤ 4)) (h1 : f1.n ≤ 4) (h2 : f2.n ≤ 4) (h3 : ((f2.n : Int) == 0) = false) (HNE : Hid (b ≠ 0)) :
    Calls Tryd.prog 17 #[.agg #[.slice f1.a f1.n f1.c, .slice f2.a f2.n f2.c]] w fun e w' => ∃ p q r s : Sl, e = .returned (.tuple #[.agg #[.slice p.a p.n p.c, .slice q.a q.n q.c], .agg #[.slice r.a r.n r.c, .slice s.a s.n s.c], .bool true]) ∧ RU w' p (a / Nat.gcd a b) ∧ RU w' q (b / Nat.gcd a b) ∧ RD w' r (a / Nat.gcd a b) ∧ RD w' s (b / Nat.gcd a b) ∧ Below w.heap.size w w' := by
  go_enter Tryd.func17, Tryd.ntmps17
  have hb : Below w.heap.size w (((w.alloc (.cells #[.slice f1.a f1.n f1.c, .slice f2.a f2.n f2.c] 24)).alloc (.cells #[.slice none 0 0, .slice none 0 0] 30)).alloc (.cells #[.slice none 0 0, .slice none 0 0] 35)) := ((((Below.refl _ _).alloc (Nat.le_refl _) _).alloc (by simp) _).alloc (by simp; omega) _)
  replace rf1 := rf1.below hb
  replace rf2 := rf2.below hb
  have hB := hb
  have P1 : Pair (((w.alloc (.cells #[.slice f1.a f1.n f1.c, .slice f2.a f2.n f2.c] 24)).alloc (.cells #[.slice none 0 0, .slice none 0 0] 30)).alloc (.cells #[.slice none 0 0, .slice none 0 0] 35)) (w.heap.size) 24 (.slice f1.a f1.n f1.c) (.slice f2.a f2.n f2.c) := by
    have h := ((Pair.new w 24 (.slice f1.a f1.n f1.c) (.slice f2.a f2.n f2.c)).alloc (.cells #[.slice none 0 0, .slice none 0 0] 30)).alloc (.cells #[.slice none 0 0, .slice none 0 0] 35)
    simpa only [World.size_alloc] using h
  have P2 : Pair (((w.alloc (.cells #[.slice f1.a f1.n f1.c, .slice f2.a f2.n f2.c] 24)).alloc (.cells #[.slice none 0 0, .slice none 0 0] 30)).alloc (.cells #[.slice none 0 0, .slice none 0 0] 35)) (w.heap.size + 1) 30 (.slice none 0 0) (.slice none 0 0) := by
    have h := (Pair.new (w.alloc (.cells #[.slice f1.a f1.n f1.c, .slice f2.a f2.n f2.c] 24)) 30 (.slice none 0 0) (.slice none 0 0)).alloc (.cells #[.slice none 0 0, .slice none 0 0] 35)
    simpa only [World.size_alloc] using h
  have P3 : Pair (((w.alloc (.cells #[.slice f1.a f1.n f1.c, .slice f2.a f2.n f2.c] 24)).alloc (.cells #[.slice none 0 0, .slice none 0 0] 30)).alloc (.cells #[.slice none 0 0, .slice none 0 0] 35)) (w.heap.size + 1 + 1) 35 (.slice none 0 0) (.slice none 0 0) := by
    have h := Pair.new ((w.alloc (.cells #[.slice f1.a f1.n f1.c, .slice f2.a f2.n f2.c] 24)).alloc (.cells #[.slice none 0 0, .slice none 0 0] 30)) 35 (.slice none 0 0) (.slice none 0 0)
    simpa only [World.size_alloc] using h
  clear hb
  have c0P1 := P1.c0
  have c1P1 := P1.c1
  have c0P2 := P2.c0
  have c1P2 := P2.c1
  have c0P3 := P3.c0
  have c1P3 := P3.c1
  have H4 := Lib.hid (rGood_nat (.slice f1.a f1.n f1.c) (a) (((w.alloc (.cells #[.slice f1.a f1.n f1.c, .slice f2.a f2.n f2.c] 24)).alloc (.cells #[.slice none 0 0, .slice none 0 0] 30)).alloc (.cells #[.slice none 0 0, .slice none 0 0] 35)) rf1.row (Nat.le_trans la.out (by omega)))
  go_wp2_with fail
  clear c0P1 c1P1 c0P2 c1P2 c0P3 c1P3
  refine H4.out.mono ?_
  rintro e w5 ⟨rfl, rfl⟩
  clear H4
  have c0P1 := P1.c0
  have c1P1 := P1.c1
  have c0P2 := P2.c0
  have c1P2 := P2.c1
  have c0P3 := P3.c0
  have c1P3 := P3.c1
  have H6 := Lib.hid (rGood_nat (.slice f2.a f2.n f2.c) (b) (((w.alloc (.cells #[.slice f1.a f1.n f1.c, .slice f2.a f2.n f2.c] 24)).alloc (.cells #[.slice none 0 0, .slice none 0 0] 30)).alloc (.cells #[.slice none 0 0, .slice none 0 0] 35)) rf2.row (Nat.le_trans lb.out (by omega)))
  go_wp2_with fail
  clear c0P1 c1P1 c0P2 c1P2 c0P3 c1P3
  refine H6.out.mono ?_
  rintro e w7 ⟨rfl, rfl⟩
  clear H6
  have c0P1 := P1.c0
  have c1P1 := P1.c1
  have c0P2 := P2.c0
  have c1P2 := P2.c1
  have c0P3 := P3.c0
  have c1P3 := P3.c1
  go_wp2_with fail
  clear c0P1 c1P1 c0P2 c1P2 c0P3 c1P3
  have hb : Below (((w.alloc (.cells #[.slice f1.a f1.n f1.c, .slice f2.a f2.n f2.c] 24)).alloc (.cells #[.slice none 0 0, .slice none 0 0] 30)).alloc (.cells #[.slice none 0 0, .slice none 0 0] 35)).heap.size (((w.alloc (.cells #[.slice f1.a f1.n f1.c, .slice f2.a f2.n f2.c] 24)).alloc (.cells #[.slice none 0 0, .slice none 0 0] 30)).alloc (.cells #[.slice none 0 0, .slice none 0 0] 35)) (((w.alloc (.cells #[.slice f1.a f1.n f1.c, .slice f2.a f2.n f2.c] 24)).alloc (.cells #[.slice none 0 0, .slice none 0 0] 30)).alloc (.cells #[.slice none 0 0, .slice none 0 0] 35)).drew := (Below.refl _ _).drew
  replace P1 := P1.below hb
  replace P2 := P2.below hb
  replace P3 := P3.below hb
  replace rf1 := rf1.below hb
  replace rf2 := rf2.below hb
  replace hB := hB.trans (hb.mono hB.size)
  clear hb
  refine Rd.regionT (fun X => Pair X (w.heap.size) 24 (.slice f1.a f1.n f1.c) (.slice f2.a f2.n f2.c) ∧ Pair X (w.heap.size + 1) 30 (.slice none 0 0) (.slice none 0 0) ∧ Pair X (w.heap.size + 1 + 1) 35 (.slice none 0 0) (.slice none 0 0)) [1, 2, 5, 6, 9, 10, 11, 14] (.one 1 (.one 2 (.one 5 (.one 6 (.three 0 (.three 3 (.two 4 (.two 7 (.two 8 (.one 9 (.one 10 (.one 11 (.one 12 (.one 13 (.one 14 .done)))))) 12 (.one 8 (.one 9 (.one 10 (.one 11 (.one 13 (.one 14 .done))))))) 12 (.one 7 (.one 8 (.one 9 (.one 10 (.one 11 (.one 13 (.one 14 .done)))))))) 12 (.one 4 (.one 7 (.one 8 (.one 9 (.one 10 (.one 11 (.one 13 (.one 14 .done))))))))) 4 (.two 3 (.two 7 (.two 8 (.one 9 (.one 10 (.one 11 (.one 12 (.one 13 (.one 14 .done)))))) 12 (.one 8 (.one 9 (.one 10 (.one 11 (.one 13 (.one 14 .done))))))) 12 (.one 7 (.one 8 (.one 9 (.one 10 (.one 11 (.one 13 (.one 14 .done)))))))) 12 (.one 3 (.one 7 (.one 8 (.one 9 (.one 10 (.one 11 (.one 13 (.one 14 .done))))))))) 12 (.two 3 (.one 4 (.one 7 (.one 8 (.one 9 (.one 10 (.one 11 (.one 13 (.one 14 .done)))))))) 4 (.one 3 (.one 7 (.one 8 (.one 9 (.one 10 (.one 11 (.one 13 (.one 14 .done)))))))))) 4 (.two 0 (.two 3 (.two 7 (.two 8 (.one 9 (.one 10 (.one 11 (.one 12 (.one 13 (.one 14 .done)))))) 12 (.one 8 (.one 9 (.one 10 (.one 11 (.one 13 (.one 14 .done))))))) 12 (.one 7 (.one 8 (.one 9 (.one 10 (.one 11 (.one 13 (.one 14 .done)))))))) 12 (.one 3 (.one 7 (.one 8 (.one 9 (.one 10 (.one 11 (.one 13 (.one 14 .done))))))))) 12 (.one 0 (.one 3 (.one 7 (.one 8 (.one 9 (.one 10 (.one 11 (.one 13 (.one 14 .done)))))))))) 12 (.two 0 (.two 3 (.one 4 (.one 7 (.one 8 (.one 9 (.one 10 (.one 11 (.one 13 (.one 14 .done)))))))) 4 (.one 3 (.one 7 (.one 8 (.one 9 (.one 10 (.one 11 (.one 13 (.one 14 .done))))))))) 4 (.one 0 (.one 3 (.one 7 (.one 8 (.one 9 (.one 10 (.one 11 (.one 13 (.one 14 .done))))))))))))))) (fun ac W => ∃ (BB : Nat) (p : Sl) (q : Sl) (y7 y8 y9 y10 y11 y12 y13 y14 y15 y16 y17 y18 y19 y20 y21 y22 y23 y24 y25 y26 y27 y28 y29 y30 y31 y32 y33 y34 y37 y38 y39 y40 y41 y42 y43 y44 y45 y46 y47 y48 : Value), ac = { tmps := List.toArray (.agg #[.slice f1.a f1.n f1.c, .slice f2.a f2.n f2.c] :: .pointer (some ⟨w.heap.size, 0, none⟩) :: .pointer (some ⟨w.heap.size + 1, 0, none⟩) :: .pointer (some ⟨w.heap.size + 1 + 1, 0, none⟩) :: .bool false :: .pointer (some ⟨BB, 0, none⟩) :: .int .i64 0 :: y7 :: y8 :: y9 :: y10 :: y11 :: y12 :: y13 :: y14 :: y15 :: y16 :: y17 :: y18 :: y19 :: y20 :: y21 :: y22 :: y23 :: y24 :: y25 :: y26 :: y27 :: y28 :: y29 :: y30 :: y31 :: y32 :: y33 :: y34 :: undef :: undef :: y37 :: y38 :: y39 :: y40 :: y41 :: y42 :: y43 :: y44 :: y45 :: y46 :: y47 :: y48 :: undef :: undef :: undef :: undef :: undef :: undef :: undef :: undef :: undef :: undef :: []), defers := [] } ∧ RU W p (a / Nat.gcd a b) ∧ RU W q (b / Nat.gcd a b) ∧ Pair W BB 30 (.slice p.a p.n p.c) (.slice q.a q.n q.c) ∧ w.heap.size + 1 + 1 < BB ∧ Pair W (w.heap.size) 24 (.slice f1.a f1.n f1.c) (.slice f2.a f2.n f2.c) ∧ Pair W (w.heap.size + 1) 30 (.slice none 0 0) (.slice none 0 0) ∧ Pair W (w.heap.size + 1 + 1) 35 (.slice none 0 0) (.slice none 0 0) ∧ RA W f1 (L a) ∧ RA W f2 (L b) ∧ Below w.heap.size w W) (by kernel_rfl) (by kernel_rfl) (by kernel_rfl) ⟨P1, P2, P3⟩ ?tree ?next
  case tree =>
    generalize (((w.alloc (.cells #[.slice f1.a f1.n f1.c, .slice f2.a f2.n f2.c] 24)).alloc (.cells #[.slice none 0 0, .slice none 0 0] 30)).alloc (.cells #[.slice none 0 0, .slice none 0 0] 35)).drew = w8 at P1 P2 P3 rf1 rf2 hB ⊢
    refine Rd.tr_float (.pointer (some ⟨w.heap.size, 0, none⟩)) (by simp only [List.getElem?_toArray, List.getElem?_cons_succ, List.getElem?_cons_zero]; rfl) rfl (by rfl) (fun X _ => by go_simp) ?_
    simp only [Act.put, List.setIfInBounds_toArray, List.set_cons_succ, List.set_cons_zero]
    refine Rd.tr_float (.slice f1.a f1.n f1.c) (by simp only [List.getElem?_toArray, List.getElem?_cons_succ, List.getElem?_cons_zero]; rfl) rfl (by rfl) (fun X hX => by have h0 := hX.1.c0; have h1 := hX.1.c1; go_simp) ?_
    simp only [Act.put, List.setIfInBounds_toArray, List.set_cons_succ, List.set_cons_zero]
    refine Rd.tr_float (.pointer (some ⟨w.heap.size, 1, none⟩)) (by simp only [List.getElem?_toArray, List.getElem?_cons_succ, List.getElem?_cons_zero]; rfl) rfl (by rfl) (fun X _ => by go_simp) ?_
    simp only [Act.put, List.setIfInBounds_toArray, List.set_cons_succ, List.set_cons_zero]
    refine Rd.tr_float (.slice f2.a f2.n f2.c) (by simp only [List.getElem?_toArray, List.getElem?_cons_succ, List.getElem?_cons_zero]; rfl) rfl (by rfl) (fun X hX => by have h0 := hX.1.c0; have h1 := hX.1.c1; go_simp) ?_
    simp only [Act.put, List.setIfInBounds_toArray, List.set_cons_succ, List.set_cons_zero]
    refine Rd.tr_three (by simp only [List.getElem?_toArray, List.getElem?_cons_zero]; rfl) (by rfl) (by simp only [List.getElem?_toArray, List.getElem?_cons_succ, List.getElem?_cons_zero]; rfl) (by rfl) (by simp only [List.getElem?_toArray, List.getElem?_cons_succ, List.getElem?_cons_zero]; rfl) (by rfl) (fun K hK => ?_) (fun K hK => ?_) (fun K hK => ?_)
    · skip
      go_simp
      have hb : Below w8.heap.size w8 (w8.alloc (.cells #[] 64)) := (Below.refl _ _).alloc (Nat.le_refl _) _
      have E11 : Emp (w8.alloc (.cells #[] 64)) w8.heap.size := World.alloc_heap_new _ _
      have gE11 := hB.size
      replace P1 := P1.below hb
      replace P2 := P2.below hb
      replace P3 := P3.below hb
      replace rf1 := rf1.below hb
      replace rf2 := rf2.below hb
      replace hB := hB.trans (hb.mono hB.size)
      clear hb
      generalize w8.alloc (.cells #[] 64) = w10 at P1 P2 P3 rf1 rf2 E11 hB ⊢
      generalize w8.heap.size = B9 at gE11 E11 ⊢
      refine hK _ _ ⟨P1, P2, P3⟩ ?_
      clear hK K
      refine Rd.tr_three (by simp only [List.getElem?_toArray, List.getElem?_cons_succ, List.getElem?_cons_zero]; rfl) (by rfl) (by simp only [List.getElem?_toArray, List.getElem?_cons_succ, List.getElem?_cons_zero]; rfl) (by rfl) (by simp only [List.getElem?_toArray, List.getElem?_cons_succ, List.getElem?_cons_zero]; rfl) (by rfl) (fun K hK => ?_) (fun K hK => ?_) (fun K hK => ?_)
      · skip
        obtain ⟨v14, w12, H15, rx13, hb⟩ := copied_gen w10 B9 E11 (.slice f1.a f1.n f1.c) (L a) rf1 (Nat.le_trans la.out (by omega)) 28
        refine wp_append _ _ 28 22 rfl (.slice (some ⟨B9, 0, none⟩) 0 0) (.slice f1.a f1.n f1.c) v14 w12 (by rfl) (by rfl) H15 ?_
        clear H15
        simp only [Act.put, List.setIfInBounds_toArray, List.set_cons_succ, List.set_cons_zero]
        replace P1 := P1.below hb
        replace P2 := P2.below hb
        replace P3 := P3.below hb
        replace rf1 := rf1.below hb
        replace rf2 := rf2.below hb
        replace E11 := E11.below hb
        replace hB := hB.trans (hb.mono hB.size)
        clear hb
        obtain ⟨x13, rfl, rx13⟩ := rx13.sl
        refine hK _ _ ⟨P1, P2, P3⟩ ?_
        clear hK K
        refine Rd.tr_two (by simp only [List.getElem?_toArray, List.getElem?_cons_succ, List.getElem?_cons_zero]; rfl) (by rfl) (by simp only [List.getElem?_toArray, List.getElem?_cons_succ, List.getElem?_cons_zero]; rfl) (by rfl) (fun K hK => ?_) (fun K hK => ?_)
        · skip
          go_simp
          have hb : Below w12.heap.size w12 (w12.alloc (.cells #[] 64)) := (Below.refl _ _).alloc (Nat.le_refl _) _
          have E18 : Emp (w12.alloc (.cells #[] 64)) w12.heap.size := World.alloc_heap_new _ _
          have gE18 := hB.size
          replace P1 := P1.below hb
          replace P2 := P2.below hb
          replace P3 := P3.below hb
          replace rf1 := rf1.below hb
          replace rf2 := rf2.below hb
          replace E11 := E11.below hb
          replace rx13 := rx13.below hb
          replace hB := hB.trans (hb.mono hB.size)
          clear hb
          generalize w12.alloc (.cells #[] 64) = w17 at P1 P2 P3 rf1 rf2 E11 rx13 E18 hB ⊢
          generalize w12.heap.size = B16 at gE18 E18 ⊢
          refine hK _ _ ⟨P1, P2, P3⟩ ?_
          clear hK K
          refine Rd.tr_two (by simp only [List.getElem?_toArray, List.getElem?_cons_succ, List.getElem?_cons_zero]; rfl) (by rfl) (by simp only [List.getElem?_toArray, List.getElem?_cons_succ, List.getElem?_cons_zero]; rfl) (by rfl) (fun K hK => ?_) (fun K hK => ?_)
          · skip
            obtain ⟨v21, w19, H22, rx20, hb⟩ := copied_gen w17 B16 E18 (.slice f2.a f2.n f2.c) (L b) rf2 (Nat.le_trans lb.out (by omega)) 28
            refine wp_append _ _ 28 22 rfl (.slice (some ⟨B16, 0, none⟩) 0 0) (.slice f2.a f2.n f2.c) v21 w19 (by rfl) (by rfl) H22 ?_
            clear H22
            simp only [Act.put, List.setIfInBounds_toArray, List.set_cons_succ, List.set_cons_zero]
            replace P1 := P1.below hb
            replace P2 := P2.below hb
            replace P3 := P3.below hb
            replace rf1 := rf1.below hb
            replace rf2 := rf2.below hb
            replace E11 := E11.below hb
            replace rx13 := rx13.below hb
            replace E18 := E18.below hb
            replace hB := hB.trans (hb.mono hB.size)
            clear hb
            obtain ⟨x20, rfl, rx20⟩ := rx20.sl
            refine hK _ _ ⟨P1, P2, P3⟩ ?_
            clear hK K
            refine Rd.tr_two (by simp only [List.getElem?_toArray, List.getElem?_cons_succ, List.getElem?_cons_zero]; rfl) (by rfl) (by simp only [List.getElem?_toArray, List.getElem?_cons_succ, List.getElem?_cons_zero]; rfl) (by rfl) (fun K hK => ?_) (fun K hK => ?_)
            · skip
              have H25 := Lib.hid (of_nat (.slice x13.a x13.n x13.c) (.slice x20.a x20.n x20.c) (a) (b) w19 rx13 rx20 (Nat.le_trans la.out (by omega)) (Nat.le_trans lb.out (by omega)) HNE.out)
              go_simp
              refine H25.out.mono ?_
              rintro e w26 ⟨x23, x24, rfl, rx23, rx24, hb⟩
              clear H25
              replace P1 := P1.below hb
              replace P2 := P2.below hb
              replace P3 := P3.below hb
              replace rf1 := rf1.below hb
              replace rf2 := rf2.below hb
              replace E11 := E11.below hb
              replace rx13 := rx13.below hb
              replace E18 := E18.below hb
              replace rx20 := rx20.below hb
              replace hB := hB.trans (hb.mono hB.size)
              clear hb
              have HLx23 : Hid ((L (a / Nat.gcd a b)).length ≤ 4) := Lib.hid (len_div_le la.out)
              have HLx24 : Hid ((L (b / Nat.gcd a b)).length ≤ 4) := Lib.hid (len_div_le lb.out)
              refine hK _ _ ⟨P1, P2, P3⟩ ?_
              clear hK K
              refine Rd.tr_float (.tuple #[.agg #[.slice x23.a x23.n x23.c, .slice x24.a x24.n x24.c], .int .i64 0]) (by simp only [List.getElem?_toArray, List.getElem?_cons_succ, List.getElem?_cons_zero]; rfl) rfl (by rfl) (fun X _ => by go_simp) ?_
              simp only [Act.put, List.setIfInBounds_toArray, List.set_cons_succ, List.set_cons_zero]
              refine Rd.tr_float (.agg #[.slice x23.a x23.n x23.c, .slice x24.a x24.n x24.c]) (by simp only [List.getElem?_toArray, List.getElem?_cons_succ, List.getElem?_cons_zero]; rfl) rfl (by rfl) (fun X _ => by go_simp) ?_
              simp only [Act.put, List.setIfInBounds_toArray, List.set_cons_succ, List.set_cons_zero]
              refine Rd.tr_float (.int .i64 0) (by simp only [List.getElem?_toArray, List.getElem?_cons_succ, List.getElem?_cons_zero]; rfl) rfl (by rfl) (fun X _ => by go_simp) ?_
              simp only [Act.put, List.setIfInBounds_toArray, List.set_cons_succ, List.set_cons_zero]
              refine Rd.tr_move (by simp only [List.getElem?_toArray, List.getElem?_cons_succ, List.getElem?_cons_zero]; rfl) rfl (by rfl) (fun K hK => ?_)
              go_simp
              have P27 := Pair.new w26 30 (.slice none 0 0) (.slice none 0 0)
              have nP1P27 := P1.lt
              have nP2P27 := P2.lt
              have nP3P27 := P3.lt
              have gP27 := hB.size
              have hb : Below w26.heap.size w26 (w26.alloc (.cells #[.slice none 0 0, .slice none 0 0] 30)) := (Below.refl _ _).alloc (Nat.le_refl _) _
              replace P1 := P1.below hb
              replace P2 := P2.below hb
              replace P3 := P3.below hb
              replace rf1 := rf1.below hb
              replace rf2 := rf2.below hb
              replace E11 := E11.below hb
              replace rx13 := rx13.below hb
              replace E18 := E18.below hb
              replace rx20 := rx20.below hb
              replace rx23 := rx23.below hb
              replace rx24 := rx24.below hb
              replace hB := hB.trans (hb.mono hB.size)
              clear hb
              generalize w26.alloc (.cells #[.slice none 0 0, .slice none 0 0] 30) = w29 at P1 P2 P3 rf1 rf2 E11 rx13 E18 rx20 rx23 rx24 P27 hB ⊢
              generalize w26.heap.size = B28 at nP1P27 nP2P27 nP3P27 P27 gP27 ⊢
              refine hK _ _ ⟨P1, P2, P3⟩ ?_
              clear hK K
              refine Rd.tr_move (by simp only [List.getElem?_toArray, List.getElem?_cons_succ, List.getElem?_cons_zero]; rfl) rfl (by rfl) (fun K hK => ?_)
              have c0P27 := P27.c0
              have c1P27 := P27.c1
              have z0P27 := P27.z0
              have z1P27 := P27.z1
              go_simp
              clear c0P27 c1P27 z0P27 z1P27
              replace rf1 := rf1.pset P27 (.slice x23.a x23.n x23.c) (.slice x24.a x24.n x24.c)
              replace rf2 := rf2.pset P27 (.slice x23.a x23.n x23.c) (.slice x24.a x24.n x24.c)
              replace E11 := E11.pset P27 (.slice x23.a x23.n x23.c) (.slice x24.a x24.n x24.c)
              replace rx13 := rx13.pset P27 (.slice x23.a x23.n x23.c) (.slice x24.a x24.n x24.c)
              replace E18 := E18.pset P27 (.slice x23.a x23.n x23.c) (.slice x24.a x24.n x24.c)
              replace rx20 := rx20.pset P27 (.slice x23.a x23.n x23.c) (.slice x24.a x24.n x24.c)
              replace rx23 := rx23.pset P27 (.slice x23.a x23.n x23.c) (.slice x24.a x24.n x24.c)
              replace rx24 := rx24.pset P27 (.slice x23.a x23.n x23.c) (.slice x24.a x24.n x24.c)
              replace P1 := P1.other (B := B28) (Nat.ne_of_lt nP1P27) (.slice x23.a x23.n x23.c) (.slice x24.a x24.n x24.c)
              replace P2 := P2.other (B := B28) (Nat.ne_of_lt nP2P27) (.slice x23.a x23.n x23.c) (.slice x24.a x24.n x24.c)
              replace P3 := P3.other (B := B28) (Nat.ne_of_lt nP3P27) (.slice x23.a x23.n x23.c) (.slice x24.a x24.n x24.c)
              replace hB := Below.pset (B := B28) hB gP27 (.slice x23.a x23.n x23.c) (.slice x24.a x24.n x24.c)
              replace P27 := P27.set (.slice x23.a x23.n x23.c) (.slice x24.a x24.n x24.c)
              generalize (w29.setCell ⟨B28, 0, none⟩ (.slice x23.a x23.n x23.c)).setCell ⟨B28, 1, none⟩ (.slice x24.a x24.n x24.c) = w30 at P1 P2 P3 P27 rf1 rf2 E11 rx13 E18 rx20 rx23 rx24 hB ⊢
              refine hK _ _ ⟨P1, P2, P3⟩ ?_
              clear hK K
              refine Rd.tr_float (.int .i64 0) (by simp only [List.getElem?_toArray, List.getElem?_cons_succ, List.getElem?_cons_zero]; rfl) rfl (by rfl) (fun X _ => by go_simp) ?_
              simp only [Act.put, List.setIfInBounds_toArray, List.set_cons_succ, List.set_cons_zero]
              exact Rd.tr_end (⟨B28, x23, x24, _, _, _, _, _, _, _, _, _, _, _, _, _, _, _, _, _, _, _, _, _, _, _, _, _, _, _, _, _, _, _, _, _, _, _, _, _, _, _, _, rfl, rx23, rx24, P27, nP3P27, P1, P2, P3, rf1, rf2, hB⟩)
            · skip
              go_simp
              have P31 := Pair.new w19 30 (.slice none 0 0) (.slice none 0 0)
              have nP1P31 := P1.lt
              have nP2P31 := P2.lt
              have nP3P31 := P3.lt
              have gP31 := hB.size
              have hb : Below w19.heap.size w19 (w19.alloc (.cells #[.slice none 0 0, .slice none 0 0] 30)) := (Below.refl _ _).alloc (Nat.le_refl _) _
              replace P1 := P1.below hb
              replace P2 := P2.below hb
              replace P3 := P3.below hb
              replace rf1 := rf1.below hb
              replace rf2 := rf2.below hb
              replace E11 := E11.below hb
              replace rx13 := rx13.below hb
              replace E18 := E18.below hb
              replace rx20 := rx20.below hb
              replace hB := hB.trans (hb.mono hB.size)
              clear hb
              generalize w19.alloc (.cells #[.slice none 0 0, .slice none 0 0] 30) = w33 at P1 P2 P3 rf1 rf2 E11 rx13 E18 rx20 P31 hB ⊢
              generalize w19.heap.size = B32 at nP1P31 nP2P31 nP3P31 P31 gP31 ⊢
              refine hK _ _ ⟨P1, P2, P3⟩ ?_
              clear hK K
              refine Rd.tr_move (by simp only [List.getElem?_toArray, List.getElem?_cons_succ, List.getElem?_cons_zero]; rfl) rfl (by rfl) (fun K hK => ?_)
              have H36 := Lib.hid (of_nat (.slice x13.a x13.n x13.c) (.slice x20.a x20.n x20.c) (a) (b) w33 rx13 rx20 (Nat.le_trans la.out (by omega)) (Nat.le_trans lb.out (by omega)) HNE.out)
              go_simp
              refine H36.out.mono ?_
              rintro e w37 ⟨x34, x35, rfl, rx34, rx35, hb⟩
              clear H36
              replace P1 := P1.below hb
              replace P2 := P2.below hb
              replace P3 := P3.below hb
              replace P31 := P31.below hb
              replace rf1 := rf1.below hb
              replace rf2 := rf2.below hb
              replace E11 := E11.below hb
              replace rx13 := rx13.below hb
              replace E18 := E18.below hb
              replace rx20 := rx20.below hb
              replace hB := hB.trans (hb.mono hB.size)
              clear hb
              have HLx34 : Hid ((L (a / Nat.gcd a b)).length ≤ 4) := Lib.hid (len_div_le la.out)
              have HLx35 : Hid ((L (b / Nat.gcd a b)).length ≤ 4) := Lib.hid (len_div_le lb.out)
              refine hK _ _ ⟨P1, P2, P3⟩ ?_
              clear hK K
              refine Rd.tr_float (.tuple #[.agg #[.slice x34.a x34.n x34.c, .slice x35.a x35.n x35.c], .int .i64 0]) (by simp only [List.getElem?_toArray, List.getElem?_cons_succ, List.getElem?_cons_zero]; rfl) rfl (by rfl) (fun X _ => by go_simp) ?_
              simp only [Act.put, List.setIfInBounds_toArray, List.set_cons_succ, List.set_cons_zero]
              refine Rd.tr_float (.agg #[.slice x34.a x34.n x34.c, .slice x35.a x35.n x35.c]) (by simp only [List.getElem?_toArray, List.getElem?_cons_succ, List.getElem?_cons_zero]; rfl) rfl (by rfl) (fun X _ => by go_simp) ?_
              simp only [Act.put, List.setIfInBounds_toArray, List.set_cons_succ, List.set_cons_zero]
              refine Rd.tr_float (.int .i64 0) (by simp only [List.getElem?_toArray, List.getElem?_cons_succ, List.getElem?_cons_zero]; rfl) rfl (by rfl) (fun X _ => by go_simp) ?_
              simp only [Act.put, List.setIfInBounds_toArray, List.set_cons_succ, List.set_cons_zero]
              refine Rd.tr_move (by simp only [List.getElem?_toArray, List.getElem?_cons_succ, List.getElem?_cons_zero]; rfl) rfl (by rfl) (fun K hK => ?_)
              have c0P31 := P31.c0
              have c1P31 := P31.c1
              have z0P31 := P31.z0
              have z1P31 := P31.z1
              go_simp
              clear c0P31 c1P31 z0P31 z1P31
              replace rf1 := rf1.pset P31 (.slice x34.a x34.n x34.c) (.slice x35.a x35.n x35.c)
              replace rf2 := rf2.pset P31 (.slice x34.a x34.n x34.c) (.slice x35.a x35.n x35.c)
              replace E11 := E11.pset P31 (.slice x34.a x34.n x34.c) (.slice x35.a x35.n x35.c)
              replace rx13 := rx13.pset P31 (.slice x34.a x34.n x34.c) (.slice x35.a x35.n x35.c)
              replace E18 := E18.pset P31 (.slice x34.a x34.n x34.c) (.slice x35.a x35.n x35.c)
              replace rx20 := rx20.pset P31 (.slice x34.a x34.n x34.c) (.slice x35.a x35.n x35.c)
              replace rx34 := rx34.pset P31 (.slice x34.a x34.n x34.c) (.slice x35.a x35.n x35.c)
              replace rx35 := rx35.pset P31 (.slice x34.a x34.n x34.c) (.slice x35.a x35.n x35.c)
              replace P1 := P1.other (B := B32) (Nat.ne_of_lt nP1P31) (.slice x34.a x34.n x34.c) (.slice x35.a x35.n x35.c)
              replace P2 := P2.other (B := B32) (Nat.ne_of_lt nP2P31) (.slice x34.a x34.n x34.c) (.slice x35.a x35.n x35.c)
              replace P3 := P3.other (B := B32) (Nat.ne_of_lt nP3P31) (.slice x34.a x34.n x34.c) (.slice x35.a x35.n x35.c)
              replace hB := Below.pset (B := B32) hB gP31 (.slice x34.a x34.n x34.c) (.slice x35.a x35.n x35.c)
              replace P31 := P31.set (.slice x34.a x34.n x34.c) (.slice x35.a x35.n x35.c)
              generalize (w37.setCell ⟨B32, 0, none⟩ (.slice x34.a x34.n x34.c)).setCell ⟨B32, 1, none⟩ (.slice x35.a x35.n x35.c) = w38 at P1 P2 P3 P31 rf1 rf2 E11 rx13 E18 rx20 rx34 rx35 hB ⊢
              refine hK _ _ ⟨P1, P2, P3⟩ ?_
              clear hK K
              refine Rd.tr_float (.int .i64 0) (by simp only [List.getElem?_toArray, List.getElem?_cons_succ, List.getElem?_cons_zero]; rfl) rfl (by rfl) (fun X _ => by go_simp) ?_
              simp only [Act.put, List.setIfInBounds_toArray, List.set_cons_succ, List.set_cons_zero]
              exact Rd.tr_end (⟨B32, x34, x35, _, _, _, _, _, _, _, _, _, _, _, _, _, _, _, _, _, _, _, _, _, _, _, _, _, _, _, _, _, _, _, _, _, _, _, _, _, _, _, _, rfl, rx34, rx35, P31, nP3P31, P1, P2, P3, rf1, rf2, hB⟩)
          · skip
            go_simp
            have P39 := Pair.new w17 30 (.slice none 0 0) (.slice none 0 0)
            have nP1P39 := P1.lt
            have nP2P39 := P2.lt
            have nP3P39 := P3.lt
            have gP39 := hB.size
            have hb : Below w17.heap.size w17 (w17.alloc (.cells #[.slice none 0 0, .slice none 0 0] 30)) := (Below.refl _ _).alloc (Nat.le_refl _) _
            replace P1 := P1.below hb
            replace P2 := P2.below hb
            replace P3 := P3.below hb
            replace rf1 := rf1.below hb
            replace rf2 := rf2.below hb
            replace E11 := E11.below hb
            replace rx13 := rx13.below hb
            replace E18 := E18.below hb
            replace hB := hB.trans (hb.mono hB.size)
            clear hb
            generalize w17.alloc (.cells #[.slice none 0 0, .slice none 0 0] 30) = w41 at P1 P2 P3 rf1 rf2 E11 rx13 E18 P39 hB ⊢
            generalize w17.heap.size = B40 at nP1P39 nP2P39 nP3P39 P39 gP39 ⊢
            refine hK _ _ ⟨P1, P2, P3⟩ ?_
            clear hK K
            refine Rd.tr_move (by simp only [List.getElem?_toArray, List.getElem?_cons_succ, List.getElem?_cons_zero]; rfl) rfl (by rfl) (fun K hK => ?_)
            obtain ⟨v44, w42, H45, rx43, hb⟩ := copied_gen w41 B16 E18 (.slice f2.a f2.n f2.c) (L b) rf2 (Nat.le_trans lb.out (by omega)) 28
            refine wp_append _ _ 28 22 rfl (.slice (some ⟨B16, 0, none⟩) 0 0) (.slice f2.a f2.n f2.c) v44 w42 (by rfl) (by rfl) H45 ?_
            clear H45
            simp only [Act.put, List.setIfInBounds_toArray, List.set_cons_succ, List.set_cons_zero]
            replace P1 := P1.below hb
            replace P2 := P2.below hb
            replace P3 := P3.below hb
            replace P39 := P39.below hb
            replace rf1 := rf1.below hb
            replace rf2 := rf2.below hb
            replace E11 := E11.below hb
            replace rx13 := rx13.below hb
            replace E18 := E18.below hb
            replace hB := hB.trans (hb.mono hB.size)
            clear hb
            obtain ⟨x43, rfl, rx43⟩ := rx43.sl
            refine hK _ _ ⟨P1, P2, P3⟩ ?_
            clear hK K
            refine Rd.tr_move (by simp only [List.getElem?_toArray, List.getElem?_cons_succ, List.getElem?_cons_zero]; rfl) rfl (by rfl) (fun K hK => ?_)
            have H48 := Lib.hid (of_nat (.slice x13.a x13.n x13.c) (.slice x43.a x43.n x43.c) (a) (b) w42 rx13 rx43 (Nat.le_trans la.out (by omega)) (Nat.le_trans lb.out (by omega)) HNE.out)
            go_simp
            refine H48.out.mono ?_
            rintro e w49 ⟨x46, x47, rfl, rx46, rx47, hb⟩
            clear H48
            replace P1 := P1.below hb
            replace P2 := P2.below hb
            replace P3 := P3.below hb
            replace P39 := P39.below hb
            replace rf1 := rf1.below hb
            replace rf2 := rf2.below hb
            replace E11 := E11.below hb
            replace rx13 := rx13.below hb
            replace E18 := E18.below hb
            replace rx43 := rx43.below hb
            replace hB := hB.trans (hb.mono hB.size)
            clear hb
            have HLx46 : Hid ((L (a / Nat.gcd a b)).length ≤ 4) := Lib.hid (len_div_le la.out)
            have HLx47 : Hid ((L (b / Nat.gcd a b)).length ≤ 4) := Lib.hid (len_div_le lb.out)
            refine hK _ _ ⟨P1, P2, P3⟩ ?_
            clear hK K
            refine Rd.tr_float (.tuple #[.agg #[.slice x46.a x46.n x46.c, .slice x47.a x47.n x47.c], .int .i64 0]) (by simp only [List.getElem?_toArray, List.getElem?_cons_succ, List.getElem?_cons_zero]; rfl) rfl (by rfl) (fun X _ => by go_simp) ?_
            simp only [Act.put, List.setIfInBounds_toArray, List.set_cons_succ, List.set_cons_zero]
            refine Rd.tr_float (.agg #[.slice x46.a x46.n x46.c, .slice x47.a x47.n x47.c]) (by simp only [List.getElem?_toArray, List.getElem?_cons_succ, List.getElem?_cons_zero]; rfl) rfl (by rfl) (fun X _ => by go_simp) ?_
            simp only [Act.put, List.setIfInBounds_toArray, List.set_cons_succ, List.set_cons_zero]
            refine Rd.tr_float (.int .i64 0) (by simp only [List.getElem?_toArray, List.getElem?_cons_succ, List.getElem?_cons_zero]; rfl) rfl (by rfl) (fun X _ => by go_simp) ?_
            simp only [Act.put, List.setIfInBounds_toArray, List.set_cons_succ, List.set_cons_zero]
            refine Rd.tr_move (by simp only [List.getElem?_toArray, List.getElem?_cons_succ, List.getElem?_cons_zero]; rfl) rfl (by rfl) (fun K hK => ?_)
            have c0P39 := P39.c0
            have c1P39 := P39.c1
            have z0P39 := P39.z0
            have z1P39 := P39.z1
            go_simp
            clear c0P39 c1P39 z0P39 z1P39
            replace rf1 := rf1.pset P39 (.slice x46.a x46.n x46.c) (.slice x47.a x47.n x47.c)
            replace rf2 := rf2.pset P39 (.slice x46.a x46.n x46.c) (.slice x47.a x47.n x47.c)
            replace E11 := E11.pset P39 (.slice x46.a x46.n x46.c) (.slice x47.a x47.n x47.c)
            replace rx13 := rx13.pset P39 (.slice x46.a x46.n x46.c) (.slice x47.a x47.n x47.c)
            replace E18 := E18.pset P39 (.slice x46.a x46.n x46.c) (.slice x47.a x47.n x47.c)
            replace rx43 := rx43.pset P39 (.slice x46.a x46.n x46.c) (.slice x47.a x47.n x47.c)
            replace rx46 := rx46.pset P39 (.slice x46.a x46.n x46.c) (.slice x47.a x47.n x47.c)
            replace rx47 := rx47.pset P39 (.slice x46.a x46.n x46.c) (.slice x47.a x47.n x47.c)
            replace P1 := P1.other (B := B40) (Nat.ne_of_lt nP1P39) (.slice x46.a x46.n x46.c) (.slice x47.a x47.n x47.c)
            replace P2 := P2.other (B := B40) (Nat.ne_of_lt nP2P39) (.slice x46.a x46.n x46.c) (.slice x47.a x47.n x47.c)
            replace P3 := P3.other (B := B40) (Nat.ne_of_lt nP3P39) (.slice x46.a x46.n x46.c) (.slice x47.a x47.n x47.c)
            replace hB := Below.pset (B := B40) hB gP39 (.slice x46.a x46.n x46.c) (.slice x47.a x47.n x47.c)
            replace P39 := P39.set (.slice x46.a x46.n x46.c) (.slice x47.a x47.n x47.c)
            generalize (w49.setCell ⟨B40, 0, none⟩ (.slice x46.a x46.n x46.c)).setCell ⟨B40, 1, none⟩ (.slice x47.a x47.n x47.c) = w50 at P1 P2 P3 P39 rf1 rf2 E11 rx13 E18 rx43 rx46 rx47 hB ⊢
            refine hK _ _ ⟨P1, P2, P3⟩ ?_
            clear hK K
            refine Rd.tr_float (.int .i64 0) (by simp only [List.getElem?_toArray, List.getElem?_cons_succ, List.getElem?_cons_zero]; rfl) rfl (by rfl) (fun X _ => by go_simp) ?_
            simp only [Act.put, List.setIfInBounds_toArray, List.set_cons_succ, List.set_cons_zero]
            exact Rd.tr_end (⟨B40, x46, x47, _, _, _, _, _, _, _, _, _, _, _, _, _, _, _, _, _, _, _, _, _, _, _, _, _, _, _, _, _, _, _, _, _, _, _, _, _, _, _, _, rfl, rx46, rx47, P39, nP3P39, P1, P2, P3, rf1, rf2, hB⟩)
        · skip
          go_simp
          have P51 := Pair.new w12 30 (.slice none 0 0) (.slice none 0 0)
          have nP1P51 := P1.lt
          have nP2P51 := P2.lt
          have nP3P51 := P3.lt
          have gP51 := hB.size
          have hb : Below w12.heap.size w12 (w12.alloc (.cells #[.slice none 0 0, .slice none 0 0] 30)) := (Below.refl _ _).alloc (Nat.le_refl _) _
          replace P1 := P1.below hb
          replace P2 := P2.below hb
          replace P3 := P3.below hb
          replace rf1 := rf1.below hb
          replace rf2 := rf2.below hb
          replace E11 := E11.below hb
          replace rx13 := rx13.below hb
          replace hB := hB.trans (hb.mono hB.size)
          clear hb
          generalize w12.alloc (.cells #[.slice none 0 0, .slice none 0 0] 30) = w53 at P1 P2 P3 rf1 rf2 E11 rx13 P51 hB ⊢
          generalize w12.heap.size = B52 at nP1P51 nP2P51 nP3P51 P51 gP51 ⊢
          refine hK _ _ ⟨P1, P2, P3⟩ ?_
          clear hK K
          refine Rd.tr_move (by simp only [List.getElem?_toArray, List.getElem?_cons_succ, List.getElem?_cons_zero]; rfl) rfl (by rfl) (fun K hK => ?_)
          go_simp
          have hb : Below w53.heap.size w53 (w53.alloc (.cells #[] 64)) := (Below.refl _ _).alloc (Nat.le_refl _) _
          have E56 : Emp (w53.alloc (.cells #[] 64)) w53.heap.size := World.alloc_heap_new _ _
          have gE56 := hB.size
          replace P1 := P1.below hb
          replace P2 := P2.below hb
          replace P3 := P3.below hb
          replace P51 := P51.below hb
          replace rf1 := rf1.below hb
          replace rf2 := rf2.below hb
          replace E11 := E11.below hb
          replace rx13 := rx13.below hb
          replace hB := hB.trans (hb.mono hB.size)
          clear hb
          generalize w53.alloc (.cells #[] 64) = w55 at P1 P2 P3 P51 rf1 rf2 E11 rx13 E56 hB ⊢
          generalize w53.heap.size = B54 at gE56 E56 ⊢
          refine hK _ _ ⟨P1, P2, P3⟩ ?_
          clear hK K
          refine Rd.tr_move (by simp only [List.getElem?_toArray, List.getElem?_cons_succ, List.getElem?_cons_zero]; rfl) rfl (by rfl) (fun K hK => ?_)
          obtain ⟨v59, w57, H60, rx58, hb⟩ := copied_gen w55 B54 E56 (.slice f2.a f2.n f2.c) (L b) rf2 (Nat.le_trans lb.out (by omega)) 28
          refine wp_append _ _ 28 22 rfl (.slice (some ⟨B54, 0, none⟩) 0 0) (.slice f2.a f2.n f2.c) v59 w57 (by rfl) (by rfl) H60 ?_
          clear H60
          simp only [Act.put, List.setIfInBounds_toArray, List.set_cons_succ, List.set_cons_zero]
          replace P1 := P1.below hb
          replace P2 := P2.below hb
          replace P3 := P3.below hb
          replace P51 := P51.below hb
          replace rf1 := rf1.below hb
          replace rf2 := rf2.below hb
          replace E11 := E11.below hb
          replace rx13 := rx13.below hb
          replace E56 := E56.below hb
          replace hB := hB.trans (hb.mono hB.size)
          clear hb
          obtain ⟨x58, rfl, rx58⟩ := rx58.sl
          refine hK _ _ ⟨P1, P2, P3⟩ ?_
          clear hK K
          refine Rd.tr_move (by simp only [List.getElem?_toArray, List.getElem?_cons_succ, List.getElem?_cons_zero]; rfl) rfl (by rfl) (fun K hK => ?_)
          have H63 := Lib.hid (of_nat (.slice x13.a x13.n x13.c) (.slice x58.a x58.n x58.c) (a) (b) w57 rx13 rx58 (Nat.le_trans la.out (by omega)) (Nat.le_trans lb.out (by omega)) HNE.out)
          go_simp
          refine H63.out.mono ?_
          rintro e w64 ⟨x61, x62, rfl, rx61, rx62, hb⟩
          clear H63
          replace P1 := P1.below hb
          replace P2 := P2.below hb
          replace P3 := P3.below hb
          replace P51 := P51.below hb
          replace rf1 := rf1.below hb
          replace rf2 := rf2.below hb
          replace E11 := E11.below hb
          replace rx13 := rx13.below hb
          replace E56 := E56.below hb
          replace rx58 := rx58.below hb
          replace hB := hB.trans (hb.mono hB.size)
          clear hb
          have HLx61 : Hid ((L (a / Nat.gcd a b)).length ≤ 4) := Lib.hid (len_div_le la.out)
          have HLx62 : Hid ((L (b / Nat.gcd a b)).length ≤ 4) := Lib.hid (len_div_le lb.out)
          refine hK _ _ ⟨P1, P2, P3⟩ ?_
          clear hK K
          refine Rd.tr_float (.tuple #[.agg #[.slice x61.a x61.n x61.c, .slice x62.a x62.n x62.c], .int .i64 0]) (by simp only [List.getElem?_toArray, List.getElem?_cons_succ, List.getElem?_cons_zero]; rfl) rfl (by rfl) (fun X _ => by go_simp) ?_
          simp only [Act.put, List.setIfInBounds_toArray, List.set_cons_succ, List.set_cons_zero]
          refine Rd.tr_float (.agg #[.slice x61.a x61.n x61.c, .slice x62.a x62.n x62.c]) (by simp only [List.getElem?_toArray, List.getElem?_cons_succ, List.getElem?_cons_zero]; rfl) rfl (by rfl) (fun X _ => by go_simp) ?_
          simp only [Act.put, List.setIfInBounds_toArray, List.set_cons_succ, List.set_cons_zero]
          refine Rd.tr_float (.int .i64 0) (by simp only [List.getElem?_toArray, List.getElem?_cons_succ, List.getElem?_cons_zero]; rfl) rfl (by rfl) (fun X _ => by go_simp) ?_
          simp only [Act.put, List.setIfInBounds_toArray, List.set_cons_succ, List.set_cons_zero]
          refine Rd.tr_move (by simp only [List.getElem?_toArray, List.getElem?_cons_succ, List.getElem?_cons_zero]; rfl) rfl (by rfl) (fun K hK => ?_)
          have c0P51 := P51.c0
          have c1P51 := P51.c1
          have z0P51 := P51.z0
          have z1P51 := P51.z1
          go_simp
          clear c0P51 c1P51 z0P51 z1P51
          replace rf1 := rf1.pset P51 (.slice x61.a x61.n x61.c) (.slice x62.a x62.n x62.c)
          replace rf2 := rf2.pset P51 (.slice x61.a x61.n x61.c) (.slice x62.a x62.n x62.c)
          replace E11 := E11.pset P51 (.slice x61.a x61.n x61.c) (.slice x62.a x62.n x62.c)
          replace rx13 := rx13.pset P51 (.slice x61.a x61.n x61.c) (.slice x62.a x62.n x62.c)
          replace E56 := E56.pset P51 (.slice x61.a x61.n x61.c) (.slice x62.a x62.n x62.c)
          replace rx58 := rx58.pset P51 (.slice x61.a x61.n x61.c) (.slice x62.a x62.n x62.c)
          replace rx61 := rx61.pset P51 (.slice x61.a x61.n x61.c) (.slice x62.a x62.n x62.c)
          replace rx62 := rx62.pset P51 (.slice x61.a x61.n x61.c) (.slice x62.a x62.n x62.c)
          replace P1 := P1.other (B := B52) (Nat.ne_of_lt nP1P51) (.slice x61.a x61.n x61.c) (.slice x62.a x62.n x62.c)
          replace P2 := P2.other (B := B52) (Nat.ne_of_lt nP2P51) (.slice x61.a x61.n x61.c) (.slice x62.a x62.n x62.c)
          replace P3 := P3.other (B := B52) (Nat.ne_of_lt nP3P51) (.slice x61.a x61.n x61.c) (.slice x62.a x62.n x62.c)
          replace hB := Below.pset (B := B52) hB gP51 (.slice x61.a x61.n x61.c) (.slice x62.a x62.n x62.c)
          replace P51 := P51.set (.slice x61.a x61.n x61.c) (.slice x62.a x62.n x62.c)
          generalize (w64.setCell ⟨B52, 0, none⟩ (.slice x61.a x61.n x61.c)).setCell ⟨B52, 1, none⟩ (.slice x62.a x62.n x62.c) = w65 at P1 P2 P3 P51 rf1 rf2 E11 rx13 E56 rx58 rx61 rx62 hB ⊢
          refine hK _ _ ⟨P1, P2, P3⟩ ?_
          clear hK K
          refine Rd.tr_float (.int .i64 0) (by simp only [List.getElem?_toArray, List.getElem?_cons_succ, List.getElem?_cons_zero]; rfl) rfl (by rfl) (fun X _ => by go_simp) ?_
          simp only [Act.put, List.setIfInBounds_toArray, List.set_cons_succ, List.set_cons_zero]
          exact Rd.tr_end (⟨B52, x61, x62, _, _, _, _, _, _, _, _, _, _, _, _, _, _, _, _, _, _, _, _, _, _, _, _, _, _, _, _, _, _, _, _, _, _, _, _, _, _, _, _, rfl, rx61, rx62, P51, nP3P51, P1, P2, P3, rf1, rf2, hB⟩)
      · skip
        go_simp
        have hb : Below w10.heap.size w10 (w10.alloc (.cells #[] 64)) := (Below.refl _ _).alloc (Nat.le_refl _) _
        have E68 : Emp (w10.alloc (.cells #[] 64)) w10.heap.size := World.alloc_heap_new _ _
        have gE68 := hB.size
        replace P1 := P1.below hb
        replace P2 := P2.below hb
        replace P3 := P3.below hb
        replace rf1 := rf1.below hb
        replace rf2 := rf2.below hb
        replace E11 := E11.below hb
        replace hB := hB.trans (hb.mono hB.size)
        clear hb
        generalize w10.alloc (.cells #[] 64) = w67 at P1 P2 P3 rf1 rf2 E11 E68 hB ⊢
        generalize w10.heap.size = B66 at gE68 E68 ⊢
        refine hK _ _ ⟨P1, P2, P3⟩ ?_
        clear hK K
        refine Rd.tr_two (by simp only [List.getElem?_toArray, List.getElem?_cons_succ, List.getElem?_cons_zero]; rfl) (by rfl) (by simp only [List.getElem?_toArray, List.getElem?_cons_succ, List.getElem?_cons_zero]; rfl) (by rfl) (fun K hK => ?_) (fun K hK => ?_)
        · skip
          obtain ⟨v71, w69, H72, rx70, hb⟩ := copied_gen w67 B9 E11 (.slice f1.a f1.n f1.c) (L a) rf1 (Nat.le_trans la.out (by omega)) 28
          refine wp_append _ _ 28 22 rfl (.slice (some ⟨B9, 0, none⟩) 0 0) (.slice f1.a f1.n f1.c) v71 w69 (by rfl) (by rfl) H72 ?_
          clear H72
          simp only [Act.put, List.setIfInBounds_toArray, List.set_cons_succ, List.set_cons_zero]
          replace P1 := P1.below hb
          replace P2 := P2.below hb
          replace P3 := P3.below hb
          replace rf1 := rf1.below hb
          replace rf2 := rf2.below hb
          replace E11 := E11.below hb
          replace E68 := E68.below hb
          replace hB := hB.trans (hb.mono hB.size)
          clear hb
          obtain ⟨x70, rfl, rx70⟩ := rx70.sl
          refine hK _ _ ⟨P1, P2, P3⟩ ?_
          clear hK K
          refine Rd.tr_two (by simp only [List.getElem?_toArray, List.getElem?_cons_succ, List.getElem?_cons_zero]; rfl) (by rfl) (by simp only [List.getElem?_toArray, List.getElem?_cons_succ, List.getElem?_cons_zero]; rfl) (by rfl) (fun K hK => ?_) (fun K hK => ?_)
          · skip
            obtain ⟨v75, w73, H76, rx74, hb⟩ := copied_gen w69 B66 E68 (.slice f2.a f2.n f2.c) (L b) rf2 (Nat.le_trans lb.out (by omega)) 28
            refine wp_append _ _ 28 22 rfl (.slice (some ⟨B66, 0, none⟩) 0 0) (.slice f2.a f2.n f2.c) v75 w73 (by rfl) (by rfl) H76 ?_
            clear H76
            simp only [Act.put, List.setIfInBounds_toArray, List.set_cons_succ, List.set_cons_zero]
            replace P1 := P1.below hb
            replace P2 := P2.below hb
            replace P3 := P3.below hb
            replace rf1 := rf1.below hb
            replace rf2 := rf2.below hb
            replace E11 := E11.below hb
            replace E68 := E68.below hb
            replace rx70 := rx70.below hb
            replace hB := hB.trans (hb.mono hB.size)
            clear hb
            obtain ⟨x74, rfl, rx74⟩ := rx74.sl
            refine hK _ _ ⟨P1, P2, P3⟩ ?_
            clear hK K
            refine Rd.tr_two (by simp only [List.getElem?_toArray, List.getElem?_cons_succ, List.getElem?_cons_zero]; rfl) (by rfl) (by simp only [List.getElem?_toArray, List.getElem?_cons_succ, List.getElem?_cons_zero]; rfl) (by rfl) (fun K hK => ?_) (fun K hK => ?_)
            · skip
              have H79 := Lib.hid (of_nat (.slice x70.a x70.n x70.c) (.slice x74.a x74.n x74.c) (a) (b) w73 rx70 rx74 (Nat.le_trans la.out (by omega)) (Nat.le_trans lb.out (by omega)) HNE.out)
              go_simp
              refine H79.out.mono ?_
              rintro e w80 ⟨x77, x78, rfl, rx77, rx78, hb⟩
              clear H79
              replace P1 := P1.below hb
              replace P2 := P2.below hb
              replace P3 := P3.below hb
              replace rf1 := rf1.below hb
              replace rf2 := rf2.below hb
              replace E11 := E11.below hb
              replace E68 := E68.below hb
              replace rx70 := rx70.below hb
              replace rx74 := rx74.below hb
              replace hB := hB.trans (hb.mono hB.size)
              clear hb
              have HLx77 : Hid ((L (a / Nat.gcd a b)).length ≤ 4) := Lib.hid (len_div_le la.out)
              have HLx78 : Hid ((L (b / Nat.gcd a b)).length ≤ 4) := Lib.hid (len_div_le lb.out)
              refine hK _ _ ⟨P1, P2, P3⟩ ?_
              clear hK K
              refine Rd.tr_float (.tuple #[.agg #[.slice x77.a x77.n x77.c, .slice x78.a x78.n x78.c], .int .i64 0]) (by simp only [List.getElem?_toArray, List.getElem?_cons_succ, List.getElem?_cons_zero]; rfl) rfl (by rfl) (fun X _ => by go_simp) ?_
              simp only [Act.put, List.setIfInBounds_toArray, List.set_cons_succ, List.set_cons_zero]
              refine Rd.tr_float (.agg #[.slice x77.a x77.n x77.c, .slice x78.a x78.n x78.c]) (by simp only [List.getElem?_toArray, List.getElem?_cons_succ, List.getElem?_cons_zero]; rfl) rfl (by rfl) (fun X _ => by go_simp) ?_
              simp only [Act.put, List.setIfInBounds_toArray, List.set_cons_succ, List.set_cons_zero]
              refine Rd.tr_float (.int .i64 0) (by simp only [List.getElem?_toArray, List.getElem?_cons_succ, List.getElem?_cons_zero]; rfl) rfl (by rfl) (fun X _ => by go_simp) ?_
              simp only [Act.put, List.setIfInBounds_toArray, List.set_cons_succ, List.set_cons_zero]
              refine Rd.tr_move (by simp only [List.getElem?_toArray, List.getElem?_cons_succ, List.getElem?_cons_zero]; rfl) rfl (by rfl) (fun K hK => ?_)
              go_simp
              have P81 := Pair.new w80 30 (.slice none 0 0) (.slice none 0 0)
              have nP1P81 := P1.lt
              have nP2P81 := P2.lt
              have nP3P81 := P3.lt
              have gP81 := hB.size
              have hb : Below w80.heap.size w80 (w80.alloc (.cells #[.slice none 0 0, .slice none 0 0] 30)) := (Below.refl _ _).alloc (Nat.le_refl _) _
              replace P1 := P1.below hb
              replace P2 := P2.below hb
              replace P3 := P3.below hb
              replace rf1 := rf1.below hb
              replace rf2 := rf2.below hb
              replace E11 := E11.below hb
              replace E68 := E68.below hb
              replace rx70 := rx70.below hb
              replace rx74 := rx74.below hb
              replace rx77 := rx77.below hb
              replace rx78 := rx78.below hb
              replace hB := hB.trans (hb.mono hB.size)
              clear hb
              generalize w80.alloc (.cells #[.slice none 0 0, .slice none 0 0] 30) = w83 at P1 P2 P3 rf1 rf2 E11 E68 rx70 rx74 rx77 rx78 P81 hB ⊢
              generalize w80.heap.size = B82 at nP1P81 nP2P81 nP3P81 P81 gP81 ⊢
              refine hK _ _ ⟨P1, P2, P3⟩ ?_
              clear hK K
              refine Rd.tr_move (by simp only [List.getElem?_toArray, List.getElem?_cons_succ, List.getElem?_cons_zero]; rfl) rfl (by rfl) (fun K hK => ?_)
              have c0P81 := P81.c0
              have c1P81 := P81.c1
              have z0P81 := P81.z0
              have z1P81 := P81.z1
              go_simp
              clear c0P81 c1P81 z0P81 z1P81
              replace rf1 := rf1.pset P81 (.slice x77.a x77.n x77.c) (.slice x78.a x78.n x78.c)
              replace rf2 := rf2.pset P81 (.slice x77.a x77.n x77.c) (.slice x78.a x78.n x78.c)
              replace E11 := E11.pset P81 (.slice x77.a x77.n x77.c) (.slice x78.a x78.n x78.c)
              replace E68 := E68.pset P81 (.slice x77.a x77.n x77.c) (.slice x78.a x78.n x78.c)
              replace rx70 := rx70.pset P81 (.slice x77.a x77.n x77.c) (.slice x78.a x78.n x78.c)
              replace rx74 := rx74.pset P81 (.slice x77.a x77.n x77.c) (.slice x78.a x78.n x78.c)
              replace rx77 := rx77.pset P81 (.slice x77.a x77.n x77.c) (.slice x78.a x78.n x78.c)
              replace rx78 := rx78.pset P81 (.slice x77.a x77.n x77.c) (.slice x78.a x78.n x78.c)
              replace P1 := P1.other (B := B82) (Nat.ne_of_lt nP1P81) (.slice x77.a x77.n x77.c) (.slice x78.a x78.n x78.c)
              replace P2 := P2.other (B := B82) (Nat.ne_of_lt nP2P81) (.slice x77.a x77.n x77.c) (.slice x78.a x78.n x78.c)
              replace P3 := P3.other (B := B82) (Nat.ne_of_lt nP3P81) (.slice x77.a x77.n x77.c) (.slice x78.a x78.n x78.c)
              replace hB := Below.pset (B := B82) hB gP81 (.slice x77.a x77.n x77.c) (.slice x78.a x78.n x78.c)
              replace P81 := P81.set (.slice x77.a x77.n x77.c) (.slice x78.a x78.n x78.c)
              generalize (w83.setCell ⟨B82, 0, none⟩ (.slice x77.a x77.n x77.c)).setCell ⟨B82, 1, none⟩ (.slice x78.a x78.n x78.c) = w84 at P1 P2 P3 P81 rf1 rf2 E11 E68 rx70 rx74 rx77 rx78 hB ⊢
              refine hK _ _ ⟨P1, P2, P3⟩ ?_
              clear hK K
              refine Rd.tr_float (.int .i64 0) (by simp only [List.getElem?_toArray, List.getElem?_cons_succ, List.getElem?_cons_zero]; rfl) rfl (by rfl) (fun X _ => by go_simp) ?_
              simp only [Act.put, List.setIfInBounds_toArray, List.set_cons_succ, List.set_cons_zero]
              exact Rd.tr_end (⟨B82, x77, x78, _, _, _, _, _, _, _, _, _, _, _, _, _, _, _, _, _, _, _, _, _, _, _, _, _, _, _, _, _, _, _, _, _, _, _, _, _, _, _, _, rfl, rx77, rx78, P81, nP3P81, P1, P2, P3, rf1, rf2, hB⟩)
            · skip
              go_simp
              have P85 := Pair.new w73 30 (.slice none 0 0) (.slice none 0 0)
              have nP1P85 := P1.lt
              have nP2P85 := P2.lt
              have nP3P85 := P3.lt
              have gP85 := hB.size
              have hb : Below w73.heap.size w73 (w73.alloc (.cells #[.slice none 0 0, .slice none 0 0] 30)) := (Below.refl _ _).alloc (Nat.le_refl _) _
              replace P1 := P1.below hb
              replace P2 := P2.below hb
              replace P3 := P3.below hb
              replace rf1 := rf1.below hb
              replace rf2 := rf2.below hb
              replace E11 := E11.below hb
              replace E68 := E68.below hb
              replace rx70 := rx70.below hb
              replace rx74 := rx74.below hb
              replace hB := hB.trans (hb.mono hB.size)
              clear hb
              generalize w73.alloc (.cells #[.slice none 0 0, .slice none 0 0] 30) = w87 at P1 P2 P3 rf1 rf2 E11 E68 rx70 rx74 P85 hB ⊢
              generalize w73.heap.size = B86 at nP1P85 nP2P85 nP3P85 P85 gP85 ⊢
              refine hK _ _ ⟨P1, P2, P3⟩ ?_
              clear hK K
              refine Rd.tr_move (by simp only [List.getElem?_toArray, List.getElem?_cons_succ, List.getElem?_cons_zero]; rfl) rfl (by rfl) (fun K hK => ?_)
              have H90 := Lib.hid (of_nat (.slice x70.a x70.n x70.c) (.slice x74.a x74.n x74.c) (a) (b) w87 rx70 rx74 (Nat.le_trans la.out (by omega)) (Nat.le_trans lb.out (by omega)) HNE.out)
              go_simp
              refine H90.out.mono ?_
              rintro e w91 ⟨x88, x89, rfl, rx88, rx89, hb⟩
              clear H90
              replace P1 := P1.below hb
              replace P2 := P2.below hb
              replace P3 := P3.below hb
              replace P85 := P85.below hb
              replace rf1 := rf1.below hb
              replace rf2 := rf2.below hb
              replace E11 := E11.below hb
              replace E68 := E68.below hb
              replace rx70 := rx70.below hb
              replace rx74 := rx74.below hb
              replace hB := hB.trans (hb.mono hB.size)
              clear hb
              have HLx88 : Hid ((L (a / Nat.gcd a b)).length ≤ 4) := Lib.hid (len_div_le la.out)
              have HLx89 : Hid ((L (b / Nat.gcd a b)).length ≤ 4) := Lib.hid (len_div_le lb.out)
              refine hK _ _ ⟨P1, P2, P3⟩ ?_
              clear hK K
              refine Rd.tr_float (.tuple #[.agg #[.slice x88.a x88.n x88.c, .slice x89.a x89.n x89.c], .int .i64 0]) (by simp only [List.getElem?_toArray, List.getElem?_cons_succ, List.getElem?_cons_zero]; rfl) rfl (by rfl) (fun X _ => by go_simp) ?_
              simp only [Act.put, List.setIfInBounds_toArray, List.set_cons_succ, List.set_cons_zero]
              refine Rd.tr_float (.agg #[.slice x88.a x88.n x88.c, .slice x89.a x89.n x89.c]) (by simp only [List.getElem?_toArray, List.getElem?_cons_succ, List.getElem?_cons_zero]; rfl) rfl (by rfl) (fun X _ => by go_simp) ?_
              simp only [Act.put, List.setIfInBounds_toArray, List.set_cons_succ, List.set_cons_zero]
              refine Rd.tr_float (.int .i64 0) (by simp only [List.getElem?_toArray, List.getElem?_cons_succ, List.getElem?_cons_zero]; rfl) rfl (by rfl) (fun X _ => by go_simp) ?_
              simp only [Act.put, List.setIfInBounds_toArray, List.set_cons_succ, List.set_cons_zero]
              refine Rd.tr_move (by simp only [List.getElem?_toArray, List.getElem?_cons_succ, List.getElem?_cons_zero]; rfl) rfl (by rfl) (fun K hK => ?_)
              have c0P85 := P85.c0
              have c1P85 := P85.c1
              have z0P85 := P85.z0
              have z1P85 := P85.z1
              go_simp
              clear c0P85 c1P85 z0P85 z1P85
              replace rf1 := rf1.pset P85 (.slice x88.a x88.n x88.c) (.slice x89.a x89.n x89.c)
              replace rf2 := rf2.pset P85 (.slice x88.a x88.n x88.c) (.slice x89.a x89.n x89.c)
              replace E11 := E11.pset P85 (.slice x88.a x88.n x88.c) (.slice x89.a x89.n x89.c)
              replace E68 := E68.pset P85 (.slice x88.a x88.n x88.c) (.slice x89.a x89.n x89.c)
              replace rx70 := rx70.pset P85 (.slice x88.a x88.n x88.c) (.slice x89.a x89.n x89.c)
              replace rx74 := rx74.pset P85 (.slice x88.a x88.n x88.c) (.slice x89.a x89.n x89.c)
              replace rx88 := rx88.pset P85 (.slice x88.a x88.n x88.c) (.slice x89.a x89.n x89.c)
              replace rx89 := rx89.pset P85 (.slice x88.a x88.n x88.c) (.slice x89.a x89.n x89.c)
              replace P1 := P1.other (B := B86) (Nat.ne_of_lt nP1P85) (.slice x88.a x88.n x88.c) (.slice x89.a x89.n x89.c)
              replace P2 := P2.other (B := B86) (Nat.ne_of_lt nP2P85) (.slice x88.a x88.n x88.c) (.slice x89.a x89.n x89.c)
              replace P3 := P3.other (B := B86) (Nat.ne_of_lt nP3P85) (.slice x88.a x88.n x88.c) (.slice x89.a x89.n x89.c)
              replace hB := Below.pset (B := B86) hB gP85 (.slice x88.a x88.n x88.c) (.slice x89.a x89.n x89.c)
              replace P85 := P85.set (.slice x88.a x88.n x88.c) (.slice x89.a x89.n x89.c)
              generalize (w91.setCell ⟨B86, 0, none⟩ (.slice x88.a x88.n x88.c)).setCell ⟨B86, 1, none⟩ (.slice x89.a x89.n x89.c) = w92 at P1 P2 P3 P85 rf1 rf2 E11 E68 rx70 rx74 rx88 rx89 hB ⊢
              refine hK _ _ ⟨P1, P2, P3⟩ ?_
              clear hK K
              refine Rd.tr_float (.int .i64 0) (by simp only [List.getElem?_toArray, List.getElem?_cons_succ, List.getElem?_cons_zero]; rfl) rfl (by rfl) (fun X _ => by go_simp) ?_
              simp only [Act.put, List.setIfInBounds_toArray, List.set_cons_succ, List.set_cons_zero]
              exact Rd.tr_end (⟨B86, x88, x89, _, _, _, _, _, _, _, _, _, _, _, _, _, _, _, _, _, _, _, _, _, _, _, _, _, _, _, _, _, _, _, _, _, _, _, _, _, _, _, _, rfl, rx88, rx89, P85, nP3P85, P1, P2, P3, rf1, rf2, hB⟩)
          · skip
            go_simp
            have P93 := Pair.new w69 30 (.slice none 0 0) (.slice none 0 0)
            have nP1P93 := P1.lt
            have nP2P93 := P2.lt
            have nP3P93 := P3.lt
            have gP93 := hB.size
            have hb : Below w69.heap.size w69 (w69.alloc (.cells #[.slice none 0 0, .slice none 0 0] 30)) := (Below.refl _ _).alloc (Nat.le_refl _) _
            replace P1 := P1.below hb
            replace P2 := P2.below hb
            replace P3 := P3.below hb
            replace rf1 := rf1.below hb
            replace rf2 := rf2.below hb
            replace E11 := E11.below hb
            replace E68 := E68.below hb
            replace rx70 := rx70.below hb
            replace hB := hB.trans (hb.mono hB.size)
            clear hb
            generalize w69.alloc (.cells #[.slice none 0 0, .slice none 0 0] 30) = w95 at P1 P2 P3 rf1 rf2 E11 E68 rx70 P93 hB ⊢
            generalize w69.heap.size = B94 at nP1P93 nP2P93 nP3P93 P93 gP93 ⊢
            refine hK _ _ ⟨P1, P2, P3⟩ ?_
            clear hK K
            refine Rd.tr_move (by simp only [List.getElem?_toArray, List.getElem?_cons_succ, List.getElem?_cons_zero]; rfl) rfl (by rfl) (fun K hK => ?_)
            obtain ⟨v98, w96, H99, rx97, hb⟩ := copied_gen w95 B66 E68 (.slice f2.a f2.n f2.c) (L b) rf2 (Nat.le_trans lb.out (by omega)) 28
            refine wp_append _ _ 28 22 rfl (.slice (some ⟨B66, 0, none⟩) 0 0) (.slice f2.a f2.n f2.c) v98 w96 (by rfl) (by rfl) H99 ?_
            clear H99
            simp only [Act.put, List.setIfInBounds_toArray, List.set_cons_succ, List.set_cons_zero]
            replace P1 := P1.below hb
            replace P2 := P2.below hb
            replace P3 := P3.below hb
            replace P93 := P93.below hb
            replace rf1 := rf1.below hb
            replace rf2 := rf2.below hb
            replace E11 := E11.below hb
            replace E68 := E68.below hb
            replace rx70 := rx70.below hb
            replace hB := hB.trans (hb.mono hB.size)
            clear hb
            obtain ⟨x97, rfl, rx97⟩ := rx97.sl
            refine hK _ _ ⟨P1, P2, P3⟩ ?_
            clear hK K
            refine Rd.tr_move (by simp only [List.getElem?_toArray, List.getElem?_cons_succ, List.getElem?_cons_zero]; rfl) rfl (by rfl) (fun K hK => ?_)
            have H102 := Lib.hid (of_nat (.slice x70.a x70.n x70.c) (.slice x97.a x97.n x97.c) (a) (b) w96 rx70 rx97 (Nat.le_trans la.out (by omega)) (Nat.le_trans lb.out (by omega)) HNE.out)
            go_simp
            refine H102.out.mono ?_
            rintro e w103 ⟨x100, x101, rfl, rx100, rx101, hb⟩
            clear H102
            replace P1 := P1.below hb
            replace P2 := P2.below hb
            replace P3 := P3.below hb
            replace P93 := P93.below hb
            replace rf1 := rf1.below hb
            replace rf2 := rf2.below hb
            replace E11 := E11.below hb
            replace E68 := E68.below hb
            replace rx70 := rx70.below hb
            replace rx97 := rx97.below hb
            replace hB := hB.trans (hb.mono hB.size)
            clear hb
            have HLx100 : Hid ((L (a / Nat.gcd a b)).length ≤ 4) := Lib.hid (len_div_le la.out)
            have HLx101 : Hid ((L (b / Nat.gcd a b)).length ≤ 4) := Lib.hid (len_div_le lb.out)
            refine hK _ _ ⟨P1, P2, P3⟩ ?_
            clear hK K
            refine Rd.tr_float (.tuple #[.agg #[.slice x100.a x100.n x100.c, .slice x101.a x101.n x101.c], .int .i64 0]) (by simp only [List.getElem?_toArray, List.getElem?_cons_succ, List.getElem?_cons_zero]; rfl) rfl (by rfl) (fun X _ => by go_simp) ?_
            simp only [Act.put, List.setIfInBounds_toArray, List.set_cons_succ, List.set_cons_zero]
            refine Rd.tr_float (.agg #[.slice x100.a x100.n x100.c, .slice x101.a x101.n x101.c]) (by simp only [List.getElem?_toArray, List.getElem?_cons_succ, List.getElem?_cons_zero]; rfl) rfl (by rfl) (fun X _ => by go_simp) ?_
            simp only [Act.put, List.setIfInBounds_toArray, List.set_cons_succ, List.set_cons_zero]
            refine Rd.tr_float (.int .i64 0) (by simp only [List.getElem?_toArray, List.getElem?_cons_succ, List.getElem?_cons_zero]; rfl) rfl (by rfl) (fun X _ => by go_simp) ?_
            simp only [Act.put, List.setIfInBounds_toArray, List.set_cons_succ, List.set_cons_zero]
            refine Rd.tr_move (by simp only [List.getElem?_toArray, List.getElem?_cons_succ, List.getElem?_cons_zero]; rfl) rfl (by rfl) (fun K hK => ?_)
            have c0P93 := P93.c0
            have c1P93 := P93.c1
            have z0P93 := P93.z0
            have z1P93 := P93.z1
            go_simp
            clear c0P93 c1P93 z0P93 z1P93
            replace rf1 := rf1.pset P93 (.slice x100.a x100.n x100.c) (.slice x101.a x101.n x101.c)
            replace rf2 := rf2.pset P93 (.slice x100.a x100.n x100.c) (.slice x101.a x101.n x101.c)
            replace E11 := E11.pset P93 (.slice x100.a x100.n x100.c) (.slice x101.a x101.n x101.c)
            replace E68 := E68.pset P93 (.slice x100.a x100.n x100.c) (.slice x101.a x101.n x101.c)
            replace rx70 := rx70.pset P93 (.slice x100.a x100.n x100.c) (.slice x101.a x101.n x101.c)
            replace rx97 := rx97.pset P93 (.slice x100.a x100.n x100.c) (.slice x101.a x101.n x101.c)
            replace rx100 := rx100.pset P93 (.slice x100.a x100.n x100.c) (.slice x101.a x101.n x101.c)
            replace rx101 := rx101.pset P93 (.slice x100.a x100.n x100.c) (.slice x101.a x101.n x101.c)
            replace P1 := P1.other (B := B94) (Nat.ne_of_lt nP1P93) (.slice x100.a x100.n x100.c) (.slice x101.a x101.n x101.c)
            replace P2 := P2.other (B := B94) (Nat.ne_of_lt nP2P93) (.slice x100.a x100.n x100.c) (.slice x101.a x101.n x101.c)
            replace P3 := P3.other (B := B94) (Nat.ne_of_lt nP3P93) (.slice x100.a x100.n x100.c) (.slice x101.a x101.n x101.c)
            replace hB := Below.pset (B := B94) hB gP93 (.slice x100.a x100.n x100.c) (.slice x101.a x101.n x101.c)
            replace P93 := P93.set (.slice x100.a x100.n x100.c) (.slice x101.a x101.n x101.c)
            generalize (w103.setCell ⟨B94, 0, none⟩ (.slice x100.a x100.n x100.c)).setCell ⟨B94, 1, none⟩ (.slice x101.a x101.n x101.c) = w104 at P1 P2 P3 P93 rf1 rf2 E11 E68 rx70 rx97 rx100 rx101 hB ⊢
            refine hK _ _ ⟨P1, P2, P3⟩ ?_
            clear hK K
            refine Rd.tr_float (.int .i64 0) (by simp only [List.getElem?_toArray, List.getElem?_cons_succ, List.getElem?_cons_zero]; rfl) rfl (by rfl) (fun X _ => by go_simp) ?_
            simp only [Act.put, List.setIfInBounds_toArray, List.set_cons_succ, List.set_cons_zero]
            exact Rd.tr_end (⟨B94, x100, x101, _, _, _, _, _, _, _, _, _, _, _, _, _, _, _, _, _, _, _, _, _, _, _, _, _, _, _, _, _, _, _, _, _, _, _, _, _, _, _, _, rfl, rx100, rx101, P93, nP3P93, P1, P2, P3, rf1, rf2, hB⟩)
        · skip
          go_simp
          have P105 := Pair.new w67 30 (.slice none 0 0) (.slice none 0 0)
          have nP1P105 := P1.lt
          have nP2P105 := P2.lt
          have nP3P105 := P3.lt
          have gP105 := hB.size
          have hb : Below w67.heap.size w67 (w67.alloc (.cells #[.slice none 0 0, .slice none 0 0] 30)) := (Below.refl _ _).alloc (Nat.le_refl _) _
          replace P1 := P1.below hb
          replace P2 := P2.below hb
          replace P3 := P3.below hb
          replace rf1 := rf1.below hb
          replace rf2 := rf2.below hb
          replace E11 := E11.below hb
          replace E68 := E68.below hb
          replace hB := hB.trans (hb.mono hB.size)
          clear hb
          generalize w67.alloc (.cells #[.slice none 0 0, .slice none 0 0] 30) = w107 at P1 P2 P3 rf1 rf2 E11 E68 P105 hB ⊢
          generalize w67.heap.size = B106 at nP1P105 nP2P105 nP3P105 P105 gP105 ⊢
          refine hK _ _ ⟨P1, P2, P3⟩ ?_
          clear hK K
          refine Rd.tr_move (by simp only [List.getElem?_toArray, List.getElem?_cons_succ, List.getElem?_cons_zero]; rfl) rfl (by rfl) (fun K hK => ?_)
          obtain ⟨v110, w108, H111, rx109, hb⟩ := copied_gen w107 B9 E11 (.slice f1.a f1.n f1.c) (L a) rf1 (Nat.le_trans la.out (by omega)) 28
          refine wp_append _ _ 28 22 rfl (.slice (some ⟨B9, 0, none⟩) 0 0) (.slice f1.a f1.n f1.c) v110 w108 (by rfl) (by rfl) H111 ?_
          clear H111
          simp only [Act.put, List.setIfInBounds_toArray, List.set_cons_succ, List.set_cons_zero]
          replace P1 := P1.below hb
          replace P2 := P2.below hb
          replace P3 := P3.below hb
          replace P105 := P105.below hb
          replace rf1 := rf1.below hb
          replace rf2 := rf2.below hb
          replace E11 := E11.below hb
          replace E68 := E68.below hb
          replace hB := hB.trans (hb.mono hB.size)
          clear hb
          obtain ⟨x109, rfl, rx109⟩ := rx109.sl
          refine hK _ _ ⟨P1, P2, P3⟩ ?_
          clear hK K
          refine Rd.tr_move (by simp only [List.getElem?_toArray, List.getElem?_cons_succ, List.getElem?_cons_zero]; rfl) rfl (by rfl) (fun K hK => ?_)
          obtain ⟨v114, w112, H115, rx113, hb⟩ := copied_gen w108 B66 E68 (.slice f2.a f2.n f2.c) (L b) rf2 (Nat.le_trans lb.out (by omega)) 28
          refine wp_append _ _ 28 22 rfl (.slice (some ⟨B66, 0, none⟩) 0 0) (.slice f2.a f2.n f2.c) v114 w112 (by rfl) (by rfl) H115 ?_
          clear H115
          simp only [Act.put, List.setIfInBounds_toArray, List.set_cons_succ, List.set_cons_zero]
          replace P1 := P1.below hb
          replace P2 := P2.below hb
          replace P3 := P3.below hb
          replace P105 := P105.below hb
          replace rf1 := rf1.below hb
          replace rf2 := rf2.below hb
          replace E11 := E11.below hb
          replace E68 := E68.below hb
          replace rx109 := rx109.below hb
          replace hB := hB.trans (hb.mono hB.size)
          clear hb
          obtain ⟨x113, rfl, rx113⟩ := rx113.sl
          refine hK _ _ ⟨P1, P2, P3⟩ ?_
          clear hK K
          refine Rd.tr_move (by simp only [List.getElem?_toArray, List.getElem?_cons_succ, List.getElem?_cons_zero]; rfl) rfl (by rfl) (fun K hK => ?_)
          have H118 := Lib.hid (of_nat (.slice x109.a x109.n x109.c) (.slice x113.a x113.n x113.c) (a) (b) w112 rx109 rx113 (Nat.le_trans la.out (by omega)) (Nat.le_trans lb.out (by omega)) HNE.out)
          go_simp
          refine H118.out.mono ?_
          rintro e w119 ⟨x116, x117, rfl, rx116, rx117, hb⟩
          clear H118
          replace P1 := P1.below hb
          replace P2 := P2.below hb
          replace P3 := P3.below hb
          replace P105 := P105.below hb
          replace rf1 := rf1.below hb
          replace rf2 := rf2.below hb
          replace E11 := E11.below hb
          replace E68 := E68.below hb
          replace rx109 := rx109.below hb
          replace rx113 := rx113.below hb
          replace hB := hB.trans (hb.mono hB.size)
          clear hb
          have HLx116 : Hid ((L (a / Nat.gcd a b)).length ≤ 4) := Lib.hid (len_div_le la.out)
          have HLx117 : Hid ((L (b / Nat.gcd a b)).length ≤ 4) := Lib.hid (len_div_le lb.out)
          refine hK _ _ ⟨P1, P2, P3⟩ ?_
          clear hK K
          refine Rd.tr_float (.tuple #[.agg #[.slice x116.a x116.n x116.c, .slice x117.a x117.n x117.c], .int .i64 0]) (by simp only [List.getElem?_toArray, List.getElem?_cons_succ, List.getElem?_cons_zero]; rfl) rfl (by rfl) (fun X _ => by go_simp) ?_
          simp only [Act.put, List.setIfInBounds_toArray, List.set_cons_succ, List.set_cons_zero]
          refine Rd.tr_float (.agg #[.slice x116.a x116.n x116.c, .slice x117.a x117.n x117.c]) (by simp only [List.getElem?_toArray, List.getElem?_cons_succ, List.getElem?_cons_zero]; rfl) rfl (by rfl) (fun X _ => by go_simp) ?_
          simp only [Act.put, List.setIfInBounds_toArray, List.set_cons_succ, List.set_cons_zero]
          refine Rd.tr_float (.int .i64 0) (by simp only [List.getElem?_toArray, List.getElem?_cons_succ, List.getElem?_cons_zero]; rfl) rfl (by rfl) (fun X _ => by go_simp) ?_
          simp only [Act.put, List.setIfInBounds_toArray, List.set_cons_succ, List.set_cons_zero]
          refine Rd.tr_move (by simp only [List.getElem?_toArray, List.getElem?_cons_succ, List.getElem?_cons_zero]; rfl) rfl (by rfl) (fun K hK => ?_)
          have c0P105 := P105.c0
          have c1P105 := P105.c1
          have z0P105 := P105.z0
          have z1P105 := P105.z1
          go_simp
          clear c0P105 c1P105 z0P105 z1P105
          replace rf1 := rf1.pset P105 (.slice x116.a x116.n x116.c) (.slice x117.a x117.n x117.c)
          replace rf2 := rf2.pset P105 (.slice x116.a x116.n x116.c) (.slice x117.a x117.n x117.c)
          replace E11 := E11.pset P105 (.slice x116.a x116.n x116.c) (.slice x117.a x117.n x117.c)
          replace E68 := E68.pset P105 (.slice x116.a x116.n x116.c) (.slice x117.a x117.n x117.c)
          replace rx109 := rx109.pset P105 (.slice x116.a x116.n x116.c) (.slice x117.a x117.n x117.c)
          replace rx113 := rx113.pset P105 (.slice x116.a x116.n x116.c) (.slice x117.a x117.n x117.c)
          replace rx116 := rx116.pset P105 (.slice x116.a x116.n x116.c) (.slice x117.a x117.n x117.c)
          replace rx117 := rx117.pset P105 (.slice x116.a x116.n x116.c) (.slice x117.a x117.n x117.c)
          replace P1 := P1.other (B := B106) (Nat.ne_of_lt nP1P105) (.slice x116.a x116.n x116.c) (.slice x117.a x117.n x117.c)
          replace P2 := P2.other (B := B106) (Nat.ne_of_lt nP2P105) (.slice x116.a x116.n x116.c) (.slice x117.a x117.n x117.c)
          replace P3 := P3.other (B := B106) (Nat.ne_of_lt nP3P105) (.slice x116.a x116.n x116.c) (.slice x117.a x117.n x117.c)
          replace hB := Below.pset (B := B106) hB gP105 (.slice x116.a x116.n x116.c) (.slice x117.a x117.n x117.c)
          replace P105 := P105.set (.slice x116.a x116.n x116.c) (.slice x117.a x117.n x117.c)
          generalize (w119.setCell ⟨B106, 0, none⟩ (.slice x116.a x116.n x116.c)).setCell ⟨B106, 1, none⟩ (.slice x117.a x117.n x117.c) = w120 at P1 P2 P3 P105 rf1 rf2 E11 E68 rx109 rx113 rx116 rx117 hB ⊢
          refine hK _ _ ⟨P1, P2, P3⟩ ?_
          clear hK K
          refine Rd.tr_float (.int .i64 0) (by simp only [List.getElem?_toArray, List.getElem?_cons_succ, List.getElem?_cons_zero]; rfl) rfl (by rfl) (fun X _ => by go_simp) ?_
          simp only [Act.put, List.setIfInBounds_toArray, List.set_cons_succ, List.set_cons_zero]
          exact Rd.tr_end (⟨B106, x116, x117, _, _, _, _, _, _, _, _, _, _, _, _, _, _, _, _, _, _, _, _, _, _, _, _, _, _, _, _, _, _, _, _, _, _, _, _, _, _, _, _, rfl, rx116, rx117, P105, nP3P105, P1, P2, P3, rf1, rf2, hB⟩)
      · skip
        go_simp
        have P121 := Pair.new w10 30 (.slice none 0 0) (.slice none 0 0)
        have nP1P121 := P1.lt
        have nP2P121 := P2.lt
        have nP3P121 := P3.lt
        have gP121 := hB.size
        have hb : Below w10.heap.size w10 (w10.alloc (.cells #[.slice none 0 0, .slice none 0 0] 30)) := (Below.refl _ _).alloc (Nat.le_refl _) _
        replace P1 := P1.below hb
        replace P2 := P2.below hb
        replace P3 := P3.below hb
        replace rf1 := rf1.below hb
        replace rf2 := rf2.below hb
        replace E11 := E11.below hb
        replace hB := hB.trans (hb.mono hB.size)
        clear hb
        generalize w10.alloc (.cells #[.slice none 0 0, .slice none 0 0] 30) = w123 at P1 P2 P3 rf1 rf2 E11 P121 hB ⊢
        generalize w10.heap.size = B122 at nP1P121 nP2P121 nP3P121 P121 gP121 ⊢
        refine hK _ _ ⟨P1, P2, P3⟩ ?_
        clear hK K
        refine Rd.tr_two (by simp only [List.getElem?_toArray, List.getElem?_cons_succ, List.getElem?_cons_zero]; rfl) (by rfl) (by simp only [List.getElem?_toArray, List.getElem?_cons_succ, List.getElem?_cons_zero]; rfl) (by rfl) (fun K hK => ?_) (fun K hK => ?_)
        · skip
          obtain ⟨v126, w124, H127, rx125, hb⟩ := copied_gen w123 B9 E11 (.slice f1.a f1.n f1.c) (L a) rf1 (Nat.le_trans la.out (by omega)) 28
          refine wp_append _ _ 28 22 rfl (.slice (some ⟨B9, 0, none⟩) 0 0) (.slice f1.a f1.n f1.c) v126 w124 (by rfl) (by rfl) H127 ?_
          clear H127
          simp only [Act.put, List.setIfInBounds_toArray, List.set_cons_succ, List.set_cons_zero]
          replace P1 := P1.below hb
          replace P2 := P2.below hb
          replace P3 := P3.below hb
          replace P121 := P121.below hb
          replace rf1 := rf1.below hb
          replace rf2 := rf2.below hb
          replace E11 := E11.below hb
          replace hB := hB.trans (hb.mono hB.size)
          clear hb
          obtain ⟨x125, rfl, rx125⟩ := rx125.sl
          refine hK _ _ ⟨P1, P2, P3⟩ ?_
          clear hK K
          refine Rd.tr_move (by simp only [List.getElem?_toArray, List.getElem?_cons_succ, List.getElem?_cons_zero]; rfl) rfl (by rfl) (fun K hK => ?_)
          go_simp
          have hb : Below w124.heap.size w124 (w124.alloc (.cells #[] 64)) := (Below.refl _ _).alloc (Nat.le_refl _) _
          have E130 : Emp (w124.alloc (.cells #[] 64)) w124.heap.size := World.alloc_heap_new _ _
          have gE130 := hB.size
          replace P1 := P1.below hb
          replace P2 := P2.below hb
          replace P3 := P3.below hb
          replace P121 := P121.below hb
          replace rf1 := rf1.below hb
          replace rf2 := rf2.below hb
          replace E11 := E11.below hb
          replace rx125 := rx125.below hb
          replace hB := hB.trans (hb.mono hB.size)
          clear hb
          generalize w124.alloc (.cells #[] 64) = w129 at P1 P2 P3 P121 rf1 rf2 E11 rx125 E130 hB ⊢
          generalize w124.heap.size = B128 at gE130 E130 ⊢
          refine hK _ _ ⟨P1, P2, P3⟩ ?_
          clear hK K
          refine Rd.tr_move (by simp only [List.getElem?_toArray, List.getElem?_cons_succ, List.getElem?_cons_zero]; rfl) rfl (by rfl) (fun K hK => ?_)
          obtain ⟨v133, w131, H134, rx132, hb⟩ := copied_gen w129 B128 E130 (.slice f2.a f2.n f2.c) (L b) rf2 (Nat.le_trans lb.out (by omega)) 28
          refine wp_append _ _ 28 22 rfl (.slice (some ⟨B128, 0, none⟩) 0 0) (.slice f2.a f2.n f2.c) v133 w131 (by rfl) (by rfl) H134 ?_
          clear H134
          simp only [Act.put, List.setIfInBounds_toArray, List.set_cons_succ, List.set_cons_zero]
          replace P1 := P1.below hb
          replace P2 := P2.below hb
          replace P3 := P3.below hb
          replace P121 := P121.below hb
          replace rf1 := rf1.below hb
          replace rf2 := rf2.below hb
          replace E11 := E11.below hb
          replace rx125 := rx125.below hb
          replace E130 := E130.below hb
          replace hB := hB.trans (hb.mono hB.size)
          clear hb
          obtain ⟨x132, rfl, rx132⟩ := rx132.sl
          refine hK _ _ ⟨P1, P2, P3⟩ ?_
          clear hK K
          refine Rd.tr_move (by simp only [List.getElem?_toArray, List.getElem?_cons_succ, List.getElem?_cons_zero]; rfl) rfl (by rfl) (fun K hK => ?_)
          have H137 := Lib.hid (of_nat (.slice x125.a x125.n x125.c) (.slice x132.a x132.n x132.c) (a) (b) w131 rx125 rx132 (Nat.le_trans la.out (by omega)) (Nat.le_trans lb.out (by omega)) HNE.out)
          go_simp
          refine H137.out.mono ?_
          rintro e w138 ⟨x135, x136, rfl, rx135, rx136, hb⟩
          clear H137
          replace P1 := P1.below hb
          replace P2 := P2.below hb
          replace P3 := P3.below hb
          replace P121 := P121.below hb
          replace rf1 := rf1.below hb
          replace rf2 := rf2.below hb
          replace E11 := E11.below hb
          replace rx125 := rx125.below hb
          replace E130 := E130.below hb
          replace rx132 := rx132.below hb
          replace hB := hB.trans (hb.mono hB.size)
          clear hb
          have HLx135 : Hid ((L (a / Nat.gcd a b)).length ≤ 4) := Lib.hid (len_div_le la.out)
          have HLx136 : Hid ((L (b / Nat.gcd a b)).length ≤ 4) := Lib.hid (len_div_le lb.out)
          refine hK _ _ ⟨P1, P2, P3⟩ ?_
          clear hK K
          refine Rd.tr_float (.tuple #[.agg #[.slice x135.a x135.n x135.c, .slice x136.a x136.n x136.c], .int .i64 0]) (by simp only [List.getElem?_toArray, List.getElem?_cons_succ, List.getElem?_cons_zero]; rfl) rfl (by rfl) (fun X _ => by go_simp) ?_
          simp only [Act.put, List.setIfInBounds_toArray, List.set_cons_succ, List.set_cons_zero]
          refine Rd.tr_float (.agg #[.slice x135.a x135.n x135.c, .slice x136.a x136.n x136.c]) (by simp only [List.getElem?_toArray, List.getElem?_cons_succ, List.getElem?_cons_zero]; rfl) rfl (by rfl) (fun X _ => by go_simp) ?_
          simp only [Act.put, List.setIfInBounds_toArray, List.set_cons_succ, List.set_cons_zero]
          refine Rd.tr_float (.int .i64 0) (by simp only [List.getElem?_toArray, List.getElem?_cons_succ, List.getElem?_cons_zero]; rfl) rfl (by rfl) (fun X _ => by go_simp) ?_
          simp only [Act.put, List.setIfInBounds_toArray, List.set_cons_succ, List.set_cons_zero]
          refine Rd.tr_move (by simp only [List.getElem?_toArray, List.getElem?_cons_succ, List.getElem?_cons_zero]; rfl) rfl (by rfl) (fun K hK => ?_)
          have c0P121 := P121.c0
          have c1P121 := P121.c1
          have z0P121 := P121.z0
          have z1P121 := P121.z1
          go_simp
          clear c0P121 c1P121 z0P121 z1P121
          replace rf1 := rf1.pset P121 (.slice x135.a x135.n x135.c) (.slice x136.a x136.n x136.c)
          replace rf2 := rf2.pset P121 (.slice x135.a x135.n x135.c) (.slice x136.a x136.n x136.c)
          replace E11 := E11.pset P121 (.slice x135.a x135.n x135.c) (.slice x136.a x136.n x136.c)
          replace rx125 := rx125.pset P121 (.slice x135.a x135.n x135.c) (.slice x136.a x136.n x136.c)
          replace E130 := E130.pset P121 (.slice x135.a x135.n x135.c) (.slice x136.a x136.n x136.c)
          replace rx132 := rx132.pset P121 (.slice x135.a x135.n x135.c) (.slice x136.a x136.n x136.c)
          replace rx135 := rx135.pset P121 (.slice x135.a x135.n x135.c) (.slice x136.a x136.n x136.c)
          replace rx136 := rx136.pset P121 (.slice x135.a x135.n x135.c) (.slice x136.a x136.n x136.c)
          replace P1 := P1.other (B := B122) (Nat.ne_of_lt nP1P121) (.slice x135.a x135.n x135.c) (.slice x136.a x136.n x136.c)
          replace P2 := P2.other (B := B122) (Nat.ne_of_lt nP2P121) (.slice x135.a x135.n x135.c) (.slice x136.a x136.n x136.c)
          replace P3 := P3.other (B := B122) (Nat.ne_of_lt nP3P121) (.slice x135.a x135.n x135.c) (.slice x136.a x136.n x136.c)
          replace hB := Below.pset (B := B122) hB gP121 (.slice x135.a x135.n x135.c) (.slice x136.a x136.n x136.c)
          replace P121 := P121.set (.slice x135.a x135.n x135.c) (.slice x136.a x136.n x136.c)
          generalize (w138.setCell ⟨B122, 0, none⟩ (.slice x135.a x135.n x135.c)).setCell ⟨B122, 1, none⟩ (.slice x136.a x136.n x136.c) = w139 at P1 P2 P3 P121 rf1 rf2 E11 rx125 E130 rx132 rx135 rx136 hB ⊢
          refine hK _ _ ⟨P1, P2, P3⟩ ?_
          clear hK K
          refine Rd.tr_float (.int .i64 0) (by simp only [List.getElem?_toArray, List.getElem?_cons_succ, List.getElem?_cons_zero]; rfl) rfl (by rfl) (fun X _ => by go_simp) ?_
          simp only [Act.put, List.setIfInBounds_toArray, List.set_cons_succ, List.set_cons_zero]
          exact Rd.tr_end (⟨B122, x135, x136, _, _, _, _, _, _, _, _, _, _, _, _, _, _, _, _, _, _, _, _, _, _, _, _, _, _, _, _, _, _, _, _, _, _, _, _, _, _, _, _, rfl, rx135, rx136, P121, nP3P121, P1, P2, P3, rf1, rf2, hB⟩)
        · skip
          go_simp
          have hb : Below w123.heap.size w123 (w123.alloc (.cells #[] 64)) := (Below.refl _ _).alloc (Nat.le_refl _) _
          have E142 : Emp (w123.alloc (.cells #[] 64)) w123.heap.size := World.alloc_heap_new _ _
          have gE142 := hB.size
          replace P1 := P1.below hb
          replace P2 := P2.below hb
          replace P3 := P3.below hb
          replace P121 := P121.below hb
          replace rf1 := rf1.below hb
          replace rf2 := rf2.below hb
          replace E11 := E11.below hb
          replace hB := hB.trans (hb.mono hB.size)
          clear hb
          generalize w123.alloc (.cells #[] 64) = w141 at P1 P2 P3 P121 rf1 rf2 E11 E142 hB ⊢
          generalize w123.heap.size = B140 at gE142 E142 ⊢
          refine hK _ _ ⟨P1, P2, P3⟩ ?_
          clear hK K
          refine Rd.tr_move (by simp only [List.getElem?_toArray, List.getElem?_cons_succ, List.getElem?_cons_zero]; rfl) rfl (by rfl) (fun K hK => ?_)
          obtain ⟨v145, w143, H146, rx144, hb⟩ := copied_gen w141 B9 E11 (.slice f1.a f1.n f1.c) (L a) rf1 (Nat.le_trans la.out (by omega)) 28
          refine wp_append _ _ 28 22 rfl (.slice (some ⟨B9, 0, none⟩) 0 0) (.slice f1.a f1.n f1.c) v145 w143 (by rfl) (by rfl) H146 ?_
          clear H146
          simp only [Act.put, List.setIfInBounds_toArray, List.set_cons_succ, List.set_cons_zero]
          replace P1 := P1.below hb
          replace P2 := P2.below hb
          replace P3 := P3.below hb
          replace P121 := P121.below hb
          replace rf1 := rf1.below hb
          replace rf2 := rf2.below hb
          replace E11 := E11.below hb
          replace E142 := E142.below hb
          replace hB := hB.trans (hb.mono hB.size)
          clear hb
          obtain ⟨x144, rfl, rx144⟩ := rx144.sl
          refine hK _ _ ⟨P1, P2, P3⟩ ?_
          clear hK K
          refine Rd.tr_move (by simp only [List.getElem?_toArray, List.getElem?_cons_succ, List.getElem?_cons_zero]; rfl) rfl (by rfl) (fun K hK => ?_)
          obtain ⟨v149, w147, H150, rx148, hb⟩ := copied_gen w143 B140 E142 (.slice f2.a f2.n f2.c) (L b) rf2 (Nat.le_trans lb.out (by omega)) 28
          refine wp_append _ _ 28 22 rfl (.slice (some ⟨B140, 0, none⟩) 0 0) (.slice f2.a f2.n f2.c) v149 w147 (by rfl) (by rfl) H150 ?_
          clear H150
          simp only [Act.put, List.setIfInBounds_toArray, List.set_cons_succ, List.set_cons_zero]
          replace P1 := P1.below hb
          replace P2 := P2.below hb
          replace P3 := P3.below hb
          replace P121 := P121.below hb
          replace rf1 := rf1.below hb
          replace rf2 := rf2.below hb
          replace E11 := E11.below hb
          replace E142 := E142.below hb
          replace rx144 := rx144.below hb
          replace hB := hB.trans (hb.mono hB.size)
          clear hb
          obtain ⟨x148, rfl, rx148⟩ := rx148.sl
          refine hK _ _ ⟨P1, P2, P3⟩ ?_
          clear hK K
          refine Rd.tr_move (by simp only [List.getElem?_toArray, List.getElem?_cons_succ, List.getElem?_cons_zero]; rfl) rfl (by rfl) (fun K hK => ?_)
          have H153 := Lib.hid (of_nat (.slice x144.a x144.n x144.c) (.slice x148.a x148.n x148.c) (a) (b) w147 rx144 rx148 (Nat.le_trans la.out (by omega)) (Nat.le_trans lb.out (by omega)) HNE.out)
          go_simp
          refine H153.out.mono ?_
          rintro e w154 ⟨x151, x152, rfl, rx151, rx152, hb⟩
          clear H153
          replace P1 := P1.below hb
          replace P2 := P2.below hb
          replace P3 := P3.below hb
          replace P121 := P121.below hb
          replace rf1 := rf1.below hb
          replace rf2 := rf2.below hb
          replace E11 := E11.below hb
          replace E142 := E142.below hb
          replace rx144 := rx144.below hb
          replace rx148 := rx148.below hb
          replace hB := hB.trans (hb.mono hB.size)
          clear hb
          have HLx151 : Hid ((L (a / Nat.gcd a b)).length ≤ 4) := Lib.hid (len_div_le la.out)
          have HLx152 : Hid ((L (b / Nat.gcd a b)).length ≤ 4) := Lib.hid (len_div_le lb.out)
          refine hK _ _ ⟨P1, P2, P3⟩ ?_
          clear hK K
          refine Rd.tr_float (.tuple #[.agg #[.slice x151.a x151.n x151.c, .slice x152.a x152.n x152.c], .int .i64 0]) (by simp only [List.getElem?_toArray, List.getElem?_cons_succ, List.getElem?_cons_zero]; rfl) rfl (by rfl) (fun X _ => by go_simp) ?_
          simp only [Act.put, List.setIfInBounds_toArray, List.set_cons_succ, List.set_cons_zero]
          refine Rd.tr_float (.agg #[.slice x151.a x151.n x151.c, .slice x152.a x152.n x152.c]) (by simp only [List.getElem?_toArray, List.getElem?_cons_succ, List.getElem?_cons_zero]; rfl) rfl (by rfl) (fun X _ => by go_simp) ?_
          simp only [Act.put, List.setIfInBounds_toArray, List.set_cons_succ, List.set_cons_zero]
          refine Rd.tr_float (.int .i64 0) (by simp only [List.getElem?_toArray, List.getElem?_cons_succ, List.getElem?_cons_zero]; rfl) rfl (by rfl) (fun X _ => by go_simp) ?_
          simp only [Act.put, List.setIfInBounds_toArray, List.set_cons_succ, List.set_cons_zero]
          refine Rd.tr_move (by simp only [List.getElem?_toArray, List.getElem?_cons_succ, List.getElem?_cons_zero]; rfl) rfl (by rfl) (fun K hK => ?_)
          have c0P121 := P121.c0
          have c1P121 := P121.c1
          have z0P121 := P121.z0
          have z1P121 := P121.z1
          go_simp
          clear c0P121 c1P121 z0P121 z1P121
          replace rf1 := rf1.pset P121 (.slice x151.a x151.n x151.c) (.slice x152.a x152.n x152.c)
          replace rf2 := rf2.pset P121 (.slice x151.a x151.n x151.c) (.slice x152.a x152.n x152.c)
          replace E11 := E11.pset P121 (.slice x151.a x151.n x151.c) (.slice x152.a x152.n x152.c)
          replace E142 := E142.pset P121 (.slice x151.a x151.n x151.c) (.slice x152.a x152.n x152.c)
          replace rx144 := rx144.pset P121 (.slice x151.a x151.n x151.c) (.slice x152.a x152.n x152.c)
          replace rx148 := rx148.pset P121 (.slice x151.a x151.n x151.c) (.slice x152.a x152.n x152.c)
          replace rx151 := rx151.pset P121 (.slice x151.a x151.n x151.c) (.slice x152.a x152.n x152.c)
          replace rx152 := rx152.pset P121 (.slice x151.a x151.n x151.c) (.slice x152.a x152.n x152.c)
          replace P1 := P1.other (B := B122) (Nat.ne_of_lt nP1P121) (.slice x151.a x151.n x151.c) (.slice x152.a x152.n x152.c)
          replace P2 := P2.other (B := B122) (Nat.ne_of_lt nP2P121) (.slice x151.a x151.n x151.c) (.slice x152.a x152.n x152.c)
          replace P3 := P3.other (B := B122) (Nat.ne_of_lt nP3P121) (.slice x151.a x151.n x151.c) (.slice x152.a x152.n x152.c)
          replace hB := Below.pset (B := B122) hB gP121 (.slice x151.a x151.n x151.c) (.slice x152.a x152.n x152.c)
          replace P121 := P121.set (.slice x151.a x151.n x151.c) (.slice x152.a x152.n x152.c)
          generalize (w154.setCell ⟨B122, 0, none⟩ (.slice x151.a x151.n x151.c)).setCell ⟨B122, 1, none⟩ (.slice x152.a x152.n x152.c) = w155 at P1 P2 P3 P121 rf1 rf2 E11 E142 rx144 rx148 rx151 rx152 hB ⊢
          refine hK _ _ ⟨P1, P2, P3⟩ ?_
          clear hK K
          refine Rd.tr_float (.int .i64 0) (by simp only [List.getElem?_toArray, List.getElem?_cons_succ, List.getElem?_cons_zero]; rfl) rfl (by rfl) (fun X _ => by go_simp) ?_
          simp only [Act.put, List.setIfInBounds_toArray, List.set_cons_succ, List.set_cons_zero]
          exact Rd.tr_end (⟨B122, x151, x152, _, _, _, _, _, _, _, _, _, _, _, _, _, _, _, _, _, _, _, _, _, _, _, _, _, _, _, _, _, _, _, _, _, _, _, _, _, _, _, _, rfl, rx151, rx152, P121, nP3P121, P1, P2, P3, rf1, rf2, hB⟩)
    · skip
      go_simp
      have hb : Below w8.heap.size w8 (w8.alloc (.cells #[] 64)) := (Below.refl _ _).alloc (Nat.le_refl _) _
      have E158 : Emp (w8.alloc (.cells #[] 64)) w8.heap.size := World.alloc_heap_new _ _
      have gE158 := hB.size
      replace P1 := P1.below hb
      replace P2 := P2.below hb
      replace P3 := P3.below hb
      replace rf1 := rf1.below hb
      replace rf2 := rf2.below hb
      replace hB := hB.trans (hb.mono hB.size)
      clear hb
      generalize w8.alloc (.cells #[] 64) = w157 at P1 P2 P3 rf1 rf2 E158 hB ⊢
      generalize w8.heap.size = B156 at gE158 E158 ⊢
      refine hK _ _ ⟨P1, P2, P3⟩ ?_
      clear hK K
      refine Rd.tr_two (by simp only [List.getElem?_toArray, List.getElem?_cons_zero]; rfl) (by rfl) (by simp only [List.getElem?_toArray, List.getElem?_cons_succ, List.getElem?_cons_zero]; rfl) (by rfl) (fun K hK => ?_) (fun K hK => ?_)
      · skip
        go_simp
        have hb : Below w157.heap.size w157 (w157.alloc (.cells #[] 64)) := (Below.refl _ _).alloc (Nat.le_refl _) _
        have E161 : Emp (w157.alloc (.cells #[] 64)) w157.heap.size := World.alloc_heap_new _ _
        have gE161 := hB.size
        replace P1 := P1.below hb
        replace P2 := P2.below hb
        replace P3 := P3.below hb
        replace rf1 := rf1.below hb
        replace rf2 := rf2.below hb
        replace E158 := E158.below hb
        replace hB := hB.trans (hb.mono hB.size)
        clear hb
        generalize w157.alloc (.cells #[] 64) = w160 at P1 P2 P3 rf1 rf2 E158 E161 hB ⊢
        generalize w157.heap.size = B159 at gE161 E161 ⊢
        refine hK _ _ ⟨P1, P2, P3⟩ ?_
        clear hK K
        refine Rd.tr_two (by simp only [List.getElem?_toArray, List.getElem?_cons_succ, List.getElem?_cons_zero]; rfl) (by rfl) (by simp only [List.getElem?_toArray, List.getElem?_cons_succ, List.getElem?_cons_zero]; rfl) (by rfl) (fun K hK => ?_) (fun K hK => ?_)
        · skip
          obtain ⟨v164, w162, H165, rx163, hb⟩ := copied_gen w160 B159 E161 (.slice f1.a f1.n f1.c) (L a) rf1 (Nat.le_trans la.out (by omega)) 28
          refine wp_append _ _ 28 22 rfl (.slice (some ⟨B159, 0, none⟩) 0 0) (.slice f1.a f1.n f1.c) v164 w162 (by rfl) (by rfl) H165 ?_
          clear H165
          simp only [Act.put, List.setIfInBounds_toArray, List.set_cons_succ, List.set_cons_zero]
          replace P1 := P1.below hb
          replace P2 := P2.below hb
          replace P3 := P3.below hb
          replace rf1 := rf1.below hb
          replace rf2 := rf2.below hb
          replace E158 := E158.below hb
          replace E161 := E161.below hb
          replace hB := hB.trans (hb.mono hB.size)
          clear hb
          obtain ⟨x163, rfl, rx163⟩ := rx163.sl
          refine hK _ _ ⟨P1, P2, P3⟩ ?_
          clear hK K
          refine Rd.tr_two (by simp only [List.getElem?_toArray, List.getElem?_cons_succ, List.getElem?_cons_zero]; rfl) (by rfl) (by simp only [List.getElem?_toArray, List.getElem?_cons_succ, List.getElem?_cons_zero]; rfl) (by rfl) (fun K hK => ?_) (fun K hK => ?_)
          · skip
            obtain ⟨v168, w166, H169, rx167, hb⟩ := copied_gen w162 B156 E158 (.slice f2.a f2.n f2.c) (L b) rf2 (Nat.le_trans lb.out (by omega)) 28
            refine wp_append _ _ 28 22 rfl (.slice (some ⟨B156, 0, none⟩) 0 0) (.slice f2.a f2.n f2.c) v168 w166 (by rfl) (by rfl) H169 ?_
            clear H169
            simp only [Act.put, List.setIfInBounds_toArray, List.set_cons_succ, List.set_cons_zero]
            replace P1 := P1.below hb
            replace P2 := P2.below hb
            replace P3 := P3.below hb
            replace rf1 := rf1.below hb
            replace rf2 := rf2.below hb
            replace E158 := E158.below hb
            replace E161 := E161.below hb
            replace rx163 := rx163.below hb
            replace hB := hB.trans (hb.mono hB.size)
            clear hb
            obtain ⟨x167, rfl, rx167⟩ := rx167.sl
            refine hK _ _ ⟨P1, P2, P3⟩ ?_
            clear hK K
            refine Rd.tr_two (by simp only [List.getElem?_toArray, List.getElem?_cons_succ, List.getElem?_cons_zero]; rfl) (by rfl) (by simp only [List.getElem?_toArray, List.getElem?_cons_succ, List.getElem?_cons_zero]; rfl) (by rfl) (fun K hK => ?_) (fun K hK => ?_)
            · skip
              have H172 := Lib.hid (of_nat (.slice x163.a x163.n x163.c) (.slice x167.a x167.n x167.c) (a) (b) w166 rx163 rx167 (Nat.le_trans la.out (by omega)) (Nat.le_trans lb.out (by omega)) HNE.out)
              go_simp
              refine H172.out.mono ?_
              rintro e w173 ⟨x170, x171, rfl, rx170, rx171, hb⟩
              clear H172
              replace P1 := P1.below hb
              replace P2 := P2.below hb
              replace P3 := P3.below hb
              replace rf1 := rf1.below hb
              replace rf2 := rf2.below hb
              replace E158 := E158.below hb
              replace E161 := E161.below hb
              replace rx163 := rx163.below hb
              replace rx167 := rx167.below hb
              replace hB := hB.trans (hb.mono hB.size)
              clear hb
              have HLx170 : Hid ((L (a / Nat.gcd a b)).length ≤ 4) := Lib.hid (len_div_le la.out)
              have HLx171 : Hid ((L (b / Nat.gcd a b)).length ≤ 4) := Lib.hid (len_div_le lb.out)
              refine hK _ _ ⟨P1, P2, P3⟩ ?_
              clear hK K
              refine Rd.tr_float (.tuple #[.agg #[.slice x170.a x170.n x170.c, .slice x171.a x171.n x171.c], .int .i64 0]) (by simp only [List.getElem?_toArray, List.getElem?_cons_succ, List.getElem?_cons_zero]; rfl) rfl (by rfl) (fun X _ => by go_simp) ?_
              simp only [Act.put, List.setIfInBounds_toArray, List.set_cons_succ, List.set_cons_zero]
              refine Rd.tr_float (.agg #[.slice x170.a x170.n x170.c, .slice x171.a x171.n x171.c]) (by simp only [List.getElem?_toArray, List.getElem?_cons_succ, List.getElem?_cons_zero]; rfl) rfl (by rfl) (fun X _ => by go_simp) ?_
              simp only [Act.put, List.setIfInBounds_toArray, List.set_cons_succ, List.set_cons_zero]
              refine Rd.tr_float (.int .i64 0) (by simp only [List.getElem?_toArray, List.getElem?_cons_succ, List.getElem?_cons_zero]; rfl) rfl (by rfl) (fun X _ => by go_simp) ?_
              simp only [Act.put, List.setIfInBounds_toArray, List.set_cons_succ, List.set_cons_zero]
              refine Rd.tr_move (by simp only [List.getElem?_toArray, List.getElem?_cons_succ, List.getElem?_cons_zero]; rfl) rfl (by rfl) (fun K hK => ?_)
              go_simp
              have P174 := Pair.new w173 30 (.slice none 0 0) (.slice none 0 0)
              have nP1P174 := P1.lt
              have nP2P174 := P2.lt
              have nP3P174 := P3.lt
              have gP174 := hB.size
              have hb : Below w173.heap.size w173 (w173.alloc (.cells #[.slice none 0 0, .slice none 0 0] 30)) := (Below.refl _ _).alloc (Nat.le_refl _) _
              replace P1 := P1.below hb
              replace P2 := P2.below hb
              replace P3 := P3.below hb
              replace rf1 := rf1.below hb
              replace rf2 := rf2.below hb
              replace E158 := E158.below hb
              replace E161 := E161.below hb
              replace rx163 := rx163.below hb
              replace rx167 := rx167.below hb
              replace rx170 := rx170.below hb
              replace rx171 := rx171.below hb
              replace hB := hB.trans (hb.mono hB.size)
              clear hb
              generalize w173.alloc (.cells #[.slice none 0 0, .slice none 0 0] 30) = w176 at P1 P2 P3 rf1 rf2 E158 E161 rx163 rx167 rx170 rx171 P174 hB ⊢
              generalize w173.heap.size = B175 at nP1P174 nP2P174 nP3P174 P174 gP174 ⊢
              refine hK _ _ ⟨P1, P2, P3⟩ ?_
              clear hK K
              refine Rd.tr_move (by simp only [List.getElem?_toArray, List.getElem?_cons_succ, List.getElem?_cons_zero]; rfl) rfl (by rfl) (fun K hK => ?_)
              have c0P174 := P174.c0
              have c1P174 := P174.c1
              have z0P174 := P174.z0
              have z1P174 := P174.z1
              go_simp
              clear c0P174 c1P174 z0P174 z1P174
              replace rf1 := rf1.pset P174 (.slice x170.a x170.n x170.c) (.slice x171.a x171.n x171.c)
              replace rf2 := rf2.pset P174 (.slice x170.a x170.n x170.c) (.slice x171.a x171.n x171.c)
              replace E158 := E158.pset P174 (.slice x170.a x170.n x170.c) (.slice x171.a x171.n x171.c)
              replace E161 := E161.pset P174 (.slice x170.a x170.n x170.c) (.slice x171.a x171.n x171.c)
              replace rx163 := rx163.pset P174 (.slice x170.a x170.n x170.c) (.slice x171.a x171.n x171.c)
              replace rx167 := rx167.pset P174 (.slice x170.a x170.n x170.c) (.slice x171.a x171.n x171.c)
              replace rx170 := rx170.pset P174 (.slice x170.a x170.n x170.c) (.slice x171.a x171.n x171.c)
              replace rx171 := rx171.pset P174 (.slice x170.a x170.n x170.c) (.slice x171.a x171.n x171.c)
              replace P1 := P1.other (B := B175) (Nat.ne_of_lt nP1P174) (.slice x170.a x170.n x170.c) (.slice x171.a x171.n x171.c)
              replace P2 := P2.other (B := B175) (Nat.ne_of_lt nP2P174) (.slice x170.a x170.n x170.c) (.slice x171.a x171.n x171.c)
              replace P3 := P3.other (B := B175) (Nat.ne_of_lt nP3P174) (.slice x170.a x170.n x170.c) (.slice x171.a x171.n x171.c)
              replace hB := Below.pset (B := B175) hB gP174 (.slice x170.a x170.n x170.c) (.slice x171.a x171.n x171.c)
              replace P174 := P174.set (.slice x170.a x170.n x170.c) (.slice x171.a x171.n x171.c)
              generalize (w176.setCell ⟨B175, 0, none⟩ (.slice x170.a x170.n x170.c)).setCell ⟨B175, 1, none⟩ (.slice x171.a x171.n x171.c) = w177 at P1 P2 P3 P174 rf1 rf2 E158 E161 rx163 rx167 rx170 rx171 hB ⊢
              refine hK _ _ ⟨P1, P2, P3⟩ ?_
              clear hK K
              refine Rd.tr_float (.int .i64 0) (by simp only [List.getElem?_toArray, List.getElem?_cons_succ, List.getElem?_cons_zero]; rfl) rfl (by rfl) (fun X _ => by go_simp) ?_
              simp only [Act.put, List.setIfInBounds_toArray, List.set_cons_succ, List.set_cons_zero]
              exact Rd.tr_end (⟨B175, x170, x171, _, _, _, _, _, _, _, _, _, _, _, _, _, _, _, _, _, _, _, _, _, _, _, _, _, _, _, _, _, _, _, _, _, _, _, _, _, _, _, _, rfl, rx170, rx171, P174, nP3P174, P1, P2, P3, rf1, rf2, hB⟩)
            · skip
              go_simp
              have P178 := Pair.new w166 30 (.slice none 0 0) (.slice none 0 0)
              have nP1P178 := P1.lt
              have nP2P178 := P2.lt
              have nP3P178 := P3.lt
              have gP178 := hB.size
              have hb : Below w166.heap.size w166 (w166.alloc (.cells #[.slice none 0 0, .slice none 0 0] 30)) := (Below.refl _ _).alloc (Nat.le_refl _) _
              replace P1 := P1.below hb
              replace P2 := P2.below hb
              replace P3 := P3.below hb
              replace rf1 := rf1.below hb
              replace rf2 := rf2.below hb
              replace E158 := E158.below hb
              replace E161 := E161.below hb
              replace rx163 := rx163.below hb
              replace rx167 := rx167.below hb
              replace hB := hB.trans (hb.mono hB.size)
              clear hb
              generalize w166.alloc (.cells #[.slice none 0 0, .slice none 0 0] 30) = w180 at P1 P2 P3 rf1 rf2 E158 E161 rx163 rx167 P178 hB ⊢
              generalize w166.heap.size = B179 at nP1P178 nP2P178 nP3P178 P178 gP178 ⊢
              refine hK _ _ ⟨P1, P2, P3⟩ ?_
              clear hK K
              refine Rd.tr_move (by simp only [List.getElem?_toArray, List.getElem?_cons_succ, List.getElem?_cons_zero]; rfl) rfl (by rfl) (fun K hK => ?_)
              have H183 := Lib.hid (of_nat (.slice x163.a x163.n x163.c) (.slice x167.a x167.n x167.c) (a) (b) w180 rx163 rx167 (Nat.le_trans la.out (by omega)) (Nat.le_trans lb.out (by omega)) HNE.out)
              go_simp
              refine H183.out.mono ?_
              rintro e w184 ⟨x181, x182, rfl, rx181, rx182, hb⟩
              clear H183
              replace P1 := P1.below hb
              replace P2 := P2.below hb
              replace P3 := P3.below hb
              replace P178 := P178.below hb
              replace rf1 := rf1.below hb
              replace rf2 := rf2.below hb
              replace E158 := E158.below hb
              replace E161 := E161.below hb
              replace rx163 := rx163.below hb
              replace rx167 := rx167.below hb
              replace hB := hB.trans (hb.mono hB.size)
              clear hb
              have HLx181 : Hid ((L (a / Nat.gcd a b)).length ≤ 4) := Lib.hid (len_div_le la.out)
              have HLx182 : Hid ((L (b / Nat.gcd a b)).length ≤ 4) := Lib.hid (len_div_le lb.out)
              refine hK _ _ ⟨P1, P2, P3⟩ ?_
              clear hK K
              refine Rd.tr_float (.tuple #[.agg #[.slice x181.a x181.n x181.c, .slice x182.a x182.n x182.c], .int .i64 0]) (by simp only [List.getElem?_toArray, List.getElem?_cons_succ, List.getElem?_cons_zero]; rfl) rfl (by rfl) (fun X _ => by go_simp) ?_
              simp only [Act.put, List.setIfInBounds_toArray, List.set_cons_succ, List.set_cons_zero]
              refine Rd.tr_float (.agg #[.slice x181.a x181.n x181.c, .slice x182.a x182.n x182.c]) (by simp only [List.getElem?_toArray, List.getElem?_cons_succ, List.getElem?_cons_zero]; rfl) rfl (by rfl) (fun X _ => by go_simp) ?_
              simp only [Act.put, List.setIfInBounds_toArray, List.set_cons_succ, List.set_cons_zero]
              refine Rd.tr_float (.int .i64 0) (by simp only [List.getElem?_toArray, List.getElem?_cons_succ, List.getElem?_cons_zero]; rfl) rfl (by rfl) (fun X _ => by go_simp) ?_
              simp only [Act.put, List.setIfInBounds_toArray, List.set_cons_succ, List.set_cons_zero]
              refine Rd.tr_move (by simp only [List.getElem?_toArray, List.getElem?_cons_succ, List.getElem?_cons_zero]; rfl) rfl (by rfl) (fun K hK => ?_)
              have c0P178 := P178.c0
              have c1P178 := P178.c1
              have z0P178 := P178.z0
              have z1P178 := P178.z1
              go_simp
              clear c0P178 c1P178 z0P178 z1P178
              replace rf1 := rf1.pset P178 (.slice x181.a x181.n x181.c) (.slice x182.a x182.n x182.c)
              replace rf2 := rf2.pset P178 (.slice x181.a x181.n x181.c) (.slice x182.a x182.n x182.c)
              replace E158 := E158.pset P178 (.slice x181.a x181.n x181.c) (.slice x182.a x182.n x182.c)
              replace E161 := E161.pset P178 (.slice x181.a x181.n x181.c) (.slice x182.a x182.n x182.c)
              replace rx163 := rx163.pset P178 (.slice x181.a x181.n x181.c) (.slice x182.a x182.n x182.c)
              replace rx167 := rx167.pset P178 (.slice x181.a x181.n x181.c) (.slice x182.a x182.n x182.c)
              replace rx181 := rx181.pset P178 (.slice x181.a x181.n x181.c) (.slice x182.a x182.n x182.c)
              replace rx182 := rx182.pset P178 (.slice x181.a x181.n x181.c) (.slice x182.a x182.n x182.c)
              replace P1 := P1.other (B := B179) (Nat.ne_of_lt nP1P178) (.slice x181.a x181.n x181.c) (.slice x182.a x182.n x182.c)
              replace P2 := P2.other (B := B179) (Nat.ne_of_lt nP2P178) (.slice x181.a x181.n x181.c) (.slice x182.a x182.n x182.c)
              replace P3 := P3.other (B := B179) (Nat.ne_of_lt nP3P178) (.slice x181.a x181.n x181.c) (.slice x182.a x182.n x182.c)
              replace hB := Below.pset (B := B179) hB gP178 (.slice x181.a x181.n x181.c) (.slice x182.a x182.n x182.c)
              replace P178 := P178.set (.slice x181.a x181.n x181.c) (.slice x182.a x182.n x182.c)
              generalize (w184.setCell ⟨B179, 0, none⟩ (.slice x181.a x181.n x181.c)).setCell ⟨B179, 1, none⟩ (.slice x182.a x182.n x182.c) = w185 at P1 P2 P3 P178 rf1 rf2 E158 E161 rx163 rx167 rx181 rx182 hB ⊢
              refine hK _ _ ⟨P1, P2, P3⟩ ?_
              clear hK K
              refine Rd.tr_float (.int .i64 0) (by simp only [List.getElem?_toArray, List.getElem?_cons_succ, List.getElem?_cons_zero]; rfl) rfl (by rfl) (fun X _ => by go_simp) ?_
              simp only [Act.put, List.setIfInBounds_toArray, List.set_cons_succ, List.set_cons_zero]
              exact Rd.tr_end (⟨B179, x181, x182, _, _, _, _, _, _, _, _, _, _, _, _, _, _, _, _, _, _, _, _, _, _, _, _, _, _, _, _, _, _, _, _, _, _, _, _, _, _, _, _, rfl, rx181, rx182, P178, nP3P178, P1, P2, P3, rf1, rf2, hB⟩)
          · skip
            go_simp
            have P186 := Pair.new w162 30 (.slice none 0 0) (.slice none 0 0)
            have nP1P186 := P1.lt
            have nP2P186 := P2.lt
            have nP3P186 := P3.lt
            have gP186 := hB.size
            have hb : Below w162.heap.size w162 (w162.alloc (.cells #[.slice none 0 0, .slice none 0 0] 30)) := (Below.refl _ _).alloc (Nat.le_refl _) _
            replace P1 := P1.below hb
            replace P2 := P2.below hb
            replace P3 := P3.below hb
            replace rf1 := rf1.below hb
            replace rf2 := rf2.below hb
            replace E158 := E158.below hb
            replace E161 := E161.below hb
            replace rx163 := rx163.below hb
            replace hB := hB.trans (hb.mono hB.size)
            clear hb
            generalize w162.alloc (.cells #[.slice none 0 0, .slice none 0 0] 30) = w188 at P1 P2 P3 rf1 rf2 E158 E161 rx163 P186 hB ⊢
            generalize w162.heap.size = B187 at nP1P186 nP2P186 nP3P186 P186 gP186 ⊢
            refine hK _ _ ⟨P1, P2, P3⟩ ?_
            clear hK K
            refine Rd.tr_move (by simp only [List.getElem?_toArray, List.getElem?_cons_succ, List.getElem?_cons_zero]; rfl) rfl (by rfl) (fun K hK => ?_)
            obtain ⟨v191, w189, H192, rx190, hb⟩ := copied_gen w188 B156 E158 (.slice f2.a f2.n f2.c) (L b) rf2 (Nat.le_trans lb.out (by omega)) 28
            refine wp_append _ _ 28 22 rfl (.slice (some ⟨B156, 0, none⟩) 0 0) (.slice f2.a f2.n f2.c) v191 w189 (by rfl) (by rfl) H192 ?_
            clear H192
            simp only [Act.put, List.setIfInBounds_toArray, List.set_cons_succ, List.set_cons_zero]
            replace P1 := P1.below hb
            replace P2 := P2.below hb
            replace P3 := P3.below hb
            replace P186 := P186.below hb
            replace rf1 := rf1.below hb
            replace rf2 := rf2.below hb
            replace E158 := E158.below hb
            replace E161 := E161.below hb
            replace rx163 := rx163.below hb
            replace hB := hB.trans (hb.mono hB.size)
            clear hb
            obtain ⟨x190, rfl, rx190⟩ := rx190.sl
            refine hK _ _ ⟨P1, P2, P3⟩ ?_
            clear hK K
            refine Rd.tr_move (by simp only [List.getElem?_toArray, List.getElem?_cons_succ, List.getElem?_cons_zero]; rfl) rfl (by rfl) (fun K hK => ?_)
            have H195 := Lib.hid (of_nat (.slice x163.a x163.n x163.c) (.slice x190.a x190.n x190.c) (a) (b) w189 rx163 rx190 (Nat.le_trans la.out (by omega)) (Nat.le_trans lb.out (by omega)) HNE.out)
            go_simp
            refine H195.out.mono ?_
            rintro e w196 ⟨x193, x194, rfl, rx193, rx194, hb⟩
            clear H195
            replace P1 := P1.below hb
            replace P2 := P2.below hb
            replace P3 := P3.below hb
            replace P186 := P186.below hb
            replace rf1 := rf1.below hb
            replace rf2 := rf2.below hb
            replace E158 := E158.below hb
            replace E161 := E161.below hb
            replace rx163 := rx163.below hb
            replace rx190 := rx190.below hb
            replace hB := hB.trans (hb.mono hB.size)
            clear hb
            have HLx193 : Hid ((L (a / Nat.gcd a b)).length ≤ 4) := Lib.hid (len_div_le la.out)
            have HLx194 : Hid ((L (b / Nat.gcd a b)).length ≤ 4) := Lib.hid (len_div_le lb.out)
            refine hK _ _ ⟨P1, P2, P3⟩ ?_
            clear hK K
            refine Rd.tr_float (.tuple #[.agg #[.slice x193.a x193.n x193.c, .slice x194.a x194.n x194.c], .int .i64 0]) (by simp only [List.getElem?_toArray, List.getElem?_cons_succ, List.getElem?_cons_zero]; rfl) rfl (by rfl) (fun X _ => by go_simp) ?_
            simp only [Act.put, List.setIfInBounds_toArray, List.set_cons_succ, List.set_cons_zero]
            refine Rd.tr_float (.agg #[.slice x193.a x193.n x193.c, .slice x194.a x194.n x194.c]) (by simp only [List.getElem?_toArray, List.getElem?_cons_succ, List.getElem?_cons_zero]; rfl) rfl (by rfl) (fun X _ => by go_simp) ?_
            simp only [Act.put, List.setIfInBounds_toArray, List.set_cons_succ, List.set_cons_zero]
            refine Rd.tr_float (.int .i64 0) (by simp only [List.getElem?_toArray, List.getElem?_cons_succ, List.getElem?_cons_zero]; rfl) rfl (by rfl) (fun X _ => by go_simp) ?_
            simp only [Act.put, List.setIfInBounds_toArray, List.set_cons_succ, List.set_cons_zero]
            refine Rd.tr_move (by simp only [List.getElem?_toArray, List.getElem?_cons_succ, List.getElem?_cons_zero]; rfl) rfl (by rfl) (fun K hK => ?_)
            have c0P186 := P186.c0
            have c1P186 := P186.c1
            have z0P186 := P186.z0
            have z1P186 := P186.z1
            go_simp
            clear c0P186 c1P186 z0P186 z1P186
            replace rf1 := rf1.pset P186 (.slice x193.a x193.n x193.c) (.slice x194.a x194.n x194.c)
            replace rf2 := rf2.pset P186 (.slice x193.a x193.n x193.c) (.slice x194.a x194.n x194.c)
            replace E158 := E158.pset P186 (.slice x193.a x193.n x193.c) (.slice x194.a x194.n x194.c)
            replace E161 := E161.pset P186 (.slice x193.a x193.n x193.c) (.slice x194.a x194.n x194.c)
            replace rx163 := rx163.pset P186 (.slice x193.a x193.n x193.c) (.slice x194.a x194.n x194.c)
            replace rx190 := rx190.pset P186 (.slice x193.a x193.n x193.c) (.slice x194.a x194.n x194.c)
            replace rx193 := rx193.pset P186 (.slice x193.a x193.n x193.c) (.slice x194.a x194.n x194.c)
            replace rx194 := rx194.pset P186 (.slice x193.a x193.n x193.c) (.slice x194.a x194.n x194.c)
            replace P1 := P1.other (B := B187) (Nat.ne_of_lt nP1P186) (.slice x193.a x193.n x193.c) (.slice x194.a x194.n x194.c)
            replace P2 := P2.other (B := B187) (Nat.ne_of_lt nP2P186) (.slice x193.a x193.n x193.c) (.slice x194.a x194.n x194.c)
            replace P3 := P3.other (B := B187) (Nat.ne_of_lt nP3P186) (.slice x193.a x193.n x193.c) (.slice x194.a x194.n x194.c)
            replace hB := Below.pset (B := B187) hB gP186 (.slice x193.a x193.n x193.c) (.slice x194.a x194.n x194.c)
            replace P186 := P186.set (.slice x193.a x193.n x193.c) (.slice x194.a x194.n x194.c)
            generalize (w196.setCell ⟨B187, 0, none⟩ (.slice x193.a x193.n x193.c)).setCell ⟨B187, 1, none⟩ (.slice x194.a x194.n x194.c) = w197 at P1 P2 P3 P186 rf1 rf2 E158 E161 rx163 rx190 rx193 rx194 hB ⊢
            refine hK _ _ ⟨P1, P2, P3⟩ ?_
            clear hK K
            refine Rd.tr_float (.int .i64 0) (by simp only [List.getElem?_toArray, List.getElem?_cons_succ, List.getElem?_cons_zero]; rfl) rfl (by rfl) (fun X _ => by go_simp) ?_
            simp only [Act.put, List.setIfInBounds_toArray, List.set_cons_succ, List.set_cons_zero]
            exact Rd.tr_end (⟨B187, x193, x194, _, _, _, _, _, _, _, _, _, _, _, _, _, _, _, _, _, _, _, _, _, _, _, _, _, _, _, _, _, _, _, _, _, _, _, _, _, _, _, _, rfl, rx193, rx194, P186, nP3P186, P1, P2, P3, rf1, rf2, hB⟩)
        · skip
          go_simp
          have P198 := Pair.new w160 30 (.slice none 0 0) (.slice none 0 0)
          have nP1P198 := P1.lt
          have nP2P198 := P2.lt
          have nP3P198 := P3.lt
          have gP198 := hB.size
          have hb : Below w160.heap.size w160 (w160.alloc (.cells #[.slice none 0 0, .slice none 0 0] 30)) := (Below.refl _ _).alloc (Nat.le_refl _) _
          replace P1 := P1.below hb
          replace P2 := P2.below hb
          replace P3 := P3.below hb
          replace rf1 := rf1.below hb
          replace rf2 := rf2.below hb
          replace E158 := E158.below hb
          replace E161 := E161.below hb
          replace hB := hB.trans (hb.mono hB.size)
          clear hb
          generalize w160.alloc (.cells #[.slice none 0 0, .slice none 0 0] 30) = w200 at P1 P2 P3 rf1 rf2 E158 E161 P198 hB ⊢
          generalize w160.heap.size = B199 at nP1P198 nP2P198 nP3P198 P198 gP198 ⊢
          refine hK _ _ ⟨P1, P2, P3⟩ ?_
          clear hK K
          refine Rd.tr_move (by simp only [List.getElem?_toArray, List.getElem?_cons_succ, List.getElem?_cons_zero]; rfl) rfl (by rfl) (fun K hK => ?_)
          obtain ⟨v203, w201, H204, rx202, hb⟩ := copied_gen w200 B159 E161 (.slice f1.a f1.n f1.c) (L a) rf1 (Nat.le_trans la.out (by omega)) 28
          refine wp_append _ _ 28 22 rfl (.slice (some ⟨B159, 0, none⟩) 0 0) (.slice f1.a f1.n f1.c) v203 w201 (by rfl) (by rfl) H204 ?_
          clear H204
          simp only [Act.put, List.setIfInBounds_toArray, List.set_cons_succ, List.set_cons_zero]
          replace P1 := P1.below hb
          replace P2 := P2.below hb
          replace P3 := P3.below hb
          replace P198 := P198.below hb
          replace rf1 := rf1.below hb
          replace rf2 := rf2.below hb
          replace E158 := E158.below hb
          replace E161 := E161.below hb
          replace hB := hB.trans (hb.mono hB.size)
          clear hb
          obtain ⟨x202, rfl, rx202⟩ := rx202.sl
          refine hK _ _ ⟨P1, P2, P3⟩ ?_
          clear hK K
          refine Rd.tr_move (by simp only [List.getElem?_toArray, List.getElem?_cons_succ, List.getElem?_cons_zero]; rfl) rfl (by rfl) (fun K hK => ?_)
          obtain ⟨v207, w205, H208, rx206, hb⟩ := copied_gen w201 B156 E158 (.slice f2.a f2.n f2.c) (L b) rf2 (Nat.le_trans lb.out (by omega)) 28
          refine wp_append _ _ 28 22 rfl (.slice (some ⟨B156, 0, none⟩) 0 0) (.slice f2.a f2.n f2.c) v207 w205 (by rfl) (by rfl) H208 ?_
          clear H208
          simp only [Act.put, List.setIfInBounds_toArray, List.set_cons_succ, List.set_cons_zero]
          replace P1 := P1.below hb
          replace P2 := P2.below hb
          replace P3 := P3.below hb
          replace P198 := P198.below hb
          replace rf1 := rf1.below hb
          replace rf2 := rf2.below hb
          replace E158 := E158.below hb
          replace E161 := E161.below hb
          replace rx202 := rx202.below hb
          replace hB := hB.trans (hb.mono hB.size)
          clear hb
          obtain ⟨x206, rfl, rx206⟩ := rx206.sl
          refine hK _ _ ⟨P1, P2, P3⟩ ?_
          clear hK K
          refine Rd.tr_move (by simp only [List.getElem?_toArray, List.getElem?_cons_succ, List.getElem?_cons_zero]; rfl) rfl (by rfl) (fun K hK => ?_)
          have H211 := Lib.hid (of_nat (.slice x202.a x202.n x202.c) (.slice x206.a x206.n x206.c) (a) (b) w205 rx202 rx206 (Nat.le_trans la.out (by omega)) (Nat.le_trans lb.out (by omega)) HNE.out)
          go_simp
          refine H211.out.mono ?_
          rintro e w212 ⟨x209, x210, rfl, rx209, rx210, hb⟩
          clear H211
          replace P1 := P1.below hb
          replace P2 := P2.below hb
          replace P3 := P3.below hb
          replace P198 := P198.below hb
          replace rf1 := rf1.below hb
          replace rf2 := rf2.below hb
          replace E158 := E158.below hb
          replace E161 := E161.below hb
          replace rx202 := rx202.below hb
          replace rx206 := rx206.below hb
          replace hB := hB.trans (hb.mono hB.size)
          clear hb
          have HLx209 : Hid ((L (a / Nat.gcd a b)).length ≤ 4) := Lib.hid (len_div_le la.out)
          have HLx210 : Hid ((L (b / Nat.gcd a b)).length ≤ 4) := Lib.hid (len_div_le lb.out)
          refine hK _ _ ⟨P1, P2, P3⟩ ?_
          clear hK K
          refine Rd.tr_float (.tuple #[.agg #[.slice x209.a x209.n x209.c, .slice x210.a x210.n x210.c], .int .i64 0]) (by simp only [List.getElem?_toArray, List.getElem?_cons_succ, List.getElem?_cons_zero]; rfl) rfl (by rfl) (fun X _ => by go_simp) ?_
          simp only [Act.put, List.setIfInBounds_toArray, List.set_cons_succ, List.set_cons_zero]
          refine Rd.tr_float (.agg #[.slice x209.a x209.n x209.c, .slice x210.a x210.n x210.c]) (by simp only [List.getElem?_toArray, List.getElem?_cons_succ, List.getElem?_cons_zero]; rfl) rfl (by rfl) (fun X _ => by go_simp) ?_
          simp only [Act.put, List.setIfInBounds_toArray, List.set_cons_succ, List.set_cons_zero]
          refine Rd.tr_float (.int .i64 0) (by simp only [List.getElem?_toArray, List.getElem?_cons_succ, List.getElem?_cons_zero]; rfl) rfl (by rfl) (fun X _ => by go_simp) ?_
          simp only [Act.put, List.setIfInBounds_toArray, List.set_cons_succ, List.set_cons_zero]
          refine Rd.tr_move (by simp only [List.getElem?_toArray, List.getElem?_cons_succ, List.getElem?_cons_zero]; rfl) rfl (by rfl) (fun K hK => ?_)
          have c0P198 := P198.c0
          have c1P198 := P198.c1
          have z0P198 := P198.z0
          have z1P198 := P198.z1
          go_simp
          clear c0P198 c1P198 z0P198 z1P198
          replace rf1 := rf1.pset P198 (.slice x209.a x209.n x209.c) (.slice x210.a x210.n x210.c)
          replace rf2 := rf2.pset P198 (.slice x209.a x209.n x209.c) (.slice x210.a x210.n x210.c)
          replace E158 := E158.pset P198 (.slice x209.a x209.n x209.c) (.slice x210.a x210.n x210.c)
          replace E161 := E161.pset P198 (.slice x209.a x209.n x209.c) (.slice x210.a x210.n x210.c)
          replace rx202 := rx202.pset P198 (.slice x209.a x209.n x209.c) (.slice x210.a x210.n x210.c)
          replace rx206 := rx206.pset P198 (.slice x209.a x209.n x209.c) (.slice x210.a x210.n x210.c)
          replace rx209 := rx209.pset P198 (.slice x209.a x209.n x209.c) (.slice x210.a x210.n x210.c)
          replace rx210 := rx210.pset P198 (.slice x209.a x209.n x209.c) (.slice x210.a x210.n x210.c)
          replace P1 := P1.other (B := B199) (Nat.ne_of_lt nP1P198) (.slice x209.a x209.n x209.c) (.slice x210.a x210.n x210.c)
          replace P2 := P2.other (B := B199) (Nat.ne_of_lt nP2P198) (.slice x209.a x209.n x209.c) (.slice x210.a x210.n x210.c)
          replace P3 := P3.other (B := B199) (Nat.ne_of_lt nP3P198) (.slice x209.a x209.n x209.c) (.slice x210.a x210.n x210.c)
          replace hB := Below.pset (B := B199) hB gP198 (.slice x209.a x209.n x209.c) (.slice x210.a x210.n x210.c)
          replace P198 := P198.set (.slice x209.a x209.n x209.c) (.slice x210.a x210.n x210.c)
          generalize (w212.setCell ⟨B199, 0, none⟩ (.slice x209.a x209.n x209.c)).setCell ⟨B199, 1, none⟩ (.slice x210.a x210.n x210.c) = w213 at P1 P2 P3 P198 rf1 rf2 E158 E161 rx202 rx206 rx209 rx210 hB ⊢
          refine hK _ _ ⟨P1, P2, P3⟩ ?_
          clear hK K
          refine Rd.tr_float (.int .i64 0) (by simp only [List.getElem?_toArray, List.getElem?_cons_succ, List.getElem?_cons_zero]; rfl) rfl (by rfl) (fun X _ => by go_simp) ?_
          simp only [Act.put, List.setIfInBounds_toArray, List.set_cons_succ, List.set_cons_zero]
          exact Rd.tr_end (⟨B199, x209, x210, _, _, _, _, _, _, _, _, _, _, _, _, _, _, _, _, _, _, _, _, _, _, _, _, _, _, _, _, _, _, _, _, _, _, _, _, _, _, _, _, rfl, rx209, rx210, P198, nP3P198, P1, P2, P3, rf1, rf2, hB⟩)
      · skip
        go_simp
        have P214 := Pair.new w157 30 (.slice none 0 0) (.slice none 0 0)
        have nP1P214 := P1.lt
        have nP2P214 := P2.lt
        have nP3P214 := P3.lt
        have gP214 := hB.size
        have hb : Below w157.heap.size w157 (w157.alloc (.cells #[.slice none 0 0, .slice none 0 0] 30)) := (Below.refl _ _).alloc (Nat.le_refl _) _
        replace P1 := P1.below hb
        replace P2 := P2.below hb
        replace P3 := P3.below hb
        replace rf1 := rf1.below hb
        replace rf2 := rf2.below hb
        replace E158 := E158.below hb
        replace hB := hB.trans (hb.mono hB.size)
        clear hb
        generalize w157.alloc (.cells #[.slice none 0 0, .slice none 0 0] 30) = w216 at P1 P2 P3 rf1 rf2 E158 P214 hB ⊢
        generalize w157.heap.size = B215 at nP1P214 nP2P214 nP3P214 P214 gP214 ⊢
        refine hK _ _ ⟨P1, P2, P3⟩ ?_
        clear hK K
        refine Rd.tr_move (by simp only [List.getElem?_toArray, List.getElem?_cons_zero]; rfl) rfl (by rfl) (fun K hK => ?_)
        go_simp
        have hb : Below w216.heap.size w216 (w216.alloc (.cells #[] 64)) := (Below.refl _ _).alloc (Nat.le_refl _) _
        have E219 : Emp (w216.alloc (.cells #[] 64)) w216.heap.size := World.alloc_heap_new _ _
        have gE219 := hB.size
        replace P1 := P1.below hb
        replace P2 := P2.below hb
        replace P3 := P3.below hb
        replace P214 := P214.below hb
        replace rf1 := rf1.below hb
        replace rf2 := rf2.below hb
        replace E158 := E158.below hb
        replace hB := hB.trans (hb.mono hB.size)
        clear hb
        generalize w216.alloc (.cells #[] 64) = w218 at P1 P2 P3 P214 rf1 rf2 E158 E219 hB ⊢
        generalize w216.heap.size = B217 at gE219 E219 ⊢
        refine hK _ _ ⟨P1, P2, P3⟩ ?_
        clear hK K
        refine Rd.tr_move (by simp only [List.getElem?_toArray, List.getElem?_cons_succ, List.getElem?_cons_zero]; rfl) rfl (by rfl) (fun K hK => ?_)
        obtain ⟨v222, w220, H223, rx221, hb⟩ := copied_gen w218 B217 E219 (.slice f1.a f1.n f1.c) (L a) rf1 (Nat.le_trans la.out (by omega)) 28
        refine wp_append _ _ 28 22 rfl (.slice (some ⟨B217, 0, none⟩) 0 0) (.slice f1.a f1.n f1.c) v222 w220 (by rfl) (by rfl) H223 ?_
        clear H223
        simp only [Act.put, List.setIfInBounds_toArray, List.set_cons_succ, List.set_cons_zero]
        replace P1 := P1.below hb
        replace P2 := P2.below hb
        replace P3 := P3.below hb
        replace P214 := P214.below hb
        replace rf1 := rf1.below hb
        replace rf2 := rf2.below hb
        replace E158 := E158.below hb
        replace E219 := E219.below hb
        replace hB := hB.trans (hb.mono hB.size)
        clear hb
        obtain ⟨x221, rfl, rx221⟩ := rx221.sl
        refine hK _ _ ⟨P1, P2, P3⟩ ?_
        clear hK K
        refine Rd.tr_move (by simp only [List.getElem?_toArray, List.getElem?_cons_succ, List.getElem?_cons_zero]; rfl) rfl (by rfl) (fun K hK => ?_)
        obtain ⟨v226, w224, H227, rx225, hb⟩ := copied_gen w220 B156 E158 (.slice f2.a f2.n f2.c) (L b) rf2 (Nat.le_trans lb.out (by omega)) 28
        refine wp_append _ _ 28 22 rfl (.slice (some ⟨B156, 0, none⟩) 0 0) (.slice f2.a f2.n f2.c) v226 w224 (by rfl) (by rfl) H227 ?_
        clear H227
        simp only [Act.put, List.setIfInBounds_toArray, List.set_cons_succ, List.set_cons_zero]
        replace P1 := P1.below hb
        replace P2 := P2.below hb
        replace P3 := P3.below hb
        replace P214 := P214.below hb
        replace rf1 := rf1.below hb
        replace rf2 := rf2.below hb
        replace E158 := E158.below hb
        replace E219 := E219.below hb
        replace rx221 := rx221.below hb
        replace hB := hB.trans (hb.mono hB.size)
        clear hb
        obtain ⟨x225, rfl, rx225⟩ := rx225.sl
        refine hK _ _ ⟨P1, P2, P3⟩ ?_
        clear hK K
        refine Rd.tr_move (by simp only [List.getElem?_toArray, List.getElem?_cons_succ, List.getElem?_cons_zero]; rfl) rfl (by rfl) (fun K hK => ?_)
        have H230 := Lib.hid (of_nat (.slice x221.a x221.n x221.c) (.slice x225.a x225.n x225.c) (a) (b) w224 rx221 rx225 (Nat.le_trans la.out (by omega)) (Nat.le_trans lb.out (by omega)) HNE.out)
        go_simp
        refine H230.out.mono ?_
        rintro e w231 ⟨x228, x229, rfl, rx228, rx229, hb⟩
        clear H230
        replace P1 := P1.below hb
        replace P2 := P2.below hb
        replace P3 := P3.below hb
        replace P214 := P214.below hb
        replace rf1 := rf1.below hb
        replace rf2 := rf2.below hb
        replace E158 := E158.below hb
        replace E219 := E219.below hb
        replace rx221 := rx221.below hb
        replace rx225 := rx225.below hb
        replace hB := hB.trans (hb.mono hB.size)
        clear hb
        have HLx228 : Hid ((L (a / Nat.gcd a b)).length ≤ 4) := Lib.hid (len_div_le la.out)
        have HLx229 : Hid ((L (b / Nat.gcd a b)).length ≤ 4) := Lib.hid (len_div_le lb.out)
        refine hK _ _ ⟨P1, P2, P3⟩ ?_
        clear hK K
        refine Rd.tr_float (.tuple #[.agg #[.slice x228.a x228.n x228.c, .slice x229.a x229.n x229.c], .int .i64 0]) (by simp only [List.getElem?_toArray, List.getElem?_cons_succ, List.getElem?_cons_zero]; rfl) rfl (by rfl) (fun X _ => by go_simp) ?_
        simp only [Act.put, List.setIfInBounds_toArray, List.set_cons_succ, List.set_cons_zero]
        refine Rd.tr_float (.agg #[.slice x228.a x228.n x228.c, .slice x229.a x229.n x229.c]) (by simp only [List.getElem?_toArray, List.getElem?_cons_succ, List.getElem?_cons_zero]; rfl) rfl (by rfl) (fun X _ => by go_simp) ?_
        simp only [Act.put, List.setIfInBounds_toArray, List.set_cons_succ, List.set_cons_zero]
        refine Rd.tr_float (.int .i64 0) (by simp only [List.getElem?_toArray, List.getElem?_cons_succ, List.getElem?_cons_zero]; rfl) rfl (by rfl) (fun X _ => by go_simp) ?_
        simp only [Act.put, List.setIfInBounds_toArray, List.set_cons_succ, List.set_cons_zero]
        refine Rd.tr_move (by simp only [List.getElem?_toArray, List.getElem?_cons_succ, List.getElem?_cons_zero]; rfl) rfl (by rfl) (fun K hK => ?_)
        have c0P214 := P214.c0
        have c1P214 := P214.c1
        have z0P214 := P214.z0
        have z1P214 := P214.z1
        go_simp
        clear c0P214 c1P214 z0P214 z1P214
        replace rf1 := rf1.pset P214 (.slice x228.a x228.n x228.c) (.slice x229.a x229.n x229.c)
        replace rf2 := rf2.pset P214 (.slice x228.a x228.n x228.c) (.slice x229.a x229.n x229.c)
        replace E158 := E158.pset P214 (.slice x228.a x228.n x228.c) (.slice x229.a x229.n x229.c)
        replace E219 := E219.pset P214 (.slice x228.a x228.n x228.c) (.slice x229.a x229.n x229.c)
        replace rx221 := rx221.pset P214 (.slice x228.a x228.n x228.c) (.slice x229.a x229.n x229.c)
        replace rx225 := rx225.pset P214 (.slice x228.a x228.n x228.c) (.slice x229.a x229.n x229.c)
        replace rx228 := rx228.pset P214 (.slice x228.a x228.n x228.c) (.slice x229.a x229.n x229.c)
        replace rx229 := rx229.pset P214 (.slice x228.a x228.n x228.c) (.slice x229.a x229.n x229.c)
        replace P1 := P1.other (B := B215) (Nat.ne_of_lt nP1P214) (.slice x228.a x228.n x228.c) (.slice x229.a x229.n x229.c)
        replace P2 := P2.other (B := B215) (Nat.ne_of_lt nP2P214) (.slice x228.a x228.n x228.c) (.slice x229.a x229.n x229.c)
        replace P3 := P3.other (B := B215) (Nat.ne_of_lt nP3P214) (.slice x228.a x228.n x228.c) (.slice x229.a x229.n x229.c)
        replace hB := Below.pset (B := B215) hB gP214 (.slice x228.a x228.n x228.c) (.slice x229.a x229.n x229.c)
        replace P214 := P214.set (.slice x228.a x228.n x228.c) (.slice x229.a x229.n x229.c)
        generalize (w231.setCell ⟨B215, 0, none⟩ (.slice x228.a x228.n x228.c)).setCell ⟨B215, 1, none⟩ (.slice x229.a x229.n x229.c) = w232 at P1 P2 P3 P214 rf1 rf2 E158 E219 rx221 rx225 rx228 rx229 hB ⊢
        refine hK _ _ ⟨P1, P2, P3⟩ ?_
        clear hK K
        refine Rd.tr_float (.int .i64 0) (by simp only [List.getElem?_toArray, List.getElem?_cons_succ, List.getElem?_cons_zero]; rfl) rfl (by rfl) (fun X _ => by go_simp) ?_
        simp only [Act.put, List.setIfInBounds_toArray, List.set_cons_succ, List.set_cons_zero]
        exact Rd.tr_end (⟨B215, x228, x229, _, _, _, _, _, _, _, _, _, _, _, _, _, _, _, _, _, _, _, _, _, _, _, _, _, _, _, _, _, _, _, _, _, _, _, _, _, _, _, _, rfl, rx228, rx229, P214, nP3P214, P1, P2, P3, rf1, rf2, hB⟩)
    · skip
      go_simp
      have P233 := Pair.new w8 30 (.slice none 0 0) (.slice none 0 0)
      have nP1P233 := P1.lt
      have nP2P233 := P2.lt
      have nP3P233 := P3.lt
      have gP233 := hB.size
      have hb : Below w8.heap.size w8 (w8.alloc (.cells #[.slice none 0 0, .slice none 0 0] 30)) := (Below.refl _ _).alloc (Nat.le_refl _) _
      replace P1 := P1.below hb
      replace P2 := P2.below hb
      replace P3 := P3.below hb
      replace rf1 := rf1.below hb
      replace rf2 := rf2.below hb
      replace hB := hB.trans (hb.mono hB.size)
      clear hb
      generalize w8.alloc (.cells #[.slice none 0 0, .slice none 0 0] 30) = w235 at P1 P2 P3 rf1 rf2 P233 hB ⊢
      generalize w8.heap.size = B234 at nP1P233 nP2P233 nP3P233 P233 gP233 ⊢
      refine hK _ _ ⟨P1, P2, P3⟩ ?_
      clear hK K
      refine Rd.tr_two (by simp only [List.getElem?_toArray, List.getElem?_cons_zero]; rfl) (by rfl) (by simp only [List.getElem?_toArray, List.getElem?_cons_succ, List.getElem?_cons_zero]; rfl) (by rfl) (fun K hK => ?_) (fun K hK => ?_)
      · skip
        go_simp
        have hb : Below w235.heap.size w235 (w235.alloc (.cells #[] 64)) := (Below.refl _ _).alloc (Nat.le_refl _) _
        have E238 : Emp (w235.alloc (.cells #[] 64)) w235.heap.size := World.alloc_heap_new _ _
        have gE238 := hB.size
        replace P1 := P1.below hb
        replace P2 := P2.below hb
        replace P3 := P3.below hb
        replace P233 := P233.below hb
        replace rf1 := rf1.below hb
        replace rf2 := rf2.below hb
        replace hB := hB.trans (hb.mono hB.size)
        clear hb
        generalize w235.alloc (.cells #[] 64) = w237 at P1 P2 P3 P233 rf1 rf2 E238 hB ⊢
        generalize w235.heap.size = B236 at gE238 E238 ⊢
        refine hK _ _ ⟨P1, P2, P3⟩ ?_
        clear hK K
        refine Rd.tr_two (by simp only [List.getElem?_toArray, List.getElem?_cons_succ, List.getElem?_cons_zero]; rfl) (by rfl) (by simp only [List.getElem?_toArray, List.getElem?_cons_succ, List.getElem?_cons_zero]; rfl) (by rfl) (fun K hK => ?_) (fun K hK => ?_)
        · skip
          obtain ⟨v241, w239, H242, rx240, hb⟩ := copied_gen w237 B236 E238 (.slice f1.a f1.n f1.c) (L a) rf1 (Nat.le_trans la.out (by omega)) 28
          refine wp_append _ _ 28 22 rfl (.slice (some ⟨B236, 0, none⟩) 0 0) (.slice f1.a f1.n f1.c) v241 w239 (by rfl) (by rfl) H242 ?_
          clear H242
          simp only [Act.put, List.setIfInBounds_toArray, List.set_cons_succ, List.set_cons_zero]
          replace P1 := P1.below hb
          replace P2 := P2.below hb
          replace P3 := P3.below hb
          replace P233 := P233.below hb
          replace rf1 := rf1.below hb
          replace rf2 := rf2.below hb
          replace E238 := E238.below hb
          replace hB := hB.trans (hb.mono hB.size)
          clear hb
          obtain ⟨x240, rfl, rx240⟩ := rx240.sl
          refine hK _ _ ⟨P1, P2, P3⟩ ?_
          clear hK K
          refine Rd.tr_move (by simp only [List.getElem?_toArray, List.getElem?_cons_succ, List.getElem?_cons_zero]; rfl) rfl (by rfl) (fun K hK => ?_)
          go_simp
          have hb : Below w239.heap.size w239 (w239.alloc (.cells #[] 64)) := (Below.refl _ _).alloc (Nat.le_refl _) _
          have E245 : Emp (w239.alloc (.cells #[] 64)) w239.heap.size := World.alloc_heap_new _ _
          have gE245 := hB.size
          replace P1 := P1.below hb
          replace P2 := P2.below hb
          replace P3 := P3.below hb
          replace P233 := P233.below hb
          replace rf1 := rf1.below hb
          replace rf2 := rf2.below hb
          replace E238 := E238.below hb
          replace rx240 := rx240.below hb
          replace hB := hB.trans (hb.mono hB.size)
          clear hb
          generalize w239.alloc (.cells #[] 64) = w244 at P1 P2 P3 P233 rf1 rf2 E238 rx240 E245 hB ⊢
          generalize w239.heap.size = B243 at gE245 E245 ⊢
          refine hK _ _ ⟨P1, P2, P3⟩ ?_
          clear hK K
          refine Rd.tr_move (by simp only [List.getElem?_toArray, List.getElem?_cons_succ, List.getElem?_cons_zero]; rfl) rfl (by rfl) (fun K hK => ?_)
          obtain ⟨v248, w246, H249, rx247, hb⟩ := copied_gen w244 B243 E245 (.slice f2.a f2.n f2.c) (L b) rf2 (Nat.le_trans lb.out (by omega)) 28
          refine wp_append _ _ 28 22 rfl (.slice (some ⟨B243, 0, none⟩) 0 0) (.slice f2.a f2.n f2.c) v248 w246 (by rfl) (by rfl) H249 ?_
          clear H249
          simp only [Act.put, List.setIfInBounds_toArray, List.set_cons_succ, List.set_cons_zero]
          replace P1 := P1.below hb
          replace P2 := P2.below hb
          replace P3 := P3.below hb
          replace P233 := P233.below hb
          replace rf1 := rf1.below hb
          replace rf2 := rf2.below hb
          replace E238 := E238.below hb
          replace rx240 := rx240.below hb
          replace E245 := E245.below hb
          replace hB := hB.trans (hb.mono hB.size)
          clear hb
          obtain ⟨x247, rfl, rx247⟩ := rx247.sl
          refine hK _ _ ⟨P1, P2, P3⟩ ?_
          clear hK K
          refine Rd.tr_move (by simp only [List.getElem?_toArray, List.getElem?_cons_succ, List.getElem?_cons_zero]; rfl) rfl (by rfl) (fun K hK => ?_)
          have H252 := Lib.hid (of_nat (.slice x240.a x240.n x240.c) (.slice x247.a x247.n x247.c) (a) (b) w246 rx240 rx247 (Nat.le_trans la.out (by omega)) (Nat.le_trans lb.out (by omega)) HNE.out)
          go_simp
          refine H252.out.mono ?_
          rintro e w253 ⟨x250, x251, rfl, rx250, rx251, hb⟩
          clear H252
          replace P1 := P1.below hb
          replace P2 := P2.below hb
          replace P3 := P3.below hb
          replace P233 := P233.below hb
          replace rf1 := rf1.below hb
          replace rf2 := rf2.below hb
          replace E238 := E238.below hb
          replace rx240 := rx240.below hb
          replace E245 := E245.below hb
          replace rx247 := rx247.below hb
          replace hB := hB.trans (hb.mono hB.size)
          clear hb
          have HLx250 : Hid ((L (a / Nat.gcd a b)).length ≤ 4) := Lib.hid (len_div_le la.out)
          have HLx251 : Hid ((L (b / Nat.gcd a b)).length ≤ 4) := Lib.hid (len_div_le lb.out)
          refine hK _ _ ⟨P1, P2, P3⟩ ?_
          clear hK K
          refine Rd.tr_float (.tuple #[.agg #[.slice x250.a x250.n x250.c, .slice x251.a x251.n x251.c], .int .i64 0]) (by simp only [List.getElem?_toArray, List.getElem?_cons_succ, List.getElem?_cons_zero]; rfl) rfl (by rfl) (fun X _ => by go_simp) ?_
          simp only [Act.put, List.setIfInBounds_toArray, List.set_cons_succ, List.set_cons_zero]
          refine Rd.tr_float (.agg #[.slice x250.a x250.n x250.c, .slice x251.a x251.n x251.c]) (by simp only [List.getElem?_toArray, List.getElem?_cons_succ, List.getElem?_cons_zero]; rfl) rfl (by rfl) (fun X _ => by go_simp) ?_
          simp only [Act.put, List.setIfInBounds_toArray, List.set_cons_succ, List.set_cons_zero]
          refine Rd.tr_float (.int .i64 0) (by simp only [List.getElem?_toArray, List.getElem?_cons_succ, List.getElem?_cons_zero]; rfl) rfl (by rfl) (fun X _ => by go_simp) ?_
          simp only [Act.put, List.setIfInBounds_toArray, List.set_cons_succ, List.set_cons_zero]
          refine Rd.tr_move (by simp only [List.getElem?_toArray, List.getElem?_cons_succ, List.getElem?_cons_zero]; rfl) rfl (by rfl) (fun K hK => ?_)
          have c0P233 := P233.c0
          have c1P233 := P233.c1
          have z0P233 := P233.z0
          have z1P233 := P233.z1
          go_simp
          clear c0P233 c1P233 z0P233 z1P233
          replace rf1 := rf1.pset P233 (.slice x250.a x250.n x250.c) (.slice x251.a x251.n x251.c)
          replace rf2 := rf2.pset P233 (.slice x250.a x250.n x250.c) (.slice x251.a x251.n x251.c)
          replace E238 := E238.pset P233 (.slice x250.a x250.n x250.c) (.slice x251.a x251.n x251.c)
          replace rx240 := rx240.pset P233 (.slice x250.a x250.n x250.c) (.slice x251.a x251.n x251.c)
          replace E245 := E245.pset P233 (.slice x250.a x250.n x250.c) (.slice x251.a x251.n x251.c)
          replace rx247 := rx247.pset P233 (.slice x250.a x250.n x250.c) (.slice x251.a x251.n x251.c)
          replace rx250 := rx250.pset P233 (.slice x250.a x250.n x250.c) (.slice x251.a x251.n x251.c)
          replace rx251 := rx251.pset P233 (.slice x250.a x250.n x250.c) (.slice x251.a x251.n x251.c)
          replace P1 := P1.other (B := B234) (Nat.ne_of_lt nP1P233) (.slice x250.a x250.n x250.c) (.slice x251.a x251.n x251.c)
          replace P2 := P2.other (B := B234) (Nat.ne_of_lt nP2P233) (.slice x250.a x250.n x250.c) (.slice x251.a x251.n x251.c)
          replace P3 := P3.other (B := B234) (Nat.ne_of_lt nP3P233) (.slice x250.a x250.n x250.c) (.slice x251.a x251.n x251.c)
          replace hB := Below.pset (B := B234) hB gP233 (.slice x250.a x250.n x250.c) (.slice x251.a x251.n x251.c)
          replace P233 := P233.set (.slice x250.a x250.n x250.c) (.slice x251.a x251.n x251.c)
          generalize (w253.setCell ⟨B234, 0, none⟩ (.slice x250.a x250.n x250.c)).setCell ⟨B234, 1, none⟩ (.slice x251.a x251.n x251.c) = w254 at P1 P2 P3 P233 rf1 rf2 E238 rx240 E245 rx247 rx250 rx251 hB ⊢
          refine hK _ _ ⟨P1, P2, P3⟩ ?_
          clear hK K
          refine Rd.tr_float (.int .i64 0) (by simp only [List.getElem?_toArray, List.getElem?_cons_succ, List.getElem?_cons_zero]; rfl) rfl (by rfl) (fun X _ => by go_simp) ?_
          simp only [Act.put, List.setIfInBounds_toArray, List.set_cons_succ, List.set_cons_zero]
          exact Rd.tr_end (⟨B234, x250, x251, _, _, _, _, _, _, _, _, _, _, _, _, _, _, _, _, _, _, _, _, _, _, _, _, _, _, _, _, _, _, _, _, _, _, _, _, _, _, _, _, rfl, rx250, rx251, P233, nP3P233, P1, P2, P3, rf1, rf2, hB⟩)
        · skip
          go_simp
          have hb : Below w237.heap.size w237 (w237.alloc (.cells #[] 64)) := (Below.refl _ _).alloc (Nat.le_refl _) _
          have E257 : Emp (w237.alloc (.cells #[] 64)) w237.heap.size := World.alloc_heap_new _ _
          have gE257 := hB.size
          replace P1 := P1.below hb
          replace P2 := P2.below hb
          replace P3 := P3.below hb
          replace P233 := P233.below hb
          replace rf1 := rf1.below hb
          replace rf2 := rf2.below hb
          replace E238 := E238.below hb
          replace hB := hB.trans (hb.mono hB.size)
          clear hb
          generalize w237.alloc (.cells #[] 64) = w256 at P1 P2 P3 P233 rf1 rf2 E238 E257 hB ⊢
          generalize w237.heap.size = B255 at gE257 E257 ⊢
          refine hK _ _ ⟨P1, P2, P3⟩ ?_
          clear hK K
          refine Rd.tr_move (by simp only [List.getElem?_toArray, List.getElem?_cons_succ, List.getElem?_cons_zero]; rfl) rfl (by rfl) (fun K hK => ?_)
          obtain ⟨v260, w258, H261, rx259, hb⟩ := copied_gen w256 B236 E238 (.slice f1.a f1.n f1.c) (L a) rf1 (Nat.le_trans la.out (by omega)) 28
          refine wp_append _ _ 28 22 rfl (.slice (some ⟨B236, 0, none⟩) 0 0) (.slice f1.a f1.n f1.c) v260 w258 (by rfl) (by rfl) H261 ?_
          clear H261
          simp only [Act.put, List.setIfInBounds_toArray, List.set_cons_succ, List.set_cons_zero]
          replace P1 := P1.below hb
          replace P2 := P2.below hb
          replace P3 := P3.below hb
          replace P233 := P233.below hb
          replace rf1 := rf1.below hb
          replace rf2 := rf2.below hb
          replace E238 := E238.below hb
          replace E257 := E257.below hb
          replace hB := hB.trans (hb.mono hB.size)
          clear hb
          obtain ⟨x259, rfl, rx259⟩ := rx259.sl
          refine hK _ _ ⟨P1, P2, P3⟩ ?_
          clear hK K
          refine Rd.tr_move (by simp only [List.getElem?_toArray, List.getElem?_cons_succ, List.getElem?_cons_zero]; rfl) rfl (by rfl) (fun K hK => ?_)
          obtain ⟨v264, w262, H265, rx263, hb⟩ := copied_gen w258 B255 E257 (.slice f2.a f2.n f2.c) (L b) rf2 (Nat.le_trans lb.out (by omega)) 28
          refine wp_append _ _ 28 22 rfl (.slice (some ⟨B255, 0, none⟩) 0 0) (.slice f2.a f2.n f2.c) v264 w262 (by rfl) (by rfl) H265 ?_
          clear H265
          simp only [Act.put, List.setIfInBounds_toArray, List.set_cons_succ, List.set_cons_zero]
          replace P1 := P1.below hb
          replace P2 := P2.below hb
          replace P3 := P3.below hb
          replace P233 := P233.below hb
          replace rf1 := rf1.below hb
          replace rf2 := rf2.below hb
          replace E238 := E238.below hb
          replace E257 := E257.below hb
          replace rx259 := rx259.below hb
          replace hB := hB.trans (hb.mono hB.size)
          clear hb
          obtain ⟨x263, rfl, rx263⟩ := rx263.sl
          refine hK _ _ ⟨P1, P2, P3⟩ ?_
          clear hK K
          refine Rd.tr_move (by simp only [List.getElem?_toArray, List.getElem?_cons_succ, List.getElem?_cons_zero]; rfl) rfl (by rfl) (fun K hK => ?_)
          have H268 := Lib.hid (of_nat (.slice x259.a x259.n x259.c) (.slice x263.a x263.n x263.c) (a) (b) w262 rx259 rx263 (Nat.le_trans la.out (by omega)) (Nat.le_trans lb.out (by omega)) HNE.out)
          go_simp
          refine H268.out.mono ?_
          rintro e w269 ⟨x266, x267, rfl, rx266, rx267, hb⟩
          clear H268
          replace P1 := P1.below hb
          replace P2 := P2.below hb
          replace P3 := P3.below hb
          replace P233 := P233.below hb
          replace rf1 := rf1.below hb
          replace rf2 := rf2.below hb
          replace E238 := E238.below hb
          replace E257 := E257.below hb
          replace rx259 := rx259.below hb
          replace rx263 := rx263.below hb
          replace hB := hB.trans (hb.mono hB.size)
          clear hb
          have HLx266 : Hid ((L (a / Nat.gcd a b)).length ≤ 4) := Lib.hid (len_div_le la.out)
          have HLx267 : Hid ((L (b / Nat.gcd a b)).length ≤ 4) := Lib.hid (len_div_le lb.out)
          refine hK _ _ ⟨P1, P2, P3⟩ ?_
          clear hK K
          refine Rd.tr_float (.tuple #[.agg #[.slice x266.a x266.n x266.c, .slice x267.a x267.n x267.c], .int .i64 0]) (by simp only [List.getElem?_toArray, List.getElem?_cons_succ, List.getElem?_cons_zero]; rfl) rfl (by rfl) (fun X _ => by go_simp) ?_
          simp only [Act.put, List.setIfInBounds_toArray, List.set_cons_succ, List.set_cons_zero]
          refine Rd.tr_float (.agg #[.slice x266.a x266.n x266.c, .slice x267.a x267.n x267.c]) (by simp only [List.getElem?_toArray, List.getElem?_cons_succ, List.getElem?_cons_zero]; rfl) rfl (by rfl) (fun X _ => by go_simp) ?_
          simp only [Act.put, List.setIfInBounds_toArray, List.set_cons_succ, List.set_cons_zero]
          refine Rd.tr_float (.int .i64 0) (by simp only [List.getElem?_toArray, List.getElem?_cons_succ, List.getElem?_cons_zero]; rfl) rfl (by rfl) (fun X _ => by go_simp) ?_
          simp only [Act.put, List.setIfInBounds_toArray, List.set_cons_succ, List.set_cons_zero]
          refine Rd.tr_move (by simp only [List.getElem?_toArray, List.getElem?_cons_succ, List.getElem?_cons_zero]; rfl) rfl (by rfl) (fun K hK => ?_)
          have c0P233 := P233.c0
          have c1P233 := P233.c1
          have z0P233 := P233.z0
          have z1P233 := P233.z1
          go_simp
          clear c0P233 c1P233 z0P233 z1P233
          replace rf1 := rf1.pset P233 (.slice x266.a x266.n x266.c) (.slice x267.a x267.n x267.c)
          replace rf2 := rf2.pset P233 (.slice x266.a x266.n x266.c) (.slice x267.a x267.n x267.c)
          replace E238 := E238.pset P233 (.slice x266.a x266.n x266.c) (.slice x267.a x267.n x267.c)
          replace E257 := E257.pset P233 (.slice x266.a x266.n x266.c) (.slice x267.a x267.n x267.c)
          replace rx259 := rx259.pset P233 (.slice x266.a x266.n x266.c) (.slice x267.a x267.n x267.c)
          replace rx263 := rx263.pset P233 (.slice x266.a x266.n x266.c) (.slice x267.a x267.n x267.c)
          replace rx266 := rx266.pset P233 (.slice x266.a x266.n x266.c) (.slice x267.a x267.n x267.c)
          replace rx267 := rx267.pset P233 (.slice x266.a x266.n x266.c) (.slice x267.a x267.n x267.c)
          replace P1 := P1.other (B := B234) (Nat.ne_of_lt nP1P233) (.slice x266.a x266.n x266.c) (.slice x267.a x267.n x267.c)
          replace P2 := P2.other (B := B234) (Nat.ne_of_lt nP2P233) (.slice x266.a x266.n x266.c) (.slice x267.a x267.n x267.c)
          replace P3 := P3.other (B := B234) (Nat.ne_of_lt nP3P233) (.slice x266.a x266.n x266.c) (.slice x267.a x267.n x267.c)
          replace hB := Below.pset (B := B234) hB gP233 (.slice x266.a x266.n x266.c) (.slice x267.a x267.n x267.c)
          replace P233 := P233.set (.slice x266.a x266.n x266.c) (.slice x267.a x267.n x267.c)
          generalize (w269.setCell ⟨B234, 0, none⟩ (.slice x266.a x266.n x266.c)).setCell ⟨B234, 1, none⟩ (.slice x267.a x267.n x267.c) = w270 at P1 P2 P3 P233 rf1 rf2 E238 E257 rx259 rx263 rx266 rx267 hB ⊢
          refine hK _ _ ⟨P1, P2, P3⟩ ?_
          clear hK K
          refine Rd.tr_float (.int .i64 0) (by simp only [List.getElem?_toArray, List.getElem?_cons_succ, List.getElem?_cons_zero]; rfl) rfl (by rfl) (fun X _ => by go_simp) ?_
          simp only [Act.put, List.setIfInBounds_toArray, List.set_cons_succ, List.set_cons_zero]
          exact Rd.tr_end (⟨B234, x266, x267, _, _, _, _, _, _, _, _, _, _, _, _, _, _, _, _, _, _, _, _, _, _, _, _, _, _, _, _, _, _, _, _, _, _, _, _, _, _, _, _, rfl, rx266, rx267, P233, nP3P233, P1, P2, P3, rf1, rf2, hB⟩)
      · skip
        go_simp
        have hb : Below w235.heap.size w235 (w235.alloc (.cells #[] 64)) := (Below.refl _ _).alloc (Nat.le_refl _) _
        have E273 : Emp (w235.alloc (.cells #[] 64)) w235.heap.size := World.alloc_heap_new _ _
        have gE273 := hB.size
        replace P1 := P1.below hb
        replace P2 := P2.below hb
        replace P3 := P3.below hb
        replace P233 := P233.below hb
        replace rf1 := rf1.below hb
        replace rf2 := rf2.below hb
        replace hB := hB.trans (hb.mono hB.size)
        clear hb
        generalize w235.alloc (.cells #[] 64) = w272 at P1 P2 P3 P233 rf1 rf2 E273 hB ⊢
        generalize w235.heap.size = B271 at gE273 E273 ⊢
        refine hK _ _ ⟨P1, P2, P3⟩ ?_
        clear hK K
        refine Rd.tr_move (by simp only [List.getElem?_toArray, List.getElem?_cons_zero]; rfl) rfl (by rfl) (fun K hK => ?_)
        go_simp
        have hb : Below w272.heap.size w272 (w272.alloc (.cells #[] 64)) := (Below.refl _ _).alloc (Nat.le_refl _) _
        have E276 : Emp (w272.alloc (.cells #[] 64)) w272.heap.size := World.alloc_heap_new _ _
        have gE276 := hB.size
        replace P1 := P1.below hb
        replace P2 := P2.below hb
        replace P3 := P3.below hb
        replace P233 := P233.below hb
        replace rf1 := rf1.below hb
        replace rf2 := rf2.below hb
        replace E273 := E273.below hb
        replace hB := hB.trans (hb.mono hB.size)
        clear hb
        generalize w272.alloc (.cells #[] 64) = w275 at P1 P2 P3 P233 rf1 rf2 E273 E276 hB ⊢
        generalize w272.heap.size = B274 at gE276 E276 ⊢
        refine hK _ _ ⟨P1, P2, P3⟩ ?_
        clear hK K
        refine Rd.tr_move (by simp only [List.getElem?_toArray, List.getElem?_cons_succ, List.getElem?_cons_zero]; rfl) rfl (by rfl) (fun K hK => ?_)
        obtain ⟨v279, w277, H280, rx278, hb⟩ := copied_gen w275 B274 E276 (.slice f1.a f1.n f1.c) (L a) rf1 (Nat.le_trans la.out (by omega)) 28
        refine wp_append _ _ 28 22 rfl (.slice (some ⟨B274, 0, none⟩) 0 0) (.slice f1.a f1.n f1.c) v279 w277 (by rfl) (by rfl) H280 ?_
        clear H280
        simp only [Act.put, List.setIfInBounds_toArray, List.set_cons_succ, List.set_cons_zero]
        replace P1 := P1.below hb
        replace P2 := P2.below hb
        replace P3 := P3.below hb
        replace P233 := P233.below hb
        replace rf1 := rf1.below hb
        replace rf2 := rf2.below hb
        replace E273 := E273.below hb
        replace E276 := E276.below hb
        replace hB := hB.trans (hb.mono hB.size)
        clear hb
        obtain ⟨x278, rfl, rx278⟩ := rx278.sl
        refine hK _ _ ⟨P1, P2, P3⟩ ?_
        clear hK K
        refine Rd.tr_move (by simp only [List.getElem?_toArray, List.getElem?_cons_succ, List.getElem?_cons_zero]; rfl) rfl (by rfl) (fun K hK => ?_)
        obtain ⟨v283, w281, H284, rx282, hb⟩ := copied_gen w277 B271 E273 (.slice f2.a f2.n f2.c) (L b) rf2 (Nat.le_trans lb.out (by omega)) 28
        refine wp_append _ _ 28 22 rfl (.slice (some ⟨B271, 0, none⟩) 0 0) (.slice f2.a f2.n f2.c) v283 w281 (by rfl) (by rfl) H284 ?_
        clear H284
        simp only [Act.put, List.setIfInBounds_toArray, List.set_cons_succ, List.set_cons_zero]
        replace P1 := P1.below hb
        replace P2 := P2.below hb
        replace P3 := P3.below hb
        replace P233 := P233.below hb
        replace rf1 := rf1.below hb
        replace rf2 := rf2.below hb
        replace E273 := E273.below hb
        replace E276 := E276.below hb
        replace rx278 := rx278.below hb
        replace hB := hB.trans (hb.mono hB.size)
        clear hb
        obtain ⟨x282, rfl, rx282⟩ := rx282.sl
        refine hK _ _ ⟨P1, P2, P3⟩ ?_
        clear hK K
        refine Rd.tr_move (by simp only [List.getElem?_toArray, List.getElem?_cons_succ, List.getElem?_cons_zero]; rfl) rfl (by rfl) (fun K hK => ?_)
        have H287 := Lib.hid (of_nat (.slice x278.a x278.n x278.c) (.slice x282.a x282.n x282.c) (a) (b) w281 rx278 rx282 (Nat.le_trans la.out (by omega)) (Nat.le_trans lb.out (by omega)) HNE.out)
        go_simp
        refine H287.out.mono ?_
        rintro e w288 ⟨x285, x286, rfl, rx285, rx286, hb⟩
        clear H287
        replace P1 := P1.below hb
        replace P2 := P2.below hb
        replace P3 := P3.below hb
        replace P233 := P233.below hb
        replace rf1 := rf1.below hb
        replace rf2 := rf2.below hb
        replace E273 := E273.below hb
        replace E276 := E276.below hb
        replace rx278 := rx278.below hb
        replace rx282 := rx282.below hb
        replace hB := hB.trans (hb.mono hB.size)
        clear hb
        have HLx285 : Hid ((L (a / Nat.gcd a b)).length ≤ 4) := Lib.hid (len_div_le la.out)
        have HLx286 : Hid ((L (b / Nat.gcd a b)).length ≤ 4) := Lib.hid (len_div_le lb.out)
        refine hK _ _ ⟨P1, P2, P3⟩ ?_
        clear hK K
        refine Rd.tr_float (.tuple #[.agg #[.slice x285.a x285.n x285.c, .slice x286.a x286.n x286.c], .int .i64 0]) (by simp only [List.getElem?_toArray, List.getElem?_cons_succ, List.getElem?_cons_zero]; rfl) rfl (by rfl) (fun X _ => by go_simp) ?_
        simp only [Act.put, List.setIfInBounds_toArray, List.set_cons_succ, List.set_cons_zero]
        refine Rd.tr_float (.agg #[.slice x285.a x285.n x285.c, .slice x286.a x286.n x286.c]) (by simp only [List.getElem?_toArray, List.getElem?_cons_succ, List.getElem?_cons_zero]; rfl) rfl (by rfl) (fun X _ => by go_simp) ?_
        simp only [Act.put, List.setIfInBounds_toArray, List.set_cons_succ, List.set_cons_zero]
        refine Rd.tr_float (.int .i64 0) (by simp only [List.getElem?_toArray, List.getElem?_cons_succ, List.getElem?_cons_zero]; rfl) rfl (by rfl) (fun X _ => by go_simp) ?_
        simp only [Act.put, List.setIfInBounds_toArray, List.set_cons_succ, List.set_cons_zero]
        refine Rd.tr_move (by simp only [List.getElem?_toArray, List.getElem?_cons_succ, List.getElem?_cons_zero]; rfl) rfl (by rfl) (fun K hK => ?_)
        have c0P233 := P233.c0
        have c1P233 := P233.c1
        have z0P233 := P233.z0
        have z1P233 := P233.z1
        go_simp
        clear c0P233 c1P233 z0P233 z1P233
        replace rf1 := rf1.pset P233 (.slice x285.a x285.n x285.c) (.slice x286.a x286.n x286.c)
        replace rf2 := rf2.pset P233 (.slice x285.a x285.n x285.c) (.slice x286.a x286.n x286.c)
        replace E273 := E273.pset P233 (.slice x285.a x285.n x285.c) (.slice x286.a x286.n x286.c)
        replace E276 := E276.pset P233 (.slice x285.a x285.n x285.c) (.slice x286.a x286.n x286.c)
        replace rx278 := rx278.pset P233 (.slice x285.a x285.n x285.c) (.slice x286.a x286.n x286.c)
        replace rx282 := rx282.pset P233 (.slice x285.a x285.n x285.c) (.slice x286.a x286.n x286.c)
        replace rx285 := rx285.pset P233 (.slice x285.a x285.n x285.c) (.slice x286.a x286.n x286.c)
        replace rx286 := rx286.pset P233 (.slice x285.a x285.n x285.c) (.slice x286.a x286.n x286.c)
        replace P1 := P1.other (B := B234) (Nat.ne_of_lt nP1P233) (.slice x285.a x285.n x285.c) (.slice x286.a x286.n x286.c)
        replace P2 := P2.other (B := B234) (Nat.ne_of_lt nP2P233) (.slice x285.a x285.n x285.c) (.slice x286.a x286.n x286.c)
        replace P3 := P3.other (B := B234) (Nat.ne_of_lt nP3P233) (.slice x285.a x285.n x285.c) (.slice x286.a x286.n x286.c)
        replace hB := Below.pset (B := B234) hB gP233 (.slice x285.a x285.n x285.c) (.slice x286.a x286.n x286.c)
        replace P233 := P233.set (.slice x285.a x285.n x285.c) (.slice x286.a x286.n x286.c)
        generalize (w288.setCell ⟨B234, 0, none⟩ (.slice x285.a x285.n x285.c)).setCell ⟨B234, 1, none⟩ (.slice x286.a x286.n x286.c) = w289 at P1 P2 P3 P233 rf1 rf2 E273 E276 rx278 rx282 rx285 rx286 hB ⊢
        refine hK _ _ ⟨P1, P2, P3⟩ ?_
        clear hK K
        refine Rd.tr_float (.int .i64 0) (by simp only [List.getElem?_toArray, List.getElem?_cons_succ, List.getElem?_cons_zero]; rfl) rfl (by rfl) (fun X _ => by go_simp) ?_
        simp only [Act.put, List.setIfInBounds_toArray, List.set_cons_succ, List.set_cons_zero]
        exact Rd.tr_end (⟨B234, x285, x286, _, _, _, _, _, _, _, _, _, _, _, _, _, _, _, _, _, _, _, _, _, _, _, _, _, _, _, _, _, _, _, _, _, _, _, _, _, _, _, _, rfl, rx285, rx286, P233, nP3P233, P1, P2, P3, rf1, rf2, hB⟩)
  case next =>
    rintro a3 W ⟨BB, p, q, _, _, _, _, _, _, _, _, _, _, _, _, _, _, _, _, _, _, _, _, _, _, _, _, _, _, _, _, _, _, _, _, _, _, _, _, _, _, _, _, rfl, rp, rq, PB, hBB, P1, P2, P3, rf1, rf2, hB⟩
    have c0P1 := P1.c0
    have c1P1 := P1.c1
    have c0P2 := P2.c0
    have c1P2 := P2.c1
    have c0P3 := P3.c0
    have c1P3 := P3.c1
    have c0PB := PB.c0
    have c1PB := PB.c1
    go_wp2_with fail
    clear c0P1 c1P1 c0P2 c1P2 c0P3 c1P3 c0PB c1PB
    have hb : Below W.heap.size W W.drew := (Below.refl _ _).drew
    replace P1 := P1.below hb
    replace P2 := P2.below hb
    replace P3 := P3.below hb
    replace PB := PB.below hb
    replace rf1 := rf1.below hb
    replace rf2 := rf2.below hb
    replace rp := rp.below hb
    replace rq := rq.below hb
    replace hB := hB.trans (hb.mono hB.size)
    clear hb
    refine Rd.regionT (fun X => Pair X (w.heap.size) 24 (.slice f1.a f1.n f1.c) (.slice f2.a f2.n f2.c) ∧ Pair X (BB) 30 (.slice p.a p.n p.c) (.slice q.a q.n q.c)) [0, 1, 2, 4, 5, 8, 9, 12] (.one 0 (.one 1 (.one 2 (.one 4 (.one 5 (.one 8 (.one 9 (.one 3 (.one 6 (.one 7 (.one 10 (.one 11 (.one 12 .done))))))))))))) (fun ac W2 => ∃ (r : Sl) (s : Sl) (y5 y6 y7 y8 y9 y10 y11 y12 y13 y14 y15 y16 y17 y18 y19 y20 y21 y22 y23 y24 y25 y26 y27 y28 y29 y30 y31 y32 y33 y34 y35 y36 y37 y38 y39 y40 y41 y42 y43 y44 y45 y46 y47 y48 y49 y50 y51 y52 y53 y54 y55 y56 y57 y58 : Value), ac = { tmps := List.toArray (.agg #[.slice f1.a f1.n f1.c, .slice f2.a f2.n f2.c] :: .pointer (some ⟨w.heap.size, 0, none⟩) :: .pointer (some ⟨w.heap.size + 1, 0, none⟩) :: .pointer (some ⟨w.heap.size + 1 + 1, 0, none⟩) :: .bool true :: y5 :: y6 :: y7 :: y8 :: y9 :: y10 :: y11 :: y12 :: y13 :: y14 :: y15 :: y16 :: y17 :: y18 :: y19 :: y20 :: y21 :: y22 :: y23 :: y24 :: y25 :: y26 :: y27 :: y28 :: y29 :: y30 :: y31 :: y32 :: y33 :: y34 :: y35 :: y36 :: y37 :: y38 :: y39 :: y40 :: y41 :: y42 :: y43 :: y44 :: y45 :: y46 :: y47 :: y48 :: y49 :: y50 :: y51 :: y52 :: y53 :: y54 :: y55 :: y56 :: y57 :: y58 :: []), defers := [] } ∧ RU W2 p (a / Nat.gcd a b) ∧ RU W2 q (b / Nat.gcd a b) ∧ RD W2 r (a / Nat.gcd a b) ∧ RD W2 s (b / Nat.gcd a b) ∧ Pair W2 (w.heap.size + 1) 30 (.slice p.a p.n p.c) (.slice q.a q.n q.c) ∧ Pair W2 (w.heap.size + 1 + 1) 35 (.slice r.a r.n r.c) (.slice s.a s.n s.c) ∧ Below w.heap.size w W2) (by kernel_rfl) (by kernel_rfl) (by kernel_rfl) ⟨P1, PB⟩ ?tree ?next
    case tree =>
      generalize W.drew = w290 at P1 P2 P3 PB rf1 rf2 rp rq hB ⊢
      refine Rd.tr_float (.agg #[.slice p.a p.n p.c, .slice q.a q.n q.c]) (by simp only [List.getElem?_toArray, List.getElem?_cons_zero]; rfl) rfl (by rfl) (fun X hX => by have h0 := hX.2.c0; have h1 := hX.2.c1; go_simp) ?_
      simp only [Act.put, List.setIfInBounds_toArray, List.set_cons_succ, List.set_cons_zero]
      refine Rd.tr_float (.pointer (some ⟨w.heap.size, 0, none⟩)) (by simp only [List.getElem?_toArray, List.getElem?_cons_succ, List.getElem?_cons_zero]; rfl) rfl (by rfl) (fun X _ => by go_simp) ?_
      simp only [Act.put, List.setIfInBounds_toArray, List.set_cons_succ, List.set_cons_zero]
      refine Rd.tr_float (.slice f1.a f1.n f1.c) (by simp only [List.getElem?_toArray, List.getElem?_cons_succ, List.getElem?_cons_zero]; rfl) rfl (by rfl) (fun X hX => by have h0 := hX.1.c0; have h1 := hX.1.c1; go_simp) ?_
      simp only [Act.put, List.setIfInBounds_toArray, List.set_cons_succ, List.set_cons_zero]
      refine Rd.tr_float (.pointer (some ⟨w.heap.size, 1, none⟩)) (by simp only [List.getElem?_toArray, List.getElem?_cons_succ, List.getElem?_cons_zero]; rfl) rfl (by rfl) (fun X _ => by go_simp) ?_
      simp only [Act.put, List.setIfInBounds_toArray, List.set_cons_succ, List.set_cons_zero]
      refine Rd.tr_float (.slice f2.a f2.n f2.c) (by simp only [List.getElem?_toArray, List.getElem?_cons_succ, List.getElem?_cons_zero]; rfl) rfl (by rfl) (fun X hX => by have h0 := hX.1.c0; have h1 := hX.1.c1; go_simp) ?_
      simp only [Act.put, List.setIfInBounds_toArray, List.set_cons_succ, List.set_cons_zero]
      refine Rd.tr_float (.int .i64 0) (by simp only [List.getElem?_toArray, List.getElem?_cons_succ, List.getElem?_cons_zero]; rfl) rfl (by rfl) (fun X _ => by go_simp) ?_
      simp only [Act.put, List.setIfInBounds_toArray, List.set_cons_succ, List.set_cons_zero]
      refine Rd.tr_float (.bool true) (by simp only [List.getElem?_toArray, List.getElem?_cons_succ, List.getElem?_cons_zero]; rfl) rfl (by rfl) (fun X _ => by go_simp) ?_
      simp only [Act.put, List.setIfInBounds_toArray, List.set_cons_succ, List.set_cons_zero]
      refine Rd.tr_move (by simp only [List.getElem?_toArray, List.getElem?_cons_succ, List.getElem?_cons_zero]; rfl) rfl (by rfl) (fun K hK => ?_)
      have H293 := Lib.hid (limbs_nat (.slice f1.a f1.n f1.c) (a) w290 rf1.row (Nat.le_trans la.out (by omega)))
      go_simp
      refine H293.out.mono ?_
      rintro e w294 ⟨v292, rfl, rx291, hb⟩
      clear H293
      replace P1 := P1.below hb
      replace P2 := P2.below hb
      replace P3 := P3.below hb
      replace PB := PB.below hb
      replace rf1 := rf1.below hb
      replace rf2 := rf2.below hb
      replace rp := rp.below hb
      replace rq := rq.below hb
      replace hB := hB.trans (hb.mono hB.size)
      clear hb
      obtain ⟨x291, rfl, rx291⟩ := rx291.sl
      refine hK _ _ ⟨P1, PB⟩ ?_
      clear hK K
      refine Rd.tr_move (by simp only [List.getElem?_toArray, List.getElem?_cons_succ, List.getElem?_cons_zero]; rfl) rfl (by rfl) (fun K hK => ?_)
      have H297 := Lib.hid (limbs_nat (.slice f2.a f2.n f2.c) (b) w294 rf2.row (Nat.le_trans lb.out (by omega)))
      go_simp
      refine H297.out.mono ?_
      rintro e w298 ⟨v296, rfl, rx295, hb⟩
      clear H297
      replace P1 := P1.below hb
      replace P2 := P2.below hb
      replace P3 := P3.below hb
      replace PB := PB.below hb
      replace rf1 := rf1.below hb
      replace rf2 := rf2.below hb
      replace rp := rp.below hb
      replace rq := rq.below hb
      replace rx291 := rx291.below hb
      replace hB := hB.trans (hb.mono hB.size)
      clear hb
      obtain ⟨x295, rfl, rx295⟩ := rx295.sl
      refine hK _ _ ⟨P1, PB⟩ ?_
      clear hK K
      refine Rd.tr_move (by simp only [List.getElem?_toArray, List.getElem?_cons_succ, List.getElem?_cons_zero]; rfl) rfl (by rfl) (fun K hK => ?_)
      have H301 := Lib.hid (rof_sl x291 x295 (a) (b) w298 rx291 rx295 (Lib.hid (Nat.le_trans la.out (by omega))) (Lib.hid (Nat.le_trans lb.out (by omega))) HNE)
      go_simp
      refine H301.out.mono ?_
      rintro e w302 ⟨x299, x300, rfl, rx299, rx300, hb⟩
      clear H301
      replace P1 := P1.below hb
      replace P2 := P2.below hb
      replace P3 := P3.below hb
      replace PB := PB.below hb
      replace rf1 := rf1.below hb
      replace rf2 := rf2.below hb
      replace rp := rp.below hb
      replace rq := rq.below hb
      replace rx291 := rx291.below hb
      replace rx295 := rx295.below hb
      replace hB := hB.trans (hb.mono hB.size)
      clear hb
      have HLx299 : Hid ((L (a / Nat.gcd a b)).length ≤ 4) := Lib.hid (len_div_le la.out)
      have HLx300 : Hid ((L (b / Nat.gcd a b)).length ≤ 4) := Lib.hid (len_div_le lb.out)
      refine hK _ _ ⟨P1, PB⟩ ?_
      clear hK K
      refine Rd.tr_move (by simp only [List.getElem?_toArray, List.getElem?_cons_succ, List.getElem?_cons_zero]; rfl) rfl (by rfl) (fun K hK => ?_)
      have c0P2 := P2.c0
      have c1P2 := P2.c1
      have z0P2 := P2.z0
      have z1P2 := P2.z1
      go_simp
      clear c0P2 c1P2 z0P2 z1P2
      replace rf1 := rf1.pset P2 (.slice p.a p.n p.c) (.slice q.a q.n q.c)
      replace rf2 := rf2.pset P2 (.slice p.a p.n p.c) (.slice q.a q.n q.c)
      replace rp := rp.pset P2 (.slice p.a p.n p.c) (.slice q.a q.n q.c)
      replace rq := rq.pset P2 (.slice p.a p.n p.c) (.slice q.a q.n q.c)
      replace rx291 := rx291.pset P2 (.slice p.a p.n p.c) (.slice q.a q.n q.c)
      replace rx295 := rx295.pset P2 (.slice p.a p.n p.c) (.slice q.a q.n q.c)
      replace rx299 := rx299.pset P2 (.slice p.a p.n p.c) (.slice q.a q.n q.c)
      replace rx300 := rx300.pset P2 (.slice p.a p.n p.c) (.slice q.a q.n q.c)
      replace P1 := P1.other (B := w.heap.size + 1) (by omega) (.slice p.a p.n p.c) (.slice q.a q.n q.c)
      replace P3 := P3.other (B := w.heap.size + 1) (by omega) (.slice p.a p.n p.c) (.slice q.a q.n q.c)
      replace PB := PB.other (B := w.heap.size + 1) (by omega) (.slice p.a p.n p.c) (.slice q.a q.n q.c)
      replace hB := Below.pset (B := w.heap.size + 1) hB (by omega) (.slice p.a p.n p.c) (.slice q.a q.n q.c)
      replace P2 := P2.set (.slice p.a p.n p.c) (.slice q.a q.n q.c)
      generalize (w302.setCell ⟨w.heap.size + 1, 0, none⟩ (.slice p.a p.n p.c)).setCell ⟨w.heap.size + 1, 1, none⟩ (.slice q.a q.n q.c) = w303 at P1 P2 P3 PB rf1 rf2 rp rq rx291 rx295 rx299 rx300 hB ⊢
      refine hK _ _ ⟨P1, PB⟩ ?_
      clear hK K
      refine Rd.tr_move (by simp only [List.getElem?_toArray, List.getElem?_cons_succ, List.getElem?_cons_zero]; rfl) rfl (by rfl) (fun K hK => ?_)
      have c0P3 := P3.c0
      have c1P3 := P3.c1
      have z0P3 := P3.z0
      have z1P3 := P3.z1
      go_simp
      clear c0P3 c1P3 z0P3 z1P3
      replace rf1 := rf1.pset P3 (.slice x299.a x299.n x299.c) (.slice x300.a x300.n x300.c)
      replace rf2 := rf2.pset P3 (.slice x299.a x299.n x299.c) (.slice x300.a x300.n x300.c)
      replace rp := rp.pset P3 (.slice x299.a x299.n x299.c) (.slice x300.a x300.n x300.c)
      replace rq := rq.pset P3 (.slice x299.a x299.n x299.c) (.slice x300.a x300.n x300.c)
      replace rx291 := rx291.pset P3 (.slice x299.a x299.n x299.c) (.slice x300.a x300.n x300.c)
      replace rx295 := rx295.pset P3 (.slice x299.a x299.n x299.c) (.slice x300.a x300.n x300.c)
      replace rx299 := rx299.pset P3 (.slice x299.a x299.n x299.c) (.slice x300.a x300.n x300.c)
      replace rx300 := rx300.pset P3 (.slice x299.a x299.n x299.c) (.slice x300.a x300.n x300.c)
      replace P1 := P1.other (B := w.heap.size + 1 + 1) (by omega) (.slice x299.a x299.n x299.c) (.slice x300.a x300.n x300.c)
      replace P2 := P2.other (B := w.heap.size + 1 + 1) (by omega) (.slice x299.a x299.n x299.c) (.slice x300.a x300.n x300.c)
      replace PB := PB.other (B := w.heap.size + 1 + 1) (by omega) (.slice x299.a x299.n x299.c) (.slice x300.a x300.n x300.c)
      replace hB := Below.pset (B := w.heap.size + 1 + 1) hB (by omega) (.slice x299.a x299.n x299.c) (.slice x300.a x300.n x300.c)
      replace P3 := P3.set (.slice x299.a x299.n x299.c) (.slice x300.a x300.n x300.c)
      generalize (w303.setCell ⟨w.heap.size + 1 + 1, 0, none⟩ (.slice x299.a x299.n x299.c)).setCell ⟨w.heap.size + 1 + 1, 1, none⟩ (.slice x300.a x300.n x300.c) = w304 at P1 P2 P3 PB rf1 rf2 rp rq rx291 rx295 rx299 rx300 hB ⊢
      refine hK _ _ ⟨P1, PB⟩ ?_
      clear hK K
      refine Rd.tr_float (.bool true) (by simp only [List.getElem?_toArray, List.getElem?_cons_succ, List.getElem?_cons_zero]; rfl) rfl (by rfl) (fun X _ => by go_simp) ?_
      simp only [Act.put, List.setIfInBounds_toArray, List.set_cons_succ, List.set_cons_zero]
      exact Rd.tr_end (⟨x299, x300, _, _, _, _, _, _, _, _, _, _, _, _, _, _, _, _, _, _, _, _, _, _, _, _, _, _, _, _, _, _, _, _, _, _, _, _, _, _, _, _, _, _, _, _, _, _, _, _, _, _, _, _, _, _, rfl, rp, rq, rx299, rx300, P2, P3, hB⟩)
    case next =>
      rintro a4 W2 ⟨r, s, _, _, _, _, _, _, _, _, _, _, _, _, _, _, _, _, _, _, _, _, _, _, _, _, _, _, _, _, _, _, _, _, _, _, _, _, _, _, _, _, _, _, _, _, _, _, _, _, _, _, _, _, _, _, rfl, rp, rq, rr, rs, P2, P3, hB⟩
      go_wp2_with fail
      refine bodyPost_ret (v := .tuple #[.agg #[.slice p.a p.n p.c, .slice q.a q.n q.c], .agg #[.slice r.a r.n r.c, .slice s.a s.n s.c], .bool true]) ?_ rfl ⟨p, q, r, s, rfl, rp, rq, rr, rs, hB⟩
      simp [results, Tryd.f17, go_sem, P2.c0, P2.c1, P3.c0, P3.c1]

end Go.Proofs.YtnfoblmfjldheaaDoor
