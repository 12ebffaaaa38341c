/-
  The walk of RatioTexts: whatever the limbs, it answers true, and leaves all memory as it was. No condition.
-/
import Derived.Test.YtnfoblmfjldheaaDoorQz
import Derived.Test.YtnfoblmfjldheaaDoorQi
namespace Go.Proofs.YtnfoblmfjldheaaDoor
open Go.RowKit Go.Dig Go.Shelf Go.Proofs

theorem qtext_short {x y : Nat} (h1 : (L x).length ≤ 4) (h2 : (L y).length ≤ 4) : (qtext x y).length ≤ 200 := by
  have a := text_short h1
  have b := text_short h2
  unfold qtext
  split
  · omega
  · rw [List.length_append, List.length_cons]; omega
set_option maxRecDepth 100000 in
set_option maxHeartbeats 4000000 in
theorem texts_n (f1 f2 : Sl) (l11 l12 : List Nat) (w : World) (rf1 : RA w f1 l11) (rf2 : RA w f2 l12) (HM1 : Hid (madeB l11 l12 = false)) :
    Calls Tryd.prog 7 #[.agg #[.slice f1.a f1.n f1.c, .slice f2.a f2.n f2.c]] w fun e w' => e = .returned (.bool true) ∧ Below w.heap.size w w' := by
  go_enter Tryd.func7, Tryd.ntmps7
  have hb : Below w.heap.size w (w.alloc (.cells #[.slice f1.a f1.n f1.c, .slice f2.a f2.n f2.c] 24)) := ((Below.refl _ _).alloc (Nat.le_refl _) _)
  replace rf1 := rf1.below hb
  replace rf2 := rf2.below hb
  have hB := hb
  have P1 : Pair (w.alloc (.cells #[.slice f1.a f1.n f1.c, .slice f2.a f2.n f2.c] 24)) (w.heap.size) 24 (.slice f1.a f1.n f1.c) (.slice f2.a f2.n f2.c) := by
    have h := Pair.new w 24 (.slice f1.a f1.n f1.c) (.slice f2.a f2.n f2.c)
    simpa only [World.size_alloc] using h
  clear hb
  have c0P1 := P1.c0
  have c1P1 := P1.c1
  have H2 := Lib.hid (made_false f1 f2 l11 l12 (w.alloc (.cells #[.slice f1.a f1.n f1.c, .slice f2.a f2.n f2.c] 24)) rf1 rf2 HM1)
  go_wp2_with fail
  clear c0P1 c1P1
  refine H2.out.mono ?_
  rintro e w3 ⟨rfl, hb⟩
  clear H2
  replace P1 := P1.below hb
  replace rf1 := rf1.below hb
  replace rf2 := rf2.below hb
  replace hB := hB.trans (hb.mono hB.size)
  clear hb
  have hb : Below w3.heap.size w3 ((w3.alloc (.cells #[.slice none 0 0, .slice none 0 0] 30)).alloc (.cells #[.slice none 0 0, .slice none 0 0] 35)) := (((Below.refl _ _).alloc (Nat.le_refl _) _).alloc (by simp) _)
  replace P1 := P1.below hb
  replace rf1 := rf1.below hb
  replace rf2 := rf2.below hb
  replace hB := hB.trans (hb.mono hB.size)
  have P4 : Pair ((w3.alloc (.cells #[.slice none 0 0, .slice none 0 0] 30)).alloc (.cells #[.slice none 0 0, .slice none 0 0] 35)) (w3.heap.size) 30 (.slice none 0 0) (.slice none 0 0) := by
    have h := (Pair.new w3 30 (.slice none 0 0) (.slice none 0 0)).alloc (.cells #[.slice none 0 0, .slice none 0 0] 35)
    simpa only [World.size_alloc] using h
  have P5 : Pair ((w3.alloc (.cells #[.slice none 0 0, .slice none 0 0] 30)).alloc (.cells #[.slice none 0 0, .slice none 0 0] 35)) (w3.heap.size + 1) 35 (.slice none 0 0) (.slice none 0 0) := by
    have h := Pair.new (w3.alloc (.cells #[.slice none 0 0, .slice none 0 0] 30)) 35 (.slice none 0 0) (.slice none 0 0)
    simpa only [World.size_alloc] using h
  clear hb
  have c0P1 := P1.c0
  have c1P1 := P1.c1
  have c0P4 := P4.c0
  have c1P4 := P4.c1
  have c0P5 := P5.c0
  have c1P5 := P5.c1
  have H6 := Lib.hid (awake_any ((w3.alloc (.cells #[.slice none 0 0, .slice none 0 0] 30)).alloc (.cells #[.slice none 0 0, .slice none 0 0] 35)))
  go_wp2_with fail
  clear c0P1 c1P1 c0P4 c1P4 c0P5 c1P5
  refine H6.out.mono ?_
  rintro e w7 ⟨rfl, hb⟩
  clear H6
  replace P1 := P1.below hb
  replace P4 := P4.below hb
  replace P5 := P5.below hb
  replace rf1 := rf1.below hb
  replace rf2 := rf2.below hb
  replace hB := hB.trans (hb.mono hB.size)
  clear hb
  have c0P1 := P1.c0
  have c1P1 := P1.c1
  have c0P4 := P4.c0
  have c1P4 := P4.c1
  have c0P5 := P5.c0
  have c1P5 := P5.c1
  have H8 := Lib.hid (awake_any w7)
  go_wp2_with fail
  clear c0P1 c1P1 c0P4 c1P4 c0P5 c1P5
  refine H8.out.mono ?_
  rintro e w9 ⟨rfl, hb⟩
  clear H8
  replace P1 := P1.below hb
  replace P4 := P4.below hb
  replace P5 := P5.below hb
  replace rf1 := rf1.below hb
  replace rf2 := rf2.below hb
  replace hB := hB.trans (hb.mono hB.size)
  clear hb
  have c0P1 := P1.c0
  have c1P1 := P1.c1
  have c0P4 := P4.c0
  have c1P4 := P4.c1
  have c0P5 := P5.c0
  have c1P5 := P5.c1
  go_wp2_with fail
  go_ret
  exact ⟨rfl, hB⟩

set_option maxRecDepth 100000 in
set_option maxHeartbeats 4000000 in
theorem texts_y (f1 f2 : Sl) (l11 l12 : List Nat) (w : World) (rf1 : RA w f1 l11) (rf2 : RA w f2 l12) (S11 : Hid (SmallU l11)) (S12 : Hid (SmallU l12)) (HM1 : Hid (madeB l11 l12 = true)) :
    Calls Tryd.prog 7 #[.agg #[.slice f1.a f1.n f1.c, .slice f2.a f2.n f2.c]] w fun e w' => e = .returned (.bool true) ∧ Below w.heap.size w w' := by
  go_enter Tryd.func7, Tryd.ntmps7
  have hb : Below w.heap.size w (w.alloc (.cells #[.slice f1.a f1.n f1.c, .slice f2.a f2.n f2.c] 24)) := ((Below.refl _ _).alloc (Nat.le_refl _) _)
  replace rf1 := rf1.below hb
  replace rf2 := rf2.below hb
  have hB := hb
  have P1 : Pair (w.alloc (.cells #[.slice f1.a f1.n f1.c, .slice f2.a f2.n f2.c] 24)) (w.heap.size) 24 (.slice f1.a f1.n f1.c) (.slice f2.a f2.n f2.c) := by
    have h := Pair.new w 24 (.slice f1.a f1.n f1.c) (.slice f2.a f2.n f2.c)
    simpa only [World.size_alloc] using h
  clear hb
  have c0P1 := P1.c0
  have c1P1 := P1.c1
  have H2 := Lib.hid (made_true f1 f2 l11 l12 (w.alloc (.cells #[.slice f1.a f1.n f1.c, .slice f2.a f2.n f2.c] 24)) rf1 rf2 S11 S12 HM1)
  go_wp2_with fail
  clear c0P1 c1P1
  refine H2.out.mono ?_
  rintro e w3 ⟨xa, ya, pa, qa, ra, sa, rfl, Lxa, Lya, Hxa, rpa, rqa, rra, rsa, hb⟩
  clear H2
  replace P1 := P1.below hb
  replace rf1 := rf1.below hb
  replace rf2 := rf2.below hb
  replace hB := hB.trans (hb.mono hB.size)
  clear hb
  have hb : Below w3.heap.size w3 ((w3.alloc (.cells #[.slice pa.a pa.n pa.c, .slice qa.a qa.n qa.c] 30)).alloc (.cells #[.slice ra.a ra.n ra.c, .slice sa.a sa.n sa.c] 35)) := (((Below.refl _ _).alloc (Nat.le_refl _) _).alloc (by simp) _)
  replace P1 := P1.below hb
  replace rf1 := rf1.below hb
  replace rf2 := rf2.below hb
  replace rpa := rpa.below hb
  replace rqa := rqa.below hb
  replace rra := rra.below hb
  replace rsa := rsa.below hb
  replace hB := hB.trans (hb.mono hB.size)
  have P4 : Pair ((w3.alloc (.cells #[.slice pa.a pa.n pa.c, .slice qa.a qa.n qa.c] 30)).alloc (.cells #[.slice ra.a ra.n ra.c, .slice sa.a sa.n sa.c] 35)) (w3.heap.size) 30 (.slice pa.a pa.n pa.c) (.slice qa.a qa.n qa.c) := by
    have h := (Pair.new w3 30 (.slice pa.a pa.n pa.c) (.slice qa.a qa.n qa.c)).alloc (.cells #[.slice ra.a ra.n ra.c, .slice sa.a sa.n sa.c] 35)
    simpa only [World.size_alloc] using h
  have P5 : Pair ((w3.alloc (.cells #[.slice pa.a pa.n pa.c, .slice qa.a qa.n qa.c] 30)).alloc (.cells #[.slice ra.a ra.n ra.c, .slice sa.a sa.n sa.c] 35)) (w3.heap.size + 1) 35 (.slice ra.a ra.n ra.c) (.slice sa.a sa.n sa.c) := by
    have h := Pair.new (w3.alloc (.cells #[.slice pa.a pa.n pa.c, .slice qa.a qa.n qa.c] 30)) 35 (.slice ra.a ra.n ra.c) (.slice sa.a sa.n sa.c)
    simpa only [World.size_alloc] using h
  clear hb
  have c0P1 := P1.c0
  have c1P1 := P1.c1
  have c0P4 := P4.c0
  have c1P4 := P4.c1
  have c0P5 := P5.c0
  have c1P5 := P5.c1
  have H6 := Lib.hid (awake_any ((w3.alloc (.cells #[.slice pa.a pa.n pa.c, .slice qa.a qa.n qa.c] 30)).alloc (.cells #[.slice ra.a ra.n ra.c, .slice sa.a sa.n sa.c] 35)))
  go_wp2_with fail
  clear c0P1 c1P1 c0P4 c1P4 c0P5 c1P5
  refine H6.out.mono ?_
  rintro e w7 ⟨rfl, hb⟩
  clear H6
  replace P1 := P1.below hb
  replace P4 := P4.below hb
  replace P5 := P5.below hb
  replace rf1 := rf1.below hb
  replace rf2 := rf2.below hb
  replace rpa := rpa.below hb
  replace rqa := rqa.below hb
  replace rra := rra.below hb
  replace rsa := rsa.below hb
  replace hB := hB.trans (hb.mono hB.size)
  clear hb
  have c0P1 := P1.c0
  have c1P1 := P1.c1
  have c0P4 := P4.c0
  have c1P4 := P4.c1
  have c0P5 := P5.c0
  have c1P5 := P5.c1
  have H8 := Lib.hid (qtext_nat pa qa (xa) (ya) w7 rpa rqa (Lib.hid (Nat.le_trans Lxa.out (by omega))) (Lib.hid (Nat.le_trans Lya.out (by omega))) )
  go_wp2_with fail
  clear c0P1 c1P1 c0P4 c1P4 c0P5 c1P5
  refine H8.out.mono ?_
  rintro e w9 ⟨rfl, hb⟩
  clear H8
  replace P1 := P1.below hb
  replace P4 := P4.below hb
  replace P5 := P5.below hb
  replace rf1 := rf1.below hb
  replace rf2 := rf2.below hb
  replace rpa := rpa.below hb
  replace rqa := rqa.below hb
  replace rra := rra.below hb
  replace rsa := rsa.below hb
  replace hB := hB.trans (hb.mono hB.size)
  clear hb
  have c0P1 := P1.c0
  have c1P1 := P1.c1
  have c0P4 := P4.c0
  have c1P4 := P4.c1
  have c0P5 := P5.c0
  have c1P5 := P5.c1
  have H12 := Lib.hid (qread_yes (qtext xa ya) xa ya ⟨rfl, Hxa.out.1, Hxa.out.2⟩ (qtext_short Lxa.out Lya.out) w9)
  go_wp2_with fail
  clear c0P1 c1P1 c0P4 c1P4 c0P5 c1P5
  refine H12.out.mono ?_
  rintro e w13 ⟨x10, x11, rfl, rx10, rx11, hb⟩
  clear H12
  replace P1 := P1.below hb
  replace P4 := P4.below hb
  replace P5 := P5.below hb
  replace rf1 := rf1.below hb
  replace rf2 := rf2.below hb
  replace rpa := rpa.below hb
  replace rqa := rqa.below hb
  replace rra := rra.below hb
  replace rsa := rsa.below hb
  replace hB := hB.trans (hb.mono hB.size)
  clear hb
  have hb : Below w13.heap.size w13 (w13.alloc (.cells #[.slice x10.a x10.n x10.c, .slice x11.a x11.n x11.c] 30)) := ((Below.refl _ _).alloc (Nat.le_refl _) _)
  replace P1 := P1.below hb
  replace P4 := P4.below hb
  replace P5 := P5.below hb
  replace rf1 := rf1.below hb
  replace rf2 := rf2.below hb
  replace rpa := rpa.below hb
  replace rqa := rqa.below hb
  replace rra := rra.below hb
  replace rsa := rsa.below hb
  replace rx10 := rx10.below hb
  replace rx11 := rx11.below hb
  replace hB := hB.trans (hb.mono hB.size)
  have P14 : Pair (w13.alloc (.cells #[.slice x10.a x10.n x10.c, .slice x11.a x11.n x11.c] 30)) (w13.heap.size) 30 (.slice x10.a x10.n x10.c) (.slice x11.a x11.n x11.c) := by
    have h := Pair.new w13 30 (.slice x10.a x10.n x10.c) (.slice x11.a x11.n x11.c)
    simpa only [World.size_alloc] using h
  clear hb
  have c0P1 := P1.c0
  have c1P1 := P1.c1
  have c0P4 := P4.c0
  have c1P4 := P4.c1
  have c0P5 := P5.c0
  have c1P5 := P5.c1
  have c0P14 := P14.c0
  have c1P14 := P14.c1
  go_wp2_with fail
  clear c0P1 c1P1 c0P4 c1P4 c0P5 c1P5 c0P14 c1P14
  have hb : Below (w13.alloc (.cells #[.slice x10.a x10.n x10.c, .slice x11.a x11.n x11.c] 30)).heap.size (w13.alloc (.cells #[.slice x10.a x10.n x10.c, .slice x11.a x11.n x11.c] 30)) (w13.alloc (.cells #[.slice x10.a x10.n x10.c, .slice x11.a x11.n x11.c] 30)).drew := (Below.refl _ _).drew
  replace P1 := P1.below hb
  replace P4 := P4.below hb
  replace P5 := P5.below hb
  replace P14 := P14.below hb
  replace rf1 := rf1.below hb
  replace rf2 := rf2.below hb
  replace rpa := rpa.below hb
  replace rqa := rqa.below hb
  replace rra := rra.below hb
  replace rsa := rsa.below hb
  replace rx10 := rx10.below hb
  replace rx11 := rx11.below hb
  replace hB := hB.trans (hb.mono hB.size)
  clear hb
  refine Rd.regionT (fun X => Pair X (w.heap.size) 24 (.slice f1.a f1.n f1.c) (.slice f2.a f2.n f2.c) ∧ Pair X (w3.heap.size) 30 (.slice pa.a pa.n pa.c) (.slice qa.a qa.n qa.c) ∧ Pair X (w3.heap.size + 1) 35 (.slice ra.a ra.n ra.c) (.slice sa.a sa.n sa.c) ∧ Pair X (w13.heap.size) 30 (.slice x10.a x10.n x10.c) (.slice x11.a x11.n x11.c)) [0, 2, 4, 5, 6, 7, 8, 9, 10, 11, 13, 14] (.one 0 (.one 2 (.one 1 (.one 3 (.one 4 (.one 5 (.one 6 (.one 7 (.one 8 (.one 9 (.one 10 (.one 11 (.one 12 (.one 13 (.one 14 .done))))))))))))))) (fun ac W => (∃ t : Array Value, ac = { tmps := t, defers := [] } ∧ t[2]?.getD undef = .bool true) ∧ Below w.heap.size w W) (by kernel_rfl) (by kernel_rfl) (by kernel_rfl) ⟨P1, P4, P5, P14⟩ ?tree ?next
  case tree =>
    generalize (w13.alloc (.cells #[.slice x10.a x10.n x10.c, .slice x11.a x11.n x11.c] 30)).drew = w15 at P1 P4 P5 P14 rf1 rf2 rpa rqa rra rsa rx10 rx11 hB ⊢
    refine Rd.tr_float (.agg #[.slice pa.a pa.n pa.c, .slice qa.a qa.n qa.c]) (by simp only [List.getElem?_toArray, List.getElem?_cons_zero]; rfl) rfl (by rfl) (fun X hX => by have h0 := hX.2.1.c0; have h1 := hX.2.1.c1; go_simp) ?_
    simp only [Act.put, List.setIfInBounds_toArray, List.set_cons_succ, List.set_cons_zero]
    refine Rd.tr_float (.agg #[.slice ra.a ra.n ra.c, .slice sa.a sa.n sa.c]) (by simp only [List.getElem?_toArray, List.getElem?_cons_succ, List.getElem?_cons_zero]; rfl) rfl (by rfl) (fun X hX => by have h0 := hX.2.2.1.c0; have h1 := hX.2.2.1.c1; go_simp) ?_
    simp only [Act.put, List.setIfInBounds_toArray, List.set_cons_succ, List.set_cons_zero]
    refine Rd.tr_move (by simp only [List.getElem?_toArray, List.getElem?_cons_succ, List.getElem?_cons_zero]; rfl) rfl (by rfl) (fun K hK => ?_)
    have H16 := Lib.hid (qtext_nat pa qa (xa) (ya) w15 rpa rqa (Lib.hid (Nat.le_trans Lxa.out (by omega))) (Lib.hid (Nat.le_trans Lya.out (by omega))) )
    go_simp
    refine H16.out.mono ?_
    rintro e w17 ⟨rfl, hb⟩
    clear H16
    replace P1 := P1.below hb
    replace P4 := P4.below hb
    replace P5 := P5.below hb
    replace P14 := P14.below hb
    replace rf1 := rf1.below hb
    replace rf2 := rf2.below hb
    replace rpa := rpa.below hb
    replace rqa := rqa.below hb
    replace rra := rra.below hb
    replace rsa := rsa.below hb
    replace rx10 := rx10.below hb
    replace rx11 := rx11.below hb
    replace hB := hB.trans (hb.mono hB.size)
    clear hb
    refine hK _ _ ⟨P1, P4, P5, P14⟩ ?_
    clear hK K
    refine Rd.tr_move (by simp only [List.getElem?_toArray, List.getElem?_cons_succ, List.getElem?_cons_zero]; rfl) rfl (by rfl) (fun K hK => ?_)
    have H18 := Lib.hid (rqtext_nat ra sa (xa) (ya) w17 rra rsa (Lib.hid (Nat.le_trans Lxa.out (by omega))) (Lib.hid (Nat.le_trans Lya.out (by omega))) (Lib.hid Hxa.out.1))
    go_simp
    refine H18.out.mono ?_
    rintro e w19 ⟨rfl, hb⟩
    clear H18
    replace P1 := P1.below hb
    replace P4 := P4.below hb
    replace P5 := P5.below hb
    replace P14 := P14.below hb
    replace rf1 := rf1.below hb
    replace rf2 := rf2.below hb
    replace rpa := rpa.below hb
    replace rqa := rqa.below hb
    replace rra := rra.below hb
    replace rsa := rsa.below hb
    replace rx10 := rx10.below hb
    replace rx11 := rx11.below hb
    replace hB := hB.trans (hb.mono hB.size)
    clear hb
    refine hK _ _ ⟨P1, P4, P5, P14⟩ ?_
    clear hK K
    refine Rd.tr_float (.bool true) (by simp only [List.getElem?_toArray, List.getElem?_cons_succ, List.getElem?_cons_zero]; rfl) rfl (by rfl) (fun X _ => by go_simp) ?_
    simp only [Act.put, List.setIfInBounds_toArray, List.set_cons_succ, List.set_cons_zero]
    refine Rd.tr_float (.bool true) (by simp only [List.getElem?_toArray, List.getElem?_cons_succ, List.getElem?_cons_zero]; rfl) rfl (by rfl) (fun X _ => by go_simp) ?_
    simp only [Act.put, List.setIfInBounds_toArray, List.set_cons_succ, List.set_cons_zero]
    refine Rd.tr_float (.int .i64 0) (by simp only [List.getElem?_toArray, List.getElem?_cons_succ, List.getElem?_cons_zero]; rfl) rfl (by rfl) (fun X _ => by go_simp) ?_
    simp only [Act.put, List.setIfInBounds_toArray, List.set_cons_succ, List.set_cons_zero]
    refine Rd.tr_float (.bool true) (by simp only [List.getElem?_toArray, List.getElem?_cons_succ, List.getElem?_cons_zero]; rfl) rfl (by rfl) (fun X _ => by go_simp) ?_
    simp only [Act.put, List.setIfInBounds_toArray, List.set_cons_succ, List.set_cons_zero]
    refine Rd.tr_float (.bool true) (by simp only [List.getElem?_toArray, List.getElem?_cons_succ, List.getElem?_cons_zero]; rfl) rfl (by rfl) (fun X _ => by go_simp) ?_
    simp only [Act.put, List.setIfInBounds_toArray, List.set_cons_succ, List.set_cons_zero]
    refine Rd.tr_float (.bool true) (by simp only [List.getElem?_toArray, List.getElem?_cons_succ, List.getElem?_cons_zero]; rfl) rfl (by rfl) (fun X _ => by go_simp) ?_
    simp only [Act.put, List.setIfInBounds_toArray, List.set_cons_succ, List.set_cons_zero]
    refine Rd.tr_float (.agg #[.slice x10.a x10.n x10.c, .slice x11.a x11.n x11.c]) (by simp only [List.getElem?_toArray, List.getElem?_cons_succ, List.getElem?_cons_zero]; rfl) rfl (by rfl) (fun X hX => by have h0 := hX.2.2.2.c0; have h1 := hX.2.2.2.c1; go_simp) ?_
    simp only [Act.put, List.setIfInBounds_toArray, List.set_cons_succ, List.set_cons_zero]
    refine Rd.tr_float (.agg #[.slice ra.a ra.n ra.c, .slice sa.a sa.n sa.c]) (by simp only [List.getElem?_toArray, List.getElem?_cons_succ, List.getElem?_cons_zero]; rfl) rfl (by rfl) (fun X hX => by have h0 := hX.2.2.1.c0; have h1 := hX.2.2.1.c1; go_simp) ?_
    simp only [Act.put, List.setIfInBounds_toArray, List.set_cons_succ, List.set_cons_zero]
    refine Rd.tr_move (by simp only [List.getElem?_toArray, List.getElem?_cons_succ, List.getElem?_cons_zero]; rfl) rfl (by rfl) (fun K hK => ?_)
    have H20 := Lib.hid (qis_nat x10 x11 ra sa (xa) (ya) w19 rx10 rx11 rra rsa (Lib.hid (Nat.le_trans Lxa.out (by omega))) (Lib.hid (Nat.le_trans Lya.out (by omega))))
    go_simp
    refine H20.out.mono ?_
    rintro e w21 ⟨rfl, hb⟩
    clear H20
    replace P1 := P1.below hb
    replace P4 := P4.below hb
    replace P5 := P5.below hb
    replace P14 := P14.below hb
    replace rf1 := rf1.below hb
    replace rf2 := rf2.below hb
    replace rpa := rpa.below hb
    replace rqa := rqa.below hb
    replace rra := rra.below hb
    replace rsa := rsa.below hb
    replace rx10 := rx10.below hb
    replace rx11 := rx11.below hb
    replace hB := hB.trans (hb.mono hB.size)
    clear hb
    refine hK _ _ ⟨P1, P4, P5, P14⟩ ?_
    clear hK K
    refine Rd.tr_float (.bool true) (by simp only [List.getElem?_toArray, List.getElem?_cons_succ, List.getElem?_cons_zero]; rfl) rfl (by rfl) (fun X _ => by go_simp) ?_
    simp only [Act.put, List.setIfInBounds_toArray, List.set_cons_succ, List.set_cons_zero]
    refine Rd.tr_float (.bool true) (by simp only [List.getElem?_toArray, List.getElem?_cons_succ, List.getElem?_cons_zero]; rfl) rfl (by rfl) (fun X _ => by go_simp) ?_
    simp only [Act.put, List.setIfInBounds_toArray, List.set_cons_succ, List.set_cons_zero]
    exact Rd.tr_end (⟨⟨_, rfl, rfl⟩, hB⟩)
  case next =>
    rintro a3 W ⟨⟨t, rfl, ht⟩, hB⟩
    go_wp2_with fail
    refine bodyPost_ret (v := .bool true) ?_ rfl ⟨rfl, hB⟩
    simp [results, Tryd.f7, go_sem, ht]

theorem texts_any (f1 f2 : Sl) (l11 l12 : List Nat) (w : World) (rf1 : RA w f1 l11) (rf2 : RA w f2 l12) (S11 : Hid (SmallU l11)) (S12 : Hid (SmallU l12)) :
    Calls Tryd.prog 7 #[.agg #[.slice f1.a f1.n f1.c, .slice f2.a f2.n f2.c]] w fun e w' => e = .returned (.bool true) ∧ Below w.heap.size w w' := by
  cases h1 : madeB l11 l12
  · exact texts_n f1 f2 l11 l12 w rf1 rf2 (Lib.hid h1)
  · exact texts_y f1 f2 l11 l12 w rf1 rf2 S11 S12 (Lib.hid h1)
end Go.Proofs.YtnfoblmfjldheaaDoor
