/-
  What is shared, as a ratio and as the document's. Condition: none beyond what a number of 64 bits is.
-/
import Derived.Test.YtphllajedkpcbaaGreatDoorFl
namespace Go.Proofs.YtphllajedkpcbaaGreatDoor
open Go.RowKit Go.Dig Go.Shelf Go.Proofs Go.Rq

set_option maxRecDepth 100000 in
set_option maxHeartbeats 4000000 in
theorem both_any (A B : Int) (m d : Nat) (w : World) (hA : max A 0 = (m : Int)) (hD : max B 1 = (d : Int)) (hm : m < 9223372036854775808) (hd : d < 9223372036854775808) (HD0 : Hid (d ≠ 0)) :
    Calls Tryz.prog 9 #[.agg #[.int .i64 A, .int .i64 B]] w fun e w' => ∃ p q p2 q2 : Sl, e = .returned (.tuple #[.agg #[.slice p.a p.n p.c, .slice q.a q.n q.c], .agg #[.slice p2.a p2.n p2.c, .slice q2.a q2.n q2.c]]) ∧ RQ w' p q (rat m d) ∧ RK w' p2 q2 (rat m d) ∧ Below w.heap.size w w' := by
  have hw1 : IntKind.u64.wrap (m : Int) = (m : Int) := wrap_u64 m (by omega)
  have hw2 : IntKind.u64.wrap (d : Int) = (d : Int) := wrap_u64 d (by omega)
  have HBm : Hid (m < big 6400) := Lib.hid (Nat.lt_of_lt_of_le hm (big_small 6400 (by decide) (by omega)))
  have HBd : Hid (d < big 6400) := Lib.hid (Nat.lt_of_lt_of_le hd (big_small 6400 (by decide) (by omega)))
  go_enter Tryz.func9, Tryz.ntmps9
  have hb : Below w.heap.size w (((w.alloc (.cells #[.int .i64 A, .int .i64 B] 23)).alloc (.cells #[.slice none 0 0, .slice none 0 0] 29)).alloc (.cells #[.slice none 0 0, .slice none 0 0] 32)) := ((((Below.refl _ _).alloc (Nat.le_refl _) _).alloc (by simp) _).alloc (by simp; omega) _)
  have hB := hb
  have P1 : Pair (((w.alloc (.cells #[.int .i64 A, .int .i64 B] 23)).alloc (.cells #[.slice none 0 0, .slice none 0 0] 29)).alloc (.cells #[.slice none 0 0, .slice none 0 0] 32)) (w.heap.size) 23 (.int .i64 A) (.int .i64 B) := by
    have h := ((Pair.new w 23 (.int .i64 A) (.int .i64 B)).alloc (.cells #[.slice none 0 0, .slice none 0 0] 29)).alloc (.cells #[.slice none 0 0, .slice none 0 0] 32)
    simpa only [World.size_alloc] using h
  have P2 : Pair (((w.alloc (.cells #[.int .i64 A, .int .i64 B] 23)).alloc (.cells #[.slice none 0 0, .slice none 0 0] 29)).alloc (.cells #[.slice none 0 0, .slice none 0 0] 32)) (w.heap.size + 1) 29 (.slice none 0 0) (.slice none 0 0) := by
    have h := (Pair.new (w.alloc (.cells #[.int .i64 A, .int .i64 B] 23)) 29 (.slice none 0 0) (.slice none 0 0)).alloc (.cells #[.slice none 0 0, .slice none 0 0] 32)
    simpa only [World.size_alloc] using h
  have P3 : Pair (((w.alloc (.cells #[.int .i64 A, .int .i64 B] 23)).alloc (.cells #[.slice none 0 0, .slice none 0 0] 29)).alloc (.cells #[.slice none 0 0, .slice none 0 0] 32)) (w.heap.size + 1 + 1) 32 (.slice none 0 0) (.slice none 0 0) := by
    have h := Pair.new ((w.alloc (.cells #[.int .i64 A, .int .i64 B] 23)).alloc (.cells #[.slice none 0 0, .slice none 0 0] 29)) 32 (.slice none 0 0) (.slice none 0 0)
    simpa only [World.size_alloc] using h
  clear hb
  have c0P1 := P1.c0
  have c1P1 := P1.c1
  have c0P2 := P2.c0
  have c1P2 := P2.c1
  have c0P3 := P3.c0
  have c1P3 := P3.c1
  go_wp2_with fail
  clear c0P1 c1P1 c0P2 c1P2 c0P3 c1P3
  have hb : Below (((w.alloc (.cells #[.int .i64 A, .int .i64 B] 23)).alloc (.cells #[.slice none 0 0, .slice none 0 0] 29)).alloc (.cells #[.slice none 0 0, .slice none 0 0] 32)).heap.size (((w.alloc (.cells #[.int .i64 A, .int .i64 B] 23)).alloc (.cells #[.slice none 0 0, .slice none 0 0] 29)).alloc (.cells #[.slice none 0 0, .slice none 0 0] 32)) (((w.alloc (.cells #[.int .i64 A, .int .i64 B] 23)).alloc (.cells #[.slice none 0 0, .slice none 0 0] 29)).alloc (.cells #[.slice none 0 0, .slice none 0 0] 32)).drew := (Below.refl _ _).drew
  replace P1 := P1.below hb
  replace P2 := P2.below hb
  replace P3 := P3.below hb
  replace hB := hB.trans (hb.mono hB.size)
  clear hb
  refine Rd.regionT (fun X => Pair X (w.heap.size) 23 (.int .i64 A) (.int .i64 B) ∧ Pair X (w.heap.size + 1) 29 (.slice none 0 0) (.slice none 0 0) ∧ Pair X (w.heap.size + 1 + 1) 32 (.slice none 0 0) (.slice none 0 0)) [0, 1, 2, 3, 4, 5, 6, 7] (.one 0 (.one 1 (.one 2 (.one 3 (.one 4 (.one 5 (.one 6 (.one 7 .done)))))))) (fun ac W => ∃  (y8 y9 y10 y11 y12 y13 : Value), ac = { tmps := List.toArray (.agg #[.int .i64 A, .int .i64 B] :: .pointer (some ⟨w.heap.size, 0, none⟩) :: .pointer (some ⟨w.heap.size + 1, 0, none⟩) :: .pointer (some ⟨w.heap.size + 1 + 1, 0, none⟩) :: .int .i64 (m : Int) :: .int .i64 (d : Int) :: undef :: undef :: y8 :: y9 :: y10 :: y11 :: y12 :: y13 :: undef :: undef :: undef :: undef :: undef :: undef :: undef :: undef :: undef :: undef :: undef :: undef :: undef :: undef :: undef :: undef :: []), defers := [] } ∧ Pair W (w.heap.size) 23 (.int .i64 A) (.int .i64 B) ∧ Pair W (w.heap.size + 1) 29 (.slice none 0 0) (.slice none 0 0) ∧ Pair W (w.heap.size + 1 + 1) 32 (.slice none 0 0) (.slice none 0 0) ∧ Below w.heap.size w W) (by kernel_rfl) (by kernel_rfl) (by kernel_rfl) ⟨P1, P2, P3⟩ ?tree ?next
  case tree =>
    generalize (((w.alloc (.cells #[.int .i64 A, .int .i64 B] 23)).alloc (.cells #[.slice none 0 0, .slice none 0 0] 29)).alloc (.cells #[.slice none 0 0, .slice none 0 0] 32)).drew = w4 at P1 P2 P3 hB ⊢
    refine Rd.tr_float (.pointer (some ⟨w.heap.size, 0, none⟩)) (by simp only [List.getElem?_toArray, List.getElem?_cons_zero]; rfl) rfl (by rfl) (fun X _ => by go_simp) ?_
    simp only [Act.put, List.setIfInBounds_toArray, List.set_cons_succ, List.set_cons_zero]
    refine Rd.tr_float (.int .i64 A) (by simp only [List.getElem?_toArray, List.getElem?_cons_succ, List.getElem?_cons_zero]; rfl) rfl (by rfl) (fun X hX => by have h0 := hX.1.c0; have h1 := hX.1.c1; go_simp) ?_
    simp only [Act.put, List.setIfInBounds_toArray, List.set_cons_succ, List.set_cons_zero]
    refine Rd.tr_float (.int .i64 (m : Int)) (by simp only [List.getElem?_toArray, List.getElem?_cons_succ, List.getElem?_cons_zero]; rfl) rfl (by rfl) (fun X _ => by go_simp) ?_
    simp only [Act.put, List.setIfInBounds_toArray, List.set_cons_succ, List.set_cons_zero]
    refine Rd.tr_float (.pointer (some ⟨w.heap.size, 1, none⟩)) (by simp only [List.getElem?_toArray, List.getElem?_cons_succ, List.getElem?_cons_zero]; rfl) rfl (by rfl) (fun X _ => by go_simp) ?_
    simp only [Act.put, List.setIfInBounds_toArray, List.set_cons_succ, List.set_cons_zero]
    refine Rd.tr_float (.int .i64 B) (by simp only [List.getElem?_toArray, List.getElem?_cons_succ, List.getElem?_cons_zero]; rfl) rfl (by rfl) (fun X hX => by have h0 := hX.1.c0; have h1 := hX.1.c1; go_simp) ?_
    simp only [Act.put, List.setIfInBounds_toArray, List.set_cons_succ, List.set_cons_zero]
    refine Rd.tr_float (.int .i64 (d : Int)) (by simp only [List.getElem?_toArray, List.getElem?_cons_succ, List.getElem?_cons_zero]; rfl) rfl (by rfl) (fun X _ => by go_simp) ?_
    simp only [Act.put, List.setIfInBounds_toArray, List.set_cons_succ, List.set_cons_zero]
    refine Rd.tr_float (.int .i64 (m : Int)) (by simp only [List.getElem?_toArray, List.getElem?_cons_succ, List.getElem?_cons_zero]; rfl) rfl (by rfl) (fun X _ => by go_simp) ?_
    simp only [Act.put, List.setIfInBounds_toArray, List.set_cons_succ, List.set_cons_zero]
    refine Rd.tr_float (.int .i64 (d : Int)) (by simp only [List.getElem?_toArray, List.getElem?_cons_succ, List.getElem?_cons_zero]; rfl) rfl (by rfl) (fun X _ => by go_simp) ?_
    simp only [Act.put, List.setIfInBounds_toArray, List.set_cons_succ, List.set_cons_zero]
    exact Rd.tr_end (⟨_, _, _, _, _, _, rfl, P1, P2, P3, hB⟩)
  case next =>
    rintro a6 W5 ⟨y8, y9, y10, y11, y12, y13, rfl, P1, P2, P3, hB⟩
    have c0P1 := P1.c0
    have c1P1 := P1.c1
    have c0P2 := P2.c0
    have c1P2 := P2.c1
    have c0P3 := P3.c0
    have c1P3 := P3.c1
    have H9 := Lib.hid (nOf_any m W5 (by omega))
    go_wp2_with fail
    clear c0P1 c1P1 c0P2 c1P2 c0P3 c1P3
    refine H9.out.mono ?_
    rintro e w10 ⟨v7, rfl, rx8, hb⟩
    clear H9
    replace P1 := P1.below hb
    replace P2 := P2.below hb
    replace P3 := P3.below hb
    replace hB := hB.trans (hb.mono hB.size)
    clear hb
    obtain ⟨x8, rfl, rx8⟩ := rx8.sl
    have c0P1 := P1.c0
    have c1P1 := P1.c1
    have c0P2 := P2.c0
    have c1P2 := P2.c1
    have c0P3 := P3.c0
    have c1P3 := P3.c1
    have H13 := Lib.hid (nOf_any d w10 (by omega))
    go_wp2_with fail
    clear c0P1 c1P1 c0P2 c1P2 c0P3 c1P3
    refine H13.out.mono ?_
    rintro e w14 ⟨v11, rfl, rx12, hb⟩
    clear H13
    replace P1 := P1.below hb
    replace P2 := P2.below hb
    replace P3 := P3.below hb
    replace rx8 := rx8.below hb
    replace hB := hB.trans (hb.mono hB.size)
    clear hb
    obtain ⟨x12, rfl, rx12⟩ := rx12.sl
    have c0P1 := P1.c0
    have c1P1 := P1.c1
    have c0P2 := P2.c0
    have c1P2 := P2.c1
    have c0P3 := P3.c0
    have c1P3 := P3.c1
    have H17 := Lib.hid (Qof (.slice x8.a x8.n x8.c) (.slice x12.a x12.n x12.c) m d w14 rx8 rx12 HBm.out HBd.out HD0.out)
    go_wp2_with fail
    clear c0P1 c1P1 c0P2 c1P2 c0P3 c1P3
    refine H17.out.mono ?_
    rintro e w18 ⟨x15, y16, rfl, rx15, hb⟩
    clear H17
    replace P1 := P1.below hb
    replace P2 := P2.below hb
    replace P3 := P3.below hb
    replace rx8 := rx8.below hb
    replace rx12 := rx12.below hb
    replace hB := hB.trans (hb.mono hB.size)
    clear hb
    have hs2 := P2.lt
    have hs3 := P3.lt
    have hb : Below w18.heap.size w18 (w18.alloc (.cells #[.slice x15.a x15.n x15.c, .slice y16.a y16.n y16.c] 29)) := ((Below.refl _ _).alloc (Nat.le_refl _) _)
    replace P1 := P1.below hb
    replace P2 := P2.below hb
    replace P3 := P3.below hb
    replace rx8 := rx8.below hb
    replace rx12 := rx12.below hb
    replace rx15 := rx15.below hb
    replace hB := hB.trans (hb.mono hB.size)
    have P19 : Pair (w18.alloc (.cells #[.slice x15.a x15.n x15.c, .slice y16.a y16.n y16.c] 29)) (w18.heap.size) 29 (.slice x15.a x15.n x15.c) (.slice y16.a y16.n y16.c) := by
      have h := Pair.new w18 29 (.slice x15.a x15.n x15.c) (.slice y16.a y16.n y16.c)
      simpa only [World.size_alloc] using h
    clear hb
    have c0P1 := P1.c0
    have c1P1 := P1.c1
    have c0P2 := P2.c0
    have c1P2 := P2.c1
    have c0P3 := P3.c0
    have c1P3 := P3.c1
    have c0P19 := P19.c0
    have c1P19 := P19.c1
    go_wp2_with fail
    clear c0P1 c1P1 c0P2 c1P2 c0P3 c1P3 c0P19 c1P19
    have hb : Below (w18.alloc (.cells #[.slice x15.a x15.n x15.c, .slice y16.a y16.n y16.c] 29)).heap.size (w18.alloc (.cells #[.slice x15.a x15.n x15.c, .slice y16.a y16.n y16.c] 29)) (w18.alloc (.cells #[.slice x15.a x15.n x15.c, .slice y16.a y16.n y16.c] 29)).drew := (Below.refl _ _).drew
    replace P1 := P1.below hb
    replace P2 := P2.below hb
    replace P3 := P3.below hb
    replace P19 := P19.below hb
    replace rx8 := rx8.below hb
    replace rx12 := rx12.below hb
    replace rx15 := rx15.below hb
    replace hB := hB.trans (hb.mono hB.size)
    clear hb
    refine Rd.regionT (fun X => Pair X (w.heap.size) 23 (.int .i64 A) (.int .i64 B) ∧ Pair X (w18.heap.size) 29 (.slice x15.a x15.n x15.c) (.slice y16.a y16.n y16.c)) [0, 1, 3] (.one 0 (.one 1 (.one 3 (.one 2 (.one 4 (.one 5 (.one 6 (.one 7 .done)))))))) (fun ac W => ∃ (p : Sl) (q : Sl) (p2 : Sl) (q2 : Sl) (y24 y25 y26 y27 y28 y29 : Value), ac = { tmps := List.toArray (.agg #[.int .i64 A, .int .i64 B] :: .pointer (some ⟨w.heap.size, 0, none⟩) :: .pointer (some ⟨w.heap.size + 1, 0, none⟩) :: .pointer (some ⟨w.heap.size + 1 + 1, 0, none⟩) :: .int .i64 (m : Int) :: .int .i64 (d : Int) :: .pointer (some ⟨w18.heap.size, 0, none⟩) :: .int .i64 0 :: y8 :: y9 :: y10 :: y11 :: y12 :: y13 :: .tuple #[.agg #[.slice x15.a x15.n x15.c, .slice y16.a y16.n y16.c], .int .i64 0] :: .int .i64 (m : Int) :: .int .u64 (m : Int) :: .slice x8.a x8.n x8.c :: .int .i64 (d : Int) :: .int .u64 (d : Int) :: .slice x12.a x12.n x12.c :: .tuple #[.agg #[.slice x15.a x15.n x15.c, .slice y16.a y16.n y16.c], .int .i64 0] :: .agg #[.slice x15.a x15.n x15.c, .slice y16.a y16.n y16.c] :: .int .i64 0 :: y24 :: y25 :: y26 :: y27 :: y28 :: y29 :: []), defers := [] } ∧ RQ W p q (rat m d) ∧ RK W p2 q2 (rat m d) ∧ Pair W (w.heap.size + 1) 29 (.slice p.a p.n p.c) (.slice q.a q.n q.c) ∧ Pair W (w.heap.size + 1 + 1) 32 (.slice p2.a p2.n p2.c) (.slice q2.a q2.n q2.c) ∧ Below w.heap.size w W) (by kernel_rfl) (by kernel_rfl) (by kernel_rfl) ⟨P1, P19⟩ ?tree ?next
    case tree =>
      generalize (w18.alloc (.cells #[.slice x15.a x15.n x15.c, .slice y16.a y16.n y16.c] 29)).drew = w20 at P1 P2 P3 P19 rx8 rx12 rx15 hB ⊢
      refine Rd.tr_float (.agg #[.slice x15.a x15.n x15.c, .slice y16.a y16.n y16.c]) (by simp only [List.getElem?_toArray, List.getElem?_cons_zero]; rfl) rfl (by rfl) (fun X hX => by have h0 := hX.2.c0; have h1 := hX.2.c1; go_simp) ?_
      simp only [Act.put, List.setIfInBounds_toArray, List.set_cons_succ, List.set_cons_zero]
      refine Rd.tr_float (.int .i64 (m : Int)) (by simp only [List.getElem?_toArray, List.getElem?_cons_succ, List.getElem?_cons_zero]; rfl) rfl (by rfl) (fun X _ => by go_simp) ?_
      simp only [Act.put, List.setIfInBounds_toArray, List.set_cons_succ, List.set_cons_zero]
      refine Rd.tr_float (.int .i64 (d : Int)) (by simp only [List.getElem?_toArray, List.getElem?_cons_succ, List.getElem?_cons_zero]; rfl) rfl (by rfl) (fun X _ => by go_simp) ?_
      simp only [Act.put, List.setIfInBounds_toArray, List.set_cons_succ, List.set_cons_zero]
      refine Rd.tr_move (by simp only [List.getElem?_toArray, List.getElem?_cons_succ, List.getElem?_cons_zero]; rfl) rfl (by rfl) (fun K hK => ?_)
      have H23 := Lib.hid (Of_any m w20 (by omega))
      go_simp
      refine H23.out.mono ?_
      rintro e w24 ⟨v21, rfl, rx22, hb⟩
      clear H23
      replace P1 := P1.below hb
      replace P2 := P2.below hb
      replace P3 := P3.below hb
      replace P19 := P19.below hb
      replace rx8 := rx8.below hb
      replace rx12 := rx12.below hb
      replace rx15 := rx15.below hb
      replace hB := hB.trans (hb.mono hB.size)
      clear hb
      obtain ⟨x22, rfl, rx22⟩ := rx22.sl
      refine hK _ _ ⟨P1, P19⟩ ?_
      clear hK K
      refine Rd.tr_move (by simp only [List.getElem?_toArray, List.getElem?_cons_succ, List.getElem?_cons_zero]; rfl) rfl (by rfl) (fun K hK => ?_)
      have H27 := Lib.hid (Of_any d w24 (by omega))
      go_simp
      refine H27.out.mono ?_
      rintro e w28 ⟨v25, rfl, rx26, hb⟩
      clear H27
      replace P1 := P1.below hb
      replace P2 := P2.below hb
      replace P3 := P3.below hb
      replace P19 := P19.below hb
      replace rx8 := rx8.below hb
      replace rx12 := rx12.below hb
      replace rx15 := rx15.below hb
      replace rx22 := rx22.below hb
      replace hB := hB.trans (hb.mono hB.size)
      clear hb
      obtain ⟨x26, rfl, rx26⟩ := rx26.sl
      refine hK _ _ ⟨P1, P19⟩ ?_
      clear hK K
      refine Rd.tr_move (by simp only [List.getElem?_toArray, List.getElem?_cons_succ, List.getElem?_cons_zero]; rfl) rfl (by rfl) (fun K hK => ?_)
      have H31 := Lib.hid (Kof (.slice x22.a x22.n x22.c) (.slice x26.a x26.n x26.c) m d w28 rx22 rx26 HBm.out HBd.out HD0.out)
      go_simp
      refine H31.out.mono ?_
      rintro e w32 ⟨x29, y30, rfl, rx29, hb⟩
      clear H31
      replace P1 := P1.below hb
      replace P2 := P2.below hb
      replace P3 := P3.below hb
      replace P19 := P19.below hb
      replace rx8 := rx8.below hb
      replace rx12 := rx12.below hb
      replace rx15 := rx15.below hb
      replace rx22 := rx22.below hb
      replace rx26 := rx26.below hb
      replace hB := hB.trans (hb.mono hB.size)
      clear hb
      refine hK _ _ ⟨P1, P19⟩ ?_
      clear hK K
      refine Rd.tr_move (by simp only [List.getElem?_toArray, List.getElem?_cons_succ, List.getElem?_cons_zero]; rfl) rfl (by rfl) (fun K hK => ?_)
      have c0P2 := P2.c0
      have c1P2 := P2.c1
      have z0P2 := P2.z0
      have z1P2 := P2.z1
      go_simp
      clear c0P2 c1P2 z0P2 z1P2
      replace rx8 := rx8.pset P2 (.slice x15.a x15.n x15.c) (.slice y16.a y16.n y16.c)
      replace rx12 := rx12.pset P2 (.slice x15.a x15.n x15.c) (.slice y16.a y16.n y16.c)
      replace rx15 := rx15.pset P2 (.slice x15.a x15.n x15.c) (.slice y16.a y16.n y16.c)
      replace rx22 := rx22.pset P2 (.slice x15.a x15.n x15.c) (.slice y16.a y16.n y16.c)
      replace rx26 := rx26.pset P2 (.slice x15.a x15.n x15.c) (.slice y16.a y16.n y16.c)
      replace rx29 := rx29.pset P2 (.slice x15.a x15.n x15.c) (.slice y16.a y16.n y16.c)
      replace P1 := P1.other (B := w.heap.size + 1) (by omega) (.slice x15.a x15.n x15.c) (.slice y16.a y16.n y16.c)
      replace P3 := P3.other (B := w.heap.size + 1) (by omega) (.slice x15.a x15.n x15.c) (.slice y16.a y16.n y16.c)
      replace P19 := P19.other (B := w.heap.size + 1) (by omega) (.slice x15.a x15.n x15.c) (.slice y16.a y16.n y16.c)
      replace hB := Below.pset (B := w.heap.size + 1) hB (by omega) (.slice x15.a x15.n x15.c) (.slice y16.a y16.n y16.c)
      replace P2 := P2.set (.slice x15.a x15.n x15.c) (.slice y16.a y16.n y16.c)
      generalize (w32.setCell ⟨w.heap.size + 1, 0, none⟩ (.slice x15.a x15.n x15.c)).setCell ⟨w.heap.size + 1, 1, none⟩ (.slice y16.a y16.n y16.c) = w33 at P1 P2 P3 P19 rx8 rx12 rx15 rx22 rx26 rx29 hB ⊢
      refine hK _ _ ⟨P1, P19⟩ ?_
      clear hK K
      refine Rd.tr_move (by simp only [List.getElem?_toArray, List.getElem?_cons_succ, List.getElem?_cons_zero]; rfl) rfl (by rfl) (fun K hK => ?_)
      have c0P3 := P3.c0
      have c1P3 := P3.c1
      have z0P3 := P3.z0
      have z1P3 := P3.z1
      go_simp
      clear c0P3 c1P3 z0P3 z1P3
      replace rx8 := rx8.pset P3 (.slice x29.a x29.n x29.c) (.slice y30.a y30.n y30.c)
      replace rx12 := rx12.pset P3 (.slice x29.a x29.n x29.c) (.slice y30.a y30.n y30.c)
      replace rx15 := rx15.pset P3 (.slice x29.a x29.n x29.c) (.slice y30.a y30.n y30.c)
      replace rx22 := rx22.pset P3 (.slice x29.a x29.n x29.c) (.slice y30.a y30.n y30.c)
      replace rx26 := rx26.pset P3 (.slice x29.a x29.n x29.c) (.slice y30.a y30.n y30.c)
      replace rx29 := rx29.pset P3 (.slice x29.a x29.n x29.c) (.slice y30.a y30.n y30.c)
      replace P1 := P1.other (B := w.heap.size + 1 + 1) (by omega) (.slice x29.a x29.n x29.c) (.slice y30.a y30.n y30.c)
      replace P2 := P2.other (B := w.heap.size + 1 + 1) (by omega) (.slice x29.a x29.n x29.c) (.slice y30.a y30.n y30.c)
      replace P19 := P19.other (B := w.heap.size + 1 + 1) (by omega) (.slice x29.a x29.n x29.c) (.slice y30.a y30.n y30.c)
      replace hB := Below.pset (B := w.heap.size + 1 + 1) hB (by omega) (.slice x29.a x29.n x29.c) (.slice y30.a y30.n y30.c)
      replace P3 := P3.set (.slice x29.a x29.n x29.c) (.slice y30.a y30.n y30.c)
      generalize (w33.setCell ⟨w.heap.size + 1 + 1, 0, none⟩ (.slice x29.a x29.n x29.c)).setCell ⟨w.heap.size + 1 + 1, 1, none⟩ (.slice y30.a y30.n y30.c) = w34 at P1 P2 P3 P19 rx8 rx12 rx15 rx22 rx26 rx29 hB ⊢
      refine hK _ _ ⟨P1, P19⟩ ?_
      clear hK K
      exact Rd.tr_end (⟨x15, y16, x29, y30, _, _, _, _, _, _, rfl, rx15, rx29, P2, P3, hB⟩)
    case next =>
      rintro a36 W35 ⟨p, q, p2, q2, y24, y25, y26, y27, y28, y29, rfl, rp, rp2, PR, PK, hB⟩
      go_wp2_with fail
      refine bodyPost_ret (v := .tuple #[.agg #[.slice p.a p.n p.c, .slice q.a q.n q.c], .agg #[.slice p2.a p2.n p2.c, .slice q2.a q2.n q2.c]]) ?_ rfl ⟨p, q, p2, q2, rfl, rp, rp2, hB⟩
      simp [results, Tryz.f9, go_sem, PR.c0, PR.c1, PK.c0, PK.c1]

end Go.Proofs.YtphllajedkpcbaaGreatDoor
