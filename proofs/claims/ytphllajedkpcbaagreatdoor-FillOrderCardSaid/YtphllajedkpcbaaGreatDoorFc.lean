/-
  What a child gets at a level, and whether that is above its cap. Condition: a weight of at most 10000, a cap of at most 64; not more than a hundred limbs.
-/
import Derived.Test.YtphllajedkpcbaaGreatDoorFb
namespace Go.Proofs.YtphllajedkpcbaaGreatDoor
open Go.RowKit Go.Dig Go.Shelf Go.Proofs Go.Rq

set_option maxRecDepth 100000 in
set_option maxHeartbeats 4000000 in
theorem uncapped_any (wt cp : Nat) (p q : Sl) (l : Rat) (w : World) (hl : RQ w p q l) (hw : wt ≤ 10000) (HZ : Hid (Sz (l * wt))) :
    Calls Tryz.prog 51 #[.agg #[.int .i64 (wt : Int), .int .i64 (cp : Int)], .agg #[.slice p.a p.n p.c, .slice q.a q.n q.c]] w fun e w' => ∃ x y : Sl, e = .returned (.agg #[.slice x.a x.n x.c, .slice y.a y.n y.c]) ∧ RQ w' x y (l * (wt : Rat)) ∧ Below w.heap.size w w' := by
  go_enter Tryz.func51, Tryz.ntmps51
  have hb : Below w.heap.size w (((w.alloc (.cells #[.int .i64 (wt : Int), .int .i64 (cp : Int)] 62)).alloc (.cells #[.slice p.a p.n p.c, .slice q.a q.n q.c] 29)).alloc (.cells #[.slice none 0 0, .slice none 0 0] 29)) := ((((Below.refl _ _).alloc (Nat.le_refl _) _).alloc (by simp) _).alloc (by simp; omega) _)
  replace hl := hl.below hb
  have hB := hb
  have P1 : Pair (((w.alloc (.cells #[.int .i64 (wt : Int), .int .i64 (cp : Int)] 62)).alloc (.cells #[.slice p.a p.n p.c, .slice q.a q.n q.c] 29)).alloc (.cells #[.slice none 0 0, .slice none 0 0] 29)) (w.heap.size) 62 (.int .i64 (wt : Int)) (.int .i64 (cp : Int)) := by
    have h := ((Pair.new w 62 (.int .i64 (wt : Int)) (.int .i64 (cp : Int))).alloc (.cells #[.slice p.a p.n p.c, .slice q.a q.n q.c] 29)).alloc (.cells #[.slice none 0 0, .slice none 0 0] 29)
    simpa only [World.size_alloc] using h
  have P2 : Pair (((w.alloc (.cells #[.int .i64 (wt : Int), .int .i64 (cp : Int)] 62)).alloc (.cells #[.slice p.a p.n p.c, .slice q.a q.n q.c] 29)).alloc (.cells #[.slice none 0 0, .slice none 0 0] 29)) (w.heap.size + 1) 29 (.slice p.a p.n p.c) (.slice q.a q.n q.c) := by
    have h := (Pair.new (w.alloc (.cells #[.int .i64 (wt : Int), .int .i64 (cp : Int)] 62)) 29 (.slice p.a p.n p.c) (.slice q.a q.n q.c)).alloc (.cells #[.slice none 0 0, .slice none 0 0] 29)
    simpa only [World.size_alloc] using h
  have P3 : Pair (((w.alloc (.cells #[.int .i64 (wt : Int), .int .i64 (cp : Int)] 62)).alloc (.cells #[.slice p.a p.n p.c, .slice q.a q.n q.c] 29)).alloc (.cells #[.slice none 0 0, .slice none 0 0] 29)) (w.heap.size + 1 + 1) 29 (.slice none 0 0) (.slice none 0 0) := by
    have h := Pair.new ((w.alloc (.cells #[.int .i64 (wt : Int), .int .i64 (cp : Int)] 62)).alloc (.cells #[.slice p.a p.n p.c, .slice q.a q.n q.c] 29)) 29 (.slice none 0 0) (.slice none 0 0)
    simpa only [World.size_alloc] using h
  clear hb
  have c0P1 := P1.c0
  have c1P1 := P1.c1
  have c0P2 := P2.c0
  have c1P2 := P2.c1
  have c0P3 := P3.c0
  have c1P3 := P3.c1
  go_wp2_with fail
  clear c0P1 c1P1 c0P2 c1P2 c0P3 c1P3
  have hb : Below (((w.alloc (.cells #[.int .i64 (wt : Int), .int .i64 (cp : Int)] 62)).alloc (.cells #[.slice p.a p.n p.c, .slice q.a q.n q.c] 29)).alloc (.cells #[.slice none 0 0, .slice none 0 0] 29)).heap.size (((w.alloc (.cells #[.int .i64 (wt : Int), .int .i64 (cp : Int)] 62)).alloc (.cells #[.slice p.a p.n p.c, .slice q.a q.n q.c] 29)).alloc (.cells #[.slice none 0 0, .slice none 0 0] 29)) (((w.alloc (.cells #[.int .i64 (wt : Int), .int .i64 (cp : Int)] 62)).alloc (.cells #[.slice p.a p.n p.c, .slice q.a q.n q.c] 29)).alloc (.cells #[.slice none 0 0, .slice none 0 0] 29)).drew := (Below.refl _ _).drew
  replace P1 := P1.below hb
  replace P2 := P2.below hb
  replace P3 := P3.below hb
  replace hl := hl.below hb
  replace hB := hB.trans (hb.mono hB.size)
  clear hb
  refine Rd.regionT (fun X => Pair X (w.heap.size) 62 (.int .i64 (wt : Int)) (.int .i64 (cp : Int)) ∧ Pair X (w.heap.size + 1) 29 (.slice p.a p.n p.c) (.slice q.a q.n q.c)) [0, 1, 3] (.one 0 (.one 1 (.one 3 (.one 2 (.one 4 (.one 5 .done)))))) (fun ac W => ∃ (x : Sl) (y : Sl) (y5 y6 y7 y8 y9 : Value), ac = { tmps := List.toArray (.agg #[.int .i64 (wt : Int), .int .i64 (cp : Int)] :: .agg #[.slice p.a p.n p.c, .slice q.a q.n q.c] :: .pointer (some ⟨w.heap.size, 0, none⟩) :: .pointer (some ⟨w.heap.size + 1, 0, none⟩) :: .pointer (some ⟨w.heap.size + 1 + 1, 0, none⟩) :: y5 :: y6 :: y7 :: y8 :: y9 :: []), defers := [] } ∧ RQ W x y (l * (wt : Rat)) ∧ Pair W (w.heap.size + 1 + 1) 29 (.slice x.a x.n x.c) (.slice y.a y.n y.c) ∧ Below w.heap.size w W) (by kernel_rfl) (by kernel_rfl) (by kernel_rfl) ⟨P1, P2⟩ ?tree ?next
  case tree =>
    generalize (((w.alloc (.cells #[.int .i64 (wt : Int), .int .i64 (cp : Int)] 62)).alloc (.cells #[.slice p.a p.n p.c, .slice q.a q.n q.c] 29)).alloc (.cells #[.slice none 0 0, .slice none 0 0] 29)).drew = w4 at P1 P2 P3 hl hB ⊢
    refine Rd.tr_float (.pointer (some ⟨w.heap.size, 0, none⟩)) (by simp only [List.getElem?_toArray, List.getElem?_cons_zero]; rfl) rfl (by rfl) (fun X _ => by go_simp) ?_
    simp only [Act.put, List.setIfInBounds_toArray, List.set_cons_succ, List.set_cons_zero]
    refine Rd.tr_float (.int .i64 (wt : Int)) (by simp only [List.getElem?_toArray, List.getElem?_cons_succ, List.getElem?_cons_zero]; rfl) rfl (by rfl) (fun X hX => by have h0 := hX.1.c0; have h1 := hX.1.c1; go_simp) ?_
    simp only [Act.put, List.setIfInBounds_toArray, List.set_cons_succ, List.set_cons_zero]
    refine Rd.tr_float (.agg #[.slice p.a p.n p.c, .slice q.a q.n q.c]) (by simp only [List.getElem?_toArray, List.getElem?_cons_succ, List.getElem?_cons_zero]; rfl) rfl (by rfl) (fun X hX => by have h0 := hX.2.c0; have h1 := hX.2.c1; go_simp) ?_
    simp only [Act.put, List.setIfInBounds_toArray, List.set_cons_succ, List.set_cons_zero]
    refine Rd.tr_move (by simp only [List.getElem?_toArray, List.getElem?_cons_succ, List.getElem?_cons_zero]; rfl) rfl (by rfl) (fun K hK => ?_)
    have H7 := Lib.hid (Qint (wt) (by omega) w4)
    go_simp
    refine H7.out.mono ?_
    rintro e w8 ⟨x5, y6, rfl, rx5, hb⟩
    clear H7
    replace P1 := P1.below hb
    replace P2 := P2.below hb
    replace P3 := P3.below hb
    replace hl := hl.below hb
    replace hB := hB.trans (hb.mono hB.size)
    clear hb
    refine hK _ _ ⟨P1, P2⟩ ?_
    clear hK K
    refine Rd.tr_move (by simp only [List.getElem?_toArray, List.getElem?_cons_succ, List.getElem?_cons_zero]; rfl) rfl (by rfl) (fun K hK => ?_)
    have H11 := Lib.hid (Qmul x5 y6 p q (((wt : Nat) : Rat)) (l) w8 rx5 hl (by rw [Rat.mul_comm]; exact HZ.out) )
    go_simp
    refine H11.out.mono ?_
    rintro e w12 ⟨x9, y10, rfl, rx9, hb⟩
    clear H11
    replace P1 := P1.below hb
    replace P2 := P2.below hb
    replace P3 := P3.below hb
    replace hl := hl.below hb
    replace rx5 := rx5.below hb
    replace hB := hB.trans (hb.mono hB.size)
    clear hb
    rw [Rat.mul_comm] at rx9
    refine hK _ _ ⟨P1, P2⟩ ?_
    clear hK K
    refine Rd.tr_move (by simp only [List.getElem?_toArray, List.getElem?_cons_succ, List.getElem?_cons_zero]; rfl) rfl (by rfl) (fun K hK => ?_)
    have c0P3 := P3.c0
    have c1P3 := P3.c1
    have z0P3 := P3.z0
    have z1P3 := P3.z1
    go_simp
    clear c0P3 c1P3 z0P3 z1P3
    replace hl := hl.pset P3 (.slice x9.a x9.n x9.c) (.slice y10.a y10.n y10.c)
    replace rx5 := rx5.pset P3 (.slice x9.a x9.n x9.c) (.slice y10.a y10.n y10.c)
    replace rx9 := rx9.pset P3 (.slice x9.a x9.n x9.c) (.slice y10.a y10.n y10.c)
    replace P1 := P1.other (B := w.heap.size + 1 + 1) (by omega) (.slice x9.a x9.n x9.c) (.slice y10.a y10.n y10.c)
    replace P2 := P2.other (B := w.heap.size + 1 + 1) (by omega) (.slice x9.a x9.n x9.c) (.slice y10.a y10.n y10.c)
    replace hB := Below.pset (B := w.heap.size + 1 + 1) hB (by omega) (.slice x9.a x9.n x9.c) (.slice y10.a y10.n y10.c)
    replace P3 := P3.set (.slice x9.a x9.n x9.c) (.slice y10.a y10.n y10.c)
    generalize (w12.setCell ⟨w.heap.size + 1 + 1, 0, none⟩ (.slice x9.a x9.n x9.c)).setCell ⟨w.heap.size + 1 + 1, 1, none⟩ (.slice y10.a y10.n y10.c) = w13 at P1 P2 P3 hl rx5 rx9 hB ⊢
    refine hK _ _ ⟨P1, P2⟩ ?_
    clear hK K
    exact Rd.tr_end (⟨x9, y10, _, _, _, _, _, rfl, rx9, P3, hB⟩)
  case next =>
    rintro a15 W14 ⟨x, y, y5, y6, y7, y8, y9, rfl, rx, PR, hB⟩
    go_wp2_with fail
    refine bodyPost_ret (v := .agg #[.slice x.a x.n x.c, .slice y.a y.n y.c]) ?_ rfl ⟨x, y, rfl, rx, hB⟩
    simp [results, Tryz.f51, go_sem, PR.c0, PR.c1]

set_option maxRecDepth 100000 in
set_option maxHeartbeats 4000000 in
theorem isOver_any (wt cp : Nat) (p q : Sl) (l : Rat) (w : World) (hl : RQ w p q l) (hw : wt ≤ 10000) (hc : cp ≤ 64) (HZ : Hid (Sz (l * wt))) :
    Calls Tryz.prog 50 #[.agg #[.int .i64 (wt : Int), .int .i64 (cp : Int)], .agg #[.slice p.a p.n p.c, .slice q.a q.n q.c]] w fun e w' => e = .returned (.bool (decide ((cp : Rat) < l * (wt : Rat)))) ∧ Below w.heap.size w w' := by
  go_enter Tryz.func50, Tryz.ntmps50
  have hb : Below w.heap.size w ((w.alloc (.cells #[.int .i64 (wt : Int), .int .i64 (cp : Int)] 62)).alloc (.cells #[.slice p.a p.n p.c, .slice q.a q.n q.c] 29)) := (((Below.refl _ _).alloc (Nat.le_refl _) _).alloc (by simp) _)
  replace hl := hl.below hb
  have hB := hb
  have P1 : Pair ((w.alloc (.cells #[.int .i64 (wt : Int), .int .i64 (cp : Int)] 62)).alloc (.cells #[.slice p.a p.n p.c, .slice q.a q.n q.c] 29)) (w.heap.size) 62 (.int .i64 (wt : Int)) (.int .i64 (cp : Int)) := by
    have h := (Pair.new w 62 (.int .i64 (wt : Int)) (.int .i64 (cp : Int))).alloc (.cells #[.slice p.a p.n p.c, .slice q.a q.n q.c] 29)
    simpa only [World.size_alloc] using h
  have P2 : Pair ((w.alloc (.cells #[.int .i64 (wt : Int), .int .i64 (cp : Int)] 62)).alloc (.cells #[.slice p.a p.n p.c, .slice q.a q.n q.c] 29)) (w.heap.size + 1) 29 (.slice p.a p.n p.c) (.slice q.a q.n q.c) := by
    have h := Pair.new (w.alloc (.cells #[.int .i64 (wt : Int), .int .i64 (cp : Int)] 62)) 29 (.slice p.a p.n p.c) (.slice q.a q.n q.c)
    simpa only [World.size_alloc] using h
  clear hb
  have c0P1 := P1.c0
  have c1P1 := P1.c1
  have c0P2 := P2.c0
  have c1P2 := P2.c1
  go_wp2_with fail
  clear c0P1 c1P1 c0P2 c1P2
  have hb : Below ((w.alloc (.cells #[.int .i64 (wt : Int), .int .i64 (cp : Int)] 62)).alloc (.cells #[.slice p.a p.n p.c, .slice q.a q.n q.c] 29)).heap.size ((w.alloc (.cells #[.int .i64 (wt : Int), .int .i64 (cp : Int)] 62)).alloc (.cells #[.slice p.a p.n p.c, .slice q.a q.n q.c] 29)) ((w.alloc (.cells #[.int .i64 (wt : Int), .int .i64 (cp : Int)] 62)).alloc (.cells #[.slice p.a p.n p.c, .slice q.a q.n q.c] 29)).drew := (Below.refl _ _).drew
  replace P1 := P1.below hb
  replace P2 := P2.below hb
  replace hl := hl.below hb
  replace hB := hB.trans (hb.mono hB.size)
  clear hb
  refine Rd.regionT (fun X => Pair X (w.heap.size) 62 (.int .i64 (wt : Int)) (.int .i64 (cp : Int)) ∧ Pair X (w.heap.size + 1) 29 (.slice p.a p.n p.c) (.slice q.a q.n q.c)) [0, 1, 3, 4, 7, 8] (.one 0 (.one 1 (.one 3 (.one 4 (.one 2 (.one 5 (.one 6 (.one 7 (.one 8 .done))))))))) (fun ac W => ∃ (T : Bool) (y5 y6 y7 y8 y9 y10 y11 y12 : Value), ac = { tmps := List.toArray (.agg #[.int .i64 (wt : Int), .int .i64 (cp : Int)] :: .agg #[.slice p.a p.n p.c, .slice q.a q.n q.c] :: .pointer (some ⟨w.heap.size, 0, none⟩) :: .pointer (some ⟨w.heap.size + 1, 0, none⟩) :: .bool T :: y5 :: y6 :: y7 :: y8 :: y9 :: y10 :: y11 :: y12 :: []), defers := [] } ∧ T = decide ((cp : Rat) < l * (wt : Rat)) ∧ Below w.heap.size w W) (by kernel_rfl) (by kernel_rfl) (by kernel_rfl) ⟨P1, P2⟩ ?tree ?next
  case tree =>
    generalize ((w.alloc (.cells #[.int .i64 (wt : Int), .int .i64 (cp : Int)] 62)).alloc (.cells #[.slice p.a p.n p.c, .slice q.a q.n q.c] 29)).drew = w3 at P1 P2 hl hB ⊢
    refine Rd.tr_float (.agg #[.int .i64 (wt : Int), .int .i64 (cp : Int)]) (by simp only [List.getElem?_toArray, List.getElem?_cons_zero]; rfl) rfl (by rfl) (fun X hX => by have h0 := hX.1.c0; have h1 := hX.1.c1; go_simp) ?_
    simp only [Act.put, List.setIfInBounds_toArray, List.set_cons_succ, List.set_cons_zero]
    refine Rd.tr_float (.agg #[.slice p.a p.n p.c, .slice q.a q.n q.c]) (by simp only [List.getElem?_toArray, List.getElem?_cons_succ, List.getElem?_cons_zero]; rfl) rfl (by rfl) (fun X hX => by have h0 := hX.2.c0; have h1 := hX.2.c1; go_simp) ?_
    simp only [Act.put, List.setIfInBounds_toArray, List.set_cons_succ, List.set_cons_zero]
    refine Rd.tr_float (.pointer (some ⟨w.heap.size, 1, none⟩)) (by simp only [List.getElem?_toArray, List.getElem?_cons_succ, List.getElem?_cons_zero]; rfl) rfl (by rfl) (fun X _ => by go_simp) ?_
    simp only [Act.put, List.setIfInBounds_toArray, List.set_cons_succ, List.set_cons_zero]
    refine Rd.tr_float (.int .i64 (cp : Int)) (by simp only [List.getElem?_toArray, List.getElem?_cons_succ, List.getElem?_cons_zero]; rfl) rfl (by rfl) (fun X hX => by have h0 := hX.1.c0; have h1 := hX.1.c1; go_simp) ?_
    simp only [Act.put, List.setIfInBounds_toArray, List.set_cons_succ, List.set_cons_zero]
    refine Rd.tr_move (by simp only [List.getElem?_toArray, List.getElem?_cons_succ, List.getElem?_cons_zero]; rfl) rfl (by rfl) (fun K hK => ?_)
    have H6 := Lib.hid (uncapped_any wt cp p q (l) w3 hl hw HZ)
    go_simp
    refine H6.out.mono ?_
    rintro e w7 ⟨x4, y5, rfl, rx4, hb⟩
    clear H6
    replace P1 := P1.below hb
    replace P2 := P2.below hb
    replace hl := hl.below hb
    replace hB := hB.trans (hb.mono hB.size)
    clear hb
    refine hK _ _ ⟨P1, P2⟩ ?_
    clear hK K
    refine Rd.tr_move (by simp only [List.getElem?_toArray, List.getElem?_cons_succ, List.getElem?_cons_zero]; rfl) rfl (by rfl) (fun K hK => ?_)
    have H10 := Lib.hid (Qint (cp) (by omega) w7)
    go_simp
    refine H10.out.mono ?_
    rintro e w11 ⟨x8, y9, rfl, rx8, hb⟩
    clear H10
    replace P1 := P1.below hb
    replace P2 := P2.below hb
    replace hl := hl.below hb
    replace rx4 := rx4.below hb
    replace hB := hB.trans (hb.mono hB.size)
    clear hb
    refine hK _ _ ⟨P1, P2⟩ ?_
    clear hK K
    refine Rd.tr_move (by simp only [List.getElem?_toArray, List.getElem?_cons_succ, List.getElem?_cons_zero]; rfl) rfl (by rfl) (fun K hK => ?_)
    have H12 := Lib.hid (Qcmp x4 y5 x8 y9 (l * (wt : Rat)) (((cp : Nat) : Rat)) w11 rx4 rx8)
    go_simp
    refine H12.out.mono ?_
    rintro e w13 ⟨rfl, hb⟩
    clear H12
    replace P1 := P1.below hb
    replace P2 := P2.below hb
    replace hl := hl.below hb
    replace rx4 := rx4.below hb
    replace rx8 := rx8.below hb
    replace hB := hB.trans (hb.mono hB.size)
    clear hb
    refine hK _ _ ⟨P1, P2⟩ ?_
    clear hK K
    refine Rd.tr_float (.bool (decide (0 < (cmpQ (l * (wt : Rat)) (((cp : Nat) : Rat)))))) (by simp only [List.getElem?_toArray, List.getElem?_cons_succ, List.getElem?_cons_zero]; rfl) rfl (by rfl) (fun X _ => by go_simp) ?_
    simp only [Act.put, List.setIfInBounds_toArray, List.set_cons_succ, List.set_cons_zero]
    refine Rd.tr_float (.bool (decide (0 < (cmpQ (l * (wt : Rat)) (((cp : Nat) : Rat)))))) (by simp only [List.getElem?_toArray, List.getElem?_cons_succ, List.getElem?_cons_zero]; rfl) rfl (by rfl) (fun X _ => by go_simp) ?_
    simp only [Act.put, List.setIfInBounds_toArray, List.set_cons_succ, List.set_cons_zero]
    exact Rd.tr_end (⟨_, _, _, _, _, _, _, _, _, rfl, (by simp only [cmpQ_gt]), hB⟩)
  case next =>
    rintro a15 W14 ⟨T, y5, y6, y7, y8, y9, y10, y11, y12, rfl, hT, hB⟩
    go_wp2_with fail
    go_ret
    exact ⟨by rw [hT]; rfl, hB⟩

set_option maxRecDepth 100000 in
set_option maxHeartbeats 4000000 in
theorem gets_high (wt cp : Nat) (p q : Sl) (l : Rat) (w : World) (hl : RQ w p q l) (hw : wt ≤ 10000) (hc : cp ≤ 64) (HZ : Hid (Sz (l * wt))) (HO : Hid ((cp : Rat) < l * (wt : Rat))) :
    Calls Tryz.prog 25 #[.agg #[.int .i64 (wt : Int), .int .i64 (cp : Int)], .agg #[.slice p.a p.n p.c, .slice q.a q.n q.c]] w fun e w' => ∃ x y : Sl, e = .returned (.agg #[.slice x.a x.n x.c, .slice y.a y.n y.c]) ∧ RQ w' x y (given l (wt, cp)) ∧ Below w.heap.size w w' := by
  go_enter Tryz.func25, Tryz.ntmps25
  have hb : Below w.heap.size w (((w.alloc (.cells #[.int .i64 (wt : Int), .int .i64 (cp : Int)] 62)).alloc (.cells #[.slice p.a p.n p.c, .slice q.a q.n q.c] 29)).alloc (.cells #[.slice none 0 0, .slice none 0 0] 29)) := ((((Below.refl _ _).alloc (Nat.le_refl _) _).alloc (by simp) _).alloc (by simp; omega) _)
  replace hl := hl.below hb
  have hB := hb
  have P1 : Pair (((w.alloc (.cells #[.int .i64 (wt : Int), .int .i64 (cp : Int)] 62)).alloc (.cells #[.slice p.a p.n p.c, .slice q.a q.n q.c] 29)).alloc (.cells #[.slice none 0 0, .slice none 0 0] 29)) (w.heap.size) 62 (.int .i64 (wt : Int)) (.int .i64 (cp : Int)) := by
    have h := ((Pair.new w 62 (.int .i64 (wt : Int)) (.int .i64 (cp : Int))).alloc (.cells #[.slice p.a p.n p.c, .slice q.a q.n q.c] 29)).alloc (.cells #[.slice none 0 0, .slice none 0 0] 29)
    simpa only [World.size_alloc] using h
  have P2 : Pair (((w.alloc (.cells #[.int .i64 (wt : Int), .int .i64 (cp : Int)] 62)).alloc (.cells #[.slice p.a p.n p.c, .slice q.a q.n q.c] 29)).alloc (.cells #[.slice none 0 0, .slice none 0 0] 29)) (w.heap.size + 1) 29 (.slice p.a p.n p.c) (.slice q.a q.n q.c) := by
    have h := (Pair.new (w.alloc (.cells #[.int .i64 (wt : Int), .int .i64 (cp : Int)] 62)) 29 (.slice p.a p.n p.c) (.slice q.a q.n q.c)).alloc (.cells #[.slice none 0 0, .slice none 0 0] 29)
    simpa only [World.size_alloc] using h
  have P3 : Pair (((w.alloc (.cells #[.int .i64 (wt : Int), .int .i64 (cp : Int)] 62)).alloc (.cells #[.slice p.a p.n p.c, .slice q.a q.n q.c] 29)).alloc (.cells #[.slice none 0 0, .slice none 0 0] 29)) (w.heap.size + 1 + 1) 29 (.slice none 0 0) (.slice none 0 0) := by
    have h := Pair.new ((w.alloc (.cells #[.int .i64 (wt : Int), .int .i64 (cp : Int)] 62)).alloc (.cells #[.slice p.a p.n p.c, .slice q.a q.n q.c] 29)) 29 (.slice none 0 0) (.slice none 0 0)
    simpa only [World.size_alloc] using h
  clear hb
  have c0P1 := P1.c0
  have c1P1 := P1.c1
  have c0P2 := P2.c0
  have c1P2 := P2.c1
  have c0P3 := P3.c0
  have c1P3 := P3.c1
  have H4 := Lib.hid (isOver_any wt cp p q (l) (((w.alloc (.cells #[.int .i64 (wt : Int), .int .i64 (cp : Int)] 62)).alloc (.cells #[.slice p.a p.n p.c, .slice q.a q.n q.c] 29)).alloc (.cells #[.slice none 0 0, .slice none 0 0] 29)) hl hw hc HZ)
  rw [decide_eq_true (HO.out)] at H4
  go_wp2_with fail
  clear c0P1 c1P1 c0P2 c1P2 c0P3 c1P3
  refine H4.out.mono ?_
  rintro e w5 ⟨rfl, hb⟩
  clear H4
  replace P1 := P1.below hb
  replace P2 := P2.below hb
  replace P3 := P3.below hb
  replace hl := hl.below hb
  replace hB := hB.trans (hb.mono hB.size)
  clear hb
  have c0P1 := P1.c0
  have c1P1 := P1.c1
  have c0P2 := P2.c0
  have c1P2 := P2.c1
  have c0P3 := P3.c0
  have c1P3 := P3.c1
  have H8 := Lib.hid (Qint (cp) (by omega) w5)
  go_wp2_with fail
  clear c0P1 c1P1 c0P2 c1P2 c0P3 c1P3
  refine H8.out.mono ?_
  rintro e w9 ⟨x6, y7, rfl, rx6, hb⟩
  clear H8
  replace P1 := P1.below hb
  replace P2 := P2.below hb
  replace P3 := P3.below hb
  replace hl := hl.below hb
  replace hB := hB.trans (hb.mono hB.size)
  clear hb
  have c0 := P3.c0
  have c1 := P3.c1
  have z0 := P3.z0
  have z1 := P3.z1
  go_wp2_with fail
  replace rx6 := rx6.pset P3 (.slice x6.a x6.n x6.c) (.slice y7.a y7.n y7.c)
  replace hB := Below.pset (B := w.heap.size + 1 + 1) hB (by omega) (.slice x6.a x6.n x6.c) (.slice y7.a y7.n y7.c)
  have PR := P3.set (.slice x6.a x6.n x6.c) (.slice y7.a y7.n y7.c)
  generalize (w9.setCell ⟨w.heap.size + 1 + 1, 0, none⟩ (.slice x6.a x6.n x6.c)).setCell ⟨w.heap.size + 1 + 1, 1, none⟩ (.slice y7.a y7.n y7.c) = WW at rx6 PR hB ⊢
  refine bodyPost_ret (v := .agg #[.slice x6.a x6.n x6.c, .slice y7.a y7.n y7.c]) ?_ rfl ⟨x6, y7, rfl, by unfold given; rw [if_pos HO.out]; exact rx6, hB⟩
  simp [results, Tryz.f25, go_sem, PR.c0, PR.c1]

set_option maxRecDepth 100000 in
set_option maxHeartbeats 4000000 in
theorem gets_low (wt cp : Nat) (p q : Sl) (l : Rat) (w : World) (hl : RQ w p q l) (hw : wt ≤ 10000) (hc : cp ≤ 64) (HZ : Hid (Sz (l * wt))) (HO : Hid (¬ (cp : Rat) < l * (wt : Rat))) :
    Calls Tryz.prog 25 #[.agg #[.int .i64 (wt : Int), .int .i64 (cp : Int)], .agg #[.slice p.a p.n p.c, .slice q.a q.n q.c]] w fun e w' => ∃ x y : Sl, e = .returned (.agg #[.slice x.a x.n x.c, .slice y.a y.n y.c]) ∧ RQ w' x y (given l (wt, cp)) ∧ Below w.heap.size w w' := by
  go_enter Tryz.func25, Tryz.ntmps25
  have hb : Below w.heap.size w (((w.alloc (.cells #[.int .i64 (wt : Int), .int .i64 (cp : Int)] 62)).alloc (.cells #[.slice p.a p.n p.c, .slice q.a q.n q.c] 29)).alloc (.cells #[.slice none 0 0, .slice none 0 0] 29)) := ((((Below.refl _ _).alloc (Nat.le_refl _) _).alloc (by simp) _).alloc (by simp; omega) _)
  replace hl := hl.below hb
  have hB := hb
  have P1 : Pair (((w.alloc (.cells #[.int .i64 (wt : Int), .int .i64 (cp : Int)] 62)).alloc (.cells #[.slice p.a p.n p.c, .slice q.a q.n q.c] 29)).alloc (.cells #[.slice none 0 0, .slice none 0 0] 29)) (w.heap.size) 62 (.int .i64 (wt : Int)) (.int .i64 (cp : Int)) := by
    have h := ((Pair.new w 62 (.int .i64 (wt : Int)) (.int .i64 (cp : Int))).alloc (.cells #[.slice p.a p.n p.c, .slice q.a q.n q.c] 29)).alloc (.cells #[.slice none 0 0, .slice none 0 0] 29)
    simpa only [World.size_alloc] using h
  have P2 : Pair (((w.alloc (.cells #[.int .i64 (wt : Int), .int .i64 (cp : Int)] 62)).alloc (.cells #[.slice p.a p.n p.c, .slice q.a q.n q.c] 29)).alloc (.cells #[.slice none 0 0, .slice none 0 0] 29)) (w.heap.size + 1) 29 (.slice p.a p.n p.c) (.slice q.a q.n q.c) := by
    have h := (Pair.new (w.alloc (.cells #[.int .i64 (wt : Int), .int .i64 (cp : Int)] 62)) 29 (.slice p.a p.n p.c) (.slice q.a q.n q.c)).alloc (.cells #[.slice none 0 0, .slice none 0 0] 29)
    simpa only [World.size_alloc] using h
  have P3 : Pair (((w.alloc (.cells #[.int .i64 (wt : Int), .int .i64 (cp : Int)] 62)).alloc (.cells #[.slice p.a p.n p.c, .slice q.a q.n q.c] 29)).alloc (.cells #[.slice none 0 0, .slice none 0 0] 29)) (w.heap.size + 1 + 1) 29 (.slice none 0 0) (.slice none 0 0) := by
    have h := Pair.new ((w.alloc (.cells #[.int .i64 (wt : Int), .int .i64 (cp : Int)] 62)).alloc (.cells #[.slice p.a p.n p.c, .slice q.a q.n q.c] 29)) 29 (.slice none 0 0) (.slice none 0 0)
    simpa only [World.size_alloc] using h
  clear hb
  have c0P1 := P1.c0
  have c1P1 := P1.c1
  have c0P2 := P2.c0
  have c1P2 := P2.c1
  have c0P3 := P3.c0
  have c1P3 := P3.c1
  have H4 := Lib.hid (isOver_any wt cp p q (l) (((w.alloc (.cells #[.int .i64 (wt : Int), .int .i64 (cp : Int)] 62)).alloc (.cells #[.slice p.a p.n p.c, .slice q.a q.n q.c] 29)).alloc (.cells #[.slice none 0 0, .slice none 0 0] 29)) hl hw hc HZ)
  rw [decide_eq_false (HO.out)] at H4
  go_wp2_with fail
  clear c0P1 c1P1 c0P2 c1P2 c0P3 c1P3
  refine H4.out.mono ?_
  rintro e w5 ⟨rfl, hb⟩
  clear H4
  replace P1 := P1.below hb
  replace P2 := P2.below hb
  replace P3 := P3.below hb
  replace hl := hl.below hb
  replace hB := hB.trans (hb.mono hB.size)
  clear hb
  have c0P1 := P1.c0
  have c1P1 := P1.c1
  have c0P2 := P2.c0
  have c1P2 := P2.c1
  have c0P3 := P3.c0
  have c1P3 := P3.c1
  have H8 := Lib.hid (uncapped_any wt cp p q (l) w5 hl hw HZ)
  go_wp2_with fail
  clear c0P1 c1P1 c0P2 c1P2 c0P3 c1P3
  refine H8.out.mono ?_
  rintro e w9 ⟨x6, y7, rfl, rx6, hb⟩
  clear H8
  replace P1 := P1.below hb
  replace P2 := P2.below hb
  replace P3 := P3.below hb
  replace hl := hl.below hb
  replace hB := hB.trans (hb.mono hB.size)
  clear hb
  have c0 := P3.c0
  have c1 := P3.c1
  have z0 := P3.z0
  have z1 := P3.z1
  go_wp2_with fail
  replace rx6 := rx6.pset P3 (.slice x6.a x6.n x6.c) (.slice y7.a y7.n y7.c)
  replace hB := Below.pset (B := w.heap.size + 1 + 1) hB (by omega) (.slice x6.a x6.n x6.c) (.slice y7.a y7.n y7.c)
  have PR := P3.set (.slice x6.a x6.n x6.c) (.slice y7.a y7.n y7.c)
  generalize (w9.setCell ⟨w.heap.size + 1 + 1, 0, none⟩ (.slice x6.a x6.n x6.c)).setCell ⟨w.heap.size + 1 + 1, 1, none⟩ (.slice y7.a y7.n y7.c) = WW at rx6 PR hB ⊢
  refine bodyPost_ret (v := .agg #[.slice x6.a x6.n x6.c, .slice y7.a y7.n y7.c]) ?_ rfl ⟨x6, y7, rfl, by unfold given; rw [if_neg HO.out]; exact rx6, hB⟩
  simp [results, Tryz.f25, go_sem, PR.c0, PR.c1]

theorem gets_any (wt cp : Nat) (p q : Sl) (l : Rat) (w : World) (hl : RQ w p q l) (hw : wt ≤ 10000) (hc : cp ≤ 64) (HZ : Hid (Sz (l * wt))) :
    Calls Tryz.prog 25 #[.agg #[.int .i64 (wt : Int), .int .i64 (cp : Int)], .agg #[.slice p.a p.n p.c, .slice q.a q.n q.c]] w fun e w' => ∃ x y : Sl, e = .returned (.agg #[.slice x.a x.n x.c, .slice y.a y.n y.c]) ∧ RQ w' x y (given l (wt, cp)) ∧ Below w.heap.size w w' := by
  by_cases h : (cp : Rat) < l * (wt : Rat)
  · exact gets_high wt cp p q l w hl hw hc HZ (Lib.hid h)
  · exact gets_low wt cp p q l w hl hw hc HZ (Lib.hid h)
end Go.Proofs.YtphllajedkpcbaaGreatDoor
