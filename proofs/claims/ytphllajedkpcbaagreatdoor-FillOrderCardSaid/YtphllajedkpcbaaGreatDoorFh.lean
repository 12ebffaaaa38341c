/-
  The program's check of what is shared, of weights and caps. Condition: at most a hundred weights and caps; not more than a hundred limbs.
-/
import Derived.Test.YtphllajedkpcbaaGreatDoorFg
import Derived.Test.YtphllajedkpcbaaGreatDoorRd
namespace Go.Proofs.YtphllajedkpcbaaGreatDoor
open Go.RowKit Go.Dig Go.Shelf Go.Proofs Go.Rq

set_option maxRecDepth 100000 in
set_option maxHeartbeats 4000000 in
theorem check_len (p q a b : Sl) (x : Rat) (ws cs : List Int) (w : World) (_hx : RQ w p q x) (ha : RI w a ws) (hc : RI w b cs) (_hlw : ws.length ≤ 100) (hne : ws.length ≠ cs.length) :
    Calls Tryz.prog 26 #[.agg #[.slice p.a p.n p.c, .slice q.a q.n q.c], .slice a.a a.n a.c, .slice b.a b.n b.c] w fun e w' => e = .returned (.int .i64 17) ∧ Below w.heap.size w w' := by
  have ea := ha.len
  have ec := hc.len
  have hne2 : ((a.n : Int) == (b.n : Int)) = false := by rw [ea, ec]; simp; omega
  have hne3 : ¬ a.n = b.n := by omega
  clear ha hc
  go_enter Tryz.func26, Tryz.ntmps26
  go_wp2_with fail
  go_ret
  exact ⟨rfl, (Below.refl _ _).alloc (Nat.le_refl _) _⟩

set_option maxRecDepth 100000 in
set_option maxHeartbeats 4000000 in
theorem check_full (p q a b : Sl) (x : Rat) (ws cs : List Int) (w : World) (hx : RQ w p q x) (ha : RI w a ws) (hc : RI w b cs) (hlw : ws.length ≤ 100) (he : cs.length = ws.length) (hf : 32 < ws.length) :
    Calls Tryz.prog 26 #[.agg #[.slice p.a p.n p.c, .slice q.a q.n q.c], .slice a.a a.n a.c, .slice b.a b.n b.c] w fun e w' => e = .returned (.int .i64 6) ∧ Below w.heap.size w w' := by
  have ea := ha.len
  have ec := hc.len
  have en : b.n = a.n := by omega
  rw [en]
  have h32 : (32 : Int) < (a.n : Int) := by omega
  clear ea ec en
  go_enter Tryz.func26, Tryz.ntmps26
  have hb : Below w.heap.size w (w.alloc (.cells #[.slice p.a p.n p.c, .slice q.a q.n q.c] 29)) := ((Below.refl _ _).alloc (Nat.le_refl _) _)
  replace hx := hx.below hb
  replace ha := ha.below hb
  replace hc := hc.below hb
  have hB := hb
  have P1 : Pair (w.alloc (.cells #[.slice p.a p.n p.c, .slice q.a q.n q.c] 29)) (w.heap.size) 29 (.slice p.a p.n p.c) (.slice q.a q.n q.c) := by
    have h := Pair.new w 29 (.slice p.a p.n p.c) (.slice q.a q.n q.c)
    simpa only [World.size_alloc] using h
  clear hb
  have c0P1 := P1.c0
  have c1P1 := P1.c1
  have H1 := Lib.hid (Qgood p q x (w.alloc (.cells #[.slice p.a p.n p.c, .slice q.a q.n q.c] 29)) hx)
  go_wp2_with fail
  clear c0P1 c1P1
  refine H1.out.mono ?_
  rintro e w1 ⟨rfl, hb⟩
  clear H1
  replace P1 := P1.below hb
  replace hx := hx.below hb
  replace ha := ha.below hb
  replace hc := hc.below hb
  replace hB := hB.trans (hb.mono hB.size)
  clear hb
  go_wp2_with fail
  go_ret
  exact ⟨rfl, hB⟩

set_option maxRecDepth 100000 in
set_option maxHeartbeats 4000000 in
theorem check_weight (p q a b : Sl) (x : Rat) (ws cs : List Int) (w : World) (hx : RQ w p q x) (ha : RI w a ws) (hc : RI w b cs) (hlw : ws.length ≤ 100) (he : cs.length = ws.length) (hf : ws.length ≤ 32) (hw : ws.any noW = true) :
    Calls Tryz.prog 26 #[.agg #[.slice p.a p.n p.c, .slice q.a q.n q.c], .slice a.a a.n a.c, .slice b.a b.n b.c] w fun e w' => e = .returned (.int .i64 13) ∧ Below w.heap.size w w' := by
  have ea := ha.len
  have ec := hc.len
  have en : b.n = a.n := by omega
  have h32 : ¬ (32 : Int) < (a.n : Int) := by omega
  go_enter Tryz.func26, Tryz.ntmps26
  have hb : Below w.heap.size w (w.alloc (.cells #[.slice p.a p.n p.c, .slice q.a q.n q.c] 29)) := ((Below.refl _ _).alloc (Nat.le_refl _) _)
  replace hx := hx.below hb
  replace ha := ha.below hb
  replace hc := hc.below hb
  have hB := hb
  have P1 : Pair (w.alloc (.cells #[.slice p.a p.n p.c, .slice q.a q.n q.c] 29)) (w.heap.size) 29 (.slice p.a p.n p.c) (.slice q.a q.n q.c) := by
    have h := Pair.new w 29 (.slice p.a p.n p.c) (.slice q.a q.n q.c)
    simpa only [World.size_alloc] using h
  clear hb
  have c0P1 := P1.c0
  have c1P1 := P1.c1
  have hnn : ((a.n : Int) == (b.n : Int)) = true := by rw [en]; simp
  have hnm : (b.n : Int) = (a.n : Int) := by rw [en]
  clear ea ec en
  have H1 := Lib.hid (Qgood p q x (w.alloc (.cells #[.slice p.a p.n p.c, .slice q.a q.n q.c] 29)) hx)
  go_wp2_with fail
  clear c0P1 c1P1
  refine H1.out.mono ?_
  rintro e w1 ⟨rfl, hb⟩
  clear H1
  replace P1 := P1.below hb
  replace hx := hx.below hb
  replace ha := ha.below hb
  replace hc := hc.below hb
  replace hB := hB.trans (hb.mono hB.size)
  clear hb
  have H2 := Lib.hid (contains_any a ws w1 ha (by omega) 54 noW (enters_of Tryz.func54 (by kernel_rfl) rfl) noWeight_any)
  rw [hw] at H2
  go_wp2_with fail
  refine H2.out.mono ?_
  rintro e w2 ⟨rfl, rfl⟩
  clear H2
  go_wp2_with fail
  go_ret
  exact ⟨rfl, hB⟩

set_option maxRecDepth 100000 in
set_option maxHeartbeats 4000000 in
theorem check_cap (p q a b : Sl) (x : Rat) (ws cs : List Int) (w : World) (hx : RQ w p q x) (ha : RI w a ws) (hc : RI w b cs) (hlw : ws.length ≤ 100) (he : cs.length = ws.length) (hf : ws.length ≤ 32) (hw : ws.any noW = false) (hcp : cs.any noC = true) :
    Calls Tryz.prog 26 #[.agg #[.slice p.a p.n p.c, .slice q.a q.n q.c], .slice a.a a.n a.c, .slice b.a b.n b.c] w fun e w' => e = .returned (.int .i64 14) ∧ Below w.heap.size w w' := by
  have ea := ha.len
  have ec := hc.len
  have en : b.n = a.n := by omega
  have h32 : ¬ (32 : Int) < (a.n : Int) := by omega
  go_enter Tryz.func26, Tryz.ntmps26
  have hb : Below w.heap.size w (w.alloc (.cells #[.slice p.a p.n p.c, .slice q.a q.n q.c] 29)) := ((Below.refl _ _).alloc (Nat.le_refl _) _)
  replace hx := hx.below hb
  replace ha := ha.below hb
  replace hc := hc.below hb
  have hB := hb
  have P1 : Pair (w.alloc (.cells #[.slice p.a p.n p.c, .slice q.a q.n q.c] 29)) (w.heap.size) 29 (.slice p.a p.n p.c) (.slice q.a q.n q.c) := by
    have h := Pair.new w 29 (.slice p.a p.n p.c) (.slice q.a q.n q.c)
    simpa only [World.size_alloc] using h
  clear hb
  have c0P1 := P1.c0
  have c1P1 := P1.c1
  have hnn : ((a.n : Int) == (b.n : Int)) = true := by rw [en]; simp
  have hnm : (b.n : Int) = (a.n : Int) := by rw [en]
  clear ea ec en
  have H1 := Lib.hid (Qgood p q x (w.alloc (.cells #[.slice p.a p.n p.c, .slice q.a q.n q.c] 29)) hx)
  go_wp2_with fail
  clear c0P1 c1P1
  refine H1.out.mono ?_
  rintro e w1 ⟨rfl, hb⟩
  clear H1
  replace P1 := P1.below hb
  replace hx := hx.below hb
  replace ha := ha.below hb
  replace hc := hc.below hb
  replace hB := hB.trans (hb.mono hB.size)
  clear hb
  have H2 := Lib.hid (contains_any a ws w1 ha (by omega) 54 noW (enters_of Tryz.func54 (by kernel_rfl) rfl) noWeight_any)
  rw [hw] at H2
  go_wp2_with fail
  refine H2.out.mono ?_
  rintro e w2 ⟨rfl, rfl⟩
  clear H2
  have c0P1 := P1.c0
  have c1P1 := P1.c1
  go_wp2_with fail
  clear c0P1 c1P1
  have hb : Below w1.heap.size w1 w1.drew := (Below.refl _ _).drew
  replace P1 := P1.below hb
  replace hx := hx.below hb
  replace ha := ha.below hb
  replace hc := hc.below hb
  replace hB := hB.trans (hb.mono hB.size)
  clear hb
  refine Rd.regionT (fun X => Pair X (w.heap.size) 29 (.slice p.a p.n p.c) (.slice q.a q.n q.c)) [0, 2, 3, 4, 8, 9, 10] (.one 0 (.one 1 (.one 2 (.one 3 (.one 4 (.one 5 (.one 6 (.one 7 (.one 8 (.one 9 (.one 10 .done))))))))))) (fun ac W => ∃  (y7 y8 y9 y10 y11 y12 y13 y14 y15 y16 y17 y18 y19 y20 y21 y22 y23 y24 y26 y27 y28 y29 y30 y31 y32 y33 y34 y35 : Value), ac = { tmps := List.toArray (.agg #[.slice p.a p.n p.c, .slice q.a q.n q.c] :: .slice a.a a.n a.c :: .slice b.a b.n b.c :: .pointer (some ⟨w.heap.size, 0, none⟩) :: undef :: undef :: .int .i64 0 :: y7 :: y8 :: y9 :: y10 :: y11 :: y12 :: y13 :: y14 :: y15 :: y16 :: y17 :: y18 :: y19 :: y20 :: y21 :: y22 :: y23 :: y24 :: .bool true :: y26 :: y27 :: y28 :: y29 :: y30 :: y31 :: y32 :: y33 :: y34 :: y35 :: []), defers := [] } ∧ Below w.heap.size w W) (by kernel_rfl) (by kernel_rfl) (by kernel_rfl) P1 ?tree ?next
  case tree =>
    generalize w1.drew = w2 at P1 hx ha hc hB ⊢
    refine Rd.tr_float (.slice b.a b.n b.c) (by simp only [List.getElem?_toArray, List.getElem?_cons_zero]; rfl) rfl (by rfl) (fun X _ => by go_simp) ?_
    simp only [Act.put, List.setIfInBounds_toArray, List.set_cons_succ, List.set_cons_zero]
    refine Rd.tr_move (by simp only [List.getElem?_toArray, List.getElem?_cons_succ, List.getElem?_cons_zero]; rfl) rfl (by rfl) (fun K hK => ?_)
    have H3 := Lib.hid (contains_any b cs w2 hc (by omega) 55 noC (enters_of Tryz.func55 (by kernel_rfl) rfl) noCap_any)
    rw [hcp] at H3
    go_simp
    refine H3.out.mono ?_
    rintro e w4 ⟨rfl, rfl⟩
    clear H3
    refine hK _ _ P1 ?_
    clear hK K
    refine Rd.tr_float (.bool true) (by simp only [List.getElem?_toArray, List.getElem?_cons_succ, List.getElem?_cons_zero]; rfl) rfl (by rfl) (fun X _ => by go_simp) ?_
    simp only [Act.put, List.setIfInBounds_toArray, List.set_cons_succ, List.set_cons_zero]
    refine Rd.tr_skip (by simp only [List.getElem?_toArray, List.getElem?_cons_succ, List.getElem?_cons_zero]; rfl) rfl (by rfl) ?_
    simp only [Act.put, List.setIfInBounds_toArray, List.set_cons_succ, List.set_cons_zero]
    refine Rd.tr_skip (by simp only [List.getElem?_toArray, List.getElem?_cons_succ, List.getElem?_cons_zero]; rfl) rfl (by rfl) ?_
    simp only [Act.put, List.setIfInBounds_toArray, List.set_cons_succ, List.set_cons_zero]
    refine Rd.tr_mskip (by simp only [List.getElem?_toArray, List.getElem?_cons_succ, List.getElem?_cons_zero]; rfl) rfl (by rfl) P1 ?_
    simp only [Act.put, List.setIfInBounds_toArray, List.set_cons_succ, List.set_cons_zero]
    refine Rd.tr_mskip (by simp only [List.getElem?_toArray, List.getElem?_cons_succ, List.getElem?_cons_zero]; rfl) rfl (by rfl) P1 ?_
    simp only [Act.put, List.setIfInBounds_toArray, List.set_cons_succ, List.set_cons_zero]
    refine Rd.tr_mskip (by simp only [List.getElem?_toArray, List.getElem?_cons_succ, List.getElem?_cons_zero]; rfl) rfl (by rfl) P1 ?_
    simp only [Act.put, List.setIfInBounds_toArray, List.set_cons_succ, List.set_cons_zero]
    refine Rd.tr_skip (by simp only [List.getElem?_toArray, List.getElem?_cons_succ, List.getElem?_cons_zero]; rfl) rfl (by rfl) ?_
    simp only [Act.put, List.setIfInBounds_toArray, List.set_cons_succ, List.set_cons_zero]
    refine Rd.tr_float (.bool true) (by simp only [List.getElem?_toArray, List.getElem?_cons_succ, List.getElem?_cons_zero]; rfl) rfl (by rfl) (fun X _ => by go_simp) ?_
    simp only [Act.put, List.setIfInBounds_toArray, List.set_cons_succ, List.set_cons_zero]
    refine Rd.tr_float (.bool true) (by simp only [List.getElem?_toArray, List.getElem?_cons_succ, List.getElem?_cons_zero]; rfl) rfl (by rfl) (fun X _ => by go_simp) ?_
    simp only [Act.put, List.setIfInBounds_toArray, List.set_cons_succ, List.set_cons_zero]
    exact Rd.tr_end (⟨_, _, _, _, _, _, _, _, _, _, _, _, _, _, _, _, _, _, _, _, _, _, _, _, _, _, _, _, rfl, hB⟩)
  case next =>
    rintro a6 W5 ⟨y7, y8, y9, y10, y11, y12, y13, y14, y15, y16, y17, y18, y19, y20, y21, y22, y23, y24, y26, y27, y28, y29, y30, y31, y32, y33, y34, y35, rfl, hB⟩
    go_wp2_with fail
    go_ret
    exact ⟨rfl, hB⟩

set_option maxRecDepth 100000 in
set_option maxHeartbeats 4000000 in
theorem check_high (p q a b : Sl) (x : Rat) (ws cs : List Int) (w : World) (hx : RQ w p q x) (ha : RI w a ws) (hc : RI w b cs) (hlw : ws.length ≤ 100) (he : cs.length = ws.length) (hf : ws.length ≤ 32) (hw : ws.any noW = false) (hcp : cs.any noC = false) (sm : Nat) (hsm : sm ≤ 1000000) (HSM : Hid (cs.sum = (sm : Int))) (HCS : Hid (∀ z ∈ cs, 0 ≤ z ∧ z ≤ 10000)) (HO : Hid ((sm : Rat) < x)) :
    Calls Tryz.prog 26 #[.agg #[.slice p.a p.n p.c, .slice q.a q.n q.c], .slice a.a a.n a.c, .slice b.a b.n b.c] w fun e w' => e = .returned (.int .i64 14) ∧ Below w.heap.size w w' := by
  have ea := ha.len
  have ec := hc.len
  have en : b.n = a.n := by omega
  have h32 : ¬ (32 : Int) < (a.n : Int) := by omega
  go_enter Tryz.func26, Tryz.ntmps26
  have hb : Below w.heap.size w (w.alloc (.cells #[.slice p.a p.n p.c, .slice q.a q.n q.c] 29)) := ((Below.refl _ _).alloc (Nat.le_refl _) _)
  replace hx := hx.below hb
  replace ha := ha.below hb
  replace hc := hc.below hb
  have hB := hb
  have P1 : Pair (w.alloc (.cells #[.slice p.a p.n p.c, .slice q.a q.n q.c] 29)) (w.heap.size) 29 (.slice p.a p.n p.c) (.slice q.a q.n q.c) := by
    have h := Pair.new w 29 (.slice p.a p.n p.c) (.slice q.a q.n q.c)
    simpa only [World.size_alloc] using h
  clear hb
  have c0P1 := P1.c0
  have c1P1 := P1.c1
  have hnn : ((a.n : Int) == (b.n : Int)) = true := by rw [en]; simp
  have hnm : (b.n : Int) = (a.n : Int) := by rw [en]
  clear ea ec en
  have H1 := Lib.hid (Qgood p q x (w.alloc (.cells #[.slice p.a p.n p.c, .slice q.a q.n q.c] 29)) hx)
  go_wp2_with fail
  clear c0P1 c1P1
  refine H1.out.mono ?_
  rintro e w1 ⟨rfl, hb⟩
  clear H1
  replace P1 := P1.below hb
  replace hx := hx.below hb
  replace ha := ha.below hb
  replace hc := hc.below hb
  replace hB := hB.trans (hb.mono hB.size)
  clear hb
  have H2 := Lib.hid (contains_any a ws w1 ha (by omega) 54 noW (enters_of Tryz.func54 (by kernel_rfl) rfl) noWeight_any)
  rw [hw] at H2
  go_wp2_with fail
  refine H2.out.mono ?_
  rintro e w2 ⟨rfl, rfl⟩
  clear H2
  have c0P1 := P1.c0
  have c1P1 := P1.c1
  go_wp2_with fail
  clear c0P1 c1P1
  have hb : Below w1.heap.size w1 w1.drew := (Below.refl _ _).drew
  replace P1 := P1.below hb
  replace hx := hx.below hb
  replace ha := ha.below hb
  replace hc := hc.below hb
  replace hB := hB.trans (hb.mono hB.size)
  clear hb
  refine Rd.regionT (fun X => Pair X (w.heap.size) 29 (.slice p.a p.n p.c) (.slice q.a q.n q.c)) [0, 2, 3, 4, 8, 9, 10] (.one 0 (.one 1 (.one 2 (.one 3 (.one 4 (.one 5 (.one 6 (.one 7 (.one 8 (.one 9 (.one 10 .done))))))))))) (fun ac W => ∃ (T : Bool) (y7 y8 y9 y10 y11 y12 y13 y14 y15 y16 y17 y18 y19 y20 y21 y22 y23 y24 y26 y27 y28 y29 y30 y31 y32 y33 y34 y35 : Value), ac = { tmps := List.toArray (.agg #[.slice p.a p.n p.c, .slice q.a q.n q.c] :: .slice a.a a.n a.c :: .slice b.a b.n b.c :: .pointer (some ⟨w.heap.size, 0, none⟩) :: undef :: undef :: .int .i64 0 :: y7 :: y8 :: y9 :: y10 :: y11 :: y12 :: y13 :: y14 :: y15 :: y16 :: y17 :: y18 :: y19 :: y20 :: y21 :: y22 :: y23 :: y24 :: .bool T :: y26 :: y27 :: y28 :: y29 :: y30 :: y31 :: y32 :: y33 :: y34 :: y35 :: []), defers := [] } ∧ T = decide ((sm : Rat) < x) ∧ Below w.heap.size w W) (by kernel_rfl) (by kernel_rfl) (by kernel_rfl) P1 ?tree ?next
  case tree =>
    generalize w1.drew = w2 at P1 hx ha hc hB ⊢
    refine Rd.tr_float (.slice b.a b.n b.c) (by simp only [List.getElem?_toArray, List.getElem?_cons_zero]; rfl) rfl (by rfl) (fun X _ => by go_simp) ?_
    simp only [Act.put, List.setIfInBounds_toArray, List.set_cons_succ, List.set_cons_zero]
    refine Rd.tr_move (by simp only [List.getElem?_toArray, List.getElem?_cons_succ, List.getElem?_cons_zero]; rfl) rfl (by rfl) (fun K hK => ?_)
    have H3 := Lib.hid (contains_any b cs w2 hc (by omega) 55 noC (enters_of Tryz.func55 (by kernel_rfl) rfl) noCap_any)
    rw [hcp] at H3
    go_simp
    refine H3.out.mono ?_
    rintro e w4 ⟨rfl, rfl⟩
    clear H3
    refine hK _ _ P1 ?_
    clear hK K
    refine Rd.tr_float (.bool false) (by simp only [List.getElem?_toArray, List.getElem?_cons_succ, List.getElem?_cons_zero]; rfl) rfl (by rfl) (fun X _ => by go_simp) ?_
    simp only [Act.put, List.setIfInBounds_toArray, List.set_cons_succ, List.set_cons_zero]
    refine Rd.tr_float (.agg #[.slice p.a p.n p.c, .slice q.a q.n q.c]) (by simp only [List.getElem?_toArray, List.getElem?_cons_succ, List.getElem?_cons_zero]; rfl) rfl (by rfl) (fun X hX => by have h0 := hX.c0; have h1 := hX.c1; go_simp) ?_
    simp only [Act.put, List.setIfInBounds_toArray, List.set_cons_succ, List.set_cons_zero]
    refine Rd.tr_float (.slice b.a b.n b.c) (by simp only [List.getElem?_toArray, List.getElem?_cons_succ, List.getElem?_cons_zero]; rfl) rfl (by rfl) (fun X _ => by go_simp) ?_
    simp only [Act.put, List.setIfInBounds_toArray, List.set_cons_succ, List.set_cons_zero]
    refine Rd.tr_move (by simp only [List.getElem?_toArray, List.getElem?_cons_succ, List.getElem?_cons_zero]; rfl) rfl (by rfl) (fun K hK => ?_)
    have H5 := Lib.hid (sum_any b cs w2 hc (by omega) HCS.out)
    rw [HSM.out] at H5
    go_simp
    refine H5.out.mono ?_
    rintro e w6 ⟨rfl, rfl⟩
    clear H5
    refine hK _ _ P1 ?_
    clear hK K
    refine Rd.tr_move (by simp only [List.getElem?_toArray, List.getElem?_cons_succ, List.getElem?_cons_zero]; rfl) rfl (by rfl) (fun K hK => ?_)
    have H9 := Lib.hid (Qint (sm) (by omega) w2)
    go_simp
    refine H9.out.mono ?_
    rintro e w10 ⟨x7, y8, rfl, rx7, hb⟩
    clear H9
    replace P1 := P1.below hb
    replace hx := hx.below hb
    replace ha := ha.below hb
    replace hc := hc.below hb
    replace hB := hB.trans (hb.mono hB.size)
    clear hb
    refine hK _ _ P1 ?_
    clear hK K
    refine Rd.tr_move (by simp only [List.getElem?_toArray, List.getElem?_cons_succ, List.getElem?_cons_zero]; rfl) rfl (by rfl) (fun K hK => ?_)
    have H11 := Lib.hid (Qcmp p q x7 y8 (x) (((sm : Nat) : Rat)) w10 hx rx7)
    go_simp
    refine H11.out.mono ?_
    rintro e w12 ⟨rfl, hb⟩
    clear H11
    replace P1 := P1.below hb
    replace hx := hx.below hb
    replace ha := ha.below hb
    replace hc := hc.below hb
    replace rx7 := rx7.below hb
    replace hB := hB.trans (hb.mono hB.size)
    clear hb
    refine hK _ _ P1 ?_
    clear hK K
    refine Rd.tr_float (.bool (decide (0 < (cmpQ (x) (((sm : Nat) : Rat)))))) (by simp only [List.getElem?_toArray, List.getElem?_cons_succ, List.getElem?_cons_zero]; rfl) rfl (by rfl) (fun X _ => by go_simp) ?_
    simp only [Act.put, List.setIfInBounds_toArray, List.set_cons_succ, List.set_cons_zero]
    refine Rd.tr_float (.bool (decide (0 < (cmpQ (x) (((sm : Nat) : Rat)))))) (by simp only [List.getElem?_toArray, List.getElem?_cons_succ, List.getElem?_cons_zero]; rfl) rfl (by rfl) (fun X _ => by go_simp) ?_
    simp only [Act.put, List.setIfInBounds_toArray, List.set_cons_succ, List.set_cons_zero]
    refine Rd.tr_float (.bool (decide (0 < (cmpQ (x) (((sm : Nat) : Rat)))))) (by simp only [List.getElem?_toArray, List.getElem?_cons_succ, List.getElem?_cons_zero]; rfl) rfl (by rfl) (fun X _ => by go_simp) ?_
    simp only [Act.put, List.setIfInBounds_toArray, List.set_cons_succ, List.set_cons_zero]
    exact Rd.tr_end (⟨_, _, _, _, _, _, _, _, _, _, _, _, _, _, _, _, _, _, _, _, _, _, _, _, _, _, _, _, _, rfl, (by simp only [cmpQ_gt]), hB⟩)
  case next =>
    rintro a14 W13 ⟨T, y7, y8, y9, y10, y11, y12, y13, y14, y15, y16, y17, y18, y19, y20, y21, y22, y23, y24, y26, y27, y28, y29, y30, y31, y32, y33, y34, y35, rfl, hT, hB⟩
    rw [decide_eq_true HO.out] at hT
    subst hT
    go_wp2_with fail
    go_ret
    exact ⟨rfl, hB⟩

set_option maxRecDepth 100000 in
set_option maxHeartbeats 4000000 in
theorem check_ok (p q a b : Sl) (x : Rat) (ws cs : List Int) (w : World) (hx : RQ w p q x) (ha : RI w a ws) (hc : RI w b cs) (hlw : ws.length ≤ 100) (he : cs.length = ws.length) (hf : ws.length ≤ 32) (hw : ws.any noW = false) (hcp : cs.any noC = false) (sm : Nat) (hsm : sm ≤ 1000000) (HSM : Hid (cs.sum = (sm : Int))) (HCS : Hid (∀ z ∈ cs, 0 ≤ z ∧ z ≤ 10000)) (HO : Hid (¬ (sm : Rat) < x)) :
    Calls Tryz.prog 26 #[.agg #[.slice p.a p.n p.c, .slice q.a q.n q.c], .slice a.a a.n a.c, .slice b.a b.n b.c] w fun e w' => e = .returned (.int .i64 0) ∧ Below w.heap.size w w' := by
  have ea := ha.len
  have ec := hc.len
  have en : b.n = a.n := by omega
  have h32 : ¬ (32 : Int) < (a.n : Int) := by omega
  go_enter Tryz.func26, Tryz.ntmps26
  have hb : Below w.heap.size w (w.alloc (.cells #[.slice p.a p.n p.c, .slice q.a q.n q.c] 29)) := ((Below.refl _ _).alloc (Nat.le_refl _) _)
  replace hx := hx.below hb
  replace ha := ha.below hb
  replace hc := hc.below hb
  have hB := hb
  have P1 : Pair (w.alloc (.cells #[.slice p.a p.n p.c, .slice q.a q.n q.c] 29)) (w.heap.size) 29 (.slice p.a p.n p.c) (.slice q.a q.n q.c) := by
    have h := Pair.new w 29 (.slice p.a p.n p.c) (.slice q.a q.n q.c)
    simpa only [World.size_alloc] using h
  clear hb
  have c0P1 := P1.c0
  have c1P1 := P1.c1
  have hnn : ((a.n : Int) == (b.n : Int)) = true := by rw [en]; simp
  have hnm : (b.n : Int) = (a.n : Int) := by rw [en]
  clear ea ec en
  have H1 := Lib.hid (Qgood p q x (w.alloc (.cells #[.slice p.a p.n p.c, .slice q.a q.n q.c] 29)) hx)
  go_wp2_with fail
  clear c0P1 c1P1
  refine H1.out.mono ?_
  rintro e w1 ⟨rfl, hb⟩
  clear H1
  replace P1 := P1.below hb
  replace hx := hx.below hb
  replace ha := ha.below hb
  replace hc := hc.below hb
  replace hB := hB.trans (hb.mono hB.size)
  clear hb
  have H2 := Lib.hid (contains_any a ws w1 ha (by omega) 54 noW (enters_of Tryz.func54 (by kernel_rfl) rfl) noWeight_any)
  rw [hw] at H2
  go_wp2_with fail
  refine H2.out.mono ?_
  rintro e w2 ⟨rfl, rfl⟩
  clear H2
  have c0P1 := P1.c0
  have c1P1 := P1.c1
  go_wp2_with fail
  clear c0P1 c1P1
  have hb : Below w1.heap.size w1 w1.drew := (Below.refl _ _).drew
  replace P1 := P1.below hb
  replace hx := hx.below hb
  replace ha := ha.below hb
  replace hc := hc.below hb
  replace hB := hB.trans (hb.mono hB.size)
  clear hb
  refine Rd.regionT (fun X => Pair X (w.heap.size) 29 (.slice p.a p.n p.c) (.slice q.a q.n q.c)) [0, 2, 3, 4, 8, 9, 10] (.one 0 (.one 1 (.one 2 (.one 3 (.one 4 (.one 5 (.one 6 (.one 7 (.one 8 (.one 9 (.one 10 .done))))))))))) (fun ac W => ∃ (T : Bool) (y7 y8 y9 y10 y11 y12 y13 y14 y15 y16 y17 y18 y19 y20 y21 y22 y23 y24 y26 y27 y28 y29 y30 y31 y32 y33 y34 y35 : Value), ac = { tmps := List.toArray (.agg #[.slice p.a p.n p.c, .slice q.a q.n q.c] :: .slice a.a a.n a.c :: .slice b.a b.n b.c :: .pointer (some ⟨w.heap.size, 0, none⟩) :: undef :: undef :: .int .i64 0 :: y7 :: y8 :: y9 :: y10 :: y11 :: y12 :: y13 :: y14 :: y15 :: y16 :: y17 :: y18 :: y19 :: y20 :: y21 :: y22 :: y23 :: y24 :: .bool T :: y26 :: y27 :: y28 :: y29 :: y30 :: y31 :: y32 :: y33 :: y34 :: y35 :: []), defers := [] } ∧ T = decide ((sm : Rat) < x) ∧ Below w.heap.size w W) (by kernel_rfl) (by kernel_rfl) (by kernel_rfl) P1 ?tree ?next
  case tree =>
    generalize w1.drew = w2 at P1 hx ha hc hB ⊢
    refine Rd.tr_float (.slice b.a b.n b.c) (by simp only [List.getElem?_toArray, List.getElem?_cons_zero]; rfl) rfl (by rfl) (fun X _ => by go_simp) ?_
    simp only [Act.put, List.setIfInBounds_toArray, List.set_cons_succ, List.set_cons_zero]
    refine Rd.tr_move (by simp only [List.getElem?_toArray, List.getElem?_cons_succ, List.getElem?_cons_zero]; rfl) rfl (by rfl) (fun K hK => ?_)
    have H3 := Lib.hid (contains_any b cs w2 hc (by omega) 55 noC (enters_of Tryz.func55 (by kernel_rfl) rfl) noCap_any)
    rw [hcp] at H3
    go_simp
    refine H3.out.mono ?_
    rintro e w4 ⟨rfl, rfl⟩
    clear H3
    refine hK _ _ P1 ?_
    clear hK K
    refine Rd.tr_float (.bool false) (by simp only [List.getElem?_toArray, List.getElem?_cons_succ, List.getElem?_cons_zero]; rfl) rfl (by rfl) (fun X _ => by go_simp) ?_
    simp only [Act.put, List.setIfInBounds_toArray, List.set_cons_succ, List.set_cons_zero]
    refine Rd.tr_float (.agg #[.slice p.a p.n p.c, .slice q.a q.n q.c]) (by simp only [List.getElem?_toArray, List.getElem?_cons_succ, List.getElem?_cons_zero]; rfl) rfl (by rfl) (fun X hX => by have h0 := hX.c0; have h1 := hX.c1; go_simp) ?_
    simp only [Act.put, List.setIfInBounds_toArray, List.set_cons_succ, List.set_cons_zero]
    refine Rd.tr_float (.slice b.a b.n b.c) (by simp only [List.getElem?_toArray, List.getElem?_cons_succ, List.getElem?_cons_zero]; rfl) rfl (by rfl) (fun X _ => by go_simp) ?_
    simp only [Act.put, List.setIfInBounds_toArray, List.set_cons_succ, List.set_cons_zero]
    refine Rd.tr_move (by simp only [List.getElem?_toArray, List.getElem?_cons_succ, List.getElem?_cons_zero]; rfl) rfl (by rfl) (fun K hK => ?_)
    have H5 := Lib.hid (sum_any b cs w2 hc (by omega) HCS.out)
    rw [HSM.out] at H5
    go_simp
    refine H5.out.mono ?_
    rintro e w6 ⟨rfl, rfl⟩
    clear H5
    refine hK _ _ P1 ?_
    clear hK K
    refine Rd.tr_move (by simp only [List.getElem?_toArray, List.getElem?_cons_succ, List.getElem?_cons_zero]; rfl) rfl (by rfl) (fun K hK => ?_)
    have H9 := Lib.hid (Qint (sm) (by omega) w2)
    go_simp
    refine H9.out.mono ?_
    rintro e w10 ⟨x7, y8, rfl, rx7, hb⟩
    clear H9
    replace P1 := P1.below hb
    replace hx := hx.below hb
    replace ha := ha.below hb
    replace hc := hc.below hb
    replace hB := hB.trans (hb.mono hB.size)
    clear hb
    refine hK _ _ P1 ?_
    clear hK K
    refine Rd.tr_move (by simp only [List.getElem?_toArray, List.getElem?_cons_succ, List.getElem?_cons_zero]; rfl) rfl (by rfl) (fun K hK => ?_)
    have H11 := Lib.hid (Qcmp p q x7 y8 (x) (((sm : Nat) : Rat)) w10 hx rx7)
    go_simp
    refine H11.out.mono ?_
    rintro e w12 ⟨rfl, hb⟩
    clear H11
    replace P1 := P1.below hb
    replace hx := hx.below hb
    replace ha := ha.below hb
    replace hc := hc.below hb
    replace rx7 := rx7.below hb
    replace hB := hB.trans (hb.mono hB.size)
    clear hb
    refine hK _ _ P1 ?_
    clear hK K
    refine Rd.tr_float (.bool (decide (0 < (cmpQ (x) (((sm : Nat) : Rat)))))) (by simp only [List.getElem?_toArray, List.getElem?_cons_succ, List.getElem?_cons_zero]; rfl) rfl (by rfl) (fun X _ => by go_simp) ?_
    simp only [Act.put, List.setIfInBounds_toArray, List.set_cons_succ, List.set_cons_zero]
    refine Rd.tr_float (.bool (decide (0 < (cmpQ (x) (((sm : Nat) : Rat)))))) (by simp only [List.getElem?_toArray, List.getElem?_cons_succ, List.getElem?_cons_zero]; rfl) rfl (by rfl) (fun X _ => by go_simp) ?_
    simp only [Act.put, List.setIfInBounds_toArray, List.set_cons_succ, List.set_cons_zero]
    refine Rd.tr_float (.bool (decide (0 < (cmpQ (x) (((sm : Nat) : Rat)))))) (by simp only [List.getElem?_toArray, List.getElem?_cons_succ, List.getElem?_cons_zero]; rfl) rfl (by rfl) (fun X _ => by go_simp) ?_
    simp only [Act.put, List.setIfInBounds_toArray, List.set_cons_succ, List.set_cons_zero]
    exact Rd.tr_end (⟨_, _, _, _, _, _, _, _, _, _, _, _, _, _, _, _, _, _, _, _, _, _, _, _, _, _, _, _, _, rfl, (by simp only [cmpQ_gt]), hB⟩)
  case next =>
    rintro a14 W13 ⟨T, y7, y8, y9, y10, y11, y12, y13, y14, y15, y16, y17, y18, y19, y20, y21, y22, y23, y24, y26, y27, y28, y29, y30, y31, y32, y33, y34, y35, rfl, hT, hB⟩
    rw [decide_eq_false HO.out] at hT
    subst hT
    go_wp2_with fail
    go_ret
    exact ⟨rfl, hB⟩

end Go.Proofs.YtphllajedkpcbaaGreatDoor
