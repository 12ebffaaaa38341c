/-
  FillMore: of more each child gets as much, or more; the level is no less. No condition.
-/
import Derived.Test.YtphllajedkpcbaaGreatDoorFn
namespace Go.Proofs.YtphllajedkpcbaaGreatDoor
open Go.RowKit Go.Dig Go.Shelf Go.Proofs Go.Rq

set_option maxRecDepth 100000 in
set_option maxHeartbeats 4000000 in
theorem more_l0 (A B A2 B2 : Int) (a b : Sl) (ws cs : List Int) (w : World) (ha : RI w a ws) (hc : RI w b cs) (h : (12 : Int) < (a.n : Int)) :
    Calls Tryz.prog 5 #[.agg #[.int .i64 A, .int .i64 B], .agg #[.int .i64 A2, .int .i64 B2], .agg #[.slice a.a a.n a.c, .slice b.a b.n b.c]] w fun e w' => e = .returned (.bool true) ∧ Below w.heap.size w w' := by
  go_enter Tryz.func5, Tryz.ntmps5
  have hb : Below w.heap.size w (((w.alloc (.cells #[.int .i64 A, .int .i64 B] 23)).alloc (.cells #[.int .i64 A2, .int .i64 B2] 23)).alloc (.cells #[.slice a.a a.n a.c, .slice b.a b.n b.c] 50)) := ((((Below.refl _ _).alloc (Nat.le_refl _) _).alloc (by simp) _).alloc (by simp; omega) _)
  replace ha := ha.below hb
  replace hc := hc.below hb
  have hB := hb
  have P1 : Pair (((w.alloc (.cells #[.int .i64 A, .int .i64 B] 23)).alloc (.cells #[.int .i64 A2, .int .i64 B2] 23)).alloc (.cells #[.slice a.a a.n a.c, .slice b.a b.n b.c] 50)) (w.heap.size) 23 (.int .i64 A) (.int .i64 B) := by
    have h := ((Pair.new w 23 (.int .i64 A) (.int .i64 B)).alloc (.cells #[.int .i64 A2, .int .i64 B2] 23)).alloc (.cells #[.slice a.a a.n a.c, .slice b.a b.n b.c] 50)
    simpa only [World.size_alloc] using h
  have P2 : Pair (((w.alloc (.cells #[.int .i64 A, .int .i64 B] 23)).alloc (.cells #[.int .i64 A2, .int .i64 B2] 23)).alloc (.cells #[.slice a.a a.n a.c, .slice b.a b.n b.c] 50)) (w.heap.size + 1) 23 (.int .i64 A2) (.int .i64 B2) := by
    have h := (Pair.new (w.alloc (.cells #[.int .i64 A, .int .i64 B] 23)) 23 (.int .i64 A2) (.int .i64 B2)).alloc (.cells #[.slice a.a a.n a.c, .slice b.a b.n b.c] 50)
    simpa only [World.size_alloc] using h
  have P3 : Pair (((w.alloc (.cells #[.int .i64 A, .int .i64 B] 23)).alloc (.cells #[.int .i64 A2, .int .i64 B2] 23)).alloc (.cells #[.slice a.a a.n a.c, .slice b.a b.n b.c] 50)) (w.heap.size + 1 + 1) 50 (.slice a.a a.n a.c) (.slice b.a b.n b.c) := by
    have h := Pair.new ((w.alloc (.cells #[.int .i64 A, .int .i64 B] 23)).alloc (.cells #[.int .i64 A2, .int .i64 B2] 23)) 50 (.slice a.a a.n a.c) (.slice b.a b.n b.c)
    simpa only [World.size_alloc] using h
  clear hb
  have c0P1 := P1.c0
  have c1P1 := P1.c1
  have c0P2 := P2.c0
  have c1P2 := P2.c1
  have c0P3 := P3.c0
  have c1P3 := P3.c1
  go_wp2_with fail
  clear c0P1 c1P1 c0P2 c1P2 c0P3 c1P3
  have hb : Below (((w.alloc (.cells #[.int .i64 A, .int .i64 B] 23)).alloc (.cells #[.int .i64 A2, .int .i64 B2] 23)).alloc (.cells #[.slice a.a a.n a.c, .slice b.a b.n b.c] 50)).heap.size (((w.alloc (.cells #[.int .i64 A, .int .i64 B] 23)).alloc (.cells #[.int .i64 A2, .int .i64 B2] 23)).alloc (.cells #[.slice a.a a.n a.c, .slice b.a b.n b.c] 50)) (((w.alloc (.cells #[.int .i64 A, .int .i64 B] 23)).alloc (.cells #[.int .i64 A2, .int .i64 B2] 23)).alloc (.cells #[.slice a.a a.n a.c, .slice b.a b.n b.c] 50)).drew := (Below.refl _ _).drew
  replace P1 := P1.below hb
  replace P2 := P2.below hb
  replace P3 := P3.below hb
  replace ha := ha.below hb
  replace hc := hc.below hb
  replace hB := hB.trans (hb.mono hB.size)
  clear hb
  refine Rd.regionT (fun X => Pair X (w.heap.size) 23 (.int .i64 A) (.int .i64 B) ∧ Pair X (w.heap.size + 1) 23 (.int .i64 A2) (.int .i64 B2) ∧ Pair X (w.heap.size + 1 + 1) 50 (.slice a.a a.n a.c) (.slice b.a b.n b.c)) [0, 1, 2, 3, 4, 5] (.one 0 (.one 1 (.one 2 (.one 3 (.one 4 (.one 5 .done)))))) (fun ac W => ∃  (y22 y23 y24 y25 : Value), ac = { tmps := List.toArray (.agg #[.int .i64 A, .int .i64 B] :: .agg #[.int .i64 A2, .int .i64 B2] :: .agg #[.slice a.a a.n a.c, .slice b.a b.n b.c] :: .pointer (some ⟨w.heap.size, 0, none⟩) :: .pointer (some ⟨w.heap.size + 1, 0, none⟩) :: .pointer (some ⟨w.heap.size + 1 + 1, 0, none⟩) :: .bool false :: .slice a.a a.n a.c :: .slice b.a b.n b.c :: undef :: undef :: undef :: undef :: undef :: undef :: undef :: undef :: undef :: undef :: undef :: undef :: undef :: y22 :: y23 :: y24 :: y25 :: undef :: undef :: undef :: undef :: undef :: undef :: undef :: undef :: undef :: undef :: undef :: undef :: undef :: undef :: undef :: undef :: undef :: undef :: undef :: undef :: undef :: undef :: undef :: undef :: undef :: undef :: undef :: undef :: undef :: undef :: undef :: undef :: undef :: undef :: undef :: undef :: undef :: undef :: undef :: undef :: undef :: undef :: undef :: undef :: undef :: undef :: undef :: undef :: undef :: undef :: undef :: undef :: undef :: undef :: undef :: undef :: undef :: undef :: undef :: undef :: undef :: undef :: undef :: undef :: undef :: undef :: undef :: undef :: undef :: undef :: undef :: undef :: undef :: undef :: undef :: undef :: undef :: undef :: undef :: undef :: undef :: undef :: undef :: undef :: undef :: undef :: undef :: undef :: undef :: undef :: undef :: undef :: undef :: undef :: undef :: undef :: undef :: undef :: undef :: undef :: undef :: undef :: undef :: undef :: undef :: undef :: undef :: undef :: undef :: undef :: undef :: undef :: undef :: undef :: []), defers := [] } ∧ Pair W (w.heap.size) 23 (.int .i64 A) (.int .i64 B) ∧ Pair W (w.heap.size + 1) 23 (.int .i64 A2) (.int .i64 B2) ∧ Pair W (w.heap.size + 1 + 1) 50 (.slice a.a a.n a.c) (.slice b.a b.n b.c) ∧ RI W a ws ∧ RI W b cs ∧ Below w.heap.size w W) (by kernel_rfl) (by kernel_rfl) (by kernel_rfl) ⟨P1, P2, P3⟩ ?tree ?next
  case tree =>
    generalize (((w.alloc (.cells #[.int .i64 A, .int .i64 B] 23)).alloc (.cells #[.int .i64 A2, .int .i64 B2] 23)).alloc (.cells #[.slice a.a a.n a.c, .slice b.a b.n b.c] 50)).drew = w4 at P1 P2 P3 ha hc hB ⊢
    refine Rd.tr_float (.pointer (some ⟨w.heap.size + 1 + 1, 0, none⟩)) (by simp only [List.getElem?_toArray, List.getElem?_cons_zero]; rfl) rfl (by rfl) (fun X _ => by go_simp) ?_
    simp only [Act.put, List.setIfInBounds_toArray, List.set_cons_succ, List.set_cons_zero]
    refine Rd.tr_float (.slice a.a a.n a.c) (by simp only [List.getElem?_toArray, List.getElem?_cons_succ, List.getElem?_cons_zero]; rfl) rfl (by rfl) (fun X hX => by have h0 := hX.2.2.c0; have h1 := hX.2.2.c1; go_simp) ?_
    simp only [Act.put, List.setIfInBounds_toArray, List.set_cons_succ, List.set_cons_zero]
    refine Rd.tr_float (.pointer (some ⟨w.heap.size + 1 + 1, 1, none⟩)) (by simp only [List.getElem?_toArray, List.getElem?_cons_succ, List.getElem?_cons_zero]; rfl) rfl (by rfl) (fun X _ => by go_simp) ?_
    simp only [Act.put, List.setIfInBounds_toArray, List.set_cons_succ, List.set_cons_zero]
    refine Rd.tr_float (.slice b.a b.n b.c) (by simp only [List.getElem?_toArray, List.getElem?_cons_succ, List.getElem?_cons_zero]; rfl) rfl (by rfl) (fun X hX => by have h0 := hX.2.2.c0; have h1 := hX.2.2.c1; go_simp) ?_
    simp only [Act.put, List.setIfInBounds_toArray, List.set_cons_succ, List.set_cons_zero]
    refine Rd.tr_float (.slice a.a a.n a.c) (by simp only [List.getElem?_toArray, List.getElem?_cons_succ, List.getElem?_cons_zero]; rfl) rfl (by rfl) (fun X _ => by go_simp) ?_
    simp only [Act.put, List.setIfInBounds_toArray, List.set_cons_succ, List.set_cons_zero]
    refine Rd.tr_float (.slice b.a b.n b.c) (by simp only [List.getElem?_toArray, List.getElem?_cons_succ, List.getElem?_cons_zero]; rfl) rfl (by rfl) (fun X _ => by go_simp) ?_
    simp only [Act.put, List.setIfInBounds_toArray, List.set_cons_succ, List.set_cons_zero]
    exact Rd.tr_end (⟨_, _, _, _, rfl, P1, P2, P3, ha, hc, hB⟩)
  case next =>
    rintro a6 W5 ⟨y22, y23, y24, y25, rfl, P1, P2, P3, ha, hc, hB⟩
    refine (?_ : ∀ (z0 z1 z2 z5 z9 z10 z11 z12 z13 z14 z15 z16 z17 z18 z19 z20 z21 z22 z23 z24 z25 z26 z27 z28 z29 z30 z31 z32 z33 z34 z35 z36 z37 z38 z39 z40 z41 z42 z43 z44 z45 z46 z47 z48 z49 z50 z51 z52 z53 z54 z55 z56 z57 z58 z59 z60 z61 z62 z63 z64 z65 z66 z67 z68 z69 z70 z71 z72 z73 z74 z75 z76 z77 z78 z79 z80 z81 z82 z83 z84 z85 z86 z87 z88 z89 z90 z91 z92 z93 z94 z95 z96 z97 z98 z99 z100 z101 z102 z103 z104 z105 z106 z107 z108 z109 z110 z111 z112 z113 z114 z115 z116 z117 z118 z119 z120 z121 z122 z123 z124 z125 z126 z127 z128 z129 z130 z131 z132 z133 z134 z135 z136 z137 z138 z139 : Value), Exit.then _ _ _ { tmps := List.toArray (z0 :: z1 :: z2 :: .pointer (some ⟨w.heap.size, 0, none⟩) :: .pointer (some ⟨w.heap.size + 1, 0, none⟩) :: z5 :: .bool false :: .slice a.a a.n a.c :: .slice b.a b.n b.c :: z9 :: z10 :: z11 :: z12 :: z13 :: z14 :: z15 :: z16 :: z17 :: z18 :: z19 :: z20 :: z21 :: z22 :: z23 :: z24 :: z25 :: z26 :: z27 :: z28 :: z29 :: z30 :: z31 :: z32 :: z33 :: z34 :: z35 :: z36 :: z37 :: z38 :: z39 :: z40 :: z41 :: z42 :: z43 :: z44 :: z45 :: z46 :: z47 :: z48 :: z49 :: z50 :: z51 :: z52 :: z53 :: z54 :: z55 :: z56 :: z57 :: z58 :: z59 :: z60 :: z61 :: z62 :: z63 :: z64 :: z65 :: z66 :: z67 :: z68 :: z69 :: z70 :: z71 :: z72 :: z73 :: z74 :: z75 :: z76 :: z77 :: z78 :: z79 :: z80 :: z81 :: z82 :: z83 :: z84 :: z85 :: z86 :: z87 :: z88 :: z89 :: z90 :: z91 :: z92 :: z93 :: z94 :: z95 :: z96 :: z97 :: z98 :: z99 :: z100 :: z101 :: z102 :: z103 :: z104 :: z105 :: z106 :: z107 :: z108 :: z109 :: z110 :: z111 :: z112 :: z113 :: z114 :: z115 :: z116 :: z117 :: z118 :: z119 :: z120 :: z121 :: z122 :: z123 :: z124 :: z125 :: z126 :: z127 :: z128 :: z129 :: z130 :: z131 :: z132 :: z133 :: z134 :: z135 :: z136 :: z137 :: z138 :: z139 :: []), defers := [] } _) _ _ _ _ _ _ _ _ _ _ _ _ _ _ _ _ _ _ _ _ _ _ _ _ _ _ _ _ _ _ _ _ _ _ _ _ _ _ _ _ _ _ _ _ _ _ _ _ _ _ _ _ _ _ _ _ _ _ _ _ _ _ _ _ _ _ _ _ _ _ _ _ _ _ _ _ _ _ _ _ _ _ _ _ _ _ _ _ _ _ _ _ _ _ _ _ _ _ _ _ _ _ _ _ _ _ _ _ _ _ _ _ _ _ _ _ _ _ _ _ _ _ _ _ _ _ _ _ _ _ _ _ _ _ _
    intro z0 z1 z2 z5 z9 z10 z11 z12 z13 z14 z15 z16 z17 z18 z19 z20 z21 z22 z23 z24 z25 z26 z27 z28 z29 z30 z31 z32 z33 z34 z35 z36 z37 z38 z39 z40 z41 z42 z43 z44 z45 z46 z47 z48 z49 z50 z51 z52 z53 z54 z55 z56 z57 z58 z59 z60 z61 z62 z63 z64 z65 z66 z67 z68 z69 z70 z71 z72 z73 z74 z75 z76 z77 z78 z79 z80 z81 z82 z83 z84 z85 z86 z87 z88 z89 z90 z91 z92 z93 z94 z95 z96 z97 z98 z99 z100 z101 z102 z103 z104 z105 z106 z107 z108 z109 z110 z111 z112 z113 z114 z115 z116 z117 z118 z119 z120 z121 z122 z123 z124 z125 z126 z127 z128 z129 z130 z131 z132 z133 z134 z135 z136 z137 z138 z139
    have c0P1 := P1.c0
    have c1P1 := P1.c1
    have c0P2 := P2.c0
    have c1P2 := P2.c1
    have c0P3 := P3.c0
    have c1P3 := P3.c1
    have H1 := Lib.hid (awake4 W5)
    go_wp2_with fail
    clear c0P1 c1P1 c0P2 c1P2 c0P3 c1P3
    refine H1.out.mono ?_
    rintro e w1 ⟨rfl, hb⟩
    clear H1
    replace P1 := P1.below hb
    replace P2 := P2.below hb
    replace P3 := P3.below hb
    replace ha := ha.below hb
    replace hc := hc.below hb
    replace hB := hB.trans (hb.mono hB.size)
    clear hb
    have c0P1 := P1.c0
    have c1P1 := P1.c1
    have c0P2 := P2.c0
    have c1P2 := P2.c1
    have c0P3 := P3.c0
    have c1P3 := P3.c1
    have H2 := Lib.hid (awake4 w1)
    go_wp2_with fail
    clear c0P1 c1P1 c0P2 c1P2 c0P3 c1P3
    refine H2.out.mono ?_
    rintro e w2 ⟨rfl, hb⟩
    clear H2
    replace P1 := P1.below hb
    replace P2 := P2.below hb
    replace P3 := P3.below hb
    replace ha := ha.below hb
    replace hc := hc.below hb
    replace hB := hB.trans (hb.mono hB.size)
    clear hb
    have c0P1 := P1.c0
    have c1P1 := P1.c1
    have c0P2 := P2.c0
    have c1P2 := P2.c1
    have c0P3 := P3.c0
    have c1P3 := P3.c1
    go_wp2_with fail
    go_ret
    exact ⟨rfl, hB⟩

set_option maxRecDepth 100000 in
set_option maxHeartbeats 4000000 in
theorem more_l1 (A B A2 B2 : Int) (a b : Sl) (ws cs : List Int) (w : World) (ha : RI w a ws) (hc : RI w b cs) (n0 : ¬ (12 : Int) < (a.n : Int)) (h : (12 : Int) < (b.n : Int)) :
    Calls Tryz.prog 5 #[.agg #[.int .i64 A, .int .i64 B], .agg #[.int .i64 A2, .int .i64 B2], .agg #[.slice a.a a.n a.c, .slice b.a b.n b.c]] w fun e w' => e = .returned (.bool true) ∧ Below w.heap.size w w' := by
  go_enter Tryz.func5, Tryz.ntmps5
  have hb : Below w.heap.size w (((w.alloc (.cells #[.int .i64 A, .int .i64 B] 23)).alloc (.cells #[.int .i64 A2, .int .i64 B2] 23)).alloc (.cells #[.slice a.a a.n a.c, .slice b.a b.n b.c] 50)) := ((((Below.refl _ _).alloc (Nat.le_refl _) _).alloc (by simp) _).alloc (by simp; omega) _)
  replace ha := ha.below hb
  replace hc := hc.below hb
  have hB := hb
  have P1 : Pair (((w.alloc (.cells #[.int .i64 A, .int .i64 B] 23)).alloc (.cells #[.int .i64 A2, .int .i64 B2] 23)).alloc (.cells #[.slice a.a a.n a.c, .slice b.a b.n b.c] 50)) (w.heap.size) 23 (.int .i64 A) (.int .i64 B) := by
    have h := ((Pair.new w 23 (.int .i64 A) (.int .i64 B)).alloc (.cells #[.int .i64 A2, .int .i64 B2] 23)).alloc (.cells #[.slice a.a a.n a.c, .slice b.a b.n b.c] 50)
    simpa only [World.size_alloc] using h
  have P2 : Pair (((w.alloc (.cells #[.int .i64 A, .int .i64 B] 23)).alloc (.cells #[.int .i64 A2, .int .i64 B2] 23)).alloc (.cells #[.slice a.a a.n a.c, .slice b.a b.n b.c] 50)) (w.heap.size + 1) 23 (.int .i64 A2) (.int .i64 B2) := by
    have h := (Pair.new (w.alloc (.cells #[.int .i64 A, .int .i64 B] 23)) 23 (.int .i64 A2) (.int .i64 B2)).alloc (.cells #[.slice a.a a.n a.c, .slice b.a b.n b.c] 50)
    simpa only [World.size_alloc] using h
  have P3 : Pair (((w.alloc (.cells #[.int .i64 A, .int .i64 B] 23)).alloc (.cells #[.int .i64 A2, .int .i64 B2] 23)).alloc (.cells #[.slice a.a a.n a.c, .slice b.a b.n b.c] 50)) (w.heap.size + 1 + 1) 50 (.slice a.a a.n a.c) (.slice b.a b.n b.c) := by
    have h := Pair.new ((w.alloc (.cells #[.int .i64 A, .int .i64 B] 23)).alloc (.cells #[.int .i64 A2, .int .i64 B2] 23)) 50 (.slice a.a a.n a.c) (.slice b.a b.n b.c)
    simpa only [World.size_alloc] using h
  clear hb
  have c0P1 := P1.c0
  have c1P1 := P1.c1
  have c0P2 := P2.c0
  have c1P2 := P2.c1
  have c0P3 := P3.c0
  have c1P3 := P3.c1
  go_wp2_with fail
  clear c0P1 c1P1 c0P2 c1P2 c0P3 c1P3
  have hb : Below (((w.alloc (.cells #[.int .i64 A, .int .i64 B] 23)).alloc (.cells #[.int .i64 A2, .int .i64 B2] 23)).alloc (.cells #[.slice a.a a.n a.c, .slice b.a b.n b.c] 50)).heap.size (((w.alloc (.cells #[.int .i64 A, .int .i64 B] 23)).alloc (.cells #[.int .i64 A2, .int .i64 B2] 23)).alloc (.cells #[.slice a.a a.n a.c, .slice b.a b.n b.c] 50)) (((w.alloc (.cells #[.int .i64 A, .int .i64 B] 23)).alloc (.cells #[.int .i64 A2, .int .i64 B2] 23)).alloc (.cells #[.slice a.a a.n a.c, .slice b.a b.n b.c] 50)).drew := (Below.refl _ _).drew
  replace P1 := P1.below hb
  replace P2 := P2.below hb
  replace P3 := P3.below hb
  replace ha := ha.below hb
  replace hc := hc.below hb
  replace hB := hB.trans (hb.mono hB.size)
  clear hb
  refine Rd.regionT (fun X => Pair X (w.heap.size) 23 (.int .i64 A) (.int .i64 B) ∧ Pair X (w.heap.size + 1) 23 (.int .i64 A2) (.int .i64 B2) ∧ Pair X (w.heap.size + 1 + 1) 50 (.slice a.a a.n a.c) (.slice b.a b.n b.c)) [0, 1, 2, 3, 4, 5] (.one 0 (.one 1 (.one 2 (.one 3 (.one 4 (.one 5 .done)))))) (fun ac W => ∃  (y22 y23 y24 y25 : Value), ac = { tmps := List.toArray (.agg #[.int .i64 A, .int .i64 B] :: .agg #[.int .i64 A2, .int .i64 B2] :: .agg #[.slice a.a a.n a.c, .slice b.a b.n b.c] :: .pointer (some ⟨w.heap.size, 0, none⟩) :: .pointer (some ⟨w.heap.size + 1, 0, none⟩) :: .pointer (some ⟨w.heap.size + 1 + 1, 0, none⟩) :: .bool false :: .slice a.a a.n a.c :: .slice b.a b.n b.c :: undef :: undef :: undef :: undef :: undef :: undef :: undef :: undef :: undef :: undef :: undef :: undef :: undef :: y22 :: y23 :: y24 :: y25 :: undef :: undef :: undef :: undef :: undef :: undef :: undef :: undef :: undef :: undef :: undef :: undef :: undef :: undef :: undef :: undef :: undef :: undef :: undef :: undef :: undef :: undef :: undef :: undef :: undef :: undef :: undef :: undef :: undef :: undef :: undef :: undef :: undef :: undef :: undef :: undef :: undef :: undef :: undef :: undef :: undef :: undef :: undef :: undef :: undef :: undef :: undef :: undef :: undef :: undef :: undef :: undef :: undef :: undef :: undef :: undef :: undef :: undef :: undef :: undef :: undef :: undef :: undef :: undef :: undef :: undef :: undef :: undef :: undef :: undef :: undef :: undef :: undef :: undef :: undef :: undef :: undef :: undef :: undef :: undef :: undef :: undef :: undef :: undef :: undef :: undef :: undef :: undef :: undef :: undef :: undef :: undef :: undef :: undef :: undef :: undef :: undef :: undef :: undef :: undef :: undef :: undef :: undef :: undef :: undef :: undef :: undef :: undef :: undef :: undef :: undef :: undef :: undef :: undef :: []), defers := [] } ∧ Pair W (w.heap.size) 23 (.int .i64 A) (.int .i64 B) ∧ Pair W (w.heap.size + 1) 23 (.int .i64 A2) (.int .i64 B2) ∧ Pair W (w.heap.size + 1 + 1) 50 (.slice a.a a.n a.c) (.slice b.a b.n b.c) ∧ RI W a ws ∧ RI W b cs ∧ Below w.heap.size w W) (by kernel_rfl) (by kernel_rfl) (by kernel_rfl) ⟨P1, P2, P3⟩ ?tree ?next
  case tree =>
    generalize (((w.alloc (.cells #[.int .i64 A, .int .i64 B] 23)).alloc (.cells #[.int .i64 A2, .int .i64 B2] 23)).alloc (.cells #[.slice a.a a.n a.c, .slice b.a b.n b.c] 50)).drew = w4 at P1 P2 P3 ha hc hB ⊢
    refine Rd.tr_float (.pointer (some ⟨w.heap.size + 1 + 1, 0, none⟩)) (by simp only [List.getElem?_toArray, List.getElem?_cons_zero]; rfl) rfl (by rfl) (fun X _ => by go_simp) ?_
    simp only [Act.put, List.setIfInBounds_toArray, List.set_cons_succ, List.set_cons_zero]
    refine Rd.tr_float (.slice a.a a.n a.c) (by simp only [List.getElem?_toArray, List.getElem?_cons_succ, List.getElem?_cons_zero]; rfl) rfl (by rfl) (fun X hX => by have h0 := hX.2.2.c0; have h1 := hX.2.2.c1; go_simp) ?_
    simp only [Act.put, List.setIfInBounds_toArray, List.set_cons_succ, List.set_cons_zero]
    refine Rd.tr_float (.pointer (some ⟨w.heap.size + 1 + 1, 1, none⟩)) (by simp only [List.getElem?_toArray, List.getElem?_cons_succ, List.getElem?_cons_zero]; rfl) rfl (by rfl) (fun X _ => by go_simp) ?_
    simp only [Act.put, List.setIfInBounds_toArray, List.set_cons_succ, List.set_cons_zero]
    refine Rd.tr_float (.slice b.a b.n b.c) (by simp only [List.getElem?_toArray, List.getElem?_cons_succ, List.getElem?_cons_zero]; rfl) rfl (by rfl) (fun X hX => by have h0 := hX.2.2.c0; have h1 := hX.2.2.c1; go_simp) ?_
    simp only [Act.put, List.setIfInBounds_toArray, List.set_cons_succ, List.set_cons_zero]
    refine Rd.tr_float (.slice a.a a.n a.c) (by simp only [List.getElem?_toArray, List.getElem?_cons_succ, List.getElem?_cons_zero]; rfl) rfl (by rfl) (fun X _ => by go_simp) ?_
    simp only [Act.put, List.setIfInBounds_toArray, List.set_cons_succ, List.set_cons_zero]
    refine Rd.tr_float (.slice b.a b.n b.c) (by simp only [List.getElem?_toArray, List.getElem?_cons_succ, List.getElem?_cons_zero]; rfl) rfl (by rfl) (fun X _ => by go_simp) ?_
    simp only [Act.put, List.setIfInBounds_toArray, List.set_cons_succ, List.set_cons_zero]
    exact Rd.tr_end (⟨_, _, _, _, rfl, P1, P2, P3, ha, hc, hB⟩)
  case next =>
    rintro a6 W5 ⟨y22, y23, y24, y25, rfl, P1, P2, P3, ha, hc, hB⟩
    refine (?_ : ∀ (z0 z1 z2 z5 z9 z10 z11 z12 z13 z14 z15 z16 z17 z18 z19 z20 z21 z22 z23 z24 z25 z26 z27 z28 z29 z30 z31 z32 z33 z34 z35 z36 z37 z38 z39 z40 z41 z42 z43 z44 z45 z46 z47 z48 z49 z50 z51 z52 z53 z54 z55 z56 z57 z58 z59 z60 z61 z62 z63 z64 z65 z66 z67 z68 z69 z70 z71 z72 z73 z74 z75 z76 z77 z78 z79 z80 z81 z82 z83 z84 z85 z86 z87 z88 z89 z90 z91 z92 z93 z94 z95 z96 z97 z98 z99 z100 z101 z102 z103 z104 z105 z106 z107 z108 z109 z110 z111 z112 z113 z114 z115 z116 z117 z118 z119 z120 z121 z122 z123 z124 z125 z126 z127 z128 z129 z130 z131 z132 z133 z134 z135 z136 z137 z138 z139 : Value), Exit.then _ _ _ { tmps := List.toArray (z0 :: z1 :: z2 :: .pointer (some ⟨w.heap.size, 0, none⟩) :: .pointer (some ⟨w.heap.size + 1, 0, none⟩) :: z5 :: .bool false :: .slice a.a a.n a.c :: .slice b.a b.n b.c :: z9 :: z10 :: z11 :: z12 :: z13 :: z14 :: z15 :: z16 :: z17 :: z18 :: z19 :: z20 :: z21 :: z22 :: z23 :: z24 :: z25 :: z26 :: z27 :: z28 :: z29 :: z30 :: z31 :: z32 :: z33 :: z34 :: z35 :: z36 :: z37 :: z38 :: z39 :: z40 :: z41 :: z42 :: z43 :: z44 :: z45 :: z46 :: z47 :: z48 :: z49 :: z50 :: z51 :: z52 :: z53 :: z54 :: z55 :: z56 :: z57 :: z58 :: z59 :: z60 :: z61 :: z62 :: z63 :: z64 :: z65 :: z66 :: z67 :: z68 :: z69 :: z70 :: z71 :: z72 :: z73 :: z74 :: z75 :: z76 :: z77 :: z78 :: z79 :: z80 :: z81 :: z82 :: z83 :: z84 :: z85 :: z86 :: z87 :: z88 :: z89 :: z90 :: z91 :: z92 :: z93 :: z94 :: z95 :: z96 :: z97 :: z98 :: z99 :: z100 :: z101 :: z102 :: z103 :: z104 :: z105 :: z106 :: z107 :: z108 :: z109 :: z110 :: z111 :: z112 :: z113 :: z114 :: z115 :: z116 :: z117 :: z118 :: z119 :: z120 :: z121 :: z122 :: z123 :: z124 :: z125 :: z126 :: z127 :: z128 :: z129 :: z130 :: z131 :: z132 :: z133 :: z134 :: z135 :: z136 :: z137 :: z138 :: z139 :: []), defers := [] } _) _ _ _ _ _ _ _ _ _ _ _ _ _ _ _ _ _ _ _ _ _ _ _ _ _ _ _ _ _ _ _ _ _ _ _ _ _ _ _ _ _ _ _ _ _ _ _ _ _ _ _ _ _ _ _ _ _ _ _ _ _ _ _ _ _ _ _ _ _ _ _ _ _ _ _ _ _ _ _ _ _ _ _ _ _ _ _ _ _ _ _ _ _ _ _ _ _ _ _ _ _ _ _ _ _ _ _ _ _ _ _ _ _ _ _ _ _ _ _ _ _ _ _ _ _ _ _ _ _ _ _ _ _ _ _
    intro z0 z1 z2 z5 z9 z10 z11 z12 z13 z14 z15 z16 z17 z18 z19 z20 z21 z22 z23 z24 z25 z26 z27 z28 z29 z30 z31 z32 z33 z34 z35 z36 z37 z38 z39 z40 z41 z42 z43 z44 z45 z46 z47 z48 z49 z50 z51 z52 z53 z54 z55 z56 z57 z58 z59 z60 z61 z62 z63 z64 z65 z66 z67 z68 z69 z70 z71 z72 z73 z74 z75 z76 z77 z78 z79 z80 z81 z82 z83 z84 z85 z86 z87 z88 z89 z90 z91 z92 z93 z94 z95 z96 z97 z98 z99 z100 z101 z102 z103 z104 z105 z106 z107 z108 z109 z110 z111 z112 z113 z114 z115 z116 z117 z118 z119 z120 z121 z122 z123 z124 z125 z126 z127 z128 z129 z130 z131 z132 z133 z134 z135 z136 z137 z138 z139
    have c0P1 := P1.c0
    have c1P1 := P1.c1
    have c0P2 := P2.c0
    have c1P2 := P2.c1
    have c0P3 := P3.c0
    have c1P3 := P3.c1
    have H1 := Lib.hid (awake4 W5)
    go_wp2_with fail
    clear c0P1 c1P1 c0P2 c1P2 c0P3 c1P3
    refine H1.out.mono ?_
    rintro e w1 ⟨rfl, hb⟩
    clear H1
    replace P1 := P1.below hb
    replace P2 := P2.below hb
    replace P3 := P3.below hb
    replace ha := ha.below hb
    replace hc := hc.below hb
    replace hB := hB.trans (hb.mono hB.size)
    clear hb
    have c0P1 := P1.c0
    have c1P1 := P1.c1
    have c0P2 := P2.c0
    have c1P2 := P2.c1
    have c0P3 := P3.c0
    have c1P3 := P3.c1
    have H2 := Lib.hid (awake4 w1)
    go_wp2_with fail
    clear c0P1 c1P1 c0P2 c1P2 c0P3 c1P3
    refine H2.out.mono ?_
    rintro e w2 ⟨rfl, hb⟩
    clear H2
    replace P1 := P1.below hb
    replace P2 := P2.below hb
    replace P3 := P3.below hb
    replace ha := ha.below hb
    replace hc := hc.below hb
    replace hB := hB.trans (hb.mono hB.size)
    clear hb
    have c0P1 := P1.c0
    have c1P1 := P1.c1
    have c0P2 := P2.c0
    have c1P2 := P2.c1
    have c0P3 := P3.c0
    have c1P3 := P3.c1
    go_wp2_with fail
    go_ret
    exact ⟨rfl, hB⟩

set_option maxRecDepth 100000 in
set_option maxHeartbeats 4000000 in
theorem more_l2 (A B A2 B2 : Int) (a b : Sl) (ws cs : List Int) (w : World) (ha : RI w a ws) (hc : RI w b cs) (n0 : ¬ (12 : Int) < (a.n : Int)) (n1 : ¬ (12 : Int) < (b.n : Int)) (h : 1000000 < A) :
    Calls Tryz.prog 5 #[.agg #[.int .i64 A, .int .i64 B], .agg #[.int .i64 A2, .int .i64 B2], .agg #[.slice a.a a.n a.c, .slice b.a b.n b.c]] w fun e w' => e = .returned (.bool true) ∧ Below w.heap.size w w' := by
  go_enter Tryz.func5, Tryz.ntmps5
  have hb : Below w.heap.size w (((w.alloc (.cells #[.int .i64 A, .int .i64 B] 23)).alloc (.cells #[.int .i64 A2, .int .i64 B2] 23)).alloc (.cells #[.slice a.a a.n a.c, .slice b.a b.n b.c] 50)) := ((((Below.refl _ _).alloc (Nat.le_refl _) _).alloc (by simp) _).alloc (by simp; omega) _)
  replace ha := ha.below hb
  replace hc := hc.below hb
  have hB := hb
  have P1 : Pair (((w.alloc (.cells #[.int .i64 A, .int .i64 B] 23)).alloc (.cells #[.int .i64 A2, .int .i64 B2] 23)).alloc (.cells #[.slice a.a a.n a.c, .slice b.a b.n b.c] 50)) (w.heap.size) 23 (.int .i64 A) (.int .i64 B) := by
    have h := ((Pair.new w 23 (.int .i64 A) (.int .i64 B)).alloc (.cells #[.int .i64 A2, .int .i64 B2] 23)).alloc (.cells #[.slice a.a a.n a.c, .slice b.a b.n b.c] 50)
    simpa only [World.size_alloc] using h
  have P2 : Pair (((w.alloc (.cells #[.int .i64 A, .int .i64 B] 23)).alloc (.cells #[.int .i64 A2, .int .i64 B2] 23)).alloc (.cells #[.slice a.a a.n a.c, .slice b.a b.n b.c] 50)) (w.heap.size + 1) 23 (.int .i64 A2) (.int .i64 B2) := by
    have h := (Pair.new (w.alloc (.cells #[.int .i64 A, .int .i64 B] 23)) 23 (.int .i64 A2) (.int .i64 B2)).alloc (.cells #[.slice a.a a.n a.c, .slice b.a b.n b.c] 50)
    simpa only [World.size_alloc] using h
  have P3 : Pair (((w.alloc (.cells #[.int .i64 A, .int .i64 B] 23)).alloc (.cells #[.int .i64 A2, .int .i64 B2] 23)).alloc (.cells #[.slice a.a a.n a.c, .slice b.a b.n b.c] 50)) (w.heap.size + 1 + 1) 50 (.slice a.a a.n a.c) (.slice b.a b.n b.c) := by
    have h := Pair.new ((w.alloc (.cells #[.int .i64 A, .int .i64 B] 23)).alloc (.cells #[.int .i64 A2, .int .i64 B2] 23)) 50 (.slice a.a a.n a.c) (.slice b.a b.n b.c)
    simpa only [World.size_alloc] using h
  clear hb
  have c0P1 := P1.c0
  have c1P1 := P1.c1
  have c0P2 := P2.c0
  have c1P2 := P2.c1
  have c0P3 := P3.c0
  have c1P3 := P3.c1
  go_wp2_with fail
  clear c0P1 c1P1 c0P2 c1P2 c0P3 c1P3
  have hb : Below (((w.alloc (.cells #[.int .i64 A, .int .i64 B] 23)).alloc (.cells #[.int .i64 A2, .int .i64 B2] 23)).alloc (.cells #[.slice a.a a.n a.c, .slice b.a b.n b.c] 50)).heap.size (((w.alloc (.cells #[.int .i64 A, .int .i64 B] 23)).alloc (.cells #[.int .i64 A2, .int .i64 B2] 23)).alloc (.cells #[.slice a.a a.n a.c, .slice b.a b.n b.c] 50)) (((w.alloc (.cells #[.int .i64 A, .int .i64 B] 23)).alloc (.cells #[.int .i64 A2, .int .i64 B2] 23)).alloc (.cells #[.slice a.a a.n a.c, .slice b.a b.n b.c] 50)).drew := (Below.refl _ _).drew
  replace P1 := P1.below hb
  replace P2 := P2.below hb
  replace P3 := P3.below hb
  replace ha := ha.below hb
  replace hc := hc.below hb
  replace hB := hB.trans (hb.mono hB.size)
  clear hb
  refine Rd.regionT (fun X => Pair X (w.heap.size) 23 (.int .i64 A) (.int .i64 B) ∧ Pair X (w.heap.size + 1) 23 (.int .i64 A2) (.int .i64 B2) ∧ Pair X (w.heap.size + 1 + 1) 50 (.slice a.a a.n a.c) (.slice b.a b.n b.c)) [0, 1, 2, 3, 4, 5] (.one 0 (.one 1 (.one 2 (.one 3 (.one 4 (.one 5 .done)))))) (fun ac W => ∃  (y22 y23 y24 y25 : Value), ac = { tmps := List.toArray (.agg #[.int .i64 A, .int .i64 B] :: .agg #[.int .i64 A2, .int .i64 B2] :: .agg #[.slice a.a a.n a.c, .slice b.a b.n b.c] :: .pointer (some ⟨w.heap.size, 0, none⟩) :: .pointer (some ⟨w.heap.size + 1, 0, none⟩) :: .pointer (some ⟨w.heap.size + 1 + 1, 0, none⟩) :: .bool false :: .slice a.a a.n a.c :: .slice b.a b.n b.c :: undef :: undef :: undef :: undef :: undef :: undef :: undef :: undef :: undef :: undef :: undef :: undef :: undef :: y22 :: y23 :: y24 :: y25 :: undef :: undef :: undef :: undef :: undef :: undef :: undef :: undef :: undef :: undef :: undef :: undef :: undef :: undef :: undef :: undef :: undef :: undef :: undef :: undef :: undef :: undef :: undef :: undef :: undef :: undef :: undef :: undef :: undef :: undef :: undef :: undef :: undef :: undef :: undef :: undef :: undef :: undef :: undef :: undef :: undef :: undef :: undef :: undef :: undef :: undef :: undef :: undef :: undef :: undef :: undef :: undef :: undef :: undef :: undef :: undef :: undef :: undef :: undef :: undef :: undef :: undef :: undef :: undef :: undef :: undef :: undef :: undef :: undef :: undef :: undef :: undef :: undef :: undef :: undef :: undef :: undef :: undef :: undef :: undef :: undef :: undef :: undef :: undef :: undef :: undef :: undef :: undef :: undef :: undef :: undef :: undef :: undef :: undef :: undef :: undef :: undef :: undef :: undef :: undef :: undef :: undef :: undef :: undef :: undef :: undef :: undef :: undef :: undef :: undef :: undef :: undef :: undef :: undef :: []), defers := [] } ∧ Pair W (w.heap.size) 23 (.int .i64 A) (.int .i64 B) ∧ Pair W (w.heap.size + 1) 23 (.int .i64 A2) (.int .i64 B2) ∧ Pair W (w.heap.size + 1 + 1) 50 (.slice a.a a.n a.c) (.slice b.a b.n b.c) ∧ RI W a ws ∧ RI W b cs ∧ Below w.heap.size w W) (by kernel_rfl) (by kernel_rfl) (by kernel_rfl) ⟨P1, P2, P3⟩ ?tree ?next
  case tree =>
    generalize (((w.alloc (.cells #[.int .i64 A, .int .i64 B] 23)).alloc (.cells #[.int .i64 A2, .int .i64 B2] 23)).alloc (.cells #[.slice a.a a.n a.c, .slice b.a b.n b.c] 50)).drew = w4 at P1 P2 P3 ha hc hB ⊢
    refine Rd.tr_float (.pointer (some ⟨w.heap.size + 1 + 1, 0, none⟩)) (by simp only [List.getElem?_toArray, List.getElem?_cons_zero]; rfl) rfl (by rfl) (fun X _ => by go_simp) ?_
    simp only [Act.put, List.setIfInBounds_toArray, List.set_cons_succ, List.set_cons_zero]
    refine Rd.tr_float (.slice a.a a.n a.c) (by simp only [List.getElem?_toArray, List.getElem?_cons_succ, List.getElem?_cons_zero]; rfl) rfl (by rfl) (fun X hX => by have h0 := hX.2.2.c0; have h1 := hX.2.2.c1; go_simp) ?_
    simp only [Act.put, List.setIfInBounds_toArray, List.set_cons_succ, List.set_cons_zero]
    refine Rd.tr_float (.pointer (some ⟨w.heap.size + 1 + 1, 1, none⟩)) (by simp only [List.getElem?_toArray, List.getElem?_cons_succ, List.getElem?_cons_zero]; rfl) rfl (by rfl) (fun X _ => by go_simp) ?_
    simp only [Act.put, List.setIfInBounds_toArray, List.set_cons_succ, List.set_cons_zero]
    refine Rd.tr_float (.slice b.a b.n b.c) (by simp only [List.getElem?_toArray, List.getElem?_cons_succ, List.getElem?_cons_zero]; rfl) rfl (by rfl) (fun X hX => by have h0 := hX.2.2.c0; have h1 := hX.2.2.c1; go_simp) ?_
    simp only [Act.put, List.setIfInBounds_toArray, List.set_cons_succ, List.set_cons_zero]
    refine Rd.tr_float (.slice a.a a.n a.c) (by simp only [List.getElem?_toArray, List.getElem?_cons_succ, List.getElem?_cons_zero]; rfl) rfl (by rfl) (fun X _ => by go_simp) ?_
    simp only [Act.put, List.setIfInBounds_toArray, List.set_cons_succ, List.set_cons_zero]
    refine Rd.tr_float (.slice b.a b.n b.c) (by simp only [List.getElem?_toArray, List.getElem?_cons_succ, List.getElem?_cons_zero]; rfl) rfl (by rfl) (fun X _ => by go_simp) ?_
    simp only [Act.put, List.setIfInBounds_toArray, List.set_cons_succ, List.set_cons_zero]
    exact Rd.tr_end (⟨_, _, _, _, rfl, P1, P2, P3, ha, hc, hB⟩)
  case next =>
    rintro a6 W5 ⟨y22, y23, y24, y25, rfl, P1, P2, P3, ha, hc, hB⟩
    refine (?_ : ∀ (z0 z1 z2 z5 z9 z10 z11 z12 z13 z14 z15 z16 z17 z18 z19 z20 z21 z22 z23 z24 z25 z26 z27 z28 z29 z30 z31 z32 z33 z34 z35 z36 z37 z38 z39 z40 z41 z42 z43 z44 z45 z46 z47 z48 z49 z50 z51 z52 z53 z54 z55 z56 z57 z58 z59 z60 z61 z62 z63 z64 z65 z66 z67 z68 z69 z70 z71 z72 z73 z74 z75 z76 z77 z78 z79 z80 z81 z82 z83 z84 z85 z86 z87 z88 z89 z90 z91 z92 z93 z94 z95 z96 z97 z98 z99 z100 z101 z102 z103 z104 z105 z106 z107 z108 z109 z110 z111 z112 z113 z114 z115 z116 z117 z118 z119 z120 z121 z122 z123 z124 z125 z126 z127 z128 z129 z130 z131 z132 z133 z134 z135 z136 z137 z138 z139 : Value), Exit.then _ _ _ { tmps := List.toArray (z0 :: z1 :: z2 :: .pointer (some ⟨w.heap.size, 0, none⟩) :: .pointer (some ⟨w.heap.size + 1, 0, none⟩) :: z5 :: .bool false :: .slice a.a a.n a.c :: .slice b.a b.n b.c :: z9 :: z10 :: z11 :: z12 :: z13 :: z14 :: z15 :: z16 :: z17 :: z18 :: z19 :: z20 :: z21 :: z22 :: z23 :: z24 :: z25 :: z26 :: z27 :: z28 :: z29 :: z30 :: z31 :: z32 :: z33 :: z34 :: z35 :: z36 :: z37 :: z38 :: z39 :: z40 :: z41 :: z42 :: z43 :: z44 :: z45 :: z46 :: z47 :: z48 :: z49 :: z50 :: z51 :: z52 :: z53 :: z54 :: z55 :: z56 :: z57 :: z58 :: z59 :: z60 :: z61 :: z62 :: z63 :: z64 :: z65 :: z66 :: z67 :: z68 :: z69 :: z70 :: z71 :: z72 :: z73 :: z74 :: z75 :: z76 :: z77 :: z78 :: z79 :: z80 :: z81 :: z82 :: z83 :: z84 :: z85 :: z86 :: z87 :: z88 :: z89 :: z90 :: z91 :: z92 :: z93 :: z94 :: z95 :: z96 :: z97 :: z98 :: z99 :: z100 :: z101 :: z102 :: z103 :: z104 :: z105 :: z106 :: z107 :: z108 :: z109 :: z110 :: z111 :: z112 :: z113 :: z114 :: z115 :: z116 :: z117 :: z118 :: z119 :: z120 :: z121 :: z122 :: z123 :: z124 :: z125 :: z126 :: z127 :: z128 :: z129 :: z130 :: z131 :: z132 :: z133 :: z134 :: z135 :: z136 :: z137 :: z138 :: z139 :: []), defers := [] } _) _ _ _ _ _ _ _ _ _ _ _ _ _ _ _ _ _ _ _ _ _ _ _ _ _ _ _ _ _ _ _ _ _ _ _ _ _ _ _ _ _ _ _ _ _ _ _ _ _ _ _ _ _ _ _ _ _ _ _ _ _ _ _ _ _ _ _ _ _ _ _ _ _ _ _ _ _ _ _ _ _ _ _ _ _ _ _ _ _ _ _ _ _ _ _ _ _ _ _ _ _ _ _ _ _ _ _ _ _ _ _ _ _ _ _ _ _ _ _ _ _ _ _ _ _ _ _ _ _ _ _ _ _ _ _
    intro z0 z1 z2 z5 z9 z10 z11 z12 z13 z14 z15 z16 z17 z18 z19 z20 z21 z22 z23 z24 z25 z26 z27 z28 z29 z30 z31 z32 z33 z34 z35 z36 z37 z38 z39 z40 z41 z42 z43 z44 z45 z46 z47 z48 z49 z50 z51 z52 z53 z54 z55 z56 z57 z58 z59 z60 z61 z62 z63 z64 z65 z66 z67 z68 z69 z70 z71 z72 z73 z74 z75 z76 z77 z78 z79 z80 z81 z82 z83 z84 z85 z86 z87 z88 z89 z90 z91 z92 z93 z94 z95 z96 z97 z98 z99 z100 z101 z102 z103 z104 z105 z106 z107 z108 z109 z110 z111 z112 z113 z114 z115 z116 z117 z118 z119 z120 z121 z122 z123 z124 z125 z126 z127 z128 z129 z130 z131 z132 z133 z134 z135 z136 z137 z138 z139
    have c0P1 := P1.c0
    have c1P1 := P1.c1
    have c0P2 := P2.c0
    have c1P2 := P2.c1
    have c0P3 := P3.c0
    have c1P3 := P3.c1
    have H1 := Lib.hid (awake4 W5)
    go_wp2_with fail
    clear c0P1 c1P1 c0P2 c1P2 c0P3 c1P3
    refine H1.out.mono ?_
    rintro e w1 ⟨rfl, hb⟩
    clear H1
    replace P1 := P1.below hb
    replace P2 := P2.below hb
    replace P3 := P3.below hb
    replace ha := ha.below hb
    replace hc := hc.below hb
    replace hB := hB.trans (hb.mono hB.size)
    clear hb
    have c0P1 := P1.c0
    have c1P1 := P1.c1
    have c0P2 := P2.c0
    have c1P2 := P2.c1
    have c0P3 := P3.c0
    have c1P3 := P3.c1
    have H2 := Lib.hid (awake4 w1)
    go_wp2_with fail
    clear c0P1 c1P1 c0P2 c1P2 c0P3 c1P3
    refine H2.out.mono ?_
    rintro e w2 ⟨rfl, hb⟩
    clear H2
    replace P1 := P1.below hb
    replace P2 := P2.below hb
    replace P3 := P3.below hb
    replace ha := ha.below hb
    replace hc := hc.below hb
    replace hB := hB.trans (hb.mono hB.size)
    clear hb
    have c0P1 := P1.c0
    have c1P1 := P1.c1
    have c0P2 := P2.c0
    have c1P2 := P2.c1
    have c0P3 := P3.c0
    have c1P3 := P3.c1
    go_wp2_with fail
    go_ret
    exact ⟨rfl, hB⟩

set_option maxRecDepth 100000 in
set_option maxHeartbeats 4000000 in
theorem more_l3 (A B A2 B2 : Int) (a b : Sl) (ws cs : List Int) (w : World) (ha : RI w a ws) (hc : RI w b cs) (n0 : ¬ (12 : Int) < (a.n : Int)) (n1 : ¬ (12 : Int) < (b.n : Int)) (n2 : ¬ 1000000 < A) (h : 1000000 < A2) :
    Calls Tryz.prog 5 #[.agg #[.int .i64 A, .int .i64 B], .agg #[.int .i64 A2, .int .i64 B2], .agg #[.slice a.a a.n a.c, .slice b.a b.n b.c]] w fun e w' => e = .returned (.bool true) ∧ Below w.heap.size w w' := by
  go_enter Tryz.func5, Tryz.ntmps5
  have hb : Below w.heap.size w (((w.alloc (.cells #[.int .i64 A, .int .i64 B] 23)).alloc (.cells #[.int .i64 A2, .int .i64 B2] 23)).alloc (.cells #[.slice a.a a.n a.c, .slice b.a b.n b.c] 50)) := ((((Below.refl _ _).alloc (Nat.le_refl _) _).alloc (by simp) _).alloc (by simp; omega) _)
  replace ha := ha.below hb
  replace hc := hc.below hb
  have hB := hb
  have P1 : Pair (((w.alloc (.cells #[.int .i64 A, .int .i64 B] 23)).alloc (.cells #[.int .i64 A2, .int .i64 B2] 23)).alloc (.cells #[.slice a.a a.n a.c, .slice b.a b.n b.c] 50)) (w.heap.size) 23 (.int .i64 A) (.int .i64 B) := by
    have h := ((Pair.new w 23 (.int .i64 A) (.int .i64 B)).alloc (.cells #[.int .i64 A2, .int .i64 B2] 23)).alloc (.cells #[.slice a.a a.n a.c, .slice b.a b.n b.c] 50)
    simpa only [World.size_alloc] using h
  have P2 : Pair (((w.alloc (.cells #[.int .i64 A, .int .i64 B] 23)).alloc (.cells #[.int .i64 A2, .int .i64 B2] 23)).alloc (.cells #[.slice a.a a.n a.c, .slice b.a b.n b.c] 50)) (w.heap.size + 1) 23 (.int .i64 A2) (.int .i64 B2) := by
    have h := (Pair.new (w.alloc (.cells #[.int .i64 A, .int .i64 B] 23)) 23 (.int .i64 A2) (.int .i64 B2)).alloc (.cells #[.slice a.a a.n a.c, .slice b.a b.n b.c] 50)
    simpa only [World.size_alloc] using h
  have P3 : Pair (((w.alloc (.cells #[.int .i64 A, .int .i64 B] 23)).alloc (.cells #[.int .i64 A2, .int .i64 B2] 23)).alloc (.cells #[.slice a.a a.n a.c, .slice b.a b.n b.c] 50)) (w.heap.size + 1 + 1) 50 (.slice a.a a.n a.c) (.slice b.a b.n b.c) := by
    have h := Pair.new ((w.alloc (.cells #[.int .i64 A, .int .i64 B] 23)).alloc (.cells #[.int .i64 A2, .int .i64 B2] 23)) 50 (.slice a.a a.n a.c) (.slice b.a b.n b.c)
    simpa only [World.size_alloc] using h
  clear hb
  have c0P1 := P1.c0
  have c1P1 := P1.c1
  have c0P2 := P2.c0
  have c1P2 := P2.c1
  have c0P3 := P3.c0
  have c1P3 := P3.c1
  go_wp2_with fail
  clear c0P1 c1P1 c0P2 c1P2 c0P3 c1P3
  have hb : Below (((w.alloc (.cells #[.int .i64 A, .int .i64 B] 23)).alloc (.cells #[.int .i64 A2, .int .i64 B2] 23)).alloc (.cells #[.slice a.a a.n a.c, .slice b.a b.n b.c] 50)).heap.size (((w.alloc (.cells #[.int .i64 A, .int .i64 B] 23)).alloc (.cells #[.int .i64 A2, .int .i64 B2] 23)).alloc (.cells #[.slice a.a a.n a.c, .slice b.a b.n b.c] 50)) (((w.alloc (.cells #[.int .i64 A, .int .i64 B] 23)).alloc (.cells #[.int .i64 A2, .int .i64 B2] 23)).alloc (.cells #[.slice a.a a.n a.c, .slice b.a b.n b.c] 50)).drew := (Below.refl _ _).drew
  replace P1 := P1.below hb
  replace P2 := P2.below hb
  replace P3 := P3.below hb
  replace ha := ha.below hb
  replace hc := hc.below hb
  replace hB := hB.trans (hb.mono hB.size)
  clear hb
  refine Rd.regionT (fun X => Pair X (w.heap.size) 23 (.int .i64 A) (.int .i64 B) ∧ Pair X (w.heap.size + 1) 23 (.int .i64 A2) (.int .i64 B2) ∧ Pair X (w.heap.size + 1 + 1) 50 (.slice a.a a.n a.c) (.slice b.a b.n b.c)) [0, 1, 2, 3, 4, 5] (.one 0 (.one 1 (.one 2 (.one 3 (.one 4 (.one 5 .done)))))) (fun ac W => ∃  (y22 y23 y24 y25 : Value), ac = { tmps := List.toArray (.agg #[.int .i64 A, .int .i64 B] :: .agg #[.int .i64 A2, .int .i64 B2] :: .agg #[.slice a.a a.n a.c, .slice b.a b.n b.c] :: .pointer (some ⟨w.heap.size, 0, none⟩) :: .pointer (some ⟨w.heap.size + 1, 0, none⟩) :: .pointer (some ⟨w.heap.size + 1 + 1, 0, none⟩) :: .bool false :: .slice a.a a.n a.c :: .slice b.a b.n b.c :: undef :: undef :: undef :: undef :: undef :: undef :: undef :: undef :: undef :: undef :: undef :: undef :: undef :: y22 :: y23 :: y24 :: y25 :: undef :: undef :: undef :: undef :: undef :: undef :: undef :: undef :: undef :: undef :: undef :: undef :: undef :: undef :: undef :: undef :: undef :: undef :: undef :: undef :: undef :: undef :: undef :: undef :: undef :: undef :: undef :: undef :: undef :: undef :: undef :: undef :: undef :: undef :: undef :: undef :: undef :: undef :: undef :: undef :: undef :: undef :: undef :: undef :: undef :: undef :: undef :: undef :: undef :: undef :: undef :: undef :: undef :: undef :: undef :: undef :: undef :: undef :: undef :: undef :: undef :: undef :: undef :: undef :: undef :: undef :: undef :: undef :: undef :: undef :: undef :: undef :: undef :: undef :: undef :: undef :: undef :: undef :: undef :: undef :: undef :: undef :: undef :: undef :: undef :: undef :: undef :: undef :: undef :: undef :: undef :: undef :: undef :: undef :: undef :: undef :: undef :: undef :: undef :: undef :: undef :: undef :: undef :: undef :: undef :: undef :: undef :: undef :: undef :: undef :: undef :: undef :: undef :: undef :: []), defers := [] } ∧ Pair W (w.heap.size) 23 (.int .i64 A) (.int .i64 B) ∧ Pair W (w.heap.size + 1) 23 (.int .i64 A2) (.int .i64 B2) ∧ Pair W (w.heap.size + 1 + 1) 50 (.slice a.a a.n a.c) (.slice b.a b.n b.c) ∧ RI W a ws ∧ RI W b cs ∧ Below w.heap.size w W) (by kernel_rfl) (by kernel_rfl) (by kernel_rfl) ⟨P1, P2, P3⟩ ?tree ?next
  case tree =>
    generalize (((w.alloc (.cells #[.int .i64 A, .int .i64 B] 23)).alloc (.cells #[.int .i64 A2, .int .i64 B2] 23)).alloc (.cells #[.slice a.a a.n a.c, .slice b.a b.n b.c] 50)).drew = w4 at P1 P2 P3 ha hc hB ⊢
    refine Rd.tr_float (.pointer (some ⟨w.heap.size + 1 + 1, 0, none⟩)) (by simp only [List.getElem?_toArray, List.getElem?_cons_zero]; rfl) rfl (by rfl) (fun X _ => by go_simp) ?_
    simp only [Act.put, List.setIfInBounds_toArray, List.set_cons_succ, List.set_cons_zero]
    refine Rd.tr_float (.slice a.a a.n a.c) (by simp only [List.getElem?_toArray, List.getElem?_cons_succ, List.getElem?_cons_zero]; rfl) rfl (by rfl) (fun X hX => by have h0 := hX.2.2.c0; have h1 := hX.2.2.c1; go_simp) ?_
    simp only [Act.put, List.setIfInBounds_toArray, List.set_cons_succ, List.set_cons_zero]
    refine Rd.tr_float (.pointer (some ⟨w.heap.size + 1 + 1, 1, none⟩)) (by simp only [List.getElem?_toArray, List.getElem?_cons_succ, List.getElem?_cons_zero]; rfl) rfl (by rfl) (fun X _ => by go_simp) ?_
    simp only [Act.put, List.setIfInBounds_toArray, List.set_cons_succ, List.set_cons_zero]
    refine Rd.tr_float (.slice b.a b.n b.c) (by simp only [List.getElem?_toArray, List.getElem?_cons_succ, List.getElem?_cons_zero]; rfl) rfl (by rfl) (fun X hX => by have h0 := hX.2.2.c0; have h1 := hX.2.2.c1; go_simp) ?_
    simp only [Act.put, List.setIfInBounds_toArray, List.set_cons_succ, List.set_cons_zero]
    refine Rd.tr_float (.slice a.a a.n a.c) (by simp only [List.getElem?_toArray, List.getElem?_cons_succ, List.getElem?_cons_zero]; rfl) rfl (by rfl) (fun X _ => by go_simp) ?_
    simp only [Act.put, List.setIfInBounds_toArray, List.set_cons_succ, List.set_cons_zero]
    refine Rd.tr_float (.slice b.a b.n b.c) (by simp only [List.getElem?_toArray, List.getElem?_cons_succ, List.getElem?_cons_zero]; rfl) rfl (by rfl) (fun X _ => by go_simp) ?_
    simp only [Act.put, List.setIfInBounds_toArray, List.set_cons_succ, List.set_cons_zero]
    exact Rd.tr_end (⟨_, _, _, _, rfl, P1, P2, P3, ha, hc, hB⟩)
  case next =>
    rintro a6 W5 ⟨y22, y23, y24, y25, rfl, P1, P2, P3, ha, hc, hB⟩
    refine (?_ : ∀ (z0 z1 z2 z5 z9 z10 z11 z12 z13 z14 z15 z16 z17 z18 z19 z20 z21 z22 z23 z24 z25 z26 z27 z28 z29 z30 z31 z32 z33 z34 z35 z36 z37 z38 z39 z40 z41 z42 z43 z44 z45 z46 z47 z48 z49 z50 z51 z52 z53 z54 z55 z56 z57 z58 z59 z60 z61 z62 z63 z64 z65 z66 z67 z68 z69 z70 z71 z72 z73 z74 z75 z76 z77 z78 z79 z80 z81 z82 z83 z84 z85 z86 z87 z88 z89 z90 z91 z92 z93 z94 z95 z96 z97 z98 z99 z100 z101 z102 z103 z104 z105 z106 z107 z108 z109 z110 z111 z112 z113 z114 z115 z116 z117 z118 z119 z120 z121 z122 z123 z124 z125 z126 z127 z128 z129 z130 z131 z132 z133 z134 z135 z136 z137 z138 z139 : Value), Exit.then _ _ _ { tmps := List.toArray (z0 :: z1 :: z2 :: .pointer (some ⟨w.heap.size, 0, none⟩) :: .pointer (some ⟨w.heap.size + 1, 0, none⟩) :: z5 :: .bool false :: .slice a.a a.n a.c :: .slice b.a b.n b.c :: z9 :: z10 :: z11 :: z12 :: z13 :: z14 :: z15 :: z16 :: z17 :: z18 :: z19 :: z20 :: z21 :: z22 :: z23 :: z24 :: z25 :: z26 :: z27 :: z28 :: z29 :: z30 :: z31 :: z32 :: z33 :: z34 :: z35 :: z36 :: z37 :: z38 :: z39 :: z40 :: z41 :: z42 :: z43 :: z44 :: z45 :: z46 :: z47 :: z48 :: z49 :: z50 :: z51 :: z52 :: z53 :: z54 :: z55 :: z56 :: z57 :: z58 :: z59 :: z60 :: z61 :: z62 :: z63 :: z64 :: z65 :: z66 :: z67 :: z68 :: z69 :: z70 :: z71 :: z72 :: z73 :: z74 :: z75 :: z76 :: z77 :: z78 :: z79 :: z80 :: z81 :: z82 :: z83 :: z84 :: z85 :: z86 :: z87 :: z88 :: z89 :: z90 :: z91 :: z92 :: z93 :: z94 :: z95 :: z96 :: z97 :: z98 :: z99 :: z100 :: z101 :: z102 :: z103 :: z104 :: z105 :: z106 :: z107 :: z108 :: z109 :: z110 :: z111 :: z112 :: z113 :: z114 :: z115 :: z116 :: z117 :: z118 :: z119 :: z120 :: z121 :: z122 :: z123 :: z124 :: z125 :: z126 :: z127 :: z128 :: z129 :: z130 :: z131 :: z132 :: z133 :: z134 :: z135 :: z136 :: z137 :: z138 :: z139 :: []), defers := [] } _) _ _ _ _ _ _ _ _ _ _ _ _ _ _ _ _ _ _ _ _ _ _ _ _ _ _ _ _ _ _ _ _ _ _ _ _ _ _ _ _ _ _ _ _ _ _ _ _ _ _ _ _ _ _ _ _ _ _ _ _ _ _ _ _ _ _ _ _ _ _ _ _ _ _ _ _ _ _ _ _ _ _ _ _ _ _ _ _ _ _ _ _ _ _ _ _ _ _ _ _ _ _ _ _ _ _ _ _ _ _ _ _ _ _ _ _ _ _ _ _ _ _ _ _ _ _ _ _ _ _ _ _ _ _ _
    intro z0 z1 z2 z5 z9 z10 z11 z12 z13 z14 z15 z16 z17 z18 z19 z20 z21 z22 z23 z24 z25 z26 z27 z28 z29 z30 z31 z32 z33 z34 z35 z36 z37 z38 z39 z40 z41 z42 z43 z44 z45 z46 z47 z48 z49 z50 z51 z52 z53 z54 z55 z56 z57 z58 z59 z60 z61 z62 z63 z64 z65 z66 z67 z68 z69 z70 z71 z72 z73 z74 z75 z76 z77 z78 z79 z80 z81 z82 z83 z84 z85 z86 z87 z88 z89 z90 z91 z92 z93 z94 z95 z96 z97 z98 z99 z100 z101 z102 z103 z104 z105 z106 z107 z108 z109 z110 z111 z112 z113 z114 z115 z116 z117 z118 z119 z120 z121 z122 z123 z124 z125 z126 z127 z128 z129 z130 z131 z132 z133 z134 z135 z136 z137 z138 z139
    have c0P1 := P1.c0
    have c1P1 := P1.c1
    have c0P2 := P2.c0
    have c1P2 := P2.c1
    have c0P3 := P3.c0
    have c1P3 := P3.c1
    have H1 := Lib.hid (awake4 W5)
    go_wp2_with fail
    clear c0P1 c1P1 c0P2 c1P2 c0P3 c1P3
    refine H1.out.mono ?_
    rintro e w1 ⟨rfl, hb⟩
    clear H1
    replace P1 := P1.below hb
    replace P2 := P2.below hb
    replace P3 := P3.below hb
    replace ha := ha.below hb
    replace hc := hc.below hb
    replace hB := hB.trans (hb.mono hB.size)
    clear hb
    have c0P1 := P1.c0
    have c1P1 := P1.c1
    have c0P2 := P2.c0
    have c1P2 := P2.c1
    have c0P3 := P3.c0
    have c1P3 := P3.c1
    have H2 := Lib.hid (awake4 w1)
    go_wp2_with fail
    clear c0P1 c1P1 c0P2 c1P2 c0P3 c1P3
    refine H2.out.mono ?_
    rintro e w2 ⟨rfl, hb⟩
    clear H2
    replace P1 := P1.below hb
    replace P2 := P2.below hb
    replace P3 := P3.below hb
    replace ha := ha.below hb
    replace hc := hc.below hb
    replace hB := hB.trans (hb.mono hB.size)
    clear hb
    have c0P1 := P1.c0
    have c1P1 := P1.c1
    have c0P2 := P2.c0
    have c1P2 := P2.c1
    have c0P3 := P3.c0
    have c1P3 := P3.c1
    go_wp2_with fail
    go_ret
    exact ⟨rfl, hB⟩

set_option maxRecDepth 100000 in
set_option maxHeartbeats 4000000 in
theorem more_l4 (A B A2 B2 : Int) (a b : Sl) (ws cs : List Int) (w : World) (ha : RI w a ws) (hc : RI w b cs) (n0 : ¬ (12 : Int) < (a.n : Int)) (n1 : ¬ (12 : Int) < (b.n : Int)) (n2 : ¬ 1000000 < A) (n3 : ¬ 1000000 < A2) (h : 1000000 < B) :
    Calls Tryz.prog 5 #[.agg #[.int .i64 A, .int .i64 B], .agg #[.int .i64 A2, .int .i64 B2], .agg #[.slice a.a a.n a.c, .slice b.a b.n b.c]] w fun e w' => e = .returned (.bool true) ∧ Below w.heap.size w w' := by
  go_enter Tryz.func5, Tryz.ntmps5
  have hb : Below w.heap.size w (((w.alloc (.cells #[.int .i64 A, .int .i64 B] 23)).alloc (.cells #[.int .i64 A2, .int .i64 B2] 23)).alloc (.cells #[.slice a.a a.n a.c, .slice b.a b.n b.c] 50)) := ((((Below.refl _ _).alloc (Nat.le_refl _) _).alloc (by simp) _).alloc (by simp; omega) _)
  replace ha := ha.below hb
  replace hc := hc.below hb
  have hB := hb
  have P1 : Pair (((w.alloc (.cells #[.int .i64 A, .int .i64 B] 23)).alloc (.cells #[.int .i64 A2, .int .i64 B2] 23)).alloc (.cells #[.slice a.a a.n a.c, .slice b.a b.n b.c] 50)) (w.heap.size) 23 (.int .i64 A) (.int .i64 B) := by
    have h := ((Pair.new w 23 (.int .i64 A) (.int .i64 B)).alloc (.cells #[.int .i64 A2, .int .i64 B2] 23)).alloc (.cells #[.slice a.a a.n a.c, .slice b.a b.n b.c] 50)
    simpa only [World.size_alloc] using h
  have P2 : Pair (((w.alloc (.cells #[.int .i64 A, .int .i64 B] 23)).alloc (.cells #[.int .i64 A2, .int .i64 B2] 23)).alloc (.cells #[.slice a.a a.n a.c, .slice b.a b.n b.c] 50)) (w.heap.size + 1) 23 (.int .i64 A2) (.int .i64 B2) := by
    have h := (Pair.new (w.alloc (.cells #[.int .i64 A, .int .i64 B] 23)) 23 (.int .i64 A2) (.int .i64 B2)).alloc (.cells #[.slice a.a a.n a.c, .slice b.a b.n b.c] 50)
    simpa only [World.size_alloc] using h
  have P3 : Pair (((w.alloc (.cells #[.int .i64 A, .int .i64 B] 23)).alloc (.cells #[.int .i64 A2, .int .i64 B2] 23)).alloc (.cells #[.slice a.a a.n a.c, .slice b.a b.n b.c] 50)) (w.heap.size + 1 + 1) 50 (.slice a.a a.n a.c) (.slice b.a b.n b.c) := by
    have h := Pair.new ((w.alloc (.cells #[.int .i64 A, .int .i64 B] 23)).alloc (.cells #[.int .i64 A2, .int .i64 B2] 23)) 50 (.slice a.a a.n a.c) (.slice b.a b.n b.c)
    simpa only [World.size_alloc] using h
  clear hb
  have c0P1 := P1.c0
  have c1P1 := P1.c1
  have c0P2 := P2.c0
  have c1P2 := P2.c1
  have c0P3 := P3.c0
  have c1P3 := P3.c1
  go_wp2_with fail
  clear c0P1 c1P1 c0P2 c1P2 c0P3 c1P3
  have hb : Below (((w.alloc (.cells #[.int .i64 A, .int .i64 B] 23)).alloc (.cells #[.int .i64 A2, .int .i64 B2] 23)).alloc (.cells #[.slice a.a a.n a.c, .slice b.a b.n b.c] 50)).heap.size (((w.alloc (.cells #[.int .i64 A, .int .i64 B] 23)).alloc (.cells #[.int .i64 A2, .int .i64 B2] 23)).alloc (.cells #[.slice a.a a.n a.c, .slice b.a b.n b.c] 50)) (((w.alloc (.cells #[.int .i64 A, .int .i64 B] 23)).alloc (.cells #[.int .i64 A2, .int .i64 B2] 23)).alloc (.cells #[.slice a.a a.n a.c, .slice b.a b.n b.c] 50)).drew := (Below.refl _ _).drew
  replace P1 := P1.below hb
  replace P2 := P2.below hb
  replace P3 := P3.below hb
  replace ha := ha.below hb
  replace hc := hc.below hb
  replace hB := hB.trans (hb.mono hB.size)
  clear hb
  refine Rd.regionT (fun X => Pair X (w.heap.size) 23 (.int .i64 A) (.int .i64 B) ∧ Pair X (w.heap.size + 1) 23 (.int .i64 A2) (.int .i64 B2) ∧ Pair X (w.heap.size + 1 + 1) 50 (.slice a.a a.n a.c) (.slice b.a b.n b.c)) [0, 1, 2, 3, 4, 5] (.one 0 (.one 1 (.one 2 (.one 3 (.one 4 (.one 5 .done)))))) (fun ac W => ∃  (y22 y23 y24 y25 : Value), ac = { tmps := List.toArray (.agg #[.int .i64 A, .int .i64 B] :: .agg #[.int .i64 A2, .int .i64 B2] :: .agg #[.slice a.a a.n a.c, .slice b.a b.n b.c] :: .pointer (some ⟨w.heap.size, 0, none⟩) :: .pointer (some ⟨w.heap.size + 1, 0, none⟩) :: .pointer (some ⟨w.heap.size + 1 + 1, 0, none⟩) :: .bool false :: .slice a.a a.n a.c :: .slice b.a b.n b.c :: undef :: undef :: undef :: undef :: undef :: undef :: undef :: undef :: undef :: undef :: undef :: undef :: undef :: y22 :: y23 :: y24 :: y25 :: undef :: undef :: undef :: undef :: undef :: undef :: undef :: undef :: undef :: undef :: undef :: undef :: undef :: undef :: undef :: undef :: undef :: undef :: undef :: undef :: undef :: undef :: undef :: undef :: undef :: undef :: undef :: undef :: undef :: undef :: undef :: undef :: undef :: undef :: undef :: undef :: undef :: undef :: undef :: undef :: undef :: undef :: undef :: undef :: undef :: undef :: undef :: undef :: undef :: undef :: undef :: undef :: undef :: undef :: undef :: undef :: undef :: undef :: undef :: undef :: undef :: undef :: undef :: undef :: undef :: undef :: undef :: undef :: undef :: undef :: undef :: undef :: undef :: undef :: undef :: undef :: undef :: undef :: undef :: undef :: undef :: undef :: undef :: undef :: undef :: undef :: undef :: undef :: undef :: undef :: undef :: undef :: undef :: undef :: undef :: undef :: undef :: undef :: undef :: undef :: undef :: undef :: undef :: undef :: undef :: undef :: undef :: undef :: undef :: undef :: undef :: undef :: undef :: undef :: []), defers := [] } ∧ Pair W (w.heap.size) 23 (.int .i64 A) (.int .i64 B) ∧ Pair W (w.heap.size + 1) 23 (.int .i64 A2) (.int .i64 B2) ∧ Pair W (w.heap.size + 1 + 1) 50 (.slice a.a a.n a.c) (.slice b.a b.n b.c) ∧ RI W a ws ∧ RI W b cs ∧ Below w.heap.size w W) (by kernel_rfl) (by kernel_rfl) (by kernel_rfl) ⟨P1, P2, P3⟩ ?tree ?next
  case tree =>
    generalize (((w.alloc (.cells #[.int .i64 A, .int .i64 B] 23)).alloc (.cells #[.int .i64 A2, .int .i64 B2] 23)).alloc (.cells #[.slice a.a a.n a.c, .slice b.a b.n b.c] 50)).drew = w4 at P1 P2 P3 ha hc hB ⊢
    refine Rd.tr_float (.pointer (some ⟨w.heap.size + 1 + 1, 0, none⟩)) (by simp only [List.getElem?_toArray, List.getElem?_cons_zero]; rfl) rfl (by rfl) (fun X _ => by go_simp) ?_
    simp only [Act.put, List.setIfInBounds_toArray, List.set_cons_succ, List.set_cons_zero]
    refine Rd.tr_float (.slice a.a a.n a.c) (by simp only [List.getElem?_toArray, List.getElem?_cons_succ, List.getElem?_cons_zero]; rfl) rfl (by rfl) (fun X hX => by have h0 := hX.2.2.c0; have h1 := hX.2.2.c1; go_simp) ?_
    simp only [Act.put, List.setIfInBounds_toArray, List.set_cons_succ, List.set_cons_zero]
    refine Rd.tr_float (.pointer (some ⟨w.heap.size + 1 + 1, 1, none⟩)) (by simp only [List.getElem?_toArray, List.getElem?_cons_succ, List.getElem?_cons_zero]; rfl) rfl (by rfl) (fun X _ => by go_simp) ?_
    simp only [Act.put, List.setIfInBounds_toArray, List.set_cons_succ, List.set_cons_zero]
    refine Rd.tr_float (.slice b.a b.n b.c) (by simp only [List.getElem?_toArray, List.getElem?_cons_succ, List.getElem?_cons_zero]; rfl) rfl (by rfl) (fun X hX => by have h0 := hX.2.2.c0; have h1 := hX.2.2.c1; go_simp) ?_
    simp only [Act.put, List.setIfInBounds_toArray, List.set_cons_succ, List.set_cons_zero]
    refine Rd.tr_float (.slice a.a a.n a.c) (by simp only [List.getElem?_toArray, List.getElem?_cons_succ, List.getElem?_cons_zero]; rfl) rfl (by rfl) (fun X _ => by go_simp) ?_
    simp only [Act.put, List.setIfInBounds_toArray, List.set_cons_succ, List.set_cons_zero]
    refine Rd.tr_float (.slice b.a b.n b.c) (by simp only [List.getElem?_toArray, List.getElem?_cons_succ, List.getElem?_cons_zero]; rfl) rfl (by rfl) (fun X _ => by go_simp) ?_
    simp only [Act.put, List.setIfInBounds_toArray, List.set_cons_succ, List.set_cons_zero]
    exact Rd.tr_end (⟨_, _, _, _, rfl, P1, P2, P3, ha, hc, hB⟩)
  case next =>
    rintro a6 W5 ⟨y22, y23, y24, y25, rfl, P1, P2, P3, ha, hc, hB⟩
    refine (?_ : ∀ (z0 z1 z2 z5 z9 z10 z11 z12 z13 z14 z15 z16 z17 z18 z19 z20 z21 z22 z23 z24 z25 z26 z27 z28 z29 z30 z31 z32 z33 z34 z35 z36 z37 z38 z39 z40 z41 z42 z43 z44 z45 z46 z47 z48 z49 z50 z51 z52 z53 z54 z55 z56 z57 z58 z59 z60 z61 z62 z63 z64 z65 z66 z67 z68 z69 z70 z71 z72 z73 z74 z75 z76 z77 z78 z79 z80 z81 z82 z83 z84 z85 z86 z87 z88 z89 z90 z91 z92 z93 z94 z95 z96 z97 z98 z99 z100 z101 z102 z103 z104 z105 z106 z107 z108 z109 z110 z111 z112 z113 z114 z115 z116 z117 z118 z119 z120 z121 z122 z123 z124 z125 z126 z127 z128 z129 z130 z131 z132 z133 z134 z135 z136 z137 z138 z139 : Value), Exit.then _ _ _ { tmps := List.toArray (z0 :: z1 :: z2 :: .pointer (some ⟨w.heap.size, 0, none⟩) :: .pointer (some ⟨w.heap.size + 1, 0, none⟩) :: z5 :: .bool false :: .slice a.a a.n a.c :: .slice b.a b.n b.c :: z9 :: z10 :: z11 :: z12 :: z13 :: z14 :: z15 :: z16 :: z17 :: z18 :: z19 :: z20 :: z21 :: z22 :: z23 :: z24 :: z25 :: z26 :: z27 :: z28 :: z29 :: z30 :: z31 :: z32 :: z33 :: z34 :: z35 :: z36 :: z37 :: z38 :: z39 :: z40 :: z41 :: z42 :: z43 :: z44 :: z45 :: z46 :: z47 :: z48 :: z49 :: z50 :: z51 :: z52 :: z53 :: z54 :: z55 :: z56 :: z57 :: z58 :: z59 :: z60 :: z61 :: z62 :: z63 :: z64 :: z65 :: z66 :: z67 :: z68 :: z69 :: z70 :: z71 :: z72 :: z73 :: z74 :: z75 :: z76 :: z77 :: z78 :: z79 :: z80 :: z81 :: z82 :: z83 :: z84 :: z85 :: z86 :: z87 :: z88 :: z89 :: z90 :: z91 :: z92 :: z93 :: z94 :: z95 :: z96 :: z97 :: z98 :: z99 :: z100 :: z101 :: z102 :: z103 :: z104 :: z105 :: z106 :: z107 :: z108 :: z109 :: z110 :: z111 :: z112 :: z113 :: z114 :: z115 :: z116 :: z117 :: z118 :: z119 :: z120 :: z121 :: z122 :: z123 :: z124 :: z125 :: z126 :: z127 :: z128 :: z129 :: z130 :: z131 :: z132 :: z133 :: z134 :: z135 :: z136 :: z137 :: z138 :: z139 :: []), defers := [] } _) _ _ _ _ _ _ _ _ _ _ _ _ _ _ _ _ _ _ _ _ _ _ _ _ _ _ _ _ _ _ _ _ _ _ _ _ _ _ _ _ _ _ _ _ _ _ _ _ _ _ _ _ _ _ _ _ _ _ _ _ _ _ _ _ _ _ _ _ _ _ _ _ _ _ _ _ _ _ _ _ _ _ _ _ _ _ _ _ _ _ _ _ _ _ _ _ _ _ _ _ _ _ _ _ _ _ _ _ _ _ _ _ _ _ _ _ _ _ _ _ _ _ _ _ _ _ _ _ _ _ _ _ _ _ _
    intro z0 z1 z2 z5 z9 z10 z11 z12 z13 z14 z15 z16 z17 z18 z19 z20 z21 z22 z23 z24 z25 z26 z27 z28 z29 z30 z31 z32 z33 z34 z35 z36 z37 z38 z39 z40 z41 z42 z43 z44 z45 z46 z47 z48 z49 z50 z51 z52 z53 z54 z55 z56 z57 z58 z59 z60 z61 z62 z63 z64 z65 z66 z67 z68 z69 z70 z71 z72 z73 z74 z75 z76 z77 z78 z79 z80 z81 z82 z83 z84 z85 z86 z87 z88 z89 z90 z91 z92 z93 z94 z95 z96 z97 z98 z99 z100 z101 z102 z103 z104 z105 z106 z107 z108 z109 z110 z111 z112 z113 z114 z115 z116 z117 z118 z119 z120 z121 z122 z123 z124 z125 z126 z127 z128 z129 z130 z131 z132 z133 z134 z135 z136 z137 z138 z139
    have c0P1 := P1.c0
    have c1P1 := P1.c1
    have c0P2 := P2.c0
    have c1P2 := P2.c1
    have c0P3 := P3.c0
    have c1P3 := P3.c1
    have H1 := Lib.hid (awake4 W5)
    go_wp2_with fail
    clear c0P1 c1P1 c0P2 c1P2 c0P3 c1P3
    refine H1.out.mono ?_
    rintro e w1 ⟨rfl, hb⟩
    clear H1
    replace P1 := P1.below hb
    replace P2 := P2.below hb
    replace P3 := P3.below hb
    replace ha := ha.below hb
    replace hc := hc.below hb
    replace hB := hB.trans (hb.mono hB.size)
    clear hb
    have c0P1 := P1.c0
    have c1P1 := P1.c1
    have c0P2 := P2.c0
    have c1P2 := P2.c1
    have c0P3 := P3.c0
    have c1P3 := P3.c1
    have H2 := Lib.hid (awake4 w1)
    go_wp2_with fail
    clear c0P1 c1P1 c0P2 c1P2 c0P3 c1P3
    refine H2.out.mono ?_
    rintro e w2 ⟨rfl, hb⟩
    clear H2
    replace P1 := P1.below hb
    replace P2 := P2.below hb
    replace P3 := P3.below hb
    replace ha := ha.below hb
    replace hc := hc.below hb
    replace hB := hB.trans (hb.mono hB.size)
    clear hb
    have c0P1 := P1.c0
    have c1P1 := P1.c1
    have c0P2 := P2.c0
    have c1P2 := P2.c1
    have c0P3 := P3.c0
    have c1P3 := P3.c1
    go_wp2_with fail
    go_ret
    exact ⟨rfl, hB⟩

set_option maxRecDepth 100000 in
set_option maxHeartbeats 4000000 in
theorem more_l5 (A B A2 B2 : Int) (a b : Sl) (ws cs : List Int) (w : World) (ha : RI w a ws) (hc : RI w b cs) (n0 : ¬ (12 : Int) < (a.n : Int)) (n1 : ¬ (12 : Int) < (b.n : Int)) (n2 : ¬ 1000000 < A) (n3 : ¬ 1000000 < A2) (n4 : ¬ 1000000 < B) (h : 1000000 < B2) :
    Calls Tryz.prog 5 #[.agg #[.int .i64 A, .int .i64 B], .agg #[.int .i64 A2, .int .i64 B2], .agg #[.slice a.a a.n a.c, .slice b.a b.n b.c]] w fun e w' => e = .returned (.bool true) ∧ Below w.heap.size w w' := by
  go_enter Tryz.func5, Tryz.ntmps5
  have hb : Below w.heap.size w (((w.alloc (.cells #[.int .i64 A, .int .i64 B] 23)).alloc (.cells #[.int .i64 A2, .int .i64 B2] 23)).alloc (.cells #[.slice a.a a.n a.c, .slice b.a b.n b.c] 50)) := ((((Below.refl _ _).alloc (Nat.le_refl _) _).alloc (by simp) _).alloc (by simp; omega) _)
  replace ha := ha.below hb
  replace hc := hc.below hb
  have hB := hb
  have P1 : Pair (((w.alloc (.cells #[.int .i64 A, .int .i64 B] 23)).alloc (.cells #[.int .i64 A2, .int .i64 B2] 23)).alloc (.cells #[.slice a.a a.n a.c, .slice b.a b.n b.c] 50)) (w.heap.size) 23 (.int .i64 A) (.int .i64 B) := by
    have h := ((Pair.new w 23 (.int .i64 A) (.int .i64 B)).alloc (.cells #[.int .i64 A2, .int .i64 B2] 23)).alloc (.cells #[.slice a.a a.n a.c, .slice b.a b.n b.c] 50)
    simpa only [World.size_alloc] using h
  have P2 : Pair (((w.alloc (.cells #[.int .i64 A, .int .i64 B] 23)).alloc (.cells #[.int .i64 A2, .int .i64 B2] 23)).alloc (.cells #[.slice a.a a.n a.c, .slice b.a b.n b.c] 50)) (w.heap.size + 1) 23 (.int .i64 A2) (.int .i64 B2) := by
    have h := (Pair.new (w.alloc (.cells #[.int .i64 A, .int .i64 B] 23)) 23 (.int .i64 A2) (.int .i64 B2)).alloc (.cells #[.slice a.a a.n a.c, .slice b.a b.n b.c] 50)
    simpa only [World.size_alloc] using h
  have P3 : Pair (((w.alloc (.cells #[.int .i64 A, .int .i64 B] 23)).alloc (.cells #[.int .i64 A2, .int .i64 B2] 23)).alloc (.cells #[.slice a.a a.n a.c, .slice b.a b.n b.c] 50)) (w.heap.size + 1 + 1) 50 (.slice a.a a.n a.c) (.slice b.a b.n b.c) := by
    have h := Pair.new ((w.alloc (.cells #[.int .i64 A, .int .i64 B] 23)).alloc (.cells #[.int .i64 A2, .int .i64 B2] 23)) 50 (.slice a.a a.n a.c) (.slice b.a b.n b.c)
    simpa only [World.size_alloc] using h
  clear hb
  have c0P1 := P1.c0
  have c1P1 := P1.c1
  have c0P2 := P2.c0
  have c1P2 := P2.c1
  have c0P3 := P3.c0
  have c1P3 := P3.c1
  go_wp2_with fail
  clear c0P1 c1P1 c0P2 c1P2 c0P3 c1P3
  have hb : Below (((w.alloc (.cells #[.int .i64 A, .int .i64 B] 23)).alloc (.cells #[.int .i64 A2, .int .i64 B2] 23)).alloc (.cells #[.slice a.a a.n a.c, .slice b.a b.n b.c] 50)).heap.size (((w.alloc (.cells #[.int .i64 A, .int .i64 B] 23)).alloc (.cells #[.int .i64 A2, .int .i64 B2] 23)).alloc (.cells #[.slice a.a a.n a.c, .slice b.a b.n b.c] 50)) (((w.alloc (.cells #[.int .i64 A, .int .i64 B] 23)).alloc (.cells #[.int .i64 A2, .int .i64 B2] 23)).alloc (.cells #[.slice a.a a.n a.c, .slice b.a b.n b.c] 50)).drew := (Below.refl _ _).drew
  replace P1 := P1.below hb
  replace P2 := P2.below hb
  replace P3 := P3.below hb
  replace ha := ha.below hb
  replace hc := hc.below hb
  replace hB := hB.trans (hb.mono hB.size)
  clear hb
  refine Rd.regionT (fun X => Pair X (w.heap.size) 23 (.int .i64 A) (.int .i64 B) ∧ Pair X (w.heap.size + 1) 23 (.int .i64 A2) (.int .i64 B2) ∧ Pair X (w.heap.size + 1 + 1) 50 (.slice a.a a.n a.c) (.slice b.a b.n b.c)) [0, 1, 2, 3, 4, 5] (.one 0 (.one 1 (.one 2 (.one 3 (.one 4 (.one 5 .done)))))) (fun ac W => ∃  (y22 y23 y24 y25 : Value), ac = { tmps := List.toArray (.agg #[.int .i64 A, .int .i64 B] :: .agg #[.int .i64 A2, .int .i64 B2] :: .agg #[.slice a.a a.n a.c, .slice b.a b.n b.c] :: .pointer (some ⟨w.heap.size, 0, none⟩) :: .pointer (some ⟨w.heap.size + 1, 0, none⟩) :: .pointer (some ⟨w.heap.size + 1 + 1, 0, none⟩) :: .bool false :: .slice a.a a.n a.c :: .slice b.a b.n b.c :: undef :: undef :: undef :: undef :: undef :: undef :: undef :: undef :: undef :: undef :: undef :: undef :: undef :: y22 :: y23 :: y24 :: y25 :: undef :: undef :: undef :: undef :: undef :: undef :: undef :: undef :: undef :: undef :: undef :: undef :: undef :: undef :: undef :: undef :: undef :: undef :: undef :: undef :: undef :: undef :: undef :: undef :: undef :: undef :: undef :: undef :: undef :: undef :: undef :: undef :: undef :: undef :: undef :: undef :: undef :: undef :: undef :: undef :: undef :: undef :: undef :: undef :: undef :: undef :: undef :: undef :: undef :: undef :: undef :: undef :: undef :: undef :: undef :: undef :: undef :: undef :: undef :: undef :: undef :: undef :: undef :: undef :: undef :: undef :: undef :: undef :: undef :: undef :: undef :: undef :: undef :: undef :: undef :: undef :: undef :: undef :: undef :: undef :: undef :: undef :: undef :: undef :: undef :: undef :: undef :: undef :: undef :: undef :: undef :: undef :: undef :: undef :: undef :: undef :: undef :: undef :: undef :: undef :: undef :: undef :: undef :: undef :: undef :: undef :: undef :: undef :: undef :: undef :: undef :: undef :: undef :: undef :: []), defers := [] } ∧ Pair W (w.heap.size) 23 (.int .i64 A) (.int .i64 B) ∧ Pair W (w.heap.size + 1) 23 (.int .i64 A2) (.int .i64 B2) ∧ Pair W (w.heap.size + 1 + 1) 50 (.slice a.a a.n a.c) (.slice b.a b.n b.c) ∧ RI W a ws ∧ RI W b cs ∧ Below w.heap.size w W) (by kernel_rfl) (by kernel_rfl) (by kernel_rfl) ⟨P1, P2, P3⟩ ?tree ?next
  case tree =>
    generalize (((w.alloc (.cells #[.int .i64 A, .int .i64 B] 23)).alloc (.cells #[.int .i64 A2, .int .i64 B2] 23)).alloc (.cells #[.slice a.a a.n a.c, .slice b.a b.n b.c] 50)).drew = w4 at P1 P2 P3 ha hc hB ⊢
    refine Rd.tr_float (.pointer (some ⟨w.heap.size + 1 + 1, 0, none⟩)) (by simp only [List.getElem?_toArray, List.getElem?_cons_zero]; rfl) rfl (by rfl) (fun X _ => by go_simp) ?_
    simp only [Act.put, List.setIfInBounds_toArray, List.set_cons_succ, List.set_cons_zero]
    refine Rd.tr_float (.slice a.a a.n a.c) (by simp only [List.getElem?_toArray, List.getElem?_cons_succ, List.getElem?_cons_zero]; rfl) rfl (by rfl) (fun X hX => by have h0 := hX.2.2.c0; have h1 := hX.2.2.c1; go_simp) ?_
    simp only [Act.put, List.setIfInBounds_toArray, List.set_cons_succ, List.set_cons_zero]
    refine Rd.tr_float (.pointer (some ⟨w.heap.size + 1 + 1, 1, none⟩)) (by simp only [List.getElem?_toArray, List.getElem?_cons_succ, List.getElem?_cons_zero]; rfl) rfl (by rfl) (fun X _ => by go_simp) ?_
    simp only [Act.put, List.setIfInBounds_toArray, List.set_cons_succ, List.set_cons_zero]
    refine Rd.tr_float (.slice b.a b.n b.c) (by simp only [List.getElem?_toArray, List.getElem?_cons_succ, List.getElem?_cons_zero]; rfl) rfl (by rfl) (fun X hX => by have h0 := hX.2.2.c0; have h1 := hX.2.2.c1; go_simp) ?_
    simp only [Act.put, List.setIfInBounds_toArray, List.set_cons_succ, List.set_cons_zero]
    refine Rd.tr_float (.slice a.a a.n a.c) (by simp only [List.getElem?_toArray, List.getElem?_cons_succ, List.getElem?_cons_zero]; rfl) rfl (by rfl) (fun X _ => by go_simp) ?_
    simp only [Act.put, List.setIfInBounds_toArray, List.set_cons_succ, List.set_cons_zero]
    refine Rd.tr_float (.slice b.a b.n b.c) (by simp only [List.getElem?_toArray, List.getElem?_cons_succ, List.getElem?_cons_zero]; rfl) rfl (by rfl) (fun X _ => by go_simp) ?_
    simp only [Act.put, List.setIfInBounds_toArray, List.set_cons_succ, List.set_cons_zero]
    exact Rd.tr_end (⟨_, _, _, _, rfl, P1, P2, P3, ha, hc, hB⟩)
  case next =>
    rintro a6 W5 ⟨y22, y23, y24, y25, rfl, P1, P2, P3, ha, hc, hB⟩
    refine (?_ : ∀ (z0 z1 z2 z5 z9 z10 z11 z12 z13 z14 z15 z16 z17 z18 z19 z20 z21 z22 z23 z24 z25 z26 z27 z28 z29 z30 z31 z32 z33 z34 z35 z36 z37 z38 z39 z40 z41 z42 z43 z44 z45 z46 z47 z48 z49 z50 z51 z52 z53 z54 z55 z56 z57 z58 z59 z60 z61 z62 z63 z64 z65 z66 z67 z68 z69 z70 z71 z72 z73 z74 z75 z76 z77 z78 z79 z80 z81 z82 z83 z84 z85 z86 z87 z88 z89 z90 z91 z92 z93 z94 z95 z96 z97 z98 z99 z100 z101 z102 z103 z104 z105 z106 z107 z108 z109 z110 z111 z112 z113 z114 z115 z116 z117 z118 z119 z120 z121 z122 z123 z124 z125 z126 z127 z128 z129 z130 z131 z132 z133 z134 z135 z136 z137 z138 z139 : Value), Exit.then _ _ _ { tmps := List.toArray (z0 :: z1 :: z2 :: .pointer (some ⟨w.heap.size, 0, none⟩) :: .pointer (some ⟨w.heap.size + 1, 0, none⟩) :: z5 :: .bool false :: .slice a.a a.n a.c :: .slice b.a b.n b.c :: z9 :: z10 :: z11 :: z12 :: z13 :: z14 :: z15 :: z16 :: z17 :: z18 :: z19 :: z20 :: z21 :: z22 :: z23 :: z24 :: z25 :: z26 :: z27 :: z28 :: z29 :: z30 :: z31 :: z32 :: z33 :: z34 :: z35 :: z36 :: z37 :: z38 :: z39 :: z40 :: z41 :: z42 :: z43 :: z44 :: z45 :: z46 :: z47 :: z48 :: z49 :: z50 :: z51 :: z52 :: z53 :: z54 :: z55 :: z56 :: z57 :: z58 :: z59 :: z60 :: z61 :: z62 :: z63 :: z64 :: z65 :: z66 :: z67 :: z68 :: z69 :: z70 :: z71 :: z72 :: z73 :: z74 :: z75 :: z76 :: z77 :: z78 :: z79 :: z80 :: z81 :: z82 :: z83 :: z84 :: z85 :: z86 :: z87 :: z88 :: z89 :: z90 :: z91 :: z92 :: z93 :: z94 :: z95 :: z96 :: z97 :: z98 :: z99 :: z100 :: z101 :: z102 :: z103 :: z104 :: z105 :: z106 :: z107 :: z108 :: z109 :: z110 :: z111 :: z112 :: z113 :: z114 :: z115 :: z116 :: z117 :: z118 :: z119 :: z120 :: z121 :: z122 :: z123 :: z124 :: z125 :: z126 :: z127 :: z128 :: z129 :: z130 :: z131 :: z132 :: z133 :: z134 :: z135 :: z136 :: z137 :: z138 :: z139 :: []), defers := [] } _) _ _ _ _ _ _ _ _ _ _ _ _ _ _ _ _ _ _ _ _ _ _ _ _ _ _ _ _ _ _ _ _ _ _ _ _ _ _ _ _ _ _ _ _ _ _ _ _ _ _ _ _ _ _ _ _ _ _ _ _ _ _ _ _ _ _ _ _ _ _ _ _ _ _ _ _ _ _ _ _ _ _ _ _ _ _ _ _ _ _ _ _ _ _ _ _ _ _ _ _ _ _ _ _ _ _ _ _ _ _ _ _ _ _ _ _ _ _ _ _ _ _ _ _ _ _ _ _ _ _ _ _ _ _ _
    intro z0 z1 z2 z5 z9 z10 z11 z12 z13 z14 z15 z16 z17 z18 z19 z20 z21 z22 z23 z24 z25 z26 z27 z28 z29 z30 z31 z32 z33 z34 z35 z36 z37 z38 z39 z40 z41 z42 z43 z44 z45 z46 z47 z48 z49 z50 z51 z52 z53 z54 z55 z56 z57 z58 z59 z60 z61 z62 z63 z64 z65 z66 z67 z68 z69 z70 z71 z72 z73 z74 z75 z76 z77 z78 z79 z80 z81 z82 z83 z84 z85 z86 z87 z88 z89 z90 z91 z92 z93 z94 z95 z96 z97 z98 z99 z100 z101 z102 z103 z104 z105 z106 z107 z108 z109 z110 z111 z112 z113 z114 z115 z116 z117 z118 z119 z120 z121 z122 z123 z124 z125 z126 z127 z128 z129 z130 z131 z132 z133 z134 z135 z136 z137 z138 z139
    have c0P1 := P1.c0
    have c1P1 := P1.c1
    have c0P2 := P2.c0
    have c1P2 := P2.c1
    have c0P3 := P3.c0
    have c1P3 := P3.c1
    have H1 := Lib.hid (awake4 W5)
    go_wp2_with fail
    clear c0P1 c1P1 c0P2 c1P2 c0P3 c1P3
    refine H1.out.mono ?_
    rintro e w1 ⟨rfl, hb⟩
    clear H1
    replace P1 := P1.below hb
    replace P2 := P2.below hb
    replace P3 := P3.below hb
    replace ha := ha.below hb
    replace hc := hc.below hb
    replace hB := hB.trans (hb.mono hB.size)
    clear hb
    have c0P1 := P1.c0
    have c1P1 := P1.c1
    have c0P2 := P2.c0
    have c1P2 := P2.c1
    have c0P3 := P3.c0
    have c1P3 := P3.c1
    have H2 := Lib.hid (awake4 w1)
    go_wp2_with fail
    clear c0P1 c1P1 c0P2 c1P2 c0P3 c1P3
    refine H2.out.mono ?_
    rintro e w2 ⟨rfl, hb⟩
    clear H2
    replace P1 := P1.below hb
    replace P2 := P2.below hb
    replace P3 := P3.below hb
    replace ha := ha.below hb
    replace hc := hc.below hb
    replace hB := hB.trans (hb.mono hB.size)
    clear hb
    have c0P1 := P1.c0
    have c1P1 := P1.c1
    have c0P2 := P2.c0
    have c1P2 := P2.c1
    have c0P3 := P3.c0
    have c1P3 := P3.c1
    go_wp2_with fail
    go_ret
    exact ⟨rfl, hB⟩

theorem kids_eq : ∀ {ks js : List Kid}, (ks.map fun k => (k.1 : Int)) = (js.map fun k => (k.1 : Int)) → (ks.map fun k => (k.2 : Int)) = (js.map fun k => (k.2 : Int)) → ks = js
  | [], [], _, _ => rfl
  | [], _ :: _, h, _ => by simp at h
  | _ :: _, [], h, _ => by simp at h
  | (a, b) :: ks, (c, d) :: js, h1, h2 => by
    simp only [List.map_cons, List.cons.injEq] at h1 h2
    have e1 : a = c := Int.ofNat.inj h1.1
    have e2 : b = d := Int.ofNat.inj h2.1
    rw [kids_eq h1.2 h2.2, e1, e2]
theorem rat_le_num {m d : Nat} (h : d ≠ 0) : rat m d ≤ (m : Rat) := by
  have h1 : rat m d * (d : Rat) = m := by
    rw [rat_eq]
    have := pos_cast h
    grind
  have h2 : (1 : Rat) ≤ (d : Rat) := by
    have : ((1 : Nat) : Rat) ≤ ((d : Nat) : Rat) := Rat.natCast_le_natCast.2 (Nat.pos_of_ne_zero h)
    grind
  have h3 : 0 ≤ rat m d := rat_nonneg _ _
  have h4 := Rat.mul_le_mul_of_nonneg_left h2 h3
  grind
theorem more_fine {m d m2 d2 : Nat} (h : d ≠ 0) (h2 : d2 ≠ 0) (hd : d ≤ 1000000) (hd2 : d2 ≤ 1000000) : Fine (d * d2) (rat m d + rat m2 d2) :=
  ⟨Nat.mul_ne_zero h h2, big_small 600 (Nat.le_trans (Nat.mul_le_mul hd hd2) (by decide)) (by omega), whole_add (whole_more d2 (whole_rat h)) (by rw [Nat.mul_comm]; exact whole_more d (whole_rat h2))⟩
theorem more_sz {m d m2 d2 : Nat} (h : d ≠ 0) (h2 : d2 ≠ 0) (hd : d ≤ 1000000) (hd2 : d2 ≤ 1000000) (hm : m ≤ 1000000) (hm2 : m2 ≤ 1000000) : Sz (rat m d + rat m2 d2) := by
  have hf := more_fine (m := m) (m2 := m2) h h2 hd hd2
  have e1 := rat_le_num (m := m) h
  have e2 := rat_le_num (m := m2) h2
  have e3 := rat_nonneg m d
  have e4 := rat_nonneg m2 d2
  have e5 : (m : Rat) ≤ ((1000000 : Nat) : Rat) := Rat.natCast_le_natCast.2 hm
  have e6 : (m2 : Rat) ≤ ((1000000 : Nat) : Rat) := Rat.natCast_le_natCast.2 hm2
  have e7 : ((2000000 : Nat) : Rat) = ((1000000 : Nat) : Rat) + ((1000000 : Nat) : Rat) := by rw [← Rat.natCast_add]
  exact Sz.whole hf.1 hf.2.2 (by grind) (B := 2000000) (by rw [e7]; grind) (Nat.le_trans hf.2.1 (big_le (by decide))) (big_small _ (by decide) (by decide))
theorem err_mono {x y : Rat} {ws cs : List Int} (h : x ≤ y) (e : errOf x ws cs ≠ 0) : errOf y ws cs ≠ 0 := by
  unfold errOf at e ⊢
  by_cases h1 : ws.length ≠ cs.length
  · rw [if_pos h1]; decide
  · rw [if_neg h1] at e ⊢
    by_cases h2 : 32 < ws.length
    · rw [if_pos h2]; decide
    · rw [if_neg h2] at e ⊢
      by_cases h3 : ws.any noW = true
      · rw [if_pos h3]; decide
      · rw [if_neg h3] at e ⊢
        by_cases h4 : cs.any noC = true
        · rw [if_pos h4]; decide
        · rw [if_neg h4] at e ⊢
          by_cases h5 : ((cs.sum.toNat : Nat) : Rat) < x
          · rw [if_pos (by grind)]; decide
          · rw [if_neg h5] at e
            exact absurd rfl e
set_option maxRecDepth 100000 in
set_option maxHeartbeats 4000000 in
theorem more_bad (A B A2 B2 : Int) (m d m2 d2 : Nat) (a b : Sl) (ws cs : List Int) (w : World) (ha : RI w a ws) (hc : RI w b cs) (hA : max A 0 = (m : Int)) (hD : max B 1 = (d : Int)) (hm : m ≤ 1000000) (hd : d ≤ 1000000) (HD0 : Hid (d ≠ 0)) (hA2 : max A2 0 = (m2 : Int)) (hD2 : max B2 1 = (d2 : Int)) (hm2 : m2 ≤ 1000000) (hd2 : d2 ≤ 1000000) (HD2 : Hid (d2 ≠ 0)) (nA : ¬ 1000000 < A) (nA2 : ¬ 1000000 < A2) (nB : ¬ 1000000 < B) (nB2 : ¬ 1000000 < B2) (h1' : ws.length ≤ 12) (h2' : cs.length ≤ 12) (cd : Int) (hcd : cd ≠ 0) (hcb : (cd == 0) = false) (HC : Hid (errOf (rat m d) ws cs = cd)) (ce : Int) (hce : ce ≠ 0) (hcf : (ce == 0) = false) (HE2 : Hid (errOf (rat m d + rat m2 d2) ws cs = ce)) :
    Calls Tryz.prog 5 #[.agg #[.int .i64 A, .int .i64 B], .agg #[.int .i64 A2, .int .i64 B2], .agg #[.slice a.a a.n a.c, .slice b.a b.n b.c]] w fun e w' => e = .returned (.bool true) ∧ Below w.heap.size w w' := by
  have ea := ha.len
  have ec := hc.len
  have h1 : ¬ (12 : Int) < (a.n : Int) := by omega
  have h2 : ¬ (12 : Int) < (b.n : Int) := by omega
  clear ea ec
  have HSZ : Hid (Sz (rat m d + rat m2 d2)) := Lib.hid (more_sz HD0.out HD2.out hd hd2 hm hm2)
  go_enter Tryz.func5, Tryz.ntmps5
  have hb : Below w.heap.size w (((w.alloc (.cells #[.int .i64 A, .int .i64 B] 23)).alloc (.cells #[.int .i64 A2, .int .i64 B2] 23)).alloc (.cells #[.slice a.a a.n a.c, .slice b.a b.n b.c] 50)) := ((((Below.refl _ _).alloc (Nat.le_refl _) _).alloc (by simp) _).alloc (by simp; omega) _)
  replace ha := ha.below hb
  replace hc := hc.below hb
  have hB := hb
  have P1 : Pair (((w.alloc (.cells #[.int .i64 A, .int .i64 B] 23)).alloc (.cells #[.int .i64 A2, .int .i64 B2] 23)).alloc (.cells #[.slice a.a a.n a.c, .slice b.a b.n b.c] 50)) (w.heap.size) 23 (.int .i64 A) (.int .i64 B) := by
    have h := ((Pair.new w 23 (.int .i64 A) (.int .i64 B)).alloc (.cells #[.int .i64 A2, .int .i64 B2] 23)).alloc (.cells #[.slice a.a a.n a.c, .slice b.a b.n b.c] 50)
    simpa only [World.size_alloc] using h
  have P2 : Pair (((w.alloc (.cells #[.int .i64 A, .int .i64 B] 23)).alloc (.cells #[.int .i64 A2, .int .i64 B2] 23)).alloc (.cells #[.slice a.a a.n a.c, .slice b.a b.n b.c] 50)) (w.heap.size + 1) 23 (.int .i64 A2) (.int .i64 B2) := by
    have h := (Pair.new (w.alloc (.cells #[.int .i64 A, .int .i64 B] 23)) 23 (.int .i64 A2) (.int .i64 B2)).alloc (.cells #[.slice a.a a.n a.c, .slice b.a b.n b.c] 50)
    simpa only [World.size_alloc] using h
  have P3 : Pair (((w.alloc (.cells #[.int .i64 A, .int .i64 B] 23)).alloc (.cells #[.int .i64 A2, .int .i64 B2] 23)).alloc (.cells #[.slice a.a a.n a.c, .slice b.a b.n b.c] 50)) (w.heap.size + 1 + 1) 50 (.slice a.a a.n a.c) (.slice b.a b.n b.c) := by
    have h := Pair.new ((w.alloc (.cells #[.int .i64 A, .int .i64 B] 23)).alloc (.cells #[.int .i64 A2, .int .i64 B2] 23)) 50 (.slice a.a a.n a.c) (.slice b.a b.n b.c)
    simpa only [World.size_alloc] using h
  clear hb
  have c0P1 := P1.c0
  have c1P1 := P1.c1
  have c0P2 := P2.c0
  have c1P2 := P2.c1
  have c0P3 := P3.c0
  have c1P3 := P3.c1
  go_wp2_with fail
  clear c0P1 c1P1 c0P2 c1P2 c0P3 c1P3
  have hb : Below (((w.alloc (.cells #[.int .i64 A, .int .i64 B] 23)).alloc (.cells #[.int .i64 A2, .int .i64 B2] 23)).alloc (.cells #[.slice a.a a.n a.c, .slice b.a b.n b.c] 50)).heap.size (((w.alloc (.cells #[.int .i64 A, .int .i64 B] 23)).alloc (.cells #[.int .i64 A2, .int .i64 B2] 23)).alloc (.cells #[.slice a.a a.n a.c, .slice b.a b.n b.c] 50)) (((w.alloc (.cells #[.int .i64 A, .int .i64 B] 23)).alloc (.cells #[.int .i64 A2, .int .i64 B2] 23)).alloc (.cells #[.slice a.a a.n a.c, .slice b.a b.n b.c] 50)).drew := (Below.refl _ _).drew
  replace P1 := P1.below hb
  replace P2 := P2.below hb
  replace P3 := P3.below hb
  replace ha := ha.below hb
  replace hc := hc.below hb
  replace hB := hB.trans (hb.mono hB.size)
  clear hb
  refine Rd.regionT (fun X => Pair X (w.heap.size) 23 (.int .i64 A) (.int .i64 B) ∧ Pair X (w.heap.size + 1) 23 (.int .i64 A2) (.int .i64 B2) ∧ Pair X (w.heap.size + 1 + 1) 50 (.slice a.a a.n a.c) (.slice b.a b.n b.c)) [0, 1, 2, 3, 4, 5] (.one 0 (.one 1 (.one 2 (.one 3 (.one 4 (.one 5 .done)))))) (fun ac W => ∃  (y22 y23 y24 y25 : Value), ac = { tmps := List.toArray (.agg #[.int .i64 A, .int .i64 B] :: .agg #[.int .i64 A2, .int .i64 B2] :: .agg #[.slice a.a a.n a.c, .slice b.a b.n b.c] :: .pointer (some ⟨w.heap.size, 0, none⟩) :: .pointer (some ⟨w.heap.size + 1, 0, none⟩) :: .pointer (some ⟨w.heap.size + 1 + 1, 0, none⟩) :: .bool false :: .slice a.a a.n a.c :: .slice b.a b.n b.c :: undef :: undef :: undef :: undef :: undef :: undef :: undef :: undef :: undef :: undef :: undef :: undef :: undef :: y22 :: y23 :: y24 :: y25 :: undef :: undef :: undef :: undef :: undef :: undef :: undef :: undef :: undef :: undef :: undef :: undef :: undef :: undef :: undef :: undef :: undef :: undef :: undef :: undef :: undef :: undef :: undef :: undef :: undef :: undef :: undef :: undef :: undef :: undef :: undef :: undef :: undef :: undef :: undef :: undef :: undef :: undef :: undef :: undef :: undef :: undef :: undef :: undef :: undef :: undef :: undef :: undef :: undef :: undef :: undef :: undef :: undef :: undef :: undef :: undef :: undef :: undef :: undef :: undef :: undef :: undef :: undef :: undef :: undef :: undef :: undef :: undef :: undef :: undef :: undef :: undef :: undef :: undef :: undef :: undef :: undef :: undef :: undef :: undef :: undef :: undef :: undef :: undef :: undef :: undef :: undef :: undef :: undef :: undef :: undef :: undef :: undef :: undef :: undef :: undef :: undef :: undef :: undef :: undef :: undef :: undef :: undef :: undef :: undef :: undef :: undef :: undef :: undef :: undef :: undef :: undef :: undef :: undef :: []), defers := [] } ∧ Pair W (w.heap.size) 23 (.int .i64 A) (.int .i64 B) ∧ Pair W (w.heap.size + 1) 23 (.int .i64 A2) (.int .i64 B2) ∧ Pair W (w.heap.size + 1 + 1) 50 (.slice a.a a.n a.c) (.slice b.a b.n b.c) ∧ RI W a ws ∧ RI W b cs ∧ Below w.heap.size w W) (by kernel_rfl) (by kernel_rfl) (by kernel_rfl) ⟨P1, P2, P3⟩ ?tree ?next
  case tree =>
    generalize (((w.alloc (.cells #[.int .i64 A, .int .i64 B] 23)).alloc (.cells #[.int .i64 A2, .int .i64 B2] 23)).alloc (.cells #[.slice a.a a.n a.c, .slice b.a b.n b.c] 50)).drew = w4 at P1 P2 P3 ha hc hB ⊢
    refine Rd.tr_float (.pointer (some ⟨w.heap.size + 1 + 1, 0, none⟩)) (by simp only [List.getElem?_toArray, List.getElem?_cons_zero]; rfl) rfl (by rfl) (fun X _ => by go_simp) ?_
    simp only [Act.put, List.setIfInBounds_toArray, List.set_cons_succ, List.set_cons_zero]
    refine Rd.tr_float (.slice a.a a.n a.c) (by simp only [List.getElem?_toArray, List.getElem?_cons_succ, List.getElem?_cons_zero]; rfl) rfl (by rfl) (fun X hX => by have h0 := hX.2.2.c0; have h1 := hX.2.2.c1; go_simp) ?_
    simp only [Act.put, List.setIfInBounds_toArray, List.set_cons_succ, List.set_cons_zero]
    refine Rd.tr_float (.pointer (some ⟨w.heap.size + 1 + 1, 1, none⟩)) (by simp only [List.getElem?_toArray, List.getElem?_cons_succ, List.getElem?_cons_zero]; rfl) rfl (by rfl) (fun X _ => by go_simp) ?_
    simp only [Act.put, List.setIfInBounds_toArray, List.set_cons_succ, List.set_cons_zero]
    refine Rd.tr_float (.slice b.a b.n b.c) (by simp only [List.getElem?_toArray, List.getElem?_cons_succ, List.getElem?_cons_zero]; rfl) rfl (by rfl) (fun X hX => by have h0 := hX.2.2.c0; have h1 := hX.2.2.c1; go_simp) ?_
    simp only [Act.put, List.setIfInBounds_toArray, List.set_cons_succ, List.set_cons_zero]
    refine Rd.tr_float (.slice a.a a.n a.c) (by simp only [List.getElem?_toArray, List.getElem?_cons_succ, List.getElem?_cons_zero]; rfl) rfl (by rfl) (fun X _ => by go_simp) ?_
    simp only [Act.put, List.setIfInBounds_toArray, List.set_cons_succ, List.set_cons_zero]
    refine Rd.tr_float (.slice b.a b.n b.c) (by simp only [List.getElem?_toArray, List.getElem?_cons_succ, List.getElem?_cons_zero]; rfl) rfl (by rfl) (fun X _ => by go_simp) ?_
    simp only [Act.put, List.setIfInBounds_toArray, List.set_cons_succ, List.set_cons_zero]
    exact Rd.tr_end (⟨_, _, _, _, rfl, P1, P2, P3, ha, hc, hB⟩)
  case next =>
    rintro a6 W5 ⟨y22, y23, y24, y25, rfl, P1, P2, P3, ha, hc, hB⟩
    refine (?_ : ∀ (z0 z1 z2 z5 z9 z10 z11 z12 z13 z14 z15 z16 z17 z18 z19 z20 z21 z22 z23 z24 z25 z26 z27 z28 z29 z30 z31 z32 z33 z34 z35 z36 z37 z38 z39 z40 z41 z42 z43 z44 z45 z46 z47 z48 z49 z50 z51 z52 z53 z54 z55 z56 z57 z58 z59 z60 z61 z62 z63 z64 z65 z66 z67 z68 z69 z70 z71 z72 z73 z74 z75 z76 z77 z78 z79 z80 z81 z82 z83 z84 z85 z86 z87 z88 z89 z90 z91 z92 z93 z94 z95 z96 z97 z98 z99 z100 z101 z102 z103 z104 z105 z106 z107 z108 z109 z110 z111 z112 z113 z114 z115 z116 z117 z118 z119 z120 z121 z122 z123 z124 z125 z126 z127 z128 z129 z130 z131 z132 z133 z134 z135 z136 z137 z138 z139 : Value), Exit.then _ _ _ { tmps := List.toArray (z0 :: z1 :: z2 :: .pointer (some ⟨w.heap.size, 0, none⟩) :: .pointer (some ⟨w.heap.size + 1, 0, none⟩) :: z5 :: .bool false :: .slice a.a a.n a.c :: .slice b.a b.n b.c :: z9 :: z10 :: z11 :: z12 :: z13 :: z14 :: z15 :: z16 :: z17 :: z18 :: z19 :: z20 :: z21 :: z22 :: z23 :: z24 :: z25 :: z26 :: z27 :: z28 :: z29 :: z30 :: z31 :: z32 :: z33 :: z34 :: z35 :: z36 :: z37 :: z38 :: z39 :: z40 :: z41 :: z42 :: z43 :: z44 :: z45 :: z46 :: z47 :: z48 :: z49 :: z50 :: z51 :: z52 :: z53 :: z54 :: z55 :: z56 :: z57 :: z58 :: z59 :: z60 :: z61 :: z62 :: z63 :: z64 :: z65 :: z66 :: z67 :: z68 :: z69 :: z70 :: z71 :: z72 :: z73 :: z74 :: z75 :: z76 :: z77 :: z78 :: z79 :: z80 :: z81 :: z82 :: z83 :: z84 :: z85 :: z86 :: z87 :: z88 :: z89 :: z90 :: z91 :: z92 :: z93 :: z94 :: z95 :: z96 :: z97 :: z98 :: z99 :: z100 :: z101 :: z102 :: z103 :: z104 :: z105 :: z106 :: z107 :: z108 :: z109 :: z110 :: z111 :: z112 :: z113 :: z114 :: z115 :: z116 :: z117 :: z118 :: z119 :: z120 :: z121 :: z122 :: z123 :: z124 :: z125 :: z126 :: z127 :: z128 :: z129 :: z130 :: z131 :: z132 :: z133 :: z134 :: z135 :: z136 :: z137 :: z138 :: z139 :: []), defers := [] } _) _ _ _ _ _ _ _ _ _ _ _ _ _ _ _ _ _ _ _ _ _ _ _ _ _ _ _ _ _ _ _ _ _ _ _ _ _ _ _ _ _ _ _ _ _ _ _ _ _ _ _ _ _ _ _ _ _ _ _ _ _ _ _ _ _ _ _ _ _ _ _ _ _ _ _ _ _ _ _ _ _ _ _ _ _ _ _ _ _ _ _ _ _ _ _ _ _ _ _ _ _ _ _ _ _ _ _ _ _ _ _ _ _ _ _ _ _ _ _ _ _ _ _ _ _ _ _ _ _ _ _ _ _ _ _
    intro z0 z1 z2 z5 z9 z10 z11 z12 z13 z14 z15 z16 z17 z18 z19 z20 z21 z22 z23 z24 z25 z26 z27 z28 z29 z30 z31 z32 z33 z34 z35 z36 z37 z38 z39 z40 z41 z42 z43 z44 z45 z46 z47 z48 z49 z50 z51 z52 z53 z54 z55 z56 z57 z58 z59 z60 z61 z62 z63 z64 z65 z66 z67 z68 z69 z70 z71 z72 z73 z74 z75 z76 z77 z78 z79 z80 z81 z82 z83 z84 z85 z86 z87 z88 z89 z90 z91 z92 z93 z94 z95 z96 z97 z98 z99 z100 z101 z102 z103 z104 z105 z106 z107 z108 z109 z110 z111 z112 z113 z114 z115 z116 z117 z118 z119 z120 z121 z122 z123 z124 z125 z126 z127 z128 z129 z130 z131 z132 z133 z134 z135 z136 z137 z138 z139
    have c0P1 := P1.c0
    have c1P1 := P1.c1
    have c0P2 := P2.c0
    have c1P2 := P2.c1
    have c0P3 := P3.c0
    have c1P3 := P3.c1
    have H7 := Lib.hid (awake4 W5)
    go_wp2_with fail
    clear c0P1 c1P1 c0P2 c1P2 c0P3 c1P3
    refine H7.out.mono ?_
    rintro e w8 ⟨rfl, hb⟩
    clear H7
    replace P1 := P1.below hb
    replace P2 := P2.below hb
    replace P3 := P3.below hb
    replace ha := ha.below hb
    replace hc := hc.below hb
    replace hB := hB.trans (hb.mono hB.size)
    clear hb
    have c0P1 := P1.c0
    have c1P1 := P1.c1
    have c0P2 := P2.c0
    have c1P2 := P2.c1
    have c0P3 := P3.c0
    have c1P3 := P3.c1
    have H13 := Lib.hid (both_any A B m d w8 hA hD (by omega) (by omega) HD0)
    go_wp2_with fail
    clear c0P1 c1P1 c0P2 c1P2 c0P3 c1P3
    refine H13.out.mono ?_
    rintro e w14 ⟨p9, q10, p11, q12, rfl, rp9, rp11, hb⟩
    clear H13
    replace P1 := P1.below hb
    replace P2 := P2.below hb
    replace P3 := P3.below hb
    replace ha := ha.below hb
    replace hc := hc.below hb
    replace hB := hB.trans (hb.mono hB.size)
    clear hb
    have hb : Below w14.heap.size w14 ((w14.alloc (.cells #[.slice p9.a p9.n p9.c, .slice q10.a q10.n q10.c] 29)).alloc (.cells #[.slice p11.a p11.n p11.c, .slice q12.a q12.n q12.c] 32)) := (((Below.refl _ _).alloc (Nat.le_refl _) _).alloc (by simp) _)
    replace P1 := P1.below hb
    replace P2 := P2.below hb
    replace P3 := P3.below hb
    replace ha := ha.below hb
    replace hc := hc.below hb
    replace rp9 := rp9.below hb
    replace rp11 := rp11.below hb
    replace hB := hB.trans (hb.mono hB.size)
    have P15 : Pair ((w14.alloc (.cells #[.slice p9.a p9.n p9.c, .slice q10.a q10.n q10.c] 29)).alloc (.cells #[.slice p11.a p11.n p11.c, .slice q12.a q12.n q12.c] 32)) (w14.heap.size) 29 (.slice p9.a p9.n p9.c) (.slice q10.a q10.n q10.c) := by
      have h := (Pair.new w14 29 (.slice p9.a p9.n p9.c) (.slice q10.a q10.n q10.c)).alloc (.cells #[.slice p11.a p11.n p11.c, .slice q12.a q12.n q12.c] 32)
      simpa only [World.size_alloc] using h
    have P16 : Pair ((w14.alloc (.cells #[.slice p9.a p9.n p9.c, .slice q10.a q10.n q10.c] 29)).alloc (.cells #[.slice p11.a p11.n p11.c, .slice q12.a q12.n q12.c] 32)) (w14.heap.size + 1) 32 (.slice p11.a p11.n p11.c) (.slice q12.a q12.n q12.c) := by
      have h := Pair.new (w14.alloc (.cells #[.slice p9.a p9.n p9.c, .slice q10.a q10.n q10.c] 29)) 32 (.slice p11.a p11.n p11.c) (.slice q12.a q12.n q12.c)
      simpa only [World.size_alloc] using h
    clear hb
    have c0P1 := P1.c0
    have c1P1 := P1.c1
    have c0P2 := P2.c0
    have c1P2 := P2.c1
    have c0P3 := P3.c0
    have c1P3 := P3.c1
    have c0P15 := P15.c0
    have c1P15 := P15.c1
    have c0P16 := P16.c0
    have c1P16 := P16.c1
    have H21 := Lib.hid (both_any A2 B2 m2 d2 ((w14.alloc (.cells #[.slice p9.a p9.n p9.c, .slice q10.a q10.n q10.c] 29)).alloc (.cells #[.slice p11.a p11.n p11.c, .slice q12.a q12.n q12.c] 32)) hA2 hD2 (by omega) (by omega) HD2)
    go_wp2_with fail
    clear c0P1 c1P1 c0P2 c1P2 c0P3 c1P3 c0P15 c1P15 c0P16 c1P16
    refine H21.out.mono ?_
    rintro e w22 ⟨p17, q18, p19, q20, rfl, rp17, rp19, hb⟩
    clear H21
    replace P1 := P1.below hb
    replace P2 := P2.below hb
    replace P3 := P3.below hb
    replace P15 := P15.below hb
    replace P16 := P16.below hb
    replace ha := ha.below hb
    replace hc := hc.below hb
    replace rp9 := rp9.below hb
    replace rp11 := rp11.below hb
    replace hB := hB.trans (hb.mono hB.size)
    clear hb
    have hb : Below w22.heap.size w22 ((w22.alloc (.cells #[.slice p17.a p17.n p17.c, .slice q18.a q18.n q18.c] 29)).alloc (.cells #[.slice p19.a p19.n p19.c, .slice q20.a q20.n q20.c] 32)) := (((Below.refl _ _).alloc (Nat.le_refl _) _).alloc (by simp) _)
    replace P1 := P1.below hb
    replace P2 := P2.below hb
    replace P3 := P3.below hb
    replace P15 := P15.below hb
    replace P16 := P16.below hb
    replace ha := ha.below hb
    replace hc := hc.below hb
    replace rp9 := rp9.below hb
    replace rp11 := rp11.below hb
    replace rp17 := rp17.below hb
    replace rp19 := rp19.below hb
    replace hB := hB.trans (hb.mono hB.size)
    have P23 : Pair ((w22.alloc (.cells #[.slice p17.a p17.n p17.c, .slice q18.a q18.n q18.c] 29)).alloc (.cells #[.slice p19.a p19.n p19.c, .slice q20.a q20.n q20.c] 32)) (w22.heap.size) 29 (.slice p17.a p17.n p17.c) (.slice q18.a q18.n q18.c) := by
      have h := (Pair.new w22 29 (.slice p17.a p17.n p17.c) (.slice q18.a q18.n q18.c)).alloc (.cells #[.slice p19.a p19.n p19.c, .slice q20.a q20.n q20.c] 32)
      simpa only [World.size_alloc] using h
    have P24 : Pair ((w22.alloc (.cells #[.slice p17.a p17.n p17.c, .slice q18.a q18.n q18.c] 29)).alloc (.cells #[.slice p19.a p19.n p19.c, .slice q20.a q20.n q20.c] 32)) (w22.heap.size + 1) 32 (.slice p19.a p19.n p19.c) (.slice q20.a q20.n q20.c) := by
      have h := Pair.new (w22.alloc (.cells #[.slice p17.a p17.n p17.c, .slice q18.a q18.n q18.c] 29)) 32 (.slice p19.a p19.n p19.c) (.slice q20.a q20.n q20.c)
      simpa only [World.size_alloc] using h
    clear hb
    have c0P1 := P1.c0
    have c1P1 := P1.c1
    have c0P2 := P2.c0
    have c1P2 := P2.c1
    have c0P3 := P3.c0
    have c1P3 := P3.c1
    have c0P15 := P15.c0
    have c1P15 := P15.c1
    have c0P16 := P16.c0
    have c1P16 := P16.c1
    have c0P23 := P23.c0
    have c1P23 := P23.c1
    have c0P24 := P24.c0
    have c1P24 := P24.c1
    have H25 := Lib.hid (Fill_bad p9 q10 a b (rat m d) ws cs ((w22.alloc (.cells #[.slice p17.a p17.n p17.c, .slice q18.a q18.n q18.c] 29)).alloc (.cells #[.slice p19.a p19.n p19.c, .slice q20.a q20.n q20.c] 32)) rp9 ha hc (by omega) cd hcd hcb HC)
    go_wp2_with fail
    clear c0P1 c1P1 c0P2 c1P2 c0P3 c1P3 c0P15 c1P15 c0P16 c1P16 c0P23 c1P23 c0P24 c1P24
    refine H25.out.mono ?_
    rintro e w26 ⟨rfl, hb⟩
    clear H25
    replace P1 := P1.below hb
    replace P2 := P2.below hb
    replace P3 := P3.below hb
    replace P15 := P15.below hb
    replace P16 := P16.below hb
    replace P23 := P23.below hb
    replace P24 := P24.below hb
    replace ha := ha.below hb
    replace hc := hc.below hb
    replace rp9 := rp9.below hb
    replace rp11 := rp11.below hb
    replace rp17 := rp17.below hb
    replace rp19 := rp19.below hb
    replace hB := hB.trans (hb.mono hB.size)
    clear hb
    have c0P1 := P1.c0
    have c1P1 := P1.c1
    have c0P2 := P2.c0
    have c1P2 := P2.c1
    have c0P3 := P3.c0
    have c1P3 := P3.c1
    have c0P15 := P15.c0
    have c1P15 := P15.c1
    have c0P16 := P16.c0
    have c1P16 := P16.c1
    have c0P23 := P23.c0
    have c1P23 := P23.c1
    have c0P24 := P24.c0
    have c1P24 := P24.c1
    have H29 := Lib.hid (Qadd p9 q10 p17 q18 (rat m d) (rat m2 d2) w26 rp9 rp17 HSZ.out )
    go_wp2_with fail
    clear c0P1 c1P1 c0P2 c1P2 c0P3 c1P3 c0P15 c1P15 c0P16 c1P16 c0P23 c1P23 c0P24 c1P24
    refine H29.out.mono ?_
    rintro e w30 ⟨x27, y28, rfl, rx27, hb⟩
    clear H29
    replace P1 := P1.below hb
    replace P2 := P2.below hb
    replace P3 := P3.below hb
    replace P15 := P15.below hb
    replace P16 := P16.below hb
    replace P23 := P23.below hb
    replace P24 := P24.below hb
    replace ha := ha.below hb
    replace hc := hc.below hb
    replace rp9 := rp9.below hb
    replace rp11 := rp11.below hb
    replace rp17 := rp17.below hb
    replace rp19 := rp19.below hb
    replace hB := hB.trans (hb.mono hB.size)
    clear hb
    have c0P1 := P1.c0
    have c1P1 := P1.c1
    have c0P2 := P2.c0
    have c1P2 := P2.c1
    have c0P3 := P3.c0
    have c1P3 := P3.c1
    have c0P15 := P15.c0
    have c1P15 := P15.c1
    have c0P16 := P16.c0
    have c1P16 := P16.c1
    have c0P23 := P23.c0
    have c1P23 := P23.c1
    have c0P24 := P24.c0
    have c1P24 := P24.c1
    have H31 := Lib.hid (Fill_bad x27 y28 a b (rat m d + rat m2 d2) ws cs w30 rx27 ha hc (by omega) ce hce hcf HE2)
    go_wp2_with fail
    clear c0P1 c1P1 c0P2 c1P2 c0P3 c1P3 c0P15 c1P15 c0P16 c1P16 c0P23 c1P23 c0P24 c1P24
    refine H31.out.mono ?_
    rintro e w32 ⟨rfl, hb⟩
    clear H31
    replace P1 := P1.below hb
    replace P2 := P2.below hb
    replace P3 := P3.below hb
    replace P15 := P15.below hb
    replace P16 := P16.below hb
    replace P23 := P23.below hb
    replace P24 := P24.below hb
    replace ha := ha.below hb
    replace hc := hc.below hb
    replace rp9 := rp9.below hb
    replace rp11 := rp11.below hb
    replace rp17 := rp17.below hb
    replace rp19 := rp19.below hb
    replace rx27 := rx27.below hb
    replace hB := hB.trans (hb.mono hB.size)
    clear hb
    have c0P1 := P1.c0
    have c1P1 := P1.c1
    have c0P2 := P2.c0
    have c1P2 := P2.c1
    have c0P3 := P3.c0
    have c1P3 := P3.c1
    have c0P15 := P15.c0
    have c1P15 := P15.c1
    have c0P16 := P16.c0
    have c1P16 := P16.c1
    have c0P23 := P23.c0
    have c1P23 := P23.c1
    have c0P24 := P24.c0
    have c1P24 := P24.c1
    go_wp2_with fail
    go_ret
    exact ⟨rfl, hB⟩

set_option maxRecDepth 100000 in
set_option maxHeartbeats 4000000 in
theorem more_mix (A B A2 B2 : Int) (m d m2 d2 : Nat) (a b : Sl) (ks : List Kid) (w : World) (ha : RI w a (ks.map fun k => (k.1 : Int))) (hc : RI w b (ks.map fun k => (k.2 : Int))) (hA : max A 0 = (m : Int)) (hD : max B 1 = (d : Int)) (hm : m ≤ 1000000) (hd : d ≤ 1000000) (HD0 : Hid (d ≠ 0)) (hA2 : max A2 0 = (m2 : Int)) (hD2 : max B2 1 = (d2 : Int)) (hm2 : m2 ≤ 1000000) (hd2 : d2 ≤ 1000000) (HD2 : Hid (d2 ≠ 0)) (nA : ¬ 1000000 < A) (nA2 : ¬ 1000000 < A2) (nB : ¬ 1000000 < B) (nB2 : ¬ 1000000 < B2) (hl : ks.length ≤ 12) (HKK : Hid (∀ k ∈ ks, okKid k)) (HX : Hid (rat m d ≤ ((caps ks : Nat) : Rat))) (HE : Hid (errOf (rat m d) (ks.map fun k => (k.1 : Int)) (ks.map fun k => (k.2 : Int)) = 0)) (ce : Int) (hce : ce ≠ 0) (hcf : (ce == 0) = false) (HE2 : Hid (errOf (rat m d + rat m2 d2) (ks.map fun k => (k.1 : Int)) (ks.map fun k => (k.2 : Int)) = ce)) :
    Calls Tryz.prog 5 #[.agg #[.int .i64 A, .int .i64 B], .agg #[.int .i64 A2, .int .i64 B2], .agg #[.slice a.a a.n a.c, .slice b.a b.n b.c]] w fun e w' => e = .returned (.bool true) ∧ Below w.heap.size w w' := by
  obtain ⟨aa, an, al⟩ := a
  obtain ⟨ba, bn, bl⟩ := b
  have ea := ha.len
  have ec := hc.len
  rw [List.length_map] at ea ec
  dsimp only at ea ec
  subst ea ec
  dsimp only
  have HF : Hid (Fine d (rat m d)) := Lib.hid (fine_rat (by omega) HD0.out)
  have HF2 : Hid (Fine (d * d2) (rat m d + rat m2 d2)) := Lib.hid (more_fine HD0.out HD2.out hd hd2)
  have h1 : ¬ (12 : Int) < (ks.length : Int) := by omega
  have HSZ : Hid (Sz (rat m d + rat m2 d2)) := Lib.hid (more_sz HD0.out HD2.out hd hd2 hm hm2)
  go_enter Tryz.func5, Tryz.ntmps5
  have hb : Below w.heap.size w (((w.alloc (.cells #[.int .i64 A, .int .i64 B] 23)).alloc (.cells #[.int .i64 A2, .int .i64 B2] 23)).alloc (.cells #[.slice aa ks.length al, .slice ba ks.length bl] 50)) := ((((Below.refl _ _).alloc (Nat.le_refl _) _).alloc (by simp) _).alloc (by simp; omega) _)
  replace ha := ha.below hb
  replace hc := hc.below hb
  have hB := hb
  have P1 : Pair (((w.alloc (.cells #[.int .i64 A, .int .i64 B] 23)).alloc (.cells #[.int .i64 A2, .int .i64 B2] 23)).alloc (.cells #[.slice aa ks.length al, .slice ba ks.length bl] 50)) (w.heap.size) 23 (.int .i64 A) (.int .i64 B) := by
    have h := ((Pair.new w 23 (.int .i64 A) (.int .i64 B)).alloc (.cells #[.int .i64 A2, .int .i64 B2] 23)).alloc (.cells #[.slice aa ks.length al, .slice ba ks.length bl] 50)
    simpa only [World.size_alloc] using h
  have P2 : Pair (((w.alloc (.cells #[.int .i64 A, .int .i64 B] 23)).alloc (.cells #[.int .i64 A2, .int .i64 B2] 23)).alloc (.cells #[.slice aa ks.length al, .slice ba ks.length bl] 50)) (w.heap.size + 1) 23 (.int .i64 A2) (.int .i64 B2) := by
    have h := (Pair.new (w.alloc (.cells #[.int .i64 A, .int .i64 B] 23)) 23 (.int .i64 A2) (.int .i64 B2)).alloc (.cells #[.slice aa ks.length al, .slice ba ks.length bl] 50)
    simpa only [World.size_alloc] using h
  have P3 : Pair (((w.alloc (.cells #[.int .i64 A, .int .i64 B] 23)).alloc (.cells #[.int .i64 A2, .int .i64 B2] 23)).alloc (.cells #[.slice aa ks.length al, .slice ba ks.length bl] 50)) (w.heap.size + 1 + 1) 50 (.slice aa ks.length al) (.slice ba ks.length bl) := by
    have h := Pair.new ((w.alloc (.cells #[.int .i64 A, .int .i64 B] 23)).alloc (.cells #[.int .i64 A2, .int .i64 B2] 23)) 50 (.slice aa ks.length al) (.slice ba ks.length bl)
    simpa only [World.size_alloc] using h
  clear hb
  have c0P1 := P1.c0
  have c1P1 := P1.c1
  have c0P2 := P2.c0
  have c1P2 := P2.c1
  have c0P3 := P3.c0
  have c1P3 := P3.c1
  go_wp2_with fail
  clear c0P1 c1P1 c0P2 c1P2 c0P3 c1P3
  have hb : Below (((w.alloc (.cells #[.int .i64 A, .int .i64 B] 23)).alloc (.cells #[.int .i64 A2, .int .i64 B2] 23)).alloc (.cells #[.slice aa ks.length al, .slice ba ks.length bl] 50)).heap.size (((w.alloc (.cells #[.int .i64 A, .int .i64 B] 23)).alloc (.cells #[.int .i64 A2, .int .i64 B2] 23)).alloc (.cells #[.slice aa ks.length al, .slice ba ks.length bl] 50)) (((w.alloc (.cells #[.int .i64 A, .int .i64 B] 23)).alloc (.cells #[.int .i64 A2, .int .i64 B2] 23)).alloc (.cells #[.slice aa ks.length al, .slice ba ks.length bl] 50)).drew := (Below.refl _ _).drew
  replace P1 := P1.below hb
  replace P2 := P2.below hb
  replace P3 := P3.below hb
  replace ha := ha.below hb
  replace hc := hc.below hb
  replace hB := hB.trans (hb.mono hB.size)
  clear hb
  refine Rd.regionT (fun X => Pair X (w.heap.size) 23 (.int .i64 A) (.int .i64 B) ∧ Pair X (w.heap.size + 1) 23 (.int .i64 A2) (.int .i64 B2) ∧ Pair X (w.heap.size + 1 + 1) 50 (.slice aa ks.length al) (.slice ba ks.length bl)) [0, 1, 2, 3, 4, 5] (.one 0 (.one 1 (.one 2 (.one 3 (.one 4 (.one 5 .done)))))) (fun ac W => ∃  (y22 y23 y24 y25 : Value), ac = { tmps := List.toArray (.agg #[.int .i64 A, .int .i64 B] :: .agg #[.int .i64 A2, .int .i64 B2] :: .agg #[.slice aa ks.length al, .slice ba ks.length bl] :: .pointer (some ⟨w.heap.size, 0, none⟩) :: .pointer (some ⟨w.heap.size + 1, 0, none⟩) :: .pointer (some ⟨w.heap.size + 1 + 1, 0, none⟩) :: .bool false :: .slice aa ks.length al :: .slice ba ks.length bl :: undef :: undef :: undef :: undef :: undef :: undef :: undef :: undef :: undef :: undef :: undef :: undef :: undef :: y22 :: y23 :: y24 :: y25 :: undef :: undef :: undef :: undef :: undef :: undef :: undef :: undef :: undef :: undef :: undef :: undef :: undef :: undef :: undef :: undef :: undef :: undef :: undef :: undef :: undef :: undef :: undef :: undef :: undef :: undef :: undef :: undef :: undef :: undef :: undef :: undef :: undef :: undef :: undef :: undef :: undef :: undef :: undef :: undef :: undef :: undef :: undef :: undef :: undef :: undef :: undef :: undef :: undef :: undef :: undef :: undef :: undef :: undef :: undef :: undef :: undef :: undef :: undef :: undef :: undef :: undef :: undef :: undef :: undef :: undef :: undef :: undef :: undef :: undef :: undef :: undef :: undef :: undef :: undef :: undef :: undef :: undef :: undef :: undef :: undef :: undef :: undef :: undef :: undef :: undef :: undef :: undef :: undef :: undef :: undef :: undef :: undef :: undef :: undef :: undef :: undef :: undef :: undef :: undef :: undef :: undef :: undef :: undef :: undef :: undef :: undef :: undef :: undef :: undef :: undef :: undef :: undef :: undef :: []), defers := [] } ∧ Pair W (w.heap.size) 23 (.int .i64 A) (.int .i64 B) ∧ Pair W (w.heap.size + 1) 23 (.int .i64 A2) (.int .i64 B2) ∧ Pair W (w.heap.size + 1 + 1) 50 (.slice aa ks.length al) (.slice ba ks.length bl) ∧ RI W ⟨aa, ks.length, al⟩ (ks.map fun k => (k.1 : Int)) ∧ RI W ⟨ba, ks.length, bl⟩ (ks.map fun k => (k.2 : Int)) ∧ Below w.heap.size w W) (by kernel_rfl) (by kernel_rfl) (by kernel_rfl) ⟨P1, P2, P3⟩ ?tree ?next
  case tree =>
    generalize (((w.alloc (.cells #[.int .i64 A, .int .i64 B] 23)).alloc (.cells #[.int .i64 A2, .int .i64 B2] 23)).alloc (.cells #[.slice aa ks.length al, .slice ba ks.length bl] 50)).drew = w4 at P1 P2 P3 ha hc hB ⊢
    refine Rd.tr_float (.pointer (some ⟨w.heap.size + 1 + 1, 0, none⟩)) (by simp only [List.getElem?_toArray, List.getElem?_cons_zero]; rfl) rfl (by rfl) (fun X _ => by go_simp) ?_
    simp only [Act.put, List.setIfInBounds_toArray, List.set_cons_succ, List.set_cons_zero]
    refine Rd.tr_float (.slice aa ks.length al) (by simp only [List.getElem?_toArray, List.getElem?_cons_succ, List.getElem?_cons_zero]; rfl) rfl (by rfl) (fun X hX => by have h0 := hX.2.2.c0; have h1 := hX.2.2.c1; go_simp) ?_
    simp only [Act.put, List.setIfInBounds_toArray, List.set_cons_succ, List.set_cons_zero]
    refine Rd.tr_float (.pointer (some ⟨w.heap.size + 1 + 1, 1, none⟩)) (by simp only [List.getElem?_toArray, List.getElem?_cons_succ, List.getElem?_cons_zero]; rfl) rfl (by rfl) (fun X _ => by go_simp) ?_
    simp only [Act.put, List.setIfInBounds_toArray, List.set_cons_succ, List.set_cons_zero]
    refine Rd.tr_float (.slice ba ks.length bl) (by simp only [List.getElem?_toArray, List.getElem?_cons_succ, List.getElem?_cons_zero]; rfl) rfl (by rfl) (fun X hX => by have h0 := hX.2.2.c0; have h1 := hX.2.2.c1; go_simp) ?_
    simp only [Act.put, List.setIfInBounds_toArray, List.set_cons_succ, List.set_cons_zero]
    refine Rd.tr_float (.slice aa ks.length al) (by simp only [List.getElem?_toArray, List.getElem?_cons_succ, List.getElem?_cons_zero]; rfl) rfl (by rfl) (fun X _ => by go_simp) ?_
    simp only [Act.put, List.setIfInBounds_toArray, List.set_cons_succ, List.set_cons_zero]
    refine Rd.tr_float (.slice ba ks.length bl) (by simp only [List.getElem?_toArray, List.getElem?_cons_succ, List.getElem?_cons_zero]; rfl) rfl (by rfl) (fun X _ => by go_simp) ?_
    simp only [Act.put, List.setIfInBounds_toArray, List.set_cons_succ, List.set_cons_zero]
    exact Rd.tr_end (⟨_, _, _, _, rfl, P1, P2, P3, ha, hc, hB⟩)
  case next =>
    rintro a6 W5 ⟨y22, y23, y24, y25, rfl, P1, P2, P3, ha, hc, hB⟩
    refine (?_ : ∀ (z0 z1 z2 z5 z9 z10 z11 z12 z13 z14 z15 z16 z17 z18 z19 z20 z21 z22 z23 z24 z25 z26 z27 z28 z29 z30 z31 z32 z33 z34 z35 z36 z37 z38 z39 z40 z41 z42 z43 z44 z45 z46 z47 z48 z49 z50 z51 z52 z53 z54 z55 z56 z57 z58 z59 z60 z61 z62 z63 z64 z65 z66 z67 z68 z69 z70 z71 z72 z73 z74 z75 z76 z77 z78 z79 z80 z81 z82 z83 z84 z85 z86 z87 z88 z89 z90 z91 z92 z93 z94 z95 z96 z97 z98 z99 z100 z101 z102 z103 z104 z105 z106 z107 z108 z109 z110 z111 z112 z113 z114 z115 z116 z117 z118 z119 z120 z121 z122 z123 z124 z125 z126 z127 z128 z129 z130 z131 z132 z133 z134 z135 z136 z137 z138 z139 : Value), Exit.then _ _ _ { tmps := List.toArray (z0 :: z1 :: z2 :: .pointer (some ⟨w.heap.size, 0, none⟩) :: .pointer (some ⟨w.heap.size + 1, 0, none⟩) :: z5 :: .bool false :: .slice aa ks.length al :: .slice ba ks.length bl :: z9 :: z10 :: z11 :: z12 :: z13 :: z14 :: z15 :: z16 :: z17 :: z18 :: z19 :: z20 :: z21 :: z22 :: z23 :: z24 :: z25 :: z26 :: z27 :: z28 :: z29 :: z30 :: z31 :: z32 :: z33 :: z34 :: z35 :: z36 :: z37 :: z38 :: z39 :: z40 :: z41 :: z42 :: z43 :: z44 :: z45 :: z46 :: z47 :: z48 :: z49 :: z50 :: z51 :: z52 :: z53 :: z54 :: z55 :: z56 :: z57 :: z58 :: z59 :: z60 :: z61 :: z62 :: z63 :: z64 :: z65 :: z66 :: z67 :: z68 :: z69 :: z70 :: z71 :: z72 :: z73 :: z74 :: z75 :: z76 :: z77 :: z78 :: z79 :: z80 :: z81 :: z82 :: z83 :: z84 :: z85 :: z86 :: z87 :: z88 :: z89 :: z90 :: z91 :: z92 :: z93 :: z94 :: z95 :: z96 :: z97 :: z98 :: z99 :: z100 :: z101 :: z102 :: z103 :: z104 :: z105 :: z106 :: z107 :: z108 :: z109 :: z110 :: z111 :: z112 :: z113 :: z114 :: z115 :: z116 :: z117 :: z118 :: z119 :: z120 :: z121 :: z122 :: z123 :: z124 :: z125 :: z126 :: z127 :: z128 :: z129 :: z130 :: z131 :: z132 :: z133 :: z134 :: z135 :: z136 :: z137 :: z138 :: z139 :: []), defers := [] } _) _ _ _ _ _ _ _ _ _ _ _ _ _ _ _ _ _ _ _ _ _ _ _ _ _ _ _ _ _ _ _ _ _ _ _ _ _ _ _ _ _ _ _ _ _ _ _ _ _ _ _ _ _ _ _ _ _ _ _ _ _ _ _ _ _ _ _ _ _ _ _ _ _ _ _ _ _ _ _ _ _ _ _ _ _ _ _ _ _ _ _ _ _ _ _ _ _ _ _ _ _ _ _ _ _ _ _ _ _ _ _ _ _ _ _ _ _ _ _ _ _ _ _ _ _ _ _ _ _ _ _ _ _ _ _
    intro z0 z1 z2 z5 z9 z10 z11 z12 z13 z14 z15 z16 z17 z18 z19 z20 z21 z22 z23 z24 z25 z26 z27 z28 z29 z30 z31 z32 z33 z34 z35 z36 z37 z38 z39 z40 z41 z42 z43 z44 z45 z46 z47 z48 z49 z50 z51 z52 z53 z54 z55 z56 z57 z58 z59 z60 z61 z62 z63 z64 z65 z66 z67 z68 z69 z70 z71 z72 z73 z74 z75 z76 z77 z78 z79 z80 z81 z82 z83 z84 z85 z86 z87 z88 z89 z90 z91 z92 z93 z94 z95 z96 z97 z98 z99 z100 z101 z102 z103 z104 z105 z106 z107 z108 z109 z110 z111 z112 z113 z114 z115 z116 z117 z118 z119 z120 z121 z122 z123 z124 z125 z126 z127 z128 z129 z130 z131 z132 z133 z134 z135 z136 z137 z138 z139
    have c0P1 := P1.c0
    have c1P1 := P1.c1
    have c0P2 := P2.c0
    have c1P2 := P2.c1
    have c0P3 := P3.c0
    have c1P3 := P3.c1
    have H7 := Lib.hid (awake4 W5)
    go_wp2_with fail
    clear c0P1 c1P1 c0P2 c1P2 c0P3 c1P3
    refine H7.out.mono ?_
    rintro e w8 ⟨rfl, hb⟩
    clear H7
    replace P1 := P1.below hb
    replace P2 := P2.below hb
    replace P3 := P3.below hb
    replace ha := ha.below hb
    replace hc := hc.below hb
    replace hB := hB.trans (hb.mono hB.size)
    clear hb
    have c0P1 := P1.c0
    have c1P1 := P1.c1
    have c0P2 := P2.c0
    have c1P2 := P2.c1
    have c0P3 := P3.c0
    have c1P3 := P3.c1
    have H13 := Lib.hid (both_any A B m d w8 hA hD (by omega) (by omega) HD0)
    go_wp2_with fail
    clear c0P1 c1P1 c0P2 c1P2 c0P3 c1P3
    refine H13.out.mono ?_
    rintro e w14 ⟨p9, q10, p11, q12, rfl, rp9, rp11, hb⟩
    clear H13
    replace P1 := P1.below hb
    replace P2 := P2.below hb
    replace P3 := P3.below hb
    replace ha := ha.below hb
    replace hc := hc.below hb
    replace hB := hB.trans (hb.mono hB.size)
    clear hb
    have hb : Below w14.heap.size w14 ((w14.alloc (.cells #[.slice p9.a p9.n p9.c, .slice q10.a q10.n q10.c] 29)).alloc (.cells #[.slice p11.a p11.n p11.c, .slice q12.a q12.n q12.c] 32)) := (((Below.refl _ _).alloc (Nat.le_refl _) _).alloc (by simp) _)
    replace P1 := P1.below hb
    replace P2 := P2.below hb
    replace P3 := P3.below hb
    replace ha := ha.below hb
    replace hc := hc.below hb
    replace rp9 := rp9.below hb
    replace rp11 := rp11.below hb
    replace hB := hB.trans (hb.mono hB.size)
    have P15 : Pair ((w14.alloc (.cells #[.slice p9.a p9.n p9.c, .slice q10.a q10.n q10.c] 29)).alloc (.cells #[.slice p11.a p11.n p11.c, .slice q12.a q12.n q12.c] 32)) (w14.heap.size) 29 (.slice p9.a p9.n p9.c) (.slice q10.a q10.n q10.c) := by
      have h := (Pair.new w14 29 (.slice p9.a p9.n p9.c) (.slice q10.a q10.n q10.c)).alloc (.cells #[.slice p11.a p11.n p11.c, .slice q12.a q12.n q12.c] 32)
      simpa only [World.size_alloc] using h
    have P16 : Pair ((w14.alloc (.cells #[.slice p9.a p9.n p9.c, .slice q10.a q10.n q10.c] 29)).alloc (.cells #[.slice p11.a p11.n p11.c, .slice q12.a q12.n q12.c] 32)) (w14.heap.size + 1) 32 (.slice p11.a p11.n p11.c) (.slice q12.a q12.n q12.c) := by
      have h := Pair.new (w14.alloc (.cells #[.slice p9.a p9.n p9.c, .slice q10.a q10.n q10.c] 29)) 32 (.slice p11.a p11.n p11.c) (.slice q12.a q12.n q12.c)
      simpa only [World.size_alloc] using h
    clear hb
    have c0P1 := P1.c0
    have c1P1 := P1.c1
    have c0P2 := P2.c0
    have c1P2 := P2.c1
    have c0P3 := P3.c0
    have c1P3 := P3.c1
    have c0P15 := P15.c0
    have c1P15 := P15.c1
    have c0P16 := P16.c0
    have c1P16 := P16.c1
    have H21 := Lib.hid (both_any A2 B2 m2 d2 ((w14.alloc (.cells #[.slice p9.a p9.n p9.c, .slice q10.a q10.n q10.c] 29)).alloc (.cells #[.slice p11.a p11.n p11.c, .slice q12.a q12.n q12.c] 32)) hA2 hD2 (by omega) (by omega) HD2)
    go_wp2_with fail
    clear c0P1 c1P1 c0P2 c1P2 c0P3 c1P3 c0P15 c1P15 c0P16 c1P16
    refine H21.out.mono ?_
    rintro e w22 ⟨p17, q18, p19, q20, rfl, rp17, rp19, hb⟩
    clear H21
    replace P1 := P1.below hb
    replace P2 := P2.below hb
    replace P3 := P3.below hb
    replace P15 := P15.below hb
    replace P16 := P16.below hb
    replace ha := ha.below hb
    replace hc := hc.below hb
    replace rp9 := rp9.below hb
    replace rp11 := rp11.below hb
    replace hB := hB.trans (hb.mono hB.size)
    clear hb
    have hb : Below w22.heap.size w22 ((w22.alloc (.cells #[.slice p17.a p17.n p17.c, .slice q18.a q18.n q18.c] 29)).alloc (.cells #[.slice p19.a p19.n p19.c, .slice q20.a q20.n q20.c] 32)) := (((Below.refl _ _).alloc (Nat.le_refl _) _).alloc (by simp) _)
    replace P1 := P1.below hb
    replace P2 := P2.below hb
    replace P3 := P3.below hb
    replace P15 := P15.below hb
    replace P16 := P16.below hb
    replace ha := ha.below hb
    replace hc := hc.below hb
    replace rp9 := rp9.below hb
    replace rp11 := rp11.below hb
    replace rp17 := rp17.below hb
    replace rp19 := rp19.below hb
    replace hB := hB.trans (hb.mono hB.size)
    have P23 : Pair ((w22.alloc (.cells #[.slice p17.a p17.n p17.c, .slice q18.a q18.n q18.c] 29)).alloc (.cells #[.slice p19.a p19.n p19.c, .slice q20.a q20.n q20.c] 32)) (w22.heap.size) 29 (.slice p17.a p17.n p17.c) (.slice q18.a q18.n q18.c) := by
      have h := (Pair.new w22 29 (.slice p17.a p17.n p17.c) (.slice q18.a q18.n q18.c)).alloc (.cells #[.slice p19.a p19.n p19.c, .slice q20.a q20.n q20.c] 32)
      simpa only [World.size_alloc] using h
    have P24 : Pair ((w22.alloc (.cells #[.slice p17.a p17.n p17.c, .slice q18.a q18.n q18.c] 29)).alloc (.cells #[.slice p19.a p19.n p19.c, .slice q20.a q20.n q20.c] 32)) (w22.heap.size + 1) 32 (.slice p19.a p19.n p19.c) (.slice q20.a q20.n q20.c) := by
      have h := Pair.new (w22.alloc (.cells #[.slice p17.a p17.n p17.c, .slice q18.a q18.n q18.c] 29)) 32 (.slice p19.a p19.n p19.c) (.slice q20.a q20.n q20.c)
      simpa only [World.size_alloc] using h
    clear hb
    have c0P1 := P1.c0
    have c1P1 := P1.c1
    have c0P2 := P2.c0
    have c1P2 := P2.c1
    have c0P3 := P3.c0
    have c1P3 := P3.c1
    have c0P15 := P15.c0
    have c1P15 := P15.c1
    have c0P16 := P16.c0
    have c1P16 := P16.c1
    have c0P23 := P23.c0
    have c1P23 := P23.c1
    have c0P24 := P24.c0
    have c1P24 := P24.c1
    have H25 := Lib.hid (Fill_good p9 q10 ⟨aa, ks.length, al⟩ ⟨ba, ks.length, bl⟩ (rat m d) ks d ((w22.alloc (.cells #[.slice p17.a p17.n p17.c, .slice q18.a q18.n q18.c] 29)).alloc (.cells #[.slice p19.a p19.n p19.c, .slice q20.a q20.n q20.c] 32)) rp9 ha hc (by omega) HKK HF HX HE)
    go_wp2_with fail
    clear c0P1 c1P1 c0P2 c1P2 c0P3 c1P3 c0P15 c1P15 c0P16 c1P16 c0P23 c1P23 c0P24 c1P24
    refine H25.out.mono ?_
    rintro e w26 ⟨v1, rfl, hv1, hb⟩
    clear H25
    replace P1 := P1.below hb
    replace P2 := P2.below hb
    replace P3 := P3.below hb
    replace P15 := P15.below hb
    replace P16 := P16.below hb
    replace P23 := P23.below hb
    replace P24 := P24.below hb
    replace ha := ha.below hb
    replace hc := hc.below hb
    replace rp9 := rp9.below hb
    replace rp11 := rp11.below hb
    replace rp17 := rp17.below hb
    replace rp19 := rp19.below hb
    replace hB := hB.trans (hb.mono hB.size)
    clear hb
    have c0P1 := P1.c0
    have c1P1 := P1.c1
    have c0P2 := P2.c0
    have c1P2 := P2.c1
    have c0P3 := P3.c0
    have c1P3 := P3.c1
    have c0P15 := P15.c0
    have c1P15 := P15.c1
    have c0P16 := P16.c0
    have c1P16 := P16.c1
    have c0P23 := P23.c0
    have c1P23 := P23.c1
    have c0P24 := P24.c0
    have c1P24 := P24.c1
    have H29 := Lib.hid (Qadd p9 q10 p17 q18 (rat m d) (rat m2 d2) w26 rp9 rp17 HSZ.out )
    go_wp2_with fail
    clear c0P1 c1P1 c0P2 c1P2 c0P3 c1P3 c0P15 c1P15 c0P16 c1P16 c0P23 c1P23 c0P24 c1P24
    refine H29.out.mono ?_
    rintro e w30 ⟨x27, y28, rfl, rx27, hb⟩
    clear H29
    replace P1 := P1.below hb
    replace P2 := P2.below hb
    replace P3 := P3.below hb
    replace P15 := P15.below hb
    replace P16 := P16.below hb
    replace P23 := P23.below hb
    replace P24 := P24.below hb
    replace ha := ha.below hb
    replace hc := hc.below hb
    replace rp9 := rp9.below hb
    replace rp11 := rp11.below hb
    replace rp17 := rp17.below hb
    replace rp19 := rp19.below hb
    replace hv1 := hv1.below hb
    replace hB := hB.trans (hb.mono hB.size)
    clear hb
    have c0P1 := P1.c0
    have c1P1 := P1.c1
    have c0P2 := P2.c0
    have c1P2 := P2.c1
    have c0P3 := P3.c0
    have c1P3 := P3.c1
    have c0P15 := P15.c0
    have c1P15 := P15.c1
    have c0P16 := P16.c0
    have c1P16 := P16.c1
    have c0P23 := P23.c0
    have c1P23 := P23.c1
    have c0P24 := P24.c0
    have c1P24 := P24.c1
    have H31 := Lib.hid (Fill_bad x27 y28 ⟨aa, ks.length, al⟩ ⟨ba, ks.length, bl⟩ (rat m d + rat m2 d2) (ks.map fun k => (k.1 : Int)) (ks.map fun k => (k.2 : Int)) w30 rx27 ha hc (by rw [List.length_map]; omega) ce hce hcf HE2)
    go_wp2_with fail
    clear c0P1 c1P1 c0P2 c1P2 c0P3 c1P3 c0P15 c1P15 c0P16 c1P16 c0P23 c1P23 c0P24 c1P24
    refine H31.out.mono ?_
    rintro e w32 ⟨rfl, hb⟩
    clear H31
    replace P1 := P1.below hb
    replace P2 := P2.below hb
    replace P3 := P3.below hb
    replace P15 := P15.below hb
    replace P16 := P16.below hb
    replace P23 := P23.below hb
    replace P24 := P24.below hb
    replace ha := ha.below hb
    replace hc := hc.below hb
    replace rp9 := rp9.below hb
    replace rp11 := rp11.below hb
    replace rp17 := rp17.below hb
    replace rp19 := rp19.below hb
    replace hv1 := hv1.below hb
    replace rx27 := rx27.below hb
    replace hB := hB.trans (hb.mono hB.size)
    clear hb
    have c0P1 := P1.c0
    have c1P1 := P1.c1
    have c0P2 := P2.c0
    have c1P2 := P2.c1
    have c0P3 := P3.c0
    have c1P3 := P3.c1
    have c0P15 := P15.c0
    have c1P15 := P15.c1
    have c0P16 := P16.c0
    have c1P16 := P16.c1
    have c0P23 := P23.c0
    have c1P23 := P23.c1
    have c0P24 := P24.c0
    have c1P24 := P24.c1
    go_wp2_with fail
    go_ret
    exact ⟨rfl, hB⟩

set_option maxRecDepth 100000 in
set_option maxHeartbeats 4000000 in
theorem more_good (A B A2 B2 : Int) (m d m2 d2 : Nat) (a b : Sl) (ks : List Kid) (w : World) (ha : RI w a (ks.map fun k => (k.1 : Int))) (hc : RI w b (ks.map fun k => (k.2 : Int))) (hA : max A 0 = (m : Int)) (hD : max B 1 = (d : Int)) (hm : m ≤ 1000000) (hd : d ≤ 1000000) (HD0 : Hid (d ≠ 0)) (hA2 : max A2 0 = (m2 : Int)) (hD2 : max B2 1 = (d2 : Int)) (hm2 : m2 ≤ 1000000) (hd2 : d2 ≤ 1000000) (HD2 : Hid (d2 ≠ 0)) (nA : ¬ 1000000 < A) (nA2 : ¬ 1000000 < A2) (nB : ¬ 1000000 < B) (nB2 : ¬ 1000000 < B2) (hl : ks.length ≤ 12) (HKK : Hid (∀ k ∈ ks, okKid k)) (HX : Hid (rat m d ≤ ((caps ks : Nat) : Rat))) (HE : Hid (errOf (rat m d) (ks.map fun k => (k.1 : Int)) (ks.map fun k => (k.2 : Int)) = 0)) (HX2 : Hid (rat m d + rat m2 d2 ≤ ((caps ks : Nat) : Rat))) (HE2 : Hid (errOf (rat m d + rat m2 d2) (ks.map fun k => (k.1 : Int)) (ks.map fun k => (k.2 : Int)) = 0)) :
    Calls Tryz.prog 5 #[.agg #[.int .i64 A, .int .i64 B], .agg #[.int .i64 A2, .int .i64 B2], .agg #[.slice a.a a.n a.c, .slice b.a b.n b.c]] w fun e w' => e = .returned (.bool true) ∧ Below w.heap.size w w' := by
  obtain ⟨aa, an, al⟩ := a
  obtain ⟨ba, bn, bl⟩ := b
  have ea := ha.len
  have ec := hc.len
  rw [List.length_map] at ea ec
  dsimp only at ea ec
  subst ea ec
  dsimp only
  have HF : Hid (Fine d (rat m d)) := Lib.hid (fine_rat (by omega) HD0.out)
  have HF2 : Hid (Fine (d * d2) (rat m d + rat m2 d2)) := Lib.hid (more_fine HD0.out HD2.out hd hd2)
  have h1 : ¬ (12 : Int) < (ks.length : Int) := by omega
  have HSZ : Hid (Sz (rat m d + rat m2 d2)) := Lib.hid (more_sz HD0.out HD2.out hd hd2 hm hm2)
  have HLM : Hid (docLevel (rat m d) ks ≤ docLevel (rat m d + rat m2 d2) ks ∧ ∀ k ∈ ks, given (docLevel (rat m d) ks) k ≤ given (docLevel (rat m d + rat m2 d2) ks) k) := Lib.hid (level_more (doc_level (fun k hk => (HKK.out k hk).1) (rat_nonneg m d) HX.out) (doc_level (fun k hk => (HKK.out k hk).1) (by have e1 := rat_nonneg m d; have e2 := rat_nonneg m2 d2; grind) HX2.out) (by have e2 := rat_nonneg m2 d2; grind))
  go_enter Tryz.func5, Tryz.ntmps5
  have hb : Below w.heap.size w (((w.alloc (.cells #[.int .i64 A, .int .i64 B] 23)).alloc (.cells #[.int .i64 A2, .int .i64 B2] 23)).alloc (.cells #[.slice aa ks.length al, .slice ba ks.length bl] 50)) := ((((Below.refl _ _).alloc (Nat.le_refl _) _).alloc (by simp) _).alloc (by simp; omega) _)
  replace ha := ha.below hb
  replace hc := hc.below hb
  have hB := hb
  have P1 : Pair (((w.alloc (.cells #[.int .i64 A, .int .i64 B] 23)).alloc (.cells #[.int .i64 A2, .int .i64 B2] 23)).alloc (.cells #[.slice aa ks.length al, .slice ba ks.length bl] 50)) (w.heap.size) 23 (.int .i64 A) (.int .i64 B) := by
    have h := ((Pair.new w 23 (.int .i64 A) (.int .i64 B)).alloc (.cells #[.int .i64 A2, .int .i64 B2] 23)).alloc (.cells #[.slice aa ks.length al, .slice ba ks.length bl] 50)
    simpa only [World.size_alloc] using h
  have P2 : Pair (((w.alloc (.cells #[.int .i64 A, .int .i64 B] 23)).alloc (.cells #[.int .i64 A2, .int .i64 B2] 23)).alloc (.cells #[.slice aa ks.length al, .slice ba ks.length bl] 50)) (w.heap.size + 1) 23 (.int .i64 A2) (.int .i64 B2) := by
    have h := (Pair.new (w.alloc (.cells #[.int .i64 A, .int .i64 B] 23)) 23 (.int .i64 A2) (.int .i64 B2)).alloc (.cells #[.slice aa ks.length al, .slice ba ks.length bl] 50)
    simpa only [World.size_alloc] using h
  have P3 : Pair (((w.alloc (.cells #[.int .i64 A, .int .i64 B] 23)).alloc (.cells #[.int .i64 A2, .int .i64 B2] 23)).alloc (.cells #[.slice aa ks.length al, .slice ba ks.length bl] 50)) (w.heap.size + 1 + 1) 50 (.slice aa ks.length al) (.slice ba ks.length bl) := by
    have h := Pair.new ((w.alloc (.cells #[.int .i64 A, .int .i64 B] 23)).alloc (.cells #[.int .i64 A2, .int .i64 B2] 23)) 50 (.slice aa ks.length al) (.slice ba ks.length bl)
    simpa only [World.size_alloc] using h
  clear hb
  have c0P1 := P1.c0
  have c1P1 := P1.c1
  have c0P2 := P2.c0
  have c1P2 := P2.c1
  have c0P3 := P3.c0
  have c1P3 := P3.c1
  go_wp2_with fail
  clear c0P1 c1P1 c0P2 c1P2 c0P3 c1P3
  have hb : Below (((w.alloc (.cells #[.int .i64 A, .int .i64 B] 23)).alloc (.cells #[.int .i64 A2, .int .i64 B2] 23)).alloc (.cells #[.slice aa ks.length al, .slice ba ks.length bl] 50)).heap.size (((w.alloc (.cells #[.int .i64 A, .int .i64 B] 23)).alloc (.cells #[.int .i64 A2, .int .i64 B2] 23)).alloc (.cells #[.slice aa ks.length al, .slice ba ks.length bl] 50)) (((w.alloc (.cells #[.int .i64 A, .int .i64 B] 23)).alloc (.cells #[.int .i64 A2, .int .i64 B2] 23)).alloc (.cells #[.slice aa ks.length al, .slice ba ks.length bl] 50)).drew := (Below.refl _ _).drew
  replace P1 := P1.below hb
  replace P2 := P2.below hb
  replace P3 := P3.below hb
  replace ha := ha.below hb
  replace hc := hc.below hb
  replace hB := hB.trans (hb.mono hB.size)
  clear hb
  refine Rd.regionT (fun X => Pair X (w.heap.size) 23 (.int .i64 A) (.int .i64 B) ∧ Pair X (w.heap.size + 1) 23 (.int .i64 A2) (.int .i64 B2) ∧ Pair X (w.heap.size + 1 + 1) 50 (.slice aa ks.length al) (.slice ba ks.length bl)) [0, 1, 2, 3, 4, 5] (.one 0 (.one 1 (.one 2 (.one 3 (.one 4 (.one 5 .done)))))) (fun ac W => ∃  (y22 y23 y24 y25 : Value), ac = { tmps := List.toArray (.agg #[.int .i64 A, .int .i64 B] :: .agg #[.int .i64 A2, .int .i64 B2] :: .agg #[.slice aa ks.length al, .slice ba ks.length bl] :: .pointer (some ⟨w.heap.size, 0, none⟩) :: .pointer (some ⟨w.heap.size + 1, 0, none⟩) :: .pointer (some ⟨w.heap.size + 1 + 1, 0, none⟩) :: .bool false :: .slice aa ks.length al :: .slice ba ks.length bl :: undef :: undef :: undef :: undef :: undef :: undef :: undef :: undef :: undef :: undef :: undef :: undef :: undef :: y22 :: y23 :: y24 :: y25 :: undef :: undef :: undef :: undef :: undef :: undef :: undef :: undef :: undef :: undef :: undef :: undef :: undef :: undef :: undef :: undef :: undef :: undef :: undef :: undef :: undef :: undef :: undef :: undef :: undef :: undef :: undef :: undef :: undef :: undef :: undef :: undef :: undef :: undef :: undef :: undef :: undef :: undef :: undef :: undef :: undef :: undef :: undef :: undef :: undef :: undef :: undef :: undef :: undef :: undef :: undef :: undef :: undef :: undef :: undef :: undef :: undef :: undef :: undef :: undef :: undef :: undef :: undef :: undef :: undef :: undef :: undef :: undef :: undef :: undef :: undef :: undef :: undef :: undef :: undef :: undef :: undef :: undef :: undef :: undef :: undef :: undef :: undef :: undef :: undef :: undef :: undef :: undef :: undef :: undef :: undef :: undef :: undef :: undef :: undef :: undef :: undef :: undef :: undef :: undef :: undef :: undef :: undef :: undef :: undef :: undef :: undef :: undef :: undef :: undef :: undef :: undef :: undef :: undef :: []), defers := [] } ∧ Pair W (w.heap.size) 23 (.int .i64 A) (.int .i64 B) ∧ Pair W (w.heap.size + 1) 23 (.int .i64 A2) (.int .i64 B2) ∧ Pair W (w.heap.size + 1 + 1) 50 (.slice aa ks.length al) (.slice ba ks.length bl) ∧ RI W ⟨aa, ks.length, al⟩ (ks.map fun k => (k.1 : Int)) ∧ RI W ⟨ba, ks.length, bl⟩ (ks.map fun k => (k.2 : Int)) ∧ Below w.heap.size w W) (by kernel_rfl) (by kernel_rfl) (by kernel_rfl) ⟨P1, P2, P3⟩ ?tree ?next
  case tree =>
    generalize (((w.alloc (.cells #[.int .i64 A, .int .i64 B] 23)).alloc (.cells #[.int .i64 A2, .int .i64 B2] 23)).alloc (.cells #[.slice aa ks.length al, .slice ba ks.length bl] 50)).drew = w4 at P1 P2 P3 ha hc hB ⊢
    refine Rd.tr_float (.pointer (some ⟨w.heap.size + 1 + 1, 0, none⟩)) (by simp only [List.getElem?_toArray, List.getElem?_cons_zero]; rfl) rfl (by rfl) (fun X _ => by go_simp) ?_
    simp only [Act.put, List.setIfInBounds_toArray, List.set_cons_succ, List.set_cons_zero]
    refine Rd.tr_float (.slice aa ks.length al) (by simp only [List.getElem?_toArray, List.getElem?_cons_succ, List.getElem?_cons_zero]; rfl) rfl (by rfl) (fun X hX => by have h0 := hX.2.2.c0; have h1 := hX.2.2.c1; go_simp) ?_
    simp only [Act.put, List.setIfInBounds_toArray, List.set_cons_succ, List.set_cons_zero]
    refine Rd.tr_float (.pointer (some ⟨w.heap.size + 1 + 1, 1, none⟩)) (by simp only [List.getElem?_toArray, List.getElem?_cons_succ, List.getElem?_cons_zero]; rfl) rfl (by rfl) (fun X _ => by go_simp) ?_
    simp only [Act.put, List.setIfInBounds_toArray, List.set_cons_succ, List.set_cons_zero]
    refine Rd.tr_float (.slice ba ks.length bl) (by simp only [List.getElem?_toArray, List.getElem?_cons_succ, List.getElem?_cons_zero]; rfl) rfl (by rfl) (fun X hX => by have h0 := hX.2.2.c0; have h1 := hX.2.2.c1; go_simp) ?_
    simp only [Act.put, List.setIfInBounds_toArray, List.set_cons_succ, List.set_cons_zero]
    refine Rd.tr_float (.slice aa ks.length al) (by simp only [List.getElem?_toArray, List.getElem?_cons_succ, List.getElem?_cons_zero]; rfl) rfl (by rfl) (fun X _ => by go_simp) ?_
    simp only [Act.put, List.setIfInBounds_toArray, List.set_cons_succ, List.set_cons_zero]
    refine Rd.tr_float (.slice ba ks.length bl) (by simp only [List.getElem?_toArray, List.getElem?_cons_succ, List.getElem?_cons_zero]; rfl) rfl (by rfl) (fun X _ => by go_simp) ?_
    simp only [Act.put, List.setIfInBounds_toArray, List.set_cons_succ, List.set_cons_zero]
    exact Rd.tr_end (⟨_, _, _, _, rfl, P1, P2, P3, ha, hc, hB⟩)
  case next =>
    rintro a6 W5 ⟨y22, y23, y24, y25, rfl, P1, P2, P3, ha, hc, hB⟩
    refine (?_ : ∀ (z0 z1 z2 z5 z9 z10 z11 z12 z13 z14 z15 z16 z17 z18 z19 z20 z21 z22 z23 z24 z25 z26 z27 z28 z29 z30 z31 z32 z33 z34 z35 z36 z37 z38 z39 z40 z41 z42 z43 z44 z45 z46 z47 z48 z49 z50 z51 z52 z53 z54 z55 z56 z57 z58 z59 z60 z61 z62 z63 z64 z65 z66 z67 z68 z69 z70 z71 z72 z73 z74 z75 z76 z77 z78 z79 z80 z81 z82 z83 z84 z85 z86 z87 z88 z89 z90 z91 z92 z93 z94 z95 z96 z97 z98 z99 z100 z101 z102 z103 z104 z105 z106 z107 z108 z109 z110 z111 z112 z113 z114 z115 z116 z117 z118 z119 z120 z121 z122 z123 z124 z125 z126 z127 z128 z129 z130 z131 z132 z133 z134 z135 z136 z137 z138 z139 : Value), Exit.then _ _ _ { tmps := List.toArray (z0 :: z1 :: z2 :: .pointer (some ⟨w.heap.size, 0, none⟩) :: .pointer (some ⟨w.heap.size + 1, 0, none⟩) :: z5 :: .bool false :: .slice aa ks.length al :: .slice ba ks.length bl :: z9 :: z10 :: z11 :: z12 :: z13 :: z14 :: z15 :: z16 :: z17 :: z18 :: z19 :: z20 :: z21 :: z22 :: z23 :: z24 :: z25 :: z26 :: z27 :: z28 :: z29 :: z30 :: z31 :: z32 :: z33 :: z34 :: z35 :: z36 :: z37 :: z38 :: z39 :: z40 :: z41 :: z42 :: z43 :: z44 :: z45 :: z46 :: z47 :: z48 :: z49 :: z50 :: z51 :: z52 :: z53 :: z54 :: z55 :: z56 :: z57 :: z58 :: z59 :: z60 :: z61 :: z62 :: z63 :: z64 :: z65 :: z66 :: z67 :: z68 :: z69 :: z70 :: z71 :: z72 :: z73 :: z74 :: z75 :: z76 :: z77 :: z78 :: z79 :: z80 :: z81 :: z82 :: z83 :: z84 :: z85 :: z86 :: z87 :: z88 :: z89 :: z90 :: z91 :: z92 :: z93 :: z94 :: z95 :: z96 :: z97 :: z98 :: z99 :: z100 :: z101 :: z102 :: z103 :: z104 :: z105 :: z106 :: z107 :: z108 :: z109 :: z110 :: z111 :: z112 :: z113 :: z114 :: z115 :: z116 :: z117 :: z118 :: z119 :: z120 :: z121 :: z122 :: z123 :: z124 :: z125 :: z126 :: z127 :: z128 :: z129 :: z130 :: z131 :: z132 :: z133 :: z134 :: z135 :: z136 :: z137 :: z138 :: z139 :: []), defers := [] } _) _ _ _ _ _ _ _ _ _ _ _ _ _ _ _ _ _ _ _ _ _ _ _ _ _ _ _ _ _ _ _ _ _ _ _ _ _ _ _ _ _ _ _ _ _ _ _ _ _ _ _ _ _ _ _ _ _ _ _ _ _ _ _ _ _ _ _ _ _ _ _ _ _ _ _ _ _ _ _ _ _ _ _ _ _ _ _ _ _ _ _ _ _ _ _ _ _ _ _ _ _ _ _ _ _ _ _ _ _ _ _ _ _ _ _ _ _ _ _ _ _ _ _ _ _ _ _ _ _ _ _ _ _ _ _
    intro z0 z1 z2 z5 z9 z10 z11 z12 z13 z14 z15 z16 z17 z18 z19 z20 z21 z22 z23 z24 z25 z26 z27 z28 z29 z30 z31 z32 z33 z34 z35 z36 z37 z38 z39 z40 z41 z42 z43 z44 z45 z46 z47 z48 z49 z50 z51 z52 z53 z54 z55 z56 z57 z58 z59 z60 z61 z62 z63 z64 z65 z66 z67 z68 z69 z70 z71 z72 z73 z74 z75 z76 z77 z78 z79 z80 z81 z82 z83 z84 z85 z86 z87 z88 z89 z90 z91 z92 z93 z94 z95 z96 z97 z98 z99 z100 z101 z102 z103 z104 z105 z106 z107 z108 z109 z110 z111 z112 z113 z114 z115 z116 z117 z118 z119 z120 z121 z122 z123 z124 z125 z126 z127 z128 z129 z130 z131 z132 z133 z134 z135 z136 z137 z138 z139
    have c0P1 := P1.c0
    have c1P1 := P1.c1
    have c0P2 := P2.c0
    have c1P2 := P2.c1
    have c0P3 := P3.c0
    have c1P3 := P3.c1
    have H7 := Lib.hid (awake4 W5)
    go_wp2_with fail
    clear c0P1 c1P1 c0P2 c1P2 c0P3 c1P3
    refine H7.out.mono ?_
    rintro e w8 ⟨rfl, hb⟩
    clear H7
    replace P1 := P1.below hb
    replace P2 := P2.below hb
    replace P3 := P3.below hb
    replace ha := ha.below hb
    replace hc := hc.below hb
    replace hB := hB.trans (hb.mono hB.size)
    clear hb
    have c0P1 := P1.c0
    have c1P1 := P1.c1
    have c0P2 := P2.c0
    have c1P2 := P2.c1
    have c0P3 := P3.c0
    have c1P3 := P3.c1
    have H13 := Lib.hid (both_any A B m d w8 hA hD (by omega) (by omega) HD0)
    go_wp2_with fail
    clear c0P1 c1P1 c0P2 c1P2 c0P3 c1P3
    refine H13.out.mono ?_
    rintro e w14 ⟨p9, q10, p11, q12, rfl, rp9, rp11, hb⟩
    clear H13
    replace P1 := P1.below hb
    replace P2 := P2.below hb
    replace P3 := P3.below hb
    replace ha := ha.below hb
    replace hc := hc.below hb
    replace hB := hB.trans (hb.mono hB.size)
    clear hb
    have hb : Below w14.heap.size w14 ((w14.alloc (.cells #[.slice p9.a p9.n p9.c, .slice q10.a q10.n q10.c] 29)).alloc (.cells #[.slice p11.a p11.n p11.c, .slice q12.a q12.n q12.c] 32)) := (((Below.refl _ _).alloc (Nat.le_refl _) _).alloc (by simp) _)
    replace P1 := P1.below hb
    replace P2 := P2.below hb
    replace P3 := P3.below hb
    replace ha := ha.below hb
    replace hc := hc.below hb
    replace rp9 := rp9.below hb
    replace rp11 := rp11.below hb
    replace hB := hB.trans (hb.mono hB.size)
    have P15 : Pair ((w14.alloc (.cells #[.slice p9.a p9.n p9.c, .slice q10.a q10.n q10.c] 29)).alloc (.cells #[.slice p11.a p11.n p11.c, .slice q12.a q12.n q12.c] 32)) (w14.heap.size) 29 (.slice p9.a p9.n p9.c) (.slice q10.a q10.n q10.c) := by
      have h := (Pair.new w14 29 (.slice p9.a p9.n p9.c) (.slice q10.a q10.n q10.c)).alloc (.cells #[.slice p11.a p11.n p11.c, .slice q12.a q12.n q12.c] 32)
      simpa only [World.size_alloc] using h
    have P16 : Pair ((w14.alloc (.cells #[.slice p9.a p9.n p9.c, .slice q10.a q10.n q10.c] 29)).alloc (.cells #[.slice p11.a p11.n p11.c, .slice q12.a q12.n q12.c] 32)) (w14.heap.size + 1) 32 (.slice p11.a p11.n p11.c) (.slice q12.a q12.n q12.c) := by
      have h := Pair.new (w14.alloc (.cells #[.slice p9.a p9.n p9.c, .slice q10.a q10.n q10.c] 29)) 32 (.slice p11.a p11.n p11.c) (.slice q12.a q12.n q12.c)
      simpa only [World.size_alloc] using h
    clear hb
    have c0P1 := P1.c0
    have c1P1 := P1.c1
    have c0P2 := P2.c0
    have c1P2 := P2.c1
    have c0P3 := P3.c0
    have c1P3 := P3.c1
    have c0P15 := P15.c0
    have c1P15 := P15.c1
    have c0P16 := P16.c0
    have c1P16 := P16.c1
    have H21 := Lib.hid (both_any A2 B2 m2 d2 ((w14.alloc (.cells #[.slice p9.a p9.n p9.c, .slice q10.a q10.n q10.c] 29)).alloc (.cells #[.slice p11.a p11.n p11.c, .slice q12.a q12.n q12.c] 32)) hA2 hD2 (by omega) (by omega) HD2)
    go_wp2_with fail
    clear c0P1 c1P1 c0P2 c1P2 c0P3 c1P3 c0P15 c1P15 c0P16 c1P16
    refine H21.out.mono ?_
    rintro e w22 ⟨p17, q18, p19, q20, rfl, rp17, rp19, hb⟩
    clear H21
    replace P1 := P1.below hb
    replace P2 := P2.below hb
    replace P3 := P3.below hb
    replace P15 := P15.below hb
    replace P16 := P16.below hb
    replace ha := ha.below hb
    replace hc := hc.below hb
    replace rp9 := rp9.below hb
    replace rp11 := rp11.below hb
    replace hB := hB.trans (hb.mono hB.size)
    clear hb
    have hb : Below w22.heap.size w22 ((w22.alloc (.cells #[.slice p17.a p17.n p17.c, .slice q18.a q18.n q18.c] 29)).alloc (.cells #[.slice p19.a p19.n p19.c, .slice q20.a q20.n q20.c] 32)) := (((Below.refl _ _).alloc (Nat.le_refl _) _).alloc (by simp) _)
    replace P1 := P1.below hb
    replace P2 := P2.below hb
    replace P3 := P3.below hb
    replace P15 := P15.below hb
    replace P16 := P16.below hb
    replace ha := ha.below hb
    replace hc := hc.below hb
    replace rp9 := rp9.below hb
    replace rp11 := rp11.below hb
    replace rp17 := rp17.below hb
    replace rp19 := rp19.below hb
    replace hB := hB.trans (hb.mono hB.size)
    have P23 : Pair ((w22.alloc (.cells #[.slice p17.a p17.n p17.c, .slice q18.a q18.n q18.c] 29)).alloc (.cells #[.slice p19.a p19.n p19.c, .slice q20.a q20.n q20.c] 32)) (w22.heap.size) 29 (.slice p17.a p17.n p17.c) (.slice q18.a q18.n q18.c) := by
      have h := (Pair.new w22 29 (.slice p17.a p17.n p17.c) (.slice q18.a q18.n q18.c)).alloc (.cells #[.slice p19.a p19.n p19.c, .slice q20.a q20.n q20.c] 32)
      simpa only [World.size_alloc] using h
    have P24 : Pair ((w22.alloc (.cells #[.slice p17.a p17.n p17.c, .slice q18.a q18.n q18.c] 29)).alloc (.cells #[.slice p19.a p19.n p19.c, .slice q20.a q20.n q20.c] 32)) (w22.heap.size + 1) 32 (.slice p19.a p19.n p19.c) (.slice q20.a q20.n q20.c) := by
      have h := Pair.new (w22.alloc (.cells #[.slice p17.a p17.n p17.c, .slice q18.a q18.n q18.c] 29)) 32 (.slice p19.a p19.n p19.c) (.slice q20.a q20.n q20.c)
      simpa only [World.size_alloc] using h
    clear hb
    have c0P1 := P1.c0
    have c1P1 := P1.c1
    have c0P2 := P2.c0
    have c1P2 := P2.c1
    have c0P3 := P3.c0
    have c1P3 := P3.c1
    have c0P15 := P15.c0
    have c1P15 := P15.c1
    have c0P16 := P16.c0
    have c1P16 := P16.c1
    have c0P23 := P23.c0
    have c1P23 := P23.c1
    have c0P24 := P24.c0
    have c1P24 := P24.c1
    have H25 := Lib.hid (Fill_good p9 q10 ⟨aa, ks.length, al⟩ ⟨ba, ks.length, bl⟩ (rat m d) ks d ((w22.alloc (.cells #[.slice p17.a p17.n p17.c, .slice q18.a q18.n q18.c] 29)).alloc (.cells #[.slice p19.a p19.n p19.c, .slice q20.a q20.n q20.c] 32)) rp9 ha hc (by omega) HKK HF HX HE)
    go_wp2_with fail
    clear c0P1 c1P1 c0P2 c1P2 c0P3 c1P3 c0P15 c1P15 c0P16 c1P16 c0P23 c1P23 c0P24 c1P24
    refine H25.out.mono ?_
    rintro e w26 ⟨v1, rfl, hv1, hb⟩
    clear H25
    replace P1 := P1.below hb
    replace P2 := P2.below hb
    replace P3 := P3.below hb
    replace P15 := P15.below hb
    replace P16 := P16.below hb
    replace P23 := P23.below hb
    replace P24 := P24.below hb
    replace ha := ha.below hb
    replace hc := hc.below hb
    replace rp9 := rp9.below hb
    replace rp11 := rp11.below hb
    replace rp17 := rp17.below hb
    replace rp19 := rp19.below hb
    replace hB := hB.trans (hb.mono hB.size)
    clear hb
    have c0P1 := P1.c0
    have c1P1 := P1.c1
    have c0P2 := P2.c0
    have c1P2 := P2.c1
    have c0P3 := P3.c0
    have c1P3 := P3.c1
    have c0P15 := P15.c0
    have c1P15 := P15.c1
    have c0P16 := P16.c0
    have c1P16 := P16.c1
    have c0P23 := P23.c0
    have c1P23 := P23.c1
    have c0P24 := P24.c0
    have c1P24 := P24.c1
    have H29 := Lib.hid (Qadd p9 q10 p17 q18 (rat m d) (rat m2 d2) w26 rp9 rp17 HSZ.out )
    go_wp2_with fail
    clear c0P1 c1P1 c0P2 c1P2 c0P3 c1P3 c0P15 c1P15 c0P16 c1P16 c0P23 c1P23 c0P24 c1P24
    refine H29.out.mono ?_
    rintro e w30 ⟨x27, y28, rfl, rx27, hb⟩
    clear H29
    replace P1 := P1.below hb
    replace P2 := P2.below hb
    replace P3 := P3.below hb
    replace P15 := P15.below hb
    replace P16 := P16.below hb
    replace P23 := P23.below hb
    replace P24 := P24.below hb
    replace ha := ha.below hb
    replace hc := hc.below hb
    replace rp9 := rp9.below hb
    replace rp11 := rp11.below hb
    replace rp17 := rp17.below hb
    replace rp19 := rp19.below hb
    replace hv1 := hv1.below hb
    replace hB := hB.trans (hb.mono hB.size)
    clear hb
    have c0P1 := P1.c0
    have c1P1 := P1.c1
    have c0P2 := P2.c0
    have c1P2 := P2.c1
    have c0P3 := P3.c0
    have c1P3 := P3.c1
    have c0P15 := P15.c0
    have c1P15 := P15.c1
    have c0P16 := P16.c0
    have c1P16 := P16.c1
    have c0P23 := P23.c0
    have c1P23 := P23.c1
    have c0P24 := P24.c0
    have c1P24 := P24.c1
    have H31 := Lib.hid (Fill_good x27 y28 ⟨aa, ks.length, al⟩ ⟨ba, ks.length, bl⟩ (rat m d + rat m2 d2) ks (d * d2) w30 rx27 ha hc (by omega) HKK HF2 HX2 HE2)
    go_wp2_with fail
    clear c0P1 c1P1 c0P2 c1P2 c0P3 c1P3 c0P15 c1P15 c0P16 c1P16 c0P23 c1P23 c0P24 c1P24
    refine H31.out.mono ?_
    rintro e w32 ⟨v2, rfl, hv2, hb⟩
    clear H31
    replace P1 := P1.below hb
    replace P2 := P2.below hb
    replace P3 := P3.below hb
    replace P15 := P15.below hb
    replace P16 := P16.below hb
    replace P23 := P23.below hb
    replace P24 := P24.below hb
    replace ha := ha.below hb
    replace hc := hc.below hb
    replace rp9 := rp9.below hb
    replace rp11 := rp11.below hb
    replace rp17 := rp17.below hb
    replace rp19 := rp19.below hb
    replace hv1 := hv1.below hb
    replace rx27 := rx27.below hb
    replace hB := hB.trans (hb.mono hB.size)
    clear hb
    have c0P1 := P1.c0
    have c1P1 := P1.c1
    have c0P2 := P2.c0
    have c1P2 := P2.c1
    have c0P3 := P3.c0
    have c1P3 := P3.c1
    have c0P15 := P15.c0
    have c1P15 := P15.c1
    have c0P16 := P16.c0
    have c1P16 := P16.c1
    have c0P23 := P23.c0
    have c1P23 := P23.c1
    have c0P24 := P24.c0
    have c1P24 := P24.c1
    have H35 := Lib.hid (Level_good p9 q10 ⟨aa, ks.length, al⟩ ⟨ba, ks.length, bl⟩ (rat m d) ks d w32 rp9 ha hc (by omega) HKK HF HX HE)
    go_wp2_with fail
    clear c0P1 c1P1 c0P2 c1P2 c0P3 c1P3 c0P15 c1P15 c0P16 c1P16 c0P23 c1P23 c0P24 c1P24
    refine H35.out.mono ?_
    rintro e w36 ⟨x33, y34, rfl, rx33, hb⟩
    clear H35
    replace P1 := P1.below hb
    replace P2 := P2.below hb
    replace P3 := P3.below hb
    replace P15 := P15.below hb
    replace P16 := P16.below hb
    replace P23 := P23.below hb
    replace P24 := P24.below hb
    replace ha := ha.below hb
    replace hc := hc.below hb
    replace rp9 := rp9.below hb
    replace rp11 := rp11.below hb
    replace rp17 := rp17.below hb
    replace rp19 := rp19.below hb
    replace hv1 := hv1.below hb
    replace rx27 := rx27.below hb
    replace hv2 := hv2.below hb
    replace hB := hB.trans (hb.mono hB.size)
    clear hb
    have hb : Below w36.heap.size w36 (w36.alloc (.cells #[.slice x33.a x33.n x33.c, .slice y34.a y34.n y34.c] 29)) := ((Below.refl _ _).alloc (Nat.le_refl _) _)
    replace P1 := P1.below hb
    replace P2 := P2.below hb
    replace P3 := P3.below hb
    replace P15 := P15.below hb
    replace P16 := P16.below hb
    replace P23 := P23.below hb
    replace P24 := P24.below hb
    replace ha := ha.below hb
    replace hc := hc.below hb
    replace rp9 := rp9.below hb
    replace rp11 := rp11.below hb
    replace rp17 := rp17.below hb
    replace rp19 := rp19.below hb
    replace hv1 := hv1.below hb
    replace rx27 := rx27.below hb
    replace hv2 := hv2.below hb
    replace rx33 := rx33.below hb
    replace hB := hB.trans (hb.mono hB.size)
    have P37 : Pair (w36.alloc (.cells #[.slice x33.a x33.n x33.c, .slice y34.a y34.n y34.c] 29)) (w36.heap.size) 29 (.slice x33.a x33.n x33.c) (.slice y34.a y34.n y34.c) := by
      have h := Pair.new w36 29 (.slice x33.a x33.n x33.c) (.slice y34.a y34.n y34.c)
      simpa only [World.size_alloc] using h
    clear hb
    have c0P1 := P1.c0
    have c1P1 := P1.c1
    have c0P2 := P2.c0
    have c1P2 := P2.c1
    have c0P3 := P3.c0
    have c1P3 := P3.c1
    have c0P15 := P15.c0
    have c1P15 := P15.c1
    have c0P16 := P16.c0
    have c1P16 := P16.c1
    have c0P23 := P23.c0
    have c1P23 := P23.c1
    have c0P24 := P24.c0
    have c1P24 := P24.c1
    have c0P37 := P37.c0
    have c1P37 := P37.c1
    have H40 := Lib.hid (Qadd p9 q10 p17 q18 (rat m d) (rat m2 d2) (w36.alloc (.cells #[.slice x33.a x33.n x33.c, .slice y34.a y34.n y34.c] 29)) rp9 rp17 HSZ.out )
    go_wp2_with fail
    clear c0P1 c1P1 c0P2 c1P2 c0P3 c1P3 c0P15 c1P15 c0P16 c1P16 c0P23 c1P23 c0P24 c1P24 c0P37 c1P37
    refine H40.out.mono ?_
    rintro e w41 ⟨x38, y39, rfl, rx38, hb⟩
    clear H40
    replace P1 := P1.below hb
    replace P2 := P2.below hb
    replace P3 := P3.below hb
    replace P15 := P15.below hb
    replace P16 := P16.below hb
    replace P23 := P23.below hb
    replace P24 := P24.below hb
    replace P37 := P37.below hb
    replace ha := ha.below hb
    replace hc := hc.below hb
    replace rp9 := rp9.below hb
    replace rp11 := rp11.below hb
    replace rp17 := rp17.below hb
    replace rp19 := rp19.below hb
    replace hv1 := hv1.below hb
    replace rx27 := rx27.below hb
    replace hv2 := hv2.below hb
    replace rx33 := rx33.below hb
    replace hB := hB.trans (hb.mono hB.size)
    clear hb
    have c0P1 := P1.c0
    have c1P1 := P1.c1
    have c0P2 := P2.c0
    have c1P2 := P2.c1
    have c0P3 := P3.c0
    have c1P3 := P3.c1
    have c0P15 := P15.c0
    have c1P15 := P15.c1
    have c0P16 := P16.c0
    have c1P16 := P16.c1
    have c0P23 := P23.c0
    have c1P23 := P23.c1
    have c0P24 := P24.c0
    have c1P24 := P24.c1
    have c0P37 := P37.c0
    have c1P37 := P37.c1
    have H44 := Lib.hid (Level_good x38 y39 ⟨aa, ks.length, al⟩ ⟨ba, ks.length, bl⟩ (rat m d + rat m2 d2) ks (d * d2) w41 rx38 ha hc (by omega) HKK HF2 HX2 HE2)
    go_wp2_with fail
    clear c0P1 c1P1 c0P2 c1P2 c0P3 c1P3 c0P15 c1P15 c0P16 c1P16 c0P23 c1P23 c0P24 c1P24 c0P37 c1P37
    refine H44.out.mono ?_
    rintro e w45 ⟨x42, y43, rfl, rx42, hb⟩
    clear H44
    replace P1 := P1.below hb
    replace P2 := P2.below hb
    replace P3 := P3.below hb
    replace P15 := P15.below hb
    replace P16 := P16.below hb
    replace P23 := P23.below hb
    replace P24 := P24.below hb
    replace P37 := P37.below hb
    replace ha := ha.below hb
    replace hc := hc.below hb
    replace rp9 := rp9.below hb
    replace rp11 := rp11.below hb
    replace rp17 := rp17.below hb
    replace rp19 := rp19.below hb
    replace hv1 := hv1.below hb
    replace rx27 := rx27.below hb
    replace hv2 := hv2.below hb
    replace rx33 := rx33.below hb
    replace rx38 := rx38.below hb
    replace hB := hB.trans (hb.mono hB.size)
    clear hb
    have hb : Below w45.heap.size w45 (w45.alloc (.cells #[.slice x42.a x42.n x42.c, .slice y43.a y43.n y43.c] 29)) := ((Below.refl _ _).alloc (Nat.le_refl _) _)
    replace P1 := P1.below hb
    replace P2 := P2.below hb
    replace P3 := P3.below hb
    replace P15 := P15.below hb
    replace P16 := P16.below hb
    replace P23 := P23.below hb
    replace P24 := P24.below hb
    replace P37 := P37.below hb
    replace ha := ha.below hb
    replace hc := hc.below hb
    replace rp9 := rp9.below hb
    replace rp11 := rp11.below hb
    replace rp17 := rp17.below hb
    replace rp19 := rp19.below hb
    replace hv1 := hv1.below hb
    replace rx27 := rx27.below hb
    replace hv2 := hv2.below hb
    replace rx33 := rx33.below hb
    replace rx38 := rx38.below hb
    replace rx42 := rx42.below hb
    replace hB := hB.trans (hb.mono hB.size)
    have P46 : Pair (w45.alloc (.cells #[.slice x42.a x42.n x42.c, .slice y43.a y43.n y43.c] 29)) (w45.heap.size) 29 (.slice x42.a x42.n x42.c) (.slice y43.a y43.n y43.c) := by
      have h := Pair.new w45 29 (.slice x42.a x42.n x42.c) (.slice y43.a y43.n y43.c)
      simpa only [World.size_alloc] using h
    clear hb
    clear P1 P2 P3 P15 P16 P23 P24 ha hc rp9 rp11 rp17 rp19 rx27 rx38
    obtain ⟨vad, vcap, rfl⟩ := hv1.cut
    obtain ⟨wad, wcap, rfl⟩ := hv2.cut
    have c0P37 := P37.c0
    have c1P37 := P37.c1
    have c0P46 := P46.c0
    have c1P46 := P46.c1
    go_wp2_with fail
    clear c0P37 c1P37 c0P46 c1P46
    refine (?_ : ∀ (z0 z1 z2 z3 z4 z5 z8 z9 z10 z11 z12 z14 z16 z18 z20 z21 z22 z23 z24 z25 z26 z27 z28 z29 z30 z31 z32 z33 z34 z35 z36 z37 z38 z39 z40 z41 z42 z43 z44 z45 z46 z47 z48 z49 z50 z51 z52 z53 z54 z55 z56 z57 z58 z59 z60 z61 z62 z63 z64 z65 z66 z67 z68 z69 z70 z71 z72 z73 z74 z75 z76 z77 z78 z79 z80 z81 z82 z83 z84 z85 z86 z87 z88 z89 z90 z91 z92 z93 z94 z95 z96 z97 z98 z99 z100 z101 z102 z103 z104 z105 z106 z107 z110 z111 z112 z113 z114 z115 z116 z117 z118 z119 z120 z121 z122 z123 z124 z125 z126 z127 z128 z129 z130 z131 z132 z133 z134 z135 z136 z137 z138 z139 : Value), Code.wp _ _ _ { tmps := List.toArray (z0 :: z1 :: z2 :: z3 :: z4 :: z5 :: .bool false :: .slice aa ks.length al :: z8 :: z9 :: z10 :: z11 :: z12 :: .slice vad ks.length vcap :: z14 :: .slice wad ks.length wcap :: z16 :: .pointer (some ⟨w36.heap.size, 0, none⟩) :: z18 :: .pointer (some ⟨w45.heap.size, 0, none⟩) :: z20 :: z21 :: z22 :: z23 :: z24 :: z25 :: z26 :: z27 :: z28 :: z29 :: z30 :: z31 :: z32 :: z33 :: z34 :: z35 :: z36 :: z37 :: z38 :: z39 :: z40 :: z41 :: z42 :: z43 :: z44 :: z45 :: z46 :: z47 :: z48 :: z49 :: z50 :: z51 :: z52 :: z53 :: z54 :: z55 :: z56 :: z57 :: z58 :: z59 :: z60 :: z61 :: z62 :: z63 :: z64 :: z65 :: z66 :: z67 :: z68 :: z69 :: z70 :: z71 :: z72 :: z73 :: z74 :: z75 :: z76 :: z77 :: z78 :: z79 :: z80 :: z81 :: z82 :: z83 :: z84 :: z85 :: z86 :: z87 :: z88 :: z89 :: z90 :: z91 :: z92 :: z93 :: z94 :: z95 :: z96 :: z97 :: z98 :: z99 :: z100 :: z101 :: z102 :: z103 :: z104 :: z105 :: z106 :: z107 :: .int .i64 (ks.length : Int) :: .int .i64 0 :: z110 :: z111 :: z112 :: z113 :: z114 :: z115 :: z116 :: z117 :: z118 :: z119 :: z120 :: z121 :: z122 :: z123 :: z124 :: z125 :: z126 :: z127 :: z128 :: z129 :: z130 :: z131 :: z132 :: z133 :: z134 :: z135 :: z136 :: z137 :: z138 :: z139 :: []), defers := [] } _) _ _ _ _ _ _ _ _ _ _ _ _ _ _ _ _ _ _ _ _ _ _ _ _ _ _ _ _ _ _ _ _ _ _ _ _ _ _ _ _ _ _ _ _ _ _ _ _ _ _ _ _ _ _ _ _ _ _ _ _ _ _ _ _ _ _ _ _ _ _ _ _ _ _ _ _ _ _ _ _ _ _ _ _ _ _ _ _ _ _ _ _ _ _ _ _ _ _ _ _ _ _ _ _ _ _ _ _ _ _ _ _ _ _ _ _ _ _ _ _ _ _ _ _ _ _ _ _ _ _ _ _
    intro z0 z1 z2 z3 z4 z5 z8 z9 z10 z11 z12 z14 z16 z18 z20 z21 z22 z23 z24 z25 z26 z27 z28 z29 z30 z31 z32 z33 z34 z35 z36 z37 z38 z39 z40 z41 z42 z43 z44 z45 z46 z47 z48 z49 z50 z51 z52 z53 z54 z55 z56 z57 z58 z59 z60 z61 z62 z63 z64 z65 z66 z67 z68 z69 z70 z71 z72 z73 z74 z75 z76 z77 z78 z79 z80 z81 z82 z83 z84 z85 z86 z87 z88 z89 z90 z91 z92 z93 z94 z95 z96 z97 z98 z99 z100 z101 z102 z103 z104 z105 z106 z107 z110 z111 z112 z113 z114 z115 z116 z117 z118 z119 z120 z121 z122 z123 z124 z125 z126 z127 z128 z129 z130 z131 z132 z133 z134 z135 z136 z137 z138 z139
    go_loopw [109] (fun i wr => ∃ k : Nat, k ≤ ks.length ∧ i = .int .i64 (k : Int) ∧ Hid (Pair wr (w36.heap.size) 29 (.slice x33.a x33.n x33.c) (.slice y34.a y34.n y34.c)) ∧ Hid (Pair wr (w45.heap.size) 29 (.slice x42.a x42.n x42.c) (.slice y43.a y43.n y43.c)) ∧ Hid (RowQ wr (.slice vad ks.length vcap) (ks.map (given (docLevel (rat m d) ks)))) ∧ Hid (RowQ wr (.slice wad ks.length wcap) (ks.map (given (docLevel (rat m d + rat m2 d2) ks)))) ∧ Hid (RQ wr x33 y34 (docLevel (rat m d) ks)) ∧ Hid (RQ wr x42 y43 (docLevel (rat m d + rat m2 d2) ks)) ∧ Hid (Below w.heap.size w wr)) (fun mi _ => ks.length - (intOf mi).toNat)
    case atStart => exact ⟨0, Nat.zero_le _, rfl, Lib.hid P37, Lib.hid P46, Lib.hid hv1, Lib.hid hv2, Lib.hid rx33, Lib.hid rx42, Lib.hid hB⟩
    case round =>
      clear P37 P46 hv1 hv2 rx33 rx42 hB
      obtain ⟨i, hi, rfl, HP37, HP46, Hhv1, Hhv2, Hrx33, Hrx42, HBB⟩ := hrel
      have P37 := HP37.out
      have P46 := HP46.out
      have hv1 := Hhv1.out
      have hv2 := Hhv2.out
      have rx33 := Hrx33.out
      have rx42 := Hrx42.out
      have hB := HBB.out
      clear HP37 HP46 Hhv1 Hhv2 Hrx33 Hrx42 HBB
      by_cases hlt : i < ks.length
      · skip
        obtain ⟨VB, vc2, ev, p, q, sc, hq⟩ := hv1.at hlt
        injection ev with ev1 ev2 ev3
        subst ev1 ev3
        clear ev2
        obtain ⟨WB, wc2, ev, p2, q2, sd, hq2⟩ := hv2.at hlt
        injection ev with ev1 ev2 ev3
        subst ev1 ev3
        clear ev2
        have HGV : Hid (given (docLevel (rat m d) ks) (ks.getD i (0, 0)) ≤ given (docLevel (rat m d + rat m2 d2) ks) (ks.getD i (0, 0))) := Lib.hid (HLM.out.2 _ (kget_mem hlt))
        generalize given (docLevel (rat m d) ks) (ks.getD i (0, 0)) = g1 at hq HGV
        generalize given (docLevel (rat m d + rat m2 d2) ks) (ks.getD i (0, 0)) = g2 at hq2 HGV
        have c0P37 := P37.c0
        have c1P37 := P37.c1
        have c0P46 := P46.c0
        have c1P46 := P46.c1
        go_wp2_with fail
        clear c0P37 c1P37 c0P46 c1P46
        have hb : Below wr.heap.size wr wr.drew := (Below.refl _ _).drew
        replace P37 := P37.below hb
        replace P46 := P46.below hb
        replace hv1 := hv1.below hb
        replace hv2 := hv2.below hb
        replace rx33 := rx33.below hb
        replace rx42 := rx42.below hb
        replace hq := hq.below hb
        replace hq2 := hq2.below hb
        replace sc := sc.below hb
        replace sd := sd.below hb
        replace hB := hB.trans (hb.mono hB.size)
        clear hb
        refine Rd.regionT (fun X => Pair X (w36.heap.size) 29 (.slice x33.a x33.n x33.c) (.slice y34.a y34.n y34.c) ∧ Pair X (w45.heap.size) 29 (.slice x42.a x42.n x42.c) (.slice y43.a y43.n y43.c) ∧ SC X VB i p q ∧ SC X WB i p2 q2) [0, 1, 2, 3, 4, 5, 6, 7, 8, 9, 10, 11, 12, 14, 15] (.one 0 (.one 1 (.one 2 (.one 3 (.one 4 (.one 5 (.one 6 (.one 7 (.one 8 (.one 9 (.one 10 (.one 11 (.one 12 (.one 13 (.one 14 (.one 15 .done)))))))))))))))) (fun ac W => ∃ (T : Bool) (y112 y113 y114 y115 y116 y117 y118 y119 y120 y121 y122 y123 y124 y125 y126 : Value), ac = { tmps := List.toArray (z0 :: z1 :: z2 :: z3 :: z4 :: z5 :: u6 :: .slice aa ks.length al :: z8 :: z9 :: z10 :: z11 :: z12 :: .slice (some ⟨VB, 0, none⟩) ks.length vcap :: z14 :: .slice (some ⟨WB, 0, none⟩) ks.length wcap :: z16 :: .pointer (some ⟨w36.heap.size, 0, none⟩) :: z18 :: .pointer (some ⟨w45.heap.size, 0, none⟩) :: z20 :: .int .i64 (i : Int) :: z22 :: z23 :: z24 :: z25 :: z26 :: z27 :: z28 :: z29 :: z30 :: z31 :: z32 :: z33 :: z34 :: z35 :: z36 :: z37 :: z38 :: z39 :: z40 :: z41 :: z42 :: z43 :: z44 :: z45 :: z46 :: z47 :: z48 :: z49 :: z50 :: z51 :: z52 :: z53 :: z54 :: z55 :: z56 :: z57 :: z58 :: z59 :: z60 :: z61 :: z62 :: z63 :: z64 :: z65 :: z66 :: z67 :: z68 :: z69 :: z70 :: z71 :: z72 :: z73 :: z74 :: z75 :: z76 :: z77 :: z78 :: z79 :: z80 :: z81 :: z82 :: z83 :: z84 :: z85 :: z86 :: z87 :: z88 :: z89 :: z90 :: z91 :: z92 :: z93 :: z94 :: z95 :: z96 :: z97 :: z98 :: z99 :: z100 :: z101 :: z102 :: z103 :: z104 :: z105 :: z106 :: z107 :: .int .i64 (ks.length : Int) :: .int .i64 (i : Int) :: .bool true :: .int .i64 (i : Int) :: y112 :: y113 :: y114 :: y115 :: y116 :: y117 :: y118 :: y119 :: y120 :: y121 :: y122 :: y123 :: y124 :: y125 :: y126 :: .bool T :: u128 :: z129 :: z130 :: z131 :: z132 :: z133 :: z134 :: z135 :: z136 :: z137 :: z138 :: z139 :: []), defers := [] } ∧ Pair W (w36.heap.size) 29 (.slice x33.a x33.n x33.c) (.slice y34.a y34.n y34.c) ∧ Pair W (w45.heap.size) 29 (.slice x42.a x42.n x42.c) (.slice y43.a y43.n y43.c) ∧ RowQ W (.slice (some ⟨VB, 0, none⟩) ks.length vcap) (ks.map (given (docLevel (rat m d) ks))) ∧ RowQ W (.slice (some ⟨WB, 0, none⟩) ks.length wcap) (ks.map (given (docLevel (rat m d + rat m2 d2) ks))) ∧ RQ W x33 y34 (docLevel (rat m d) ks) ∧ RQ W x42 y43 (docLevel (rat m d + rat m2 d2) ks) ∧ RQ W p q (g1) ∧ RQ W p2 q2 (g2) ∧ SC W VB i p q ∧ SC W WB i p2 q2 ∧ T = decide (g2 < g1) ∧ Below w.heap.size w W) (by kernel_rfl) (by kernel_rfl) (by kernel_rfl) ⟨P37, P46, sc, sd⟩ ?tree ?next
        case tree =>
          generalize wr.drew = w47 at P37 P46 hv1 hv2 rx33 rx42 hq hq2 sc sd hB ⊢
          refine Rd.tr_float (.int .i64 (i : Int)) (by simp only [List.getElem?_toArray, List.getElem?_cons_zero]; rfl) rfl (by rfl) (fun X _ => by go_simp) ?_
          simp only [Act.put, List.setIfInBounds_toArray, List.set_cons_succ, List.set_cons_zero]
          refine Rd.tr_float (.slice (some ⟨WB, 0, none⟩) ks.length wcap) (by simp only [List.getElem?_toArray, List.getElem?_cons_succ, List.getElem?_cons_zero]; rfl) rfl (by rfl) (fun X _ => by go_simp) ?_
          simp only [Act.put, List.setIfInBounds_toArray, List.set_cons_succ, List.set_cons_zero]
          refine Rd.tr_float (.int .i64 (ks.length : Int)) (by simp only [List.getElem?_toArray, List.getElem?_cons_succ, List.getElem?_cons_zero]; rfl) rfl (by rfl) (fun X _ => by go_simp) ?_
          simp only [Act.put, List.setIfInBounds_toArray, List.set_cons_succ, List.set_cons_zero]
          refine Rd.tr_float (.bool false) (by simp only [List.getElem?_toArray, List.getElem?_cons_succ, List.getElem?_cons_zero]; rfl) rfl (by rfl) (fun X _ => by have hO : ¬ ks.length ≤ i := (by omega); go_simp) ?_
          simp only [Act.put, List.setIfInBounds_toArray, List.set_cons_succ, List.set_cons_zero]
          refine Rd.tr_float (.bool false) (by simp only [List.getElem?_toArray, List.getElem?_cons_succ, List.getElem?_cons_zero]; rfl) rfl (by rfl) (fun X _ => by go_simp) ?_
          simp only [Act.put, List.setIfInBounds_toArray, List.set_cons_succ, List.set_cons_zero]
          refine Rd.tr_float (.slice (some ⟨VB, 0, none⟩) ks.length vcap) (by simp only [List.getElem?_toArray, List.getElem?_cons_succ, List.getElem?_cons_zero]; rfl) rfl (by rfl) (fun X _ => by go_simp) ?_
          simp only [Act.put, List.setIfInBounds_toArray, List.set_cons_succ, List.set_cons_zero]
          refine Rd.tr_float (.int .i64 (i : Int)) (by simp only [List.getElem?_toArray, List.getElem?_cons_succ, List.getElem?_cons_zero]; rfl) rfl (by rfl) (fun X _ => by go_simp) ?_
          simp only [Act.put, List.setIfInBounds_toArray, List.set_cons_succ, List.set_cons_zero]
          refine Rd.tr_float (.pointer (some ⟨VB, i * 2, none⟩)) (by simp only [List.getElem?_toArray, List.getElem?_cons_succ, List.getElem?_cons_zero]; rfl) rfl (by rfl) (fun X _ => by go_simp) ?_
          simp only [Act.put, List.setIfInBounds_toArray, List.set_cons_succ, List.set_cons_zero]
          refine Rd.tr_float (.agg #[.slice p.a p.n p.c, .slice q.a q.n q.c]) (by simp only [List.getElem?_toArray, List.getElem?_cons_succ, List.getElem?_cons_zero]; rfl) rfl (by rfl) (fun X hX => by have h0 := (hX.2.2.1).2.1; have h1 := (hX.2.2.1).2.2; go_simp) ?_
          simp only [Act.put, List.setIfInBounds_toArray, List.set_cons_succ, List.set_cons_zero]
          refine Rd.tr_float (.slice (some ⟨WB, 0, none⟩) ks.length wcap) (by simp only [List.getElem?_toArray, List.getElem?_cons_succ, List.getElem?_cons_zero]; rfl) rfl (by rfl) (fun X _ => by go_simp) ?_
          simp only [Act.put, List.setIfInBounds_toArray, List.set_cons_succ, List.set_cons_zero]
          refine Rd.tr_float (.int .i64 (i : Int)) (by simp only [List.getElem?_toArray, List.getElem?_cons_succ, List.getElem?_cons_zero]; rfl) rfl (by rfl) (fun X _ => by go_simp) ?_
          simp only [Act.put, List.setIfInBounds_toArray, List.set_cons_succ, List.set_cons_zero]
          refine Rd.tr_float (.pointer (some ⟨WB, i * 2, none⟩)) (by simp only [List.getElem?_toArray, List.getElem?_cons_succ, List.getElem?_cons_zero]; rfl) rfl (by rfl) (fun X _ => by go_simp) ?_
          simp only [Act.put, List.setIfInBounds_toArray, List.set_cons_succ, List.set_cons_zero]
          refine Rd.tr_float (.agg #[.slice p2.a p2.n p2.c, .slice q2.a q2.n q2.c]) (by simp only [List.getElem?_toArray, List.getElem?_cons_succ, List.getElem?_cons_zero]; rfl) rfl (by rfl) (fun X hX => by have h0 := (hX.2.2.2).2.1; have h1 := (hX.2.2.2).2.2; go_simp) ?_
          simp only [Act.put, List.setIfInBounds_toArray, List.set_cons_succ, List.set_cons_zero]
          refine Rd.tr_move (by simp only [List.getElem?_toArray, List.getElem?_cons_succ, List.getElem?_cons_zero]; rfl) rfl (by rfl) (fun K hK => ?_)
          have H48 := Lib.hid (Qcmp p q p2 q2 (g1) (g2) w47 hq hq2)
          go_simp
          refine H48.out.mono ?_
          rintro e w49 ⟨rfl, hb⟩
          clear H48
          replace P37 := P37.below hb
          replace P46 := P46.below hb
          replace hv1 := hv1.below hb
          replace hv2 := hv2.below hb
          replace rx33 := rx33.below hb
          replace rx42 := rx42.below hb
          replace hq := hq.below hb
          replace hq2 := hq2.below hb
          replace sc := sc.below hb
          replace sd := sd.below hb
          replace hB := hB.trans (hb.mono hB.size)
          clear hb
          refine hK _ _ ⟨P37, P46, sc, sd⟩ ?_
          clear hK K
          refine Rd.tr_float (.bool (decide (0 < (cmpQ (g1) (g2))))) (by simp only [List.getElem?_toArray, List.getElem?_cons_succ, List.getElem?_cons_zero]; rfl) rfl (by rfl) (fun X _ => by go_simp) ?_
          simp only [Act.put, List.setIfInBounds_toArray, List.set_cons_succ, List.set_cons_zero]
          refine Rd.tr_float (.bool (decide (0 < (cmpQ (g1) (g2))))) (by simp only [List.getElem?_toArray, List.getElem?_cons_succ, List.getElem?_cons_zero]; rfl) rfl (by rfl) (fun X _ => by go_simp) ?_
          simp only [Act.put, List.setIfInBounds_toArray, List.set_cons_succ, List.set_cons_zero]
          exact Rd.tr_end (⟨_, _, _, _, _, _, _, _, _, _, _, _, _, _, _, _, rfl, P37, P46, hv1, hv2, rx33, rx42, hq, hq2, sc, sd, (by simp only [cmpQ_gt]), hB⟩)
        case next =>
          rintro a51 W50 ⟨T, y112, y113, y114, y115, y116, y117, y118, y119, y120, y121, y122, y123, y124, y125, y126, rfl, P37, P46, hv1, hv2, rx33, rx42, hq, hq2, sc, sd, hT, hB⟩
          rw [decide_eq_false (Rat.not_lt.2 HGV.out)] at hT
          subst hT
          go_wp2_with fail
          go_round
          case rel => exact ⟨i + 1, by omega, by go_num, Lib.hid P37, Lib.hid P46, Lib.hid hv1, Lib.hid hv2, Lib.hid rx33, Lib.hid rx42, Lib.hid hB⟩
          case measure => simp [intOf]; omega
      · skip
        have hle : cmpQ (docLevel (rat m d) ks) (docLevel (rat m d + rat m2 d2) ks) ≤ 0 := Int.not_lt.1 (fun h => Rat.not_lt.2 HLM.out.1 (cmpQ_gt.1 h))
        have c0P37 := P37.c0
        have c1P37 := P37.c1
        have c0P46 := P46.c0
        have c1P46 := P46.c1
        have H9 := Lib.hid (Qcmp x33 y34 x42 y43 _ _ wr rx33 rx42)
        go_wp2_with fail
        clear c0P37 c1P37 c0P46 c1P46
        refine H9.out.mono ?_
        rintro e w9 ⟨rfl, hb⟩
        replace hB := hB.trans (hb.mono hB.size)
        clear H9
        go_wp2_with fail
        go_ret
        exact ⟨rfl, hB⟩

theorem fillMore_any (A B A2 B2 : Int) (a b : Sl) (ws cs : List Int) (w : World) (ha : RI w a ws) (hc : RI w b cs) :
    Calls Tryz.prog 5 #[.agg #[.int .i64 A, .int .i64 B], .agg #[.int .i64 A2, .int .i64 B2], .agg #[.slice a.a a.n a.c, .slice b.a b.n b.c]] w fun e w' => e = .returned (.bool true) ∧ Below w.heap.size w w' := by
  by_cases n0 : (12 : Int) < (a.n : Int)
  · exact more_l0 A B A2 B2 a b ws cs w ha hc n0
  by_cases n1 : (12 : Int) < (b.n : Int)
  · exact more_l1 A B A2 B2 a b ws cs w ha hc n0 n1
  by_cases n2 : 1000000 < A
  · exact more_l2 A B A2 B2 a b ws cs w ha hc n0 n1 n2
  by_cases n3 : 1000000 < A2
  · exact more_l3 A B A2 B2 a b ws cs w ha hc n0 n1 n2 n3
  by_cases n4 : 1000000 < B
  · exact more_l4 A B A2 B2 a b ws cs w ha hc n0 n1 n2 n3 n4
  by_cases n5 : 1000000 < B2
  · exact more_l5 A B A2 B2 a b ws cs w ha hc n0 n1 n2 n3 n4 n5
  have ea := ha.len
  have ec := hc.len
  have hA : max A 0 = (((max A 0).toNat : Nat) : Int) := by omega
  have hD : max B 1 = (((max B 1).toNat : Nat) : Int) := by omega
  have hm : (max A 0).toNat ≤ 1000000 := by omega
  have hd : (max B 1).toNat ≤ 1000000 := by omega
  have HD0 : Hid ((max B 1).toNat ≠ 0) := Lib.hid (by omega)
  have hA2 : max A2 0 = (((max A2 0).toNat : Nat) : Int) := by omega
  have hD2 : max B2 1 = (((max B2 1).toNat : Nat) : Int) := by omega
  have hm2 : (max A2 0).toNat ≤ 1000000 := by omega
  have hd2 : (max B2 1).toNat ≤ 1000000 := by omega
  have HD2 : Hid ((max B2 1).toNat ≠ 0) := Lib.hid (by omega)
  generalize (max A 0).toNat = m at hA hm
  generalize (max B 1).toNat = d at hD hd HD0
  generalize (max A2 0).toNat = m2 at hA2 hm2
  generalize (max B2 1).toNat = d2 at hD2 hd2 HD2
  have hle : rat m d ≤ rat m d + rat m2 d2 := by have := rat_nonneg m2 d2; grind
  by_cases h0 : errOf (rat m d) ws cs = 0
  · by_cases h1 : errOf (rat m d + rat m2 d2) ws cs = 0
    · obtain ⟨ks, rfl, rfl, hk, hl, hx⟩ := err_kids h0
      obtain ⟨ks2, e1, e2, _, _, hx2⟩ := err_kids h1
      have e3 : ks2 = ks := (kids_eq e1 e2).symm
      subst e3
      exact more_good A B A2 B2 m d m2 d2 a b ks2 w ha hc hA hD hm hd HD0 hA2 hD2 hm2 hd2 HD2 n2 n3 n4 n5 (by rw [List.length_map] at ea; omega) (Lib.hid hk) (Lib.hid hx) (Lib.hid h0) (Lib.hid hx2) (Lib.hid h1)
    · obtain ⟨ks, rfl, rfl, hk, hl, hx⟩ := err_kids h0
      exact more_mix A B A2 B2 m d m2 d2 a b ks w ha hc hA hD hm hd HD0 hA2 hD2 hm2 hd2 HD2 n2 n3 n4 n5 (by rw [List.length_map] at ea; omega) (Lib.hid hk) (Lib.hid hx) (Lib.hid h0) _ h1 (by simpa using h1) (Lib.hid rfl)
  · have h1 := err_mono hle h0
    exact more_bad A B A2 B2 m d m2 d2 a b ws cs w ha hc hA hD hm hd HD0 hA2 hD2 hm2 hd2 HD2 n2 n3 n4 n5 (by omega) (by omega) _ h0 (by simpa using h0) (Lib.hid rfl) _ h1 (by simpa using h1) (Lib.hid rfl)
end Go.Proofs.YtphllajedkpcbaaGreatDoor
