/-
  FillScales: weights that are all so many times as great change nothing; of one child all that is shared is its. No condition.
-/
import Derived.Test.YtphllajedkpcbaaGreatDoorFn
namespace Go.Proofs.YtphllajedkpcbaaGreatDoor
open Go.RowKit Go.Dig Go.Shelf Go.Proofs Go.Rq

theorem Tryz.info3' : (Tryz.prog.info? 3).map (fun i => (i.zero, i.size, i.bytes)) = some (some (.int .i64 0), 1, 8) := by kernel_rfl
theorem RowI.of_owns {w : World} {B : Nat} {v : Value} {l : List Int} (h : w.ownsRow B 3 1 v l.length (l.map (Value.int .i64))) : RowI w v l := by
  rcases h.2 with ⟨rfl, h1⟩ | ⟨g, cap, cur, rfl, h2, h3⟩
  · have : l = [] := List.eq_nil_of_length_eq_zero h1
    subst this
    exact ⟨_, _, rfl, Nat.le_refl _, fun h => absurd rfl h⟩
  · refine ⟨_, cap, rfl, h3.2.1, fun _ => ⟨g, 0, rfl, (Array.getElem?_eq_some_iff.1 h3.1).1, fun j hj => ?_⟩⟩
    rw [Nat.zero_add, h.cellAt j (by omega)]
    simp [List.getD, hj]
theorem map_snoc {l : List Int} {k : Nat} (f : Int → Value) (h : k < l.length) : (l.take (k + 1)).map f = (l.take k).map f ++ [f (l.getD k 0)] := by
  rw [List.take_add_one, List.map_append]
  simp [List.getD_eq_getElem?_getD, List.getElem?_eq_getElem h]
theorem all_snoc {l : List Int} {k : Nat} {P : Int → Prop} (h : k < l.length) (ha : ∀ z ∈ l.take k, P z) (hz : P (l.getD k 0)) : ∀ z ∈ l.take (k + 1), P z := by
  intro z hm
  rw [List.take_add_one, List.mem_append] at hm
  rcases hm with hm | hm
  · exact ha z hm
  · simp [List.getElem?_eq_getElem h] at hm
    rw [hm]
    simpa [List.getD_eq_getElem?_getD, List.getElem?_eq_getElem h] using hz
theorem scaled_w {ws : List Int} {kk : Nat} (h1 : 1 ≤ kk) (h9 : kk ≤ 9) (h : ∀ z ∈ ws, 1 ≤ z ∧ z ≤ 1000) : ws.any noW = false ∧ (ws.map (· * (kk : Int))).any noW = false := by
  constructor
  · rw [List.any_eq_false]
    intro z hz
    have := h z hz
    simp [noW]
    omega
  · rw [List.any_eq_false]
    intro y hy
    obtain ⟨z, hz, rfl⟩ := List.mem_map.1 hy
    have h2 := h z hz
    have b2 : z * (kk : Int) ≤ 1000 * 9 := Int.mul_le_mul h2.2 (by omega) (by omega) (by omega)
    have b1 : 0 < z * (kk : Int) := Int.mul_pos (by omega) (by omega)
    simp [noW]
    omega
theorem err_scaled {ws cs : List Int} {kk : Nat} {x : Rat} (h1 : 1 ≤ kk) (h9 : kk ≤ 9) (h : ∀ z ∈ ws, 1 ≤ z ∧ z ≤ 1000) : errOf x (ws.map (· * (kk : Int))) cs = errOf x ws cs := by
  have hs := scaled_w h1 h9 h
  unfold errOf
  rw [List.length_map, hs.1, hs.2]
theorem times_w (kk : Nat) (ks : List Kid) : (ks.map fun k => (k.1 : Int)).map (· * (kk : Int)) = (times kk ks).map (fun k => (k.1 : Int)) := by
  unfold times
  simp [List.map_map, Function.comp_def]
theorem times_c (kk : Nat) (ks : List Kid) : (times kk ks).map (fun k => (k.2 : Int)) = ks.map (fun k => (k.2 : Int)) := by
  unfold times
  simp [List.map_map, Function.comp_def]
theorem times_caps (kk : Nat) : ∀ ks : List Kid, caps (times kk ks) = caps ks
  | [] => rfl
  | k :: ks => by
    have := times_caps kk ks
    unfold times at this ⊢
    rw [List.map_cons, caps, caps, this]
theorem times_given {kk : Nat} (hk : kk ≠ 0) {x : Rat} {ks : List Kid} (hg : Rq.Good ks) (hg2 : Rq.Good (times kk ks)) (h0 : 0 ≤ x) (hx : x ≤ ((caps ks : Nat) : Rat)) : (times kk ks).map (given (docLevel x (times kk ks))) = ks.map (given (docLevel x ks)) := by
  have e : docLevel x (times kk ks) = docLevel x ks / (kk : Rat) := (doc_level hg2 h0 (by rw [times_caps]; exact hx)).one (level_times hk (doc_level hg h0 hx))
  rw [e]
  unfold times
  rw [List.map_map]
  exact List.map_congr_left (fun k _ => given_times hk _ k)
theorem times_ok {kk : Nat} (h1 : 1 ≤ kk) (h9 : kk ≤ 9) {ks : List Kid} (h : ∀ k ∈ ks, okKid k) (hw : ∀ z ∈ (ks.map fun k => (k.1 : Int)), 1 ≤ z ∧ z ≤ 1000) : ∀ k ∈ times kk ks, okKid k := by
  intro j hj
  obtain ⟨k, hk, rfl⟩ := List.mem_map.1 hj
  have h2 := h k hk
  have h3 := hw _ (List.mem_map.2 ⟨k, hk, rfl⟩)
  have h4 : k.1 ≤ 1000 := by omega
  have h5 : k.1 * kk ≤ 1000 * 9 := Nat.mul_le_mul h4 h9
  exact ⟨Nat.mul_ne_zero h2.1 (by omega), by dsimp only; omega, h2.2.2⟩
set_option maxRecDepth 100000 in
set_option maxHeartbeats 4000000 in
theorem scales_l1 (A B : Int) (a b : Sl) (ws cs : List Int) (t : Nat) (_ht : t < 256) (w : World) (ha : RI w a ws) (hc : RI w b cs) (h : 12 < ws.length) :
    Calls Tryz.prog 7 #[.agg #[.int .i64 A, .int .i64 B], .agg #[.slice a.a a.n a.c, .slice b.a b.n b.c], .int .u8 (t : Int)] w fun e w' => e = .returned (.bool true) ∧ Below w.heap.size w w' := by
  have ea := ha.len
  have h1 : (12 : Int) < (a.n : Int) := by omega
  clear ea
  go_enter Tryz.func7, Tryz.ntmps7
  have hb : Below w.heap.size w ((w.alloc (.cells #[.int .i64 A, .int .i64 B] 23)).alloc (.cells #[.slice a.a a.n a.c, .slice b.a b.n b.c] 50)) := (((Below.refl _ _).alloc (Nat.le_refl _) _).alloc (by simp) _)
  replace ha := ha.below hb
  replace hc := hc.below hb
  have hB := hb
  have P1 : Pair ((w.alloc (.cells #[.int .i64 A, .int .i64 B] 23)).alloc (.cells #[.slice a.a a.n a.c, .slice b.a b.n b.c] 50)) (w.heap.size) 23 (.int .i64 A) (.int .i64 B) := by
    have h := (Pair.new w 23 (.int .i64 A) (.int .i64 B)).alloc (.cells #[.slice a.a a.n a.c, .slice b.a b.n b.c] 50)
    simpa only [World.size_alloc] using h
  have P2 : Pair ((w.alloc (.cells #[.int .i64 A, .int .i64 B] 23)).alloc (.cells #[.slice a.a a.n a.c, .slice b.a b.n b.c] 50)) (w.heap.size + 1) 50 (.slice a.a a.n a.c) (.slice b.a b.n b.c) := by
    have h := Pair.new (w.alloc (.cells #[.int .i64 A, .int .i64 B] 23)) 50 (.slice a.a a.n a.c) (.slice b.a b.n b.c)
    simpa only [World.size_alloc] using h
  clear hb
  have c0P1 := P1.c0
  have c1P1 := P1.c1
  have c0P2 := P2.c0
  have c1P2 := P2.c1
  go_wp2_with fail
  clear c0P1 c1P1 c0P2 c1P2
  have hb : Below ((w.alloc (.cells #[.int .i64 A, .int .i64 B] 23)).alloc (.cells #[.slice a.a a.n a.c, .slice b.a b.n b.c] 50)).heap.size ((w.alloc (.cells #[.int .i64 A, .int .i64 B] 23)).alloc (.cells #[.slice a.a a.n a.c, .slice b.a b.n b.c] 50)) ((w.alloc (.cells #[.int .i64 A, .int .i64 B] 23)).alloc (.cells #[.slice a.a a.n a.c, .slice b.a b.n b.c] 50)).drew := (Below.refl _ _).drew
  replace P1 := P1.below hb
  replace P2 := P2.below hb
  replace ha := ha.below hb
  replace hc := hc.below hb
  replace hB := hB.trans (hb.mono hB.size)
  clear hb
  refine Rd.regionT (fun X => Pair X (w.heap.size) 23 (.int .i64 A) (.int .i64 B) ∧ Pair X (w.heap.size + 1) 50 (.slice a.a a.n a.c) (.slice b.a b.n b.c)) [0, 1, 2, 3, 4, 5] (.one 0 (.one 1 (.one 2 (.one 3 (.one 4 (.one 5 .done)))))) (fun ac W => ∃  (y20 y21 y22 y23 : Value), ac = { tmps := List.toArray (.agg #[.int .i64 A, .int .i64 B] :: .agg #[.slice a.a a.n a.c, .slice b.a b.n b.c] :: .int .u8 (t : Int) :: .pointer (some ⟨w.heap.size, 0, none⟩) :: .pointer (some ⟨w.heap.size + 1, 0, none⟩) :: undef :: .bool false :: .slice a.a a.n a.c :: .slice b.a b.n b.c :: undef :: undef :: undef :: undef :: undef :: undef :: undef :: undef :: undef :: undef :: undef :: y20 :: y21 :: y22 :: y23 :: undef :: undef :: undef :: undef :: undef :: undef :: undef :: undef :: undef :: undef :: undef :: undef :: undef :: undef :: undef :: undef :: undef :: undef :: undef :: undef :: undef :: undef :: undef :: undef :: undef :: undef :: undef :: undef :: undef :: undef :: undef :: undef :: undef :: undef :: undef :: undef :: undef :: undef :: undef :: undef :: undef :: undef :: undef :: undef :: undef :: undef :: undef :: undef :: undef :: undef :: undef :: undef :: undef :: undef :: undef :: undef :: undef :: undef :: undef :: undef :: undef :: undef :: undef :: undef :: undef :: undef :: undef :: undef :: undef :: undef :: undef :: undef :: undef :: undef :: undef :: undef :: undef :: undef :: undef :: undef :: undef :: undef :: undef :: undef :: undef :: undef :: undef :: undef :: undef :: undef :: undef :: undef :: undef :: undef :: undef :: undef :: []), defers := [] } ∧ Pair W (w.heap.size) 23 (.int .i64 A) (.int .i64 B) ∧ Pair W (w.heap.size + 1) 50 (.slice a.a a.n a.c) (.slice b.a b.n b.c) ∧ RI W a ws ∧ RI W b cs ∧ Below w.heap.size w W) (by kernel_rfl) (by kernel_rfl) (by kernel_rfl) ⟨P1, P2⟩ ?tree ?next
  case tree =>
    generalize ((w.alloc (.cells #[.int .i64 A, .int .i64 B] 23)).alloc (.cells #[.slice a.a a.n a.c, .slice b.a b.n b.c] 50)).drew = w3 at P1 P2 ha hc hB ⊢
    refine Rd.tr_float (.pointer (some ⟨w.heap.size + 1, 0, none⟩)) (by simp only [List.getElem?_toArray, List.getElem?_cons_zero]; rfl) rfl (by rfl) (fun X _ => by go_simp) ?_
    simp only [Act.put, List.setIfInBounds_toArray, List.set_cons_succ, List.set_cons_zero]
    refine Rd.tr_float (.slice a.a a.n a.c) (by simp only [List.getElem?_toArray, List.getElem?_cons_succ, List.getElem?_cons_zero]; rfl) rfl (by rfl) (fun X hX => by have h0 := hX.2.c0; have h1 := hX.2.c1; go_simp) ?_
    simp only [Act.put, List.setIfInBounds_toArray, List.set_cons_succ, List.set_cons_zero]
    refine Rd.tr_float (.pointer (some ⟨w.heap.size + 1, 1, none⟩)) (by simp only [List.getElem?_toArray, List.getElem?_cons_succ, List.getElem?_cons_zero]; rfl) rfl (by rfl) (fun X _ => by go_simp) ?_
    simp only [Act.put, List.setIfInBounds_toArray, List.set_cons_succ, List.set_cons_zero]
    refine Rd.tr_float (.slice b.a b.n b.c) (by simp only [List.getElem?_toArray, List.getElem?_cons_succ, List.getElem?_cons_zero]; rfl) rfl (by rfl) (fun X hX => by have h0 := hX.2.c0; have h1 := hX.2.c1; go_simp) ?_
    simp only [Act.put, List.setIfInBounds_toArray, List.set_cons_succ, List.set_cons_zero]
    refine Rd.tr_float (.slice a.a a.n a.c) (by simp only [List.getElem?_toArray, List.getElem?_cons_succ, List.getElem?_cons_zero]; rfl) rfl (by rfl) (fun X _ => by go_simp) ?_
    simp only [Act.put, List.setIfInBounds_toArray, List.set_cons_succ, List.set_cons_zero]
    refine Rd.tr_float (.slice b.a b.n b.c) (by simp only [List.getElem?_toArray, List.getElem?_cons_succ, List.getElem?_cons_zero]; rfl) rfl (by rfl) (fun X _ => by go_simp) ?_
    simp only [Act.put, List.setIfInBounds_toArray, List.set_cons_succ, List.set_cons_zero]
    exact Rd.tr_end (⟨_, _, _, _, rfl, P1, P2, ha, hc, hB⟩)
  case next =>
    rintro a5 W4 ⟨y20, y21, y22, y23, rfl, P1, P2, ha, hc, hB⟩
    refine (?_ : ∀ (z0 z1 z4 z5 z9 z10 z11 z12 z13 z14 z15 z16 z17 z18 z19 z20 z21 z22 z23 z24 z25 z26 z27 z28 z29 z30 z31 z32 z33 z34 z35 z36 z37 z38 z39 z40 z41 z42 z43 z44 z45 z46 z47 z48 z49 z50 z51 z52 z53 z54 z55 z56 z57 z58 z59 z60 z61 z62 z63 z64 z65 z66 z67 z68 z69 z70 z71 z72 z73 z74 z75 z76 z77 z78 z79 z80 z81 z82 z83 z84 z85 z86 z87 z88 z89 z90 z91 z92 z93 z94 z95 z96 z97 z98 z99 z100 z101 z102 z103 z104 z105 z106 z107 z108 z109 z110 z111 z112 z113 z114 z115 z116 z117 z118 z119 : Value), Exit.then _ _ _ { tmps := List.toArray (z0 :: z1 :: .int .u8 (t : Int) :: .pointer (some ⟨w.heap.size, 0, none⟩) :: z4 :: z5 :: .bool false :: .slice a.a a.n a.c :: .slice b.a b.n b.c :: z9 :: z10 :: z11 :: z12 :: z13 :: z14 :: z15 :: z16 :: z17 :: z18 :: z19 :: z20 :: z21 :: z22 :: z23 :: z24 :: z25 :: z26 :: z27 :: z28 :: z29 :: z30 :: z31 :: z32 :: z33 :: z34 :: z35 :: z36 :: z37 :: z38 :: z39 :: z40 :: z41 :: z42 :: z43 :: z44 :: z45 :: z46 :: z47 :: z48 :: z49 :: z50 :: z51 :: z52 :: z53 :: z54 :: z55 :: z56 :: z57 :: z58 :: z59 :: z60 :: z61 :: z62 :: z63 :: z64 :: z65 :: z66 :: z67 :: z68 :: z69 :: z70 :: z71 :: z72 :: z73 :: z74 :: z75 :: z76 :: z77 :: z78 :: z79 :: z80 :: z81 :: z82 :: z83 :: z84 :: z85 :: z86 :: z87 :: z88 :: z89 :: z90 :: z91 :: z92 :: z93 :: z94 :: z95 :: z96 :: z97 :: z98 :: z99 :: z100 :: z101 :: z102 :: z103 :: z104 :: z105 :: z106 :: z107 :: z108 :: z109 :: z110 :: z111 :: z112 :: z113 :: z114 :: z115 :: z116 :: z117 :: z118 :: z119 :: []), defers := [] } _) _ _ _ _ _ _ _ _ _ _ _ _ _ _ _ _ _ _ _ _ _ _ _ _ _ _ _ _ _ _ _ _ _ _ _ _ _ _ _ _ _ _ _ _ _ _ _ _ _ _ _ _ _ _ _ _ _ _ _ _ _ _ _ _ _ _ _ _ _ _ _ _ _ _ _ _ _ _ _ _ _ _ _ _ _ _ _ _ _ _ _ _ _ _ _ _ _ _ _ _ _ _ _ _ _ _ _ _ _ _ _ _ _ _ _
    intro z0 z1 z4 z5 z9 z10 z11 z12 z13 z14 z15 z16 z17 z18 z19 z20 z21 z22 z23 z24 z25 z26 z27 z28 z29 z30 z31 z32 z33 z34 z35 z36 z37 z38 z39 z40 z41 z42 z43 z44 z45 z46 z47 z48 z49 z50 z51 z52 z53 z54 z55 z56 z57 z58 z59 z60 z61 z62 z63 z64 z65 z66 z67 z68 z69 z70 z71 z72 z73 z74 z75 z76 z77 z78 z79 z80 z81 z82 z83 z84 z85 z86 z87 z88 z89 z90 z91 z92 z93 z94 z95 z96 z97 z98 z99 z100 z101 z102 z103 z104 z105 z106 z107 z108 z109 z110 z111 z112 z113 z114 z115 z116 z117 z118 z119
    have c0P1 := P1.c0
    have c1P1 := P1.c1
    have c0P2 := P2.c0
    have c1P2 := P2.c1
    have H1 := Lib.hid (awake4 W4)
    go_wp2_with fail
    clear c0P1 c1P1 c0P2 c1P2
    refine H1.out.mono ?_
    rintro e w1 ⟨rfl, hb⟩
    clear H1
    replace P1 := P1.below hb
    replace P2 := P2.below hb
    replace ha := ha.below hb
    replace hc := hc.below hb
    replace hB := hB.trans (hb.mono hB.size)
    clear hb
    have c0P1 := P1.c0
    have c1P1 := P1.c1
    have c0P2 := P2.c0
    have c1P2 := P2.c1
    have H2 := Lib.hid (awake4 w1)
    go_wp2_with fail
    clear c0P1 c1P1 c0P2 c1P2
    refine H2.out.mono ?_
    rintro e w2 ⟨rfl, hb⟩
    clear H2
    replace P1 := P1.below hb
    replace P2 := P2.below hb
    replace ha := ha.below hb
    replace hc := hc.below hb
    replace hB := hB.trans (hb.mono hB.size)
    clear hb
    have c0P1 := P1.c0
    have c1P1 := P1.c1
    have c0P2 := P2.c0
    have c1P2 := P2.c1
    go_wp2_with fail
    go_ret
    exact ⟨rfl, hB⟩

set_option maxRecDepth 100000 in
set_option maxHeartbeats 4000000 in
theorem scales_l2 (A B : Int) (a b : Sl) (ws cs : List Int) (t : Nat) (_ht : t < 256) (w : World) (ha : RI w a ws) (hc : RI w b cs) (h0 : ws.length ≤ 12) (h : 12 < cs.length) :
    Calls Tryz.prog 7 #[.agg #[.int .i64 A, .int .i64 B], .agg #[.slice a.a a.n a.c, .slice b.a b.n b.c], .int .u8 (t : Int)] w fun e w' => e = .returned (.bool true) ∧ Below w.heap.size w w' := by
  have ea := ha.len
  have ec := hc.len
  have h2 : ¬ (12 : Int) < (a.n : Int) := by omega
  have h1 : (12 : Int) < (b.n : Int) := by omega
  clear ea ec
  go_enter Tryz.func7, Tryz.ntmps7
  have hb : Below w.heap.size w ((w.alloc (.cells #[.int .i64 A, .int .i64 B] 23)).alloc (.cells #[.slice a.a a.n a.c, .slice b.a b.n b.c] 50)) := (((Below.refl _ _).alloc (Nat.le_refl _) _).alloc (by simp) _)
  replace ha := ha.below hb
  replace hc := hc.below hb
  have hB := hb
  have P1 : Pair ((w.alloc (.cells #[.int .i64 A, .int .i64 B] 23)).alloc (.cells #[.slice a.a a.n a.c, .slice b.a b.n b.c] 50)) (w.heap.size) 23 (.int .i64 A) (.int .i64 B) := by
    have h := (Pair.new w 23 (.int .i64 A) (.int .i64 B)).alloc (.cells #[.slice a.a a.n a.c, .slice b.a b.n b.c] 50)
    simpa only [World.size_alloc] using h
  have P2 : Pair ((w.alloc (.cells #[.int .i64 A, .int .i64 B] 23)).alloc (.cells #[.slice a.a a.n a.c, .slice b.a b.n b.c] 50)) (w.heap.size + 1) 50 (.slice a.a a.n a.c) (.slice b.a b.n b.c) := by
    have h := Pair.new (w.alloc (.cells #[.int .i64 A, .int .i64 B] 23)) 50 (.slice a.a a.n a.c) (.slice b.a b.n b.c)
    simpa only [World.size_alloc] using h
  clear hb
  have c0P1 := P1.c0
  have c1P1 := P1.c1
  have c0P2 := P2.c0
  have c1P2 := P2.c1
  go_wp2_with fail
  clear c0P1 c1P1 c0P2 c1P2
  have hb : Below ((w.alloc (.cells #[.int .i64 A, .int .i64 B] 23)).alloc (.cells #[.slice a.a a.n a.c, .slice b.a b.n b.c] 50)).heap.size ((w.alloc (.cells #[.int .i64 A, .int .i64 B] 23)).alloc (.cells #[.slice a.a a.n a.c, .slice b.a b.n b.c] 50)) ((w.alloc (.cells #[.int .i64 A, .int .i64 B] 23)).alloc (.cells #[.slice a.a a.n a.c, .slice b.a b.n b.c] 50)).drew := (Below.refl _ _).drew
  replace P1 := P1.below hb
  replace P2 := P2.below hb
  replace ha := ha.below hb
  replace hc := hc.below hb
  replace hB := hB.trans (hb.mono hB.size)
  clear hb
  refine Rd.regionT (fun X => Pair X (w.heap.size) 23 (.int .i64 A) (.int .i64 B) ∧ Pair X (w.heap.size + 1) 50 (.slice a.a a.n a.c) (.slice b.a b.n b.c)) [0, 1, 2, 3, 4, 5] (.one 0 (.one 1 (.one 2 (.one 3 (.one 4 (.one 5 .done)))))) (fun ac W => ∃  (y20 y21 y22 y23 : Value), ac = { tmps := List.toArray (.agg #[.int .i64 A, .int .i64 B] :: .agg #[.slice a.a a.n a.c, .slice b.a b.n b.c] :: .int .u8 (t : Int) :: .pointer (some ⟨w.heap.size, 0, none⟩) :: .pointer (some ⟨w.heap.size + 1, 0, none⟩) :: undef :: .bool false :: .slice a.a a.n a.c :: .slice b.a b.n b.c :: undef :: undef :: undef :: undef :: undef :: undef :: undef :: undef :: undef :: undef :: undef :: y20 :: y21 :: y22 :: y23 :: undef :: undef :: undef :: undef :: undef :: undef :: undef :: undef :: undef :: undef :: undef :: undef :: undef :: undef :: undef :: undef :: undef :: undef :: undef :: undef :: undef :: undef :: undef :: undef :: undef :: undef :: undef :: undef :: undef :: undef :: undef :: undef :: undef :: undef :: undef :: undef :: undef :: undef :: undef :: undef :: undef :: undef :: undef :: undef :: undef :: undef :: undef :: undef :: undef :: undef :: undef :: undef :: undef :: undef :: undef :: undef :: undef :: undef :: undef :: undef :: undef :: undef :: undef :: undef :: undef :: undef :: undef :: undef :: undef :: undef :: undef :: undef :: undef :: undef :: undef :: undef :: undef :: undef :: undef :: undef :: undef :: undef :: undef :: undef :: undef :: undef :: undef :: undef :: undef :: undef :: undef :: undef :: undef :: undef :: undef :: undef :: []), defers := [] } ∧ Pair W (w.heap.size) 23 (.int .i64 A) (.int .i64 B) ∧ Pair W (w.heap.size + 1) 50 (.slice a.a a.n a.c) (.slice b.a b.n b.c) ∧ RI W a ws ∧ RI W b cs ∧ Below w.heap.size w W) (by kernel_rfl) (by kernel_rfl) (by kernel_rfl) ⟨P1, P2⟩ ?tree ?next
  case tree =>
    generalize ((w.alloc (.cells #[.int .i64 A, .int .i64 B] 23)).alloc (.cells #[.slice a.a a.n a.c, .slice b.a b.n b.c] 50)).drew = w3 at P1 P2 ha hc hB ⊢
    refine Rd.tr_float (.pointer (some ⟨w.heap.size + 1, 0, none⟩)) (by simp only [List.getElem?_toArray, List.getElem?_cons_zero]; rfl) rfl (by rfl) (fun X _ => by go_simp) ?_
    simp only [Act.put, List.setIfInBounds_toArray, List.set_cons_succ, List.set_cons_zero]
    refine Rd.tr_float (.slice a.a a.n a.c) (by simp only [List.getElem?_toArray, List.getElem?_cons_succ, List.getElem?_cons_zero]; rfl) rfl (by rfl) (fun X hX => by have h0 := hX.2.c0; have h1 := hX.2.c1; go_simp) ?_
    simp only [Act.put, List.setIfInBounds_toArray, List.set_cons_succ, List.set_cons_zero]
    refine Rd.tr_float (.pointer (some ⟨w.heap.size + 1, 1, none⟩)) (by simp only [List.getElem?_toArray, List.getElem?_cons_succ, List.getElem?_cons_zero]; rfl) rfl (by rfl) (fun X _ => by go_simp) ?_
    simp only [Act.put, List.setIfInBounds_toArray, List.set_cons_succ, List.set_cons_zero]
    refine Rd.tr_float (.slice b.a b.n b.c) (by simp only [List.getElem?_toArray, List.getElem?_cons_succ, List.getElem?_cons_zero]; rfl) rfl (by rfl) (fun X hX => by have h0 := hX.2.c0; have h1 := hX.2.c1; go_simp) ?_
    simp only [Act.put, List.setIfInBounds_toArray, List.set_cons_succ, List.set_cons_zero]
    refine Rd.tr_float (.slice a.a a.n a.c) (by simp only [List.getElem?_toArray, List.getElem?_cons_succ, List.getElem?_cons_zero]; rfl) rfl (by rfl) (fun X _ => by go_simp) ?_
    simp only [Act.put, List.setIfInBounds_toArray, List.set_cons_succ, List.set_cons_zero]
    refine Rd.tr_float (.slice b.a b.n b.c) (by simp only [List.getElem?_toArray, List.getElem?_cons_succ, List.getElem?_cons_zero]; rfl) rfl (by rfl) (fun X _ => by go_simp) ?_
    simp only [Act.put, List.setIfInBounds_toArray, List.set_cons_succ, List.set_cons_zero]
    exact Rd.tr_end (⟨_, _, _, _, rfl, P1, P2, ha, hc, hB⟩)
  case next =>
    rintro a5 W4 ⟨y20, y21, y22, y23, rfl, P1, P2, ha, hc, hB⟩
    refine (?_ : ∀ (z0 z1 z4 z5 z9 z10 z11 z12 z13 z14 z15 z16 z17 z18 z19 z20 z21 z22 z23 z24 z25 z26 z27 z28 z29 z30 z31 z32 z33 z34 z35 z36 z37 z38 z39 z40 z41 z42 z43 z44 z45 z46 z47 z48 z49 z50 z51 z52 z53 z54 z55 z56 z57 z58 z59 z60 z61 z62 z63 z64 z65 z66 z67 z68 z69 z70 z71 z72 z73 z74 z75 z76 z77 z78 z79 z80 z81 z82 z83 z84 z85 z86 z87 z88 z89 z90 z91 z92 z93 z94 z95 z96 z97 z98 z99 z100 z101 z102 z103 z104 z105 z106 z107 z108 z109 z110 z111 z112 z113 z114 z115 z116 z117 z118 z119 : Value), Exit.then _ _ _ { tmps := List.toArray (z0 :: z1 :: .int .u8 (t : Int) :: .pointer (some ⟨w.heap.size, 0, none⟩) :: z4 :: z5 :: .bool false :: .slice a.a a.n a.c :: .slice b.a b.n b.c :: z9 :: z10 :: z11 :: z12 :: z13 :: z14 :: z15 :: z16 :: z17 :: z18 :: z19 :: z20 :: z21 :: z22 :: z23 :: z24 :: z25 :: z26 :: z27 :: z28 :: z29 :: z30 :: z31 :: z32 :: z33 :: z34 :: z35 :: z36 :: z37 :: z38 :: z39 :: z40 :: z41 :: z42 :: z43 :: z44 :: z45 :: z46 :: z47 :: z48 :: z49 :: z50 :: z51 :: z52 :: z53 :: z54 :: z55 :: z56 :: z57 :: z58 :: z59 :: z60 :: z61 :: z62 :: z63 :: z64 :: z65 :: z66 :: z67 :: z68 :: z69 :: z70 :: z71 :: z72 :: z73 :: z74 :: z75 :: z76 :: z77 :: z78 :: z79 :: z80 :: z81 :: z82 :: z83 :: z84 :: z85 :: z86 :: z87 :: z88 :: z89 :: z90 :: z91 :: z92 :: z93 :: z94 :: z95 :: z96 :: z97 :: z98 :: z99 :: z100 :: z101 :: z102 :: z103 :: z104 :: z105 :: z106 :: z107 :: z108 :: z109 :: z110 :: z111 :: z112 :: z113 :: z114 :: z115 :: z116 :: z117 :: z118 :: z119 :: []), defers := [] } _) _ _ _ _ _ _ _ _ _ _ _ _ _ _ _ _ _ _ _ _ _ _ _ _ _ _ _ _ _ _ _ _ _ _ _ _ _ _ _ _ _ _ _ _ _ _ _ _ _ _ _ _ _ _ _ _ _ _ _ _ _ _ _ _ _ _ _ _ _ _ _ _ _ _ _ _ _ _ _ _ _ _ _ _ _ _ _ _ _ _ _ _ _ _ _ _ _ _ _ _ _ _ _ _ _ _ _ _ _ _ _ _ _ _ _
    intro z0 z1 z4 z5 z9 z10 z11 z12 z13 z14 z15 z16 z17 z18 z19 z20 z21 z22 z23 z24 z25 z26 z27 z28 z29 z30 z31 z32 z33 z34 z35 z36 z37 z38 z39 z40 z41 z42 z43 z44 z45 z46 z47 z48 z49 z50 z51 z52 z53 z54 z55 z56 z57 z58 z59 z60 z61 z62 z63 z64 z65 z66 z67 z68 z69 z70 z71 z72 z73 z74 z75 z76 z77 z78 z79 z80 z81 z82 z83 z84 z85 z86 z87 z88 z89 z90 z91 z92 z93 z94 z95 z96 z97 z98 z99 z100 z101 z102 z103 z104 z105 z106 z107 z108 z109 z110 z111 z112 z113 z114 z115 z116 z117 z118 z119
    have c0P1 := P1.c0
    have c1P1 := P1.c1
    have c0P2 := P2.c0
    have c1P2 := P2.c1
    have H1 := Lib.hid (awake4 W4)
    go_wp2_with fail
    clear c0P1 c1P1 c0P2 c1P2
    refine H1.out.mono ?_
    rintro e w1 ⟨rfl, hb⟩
    clear H1
    replace P1 := P1.below hb
    replace P2 := P2.below hb
    replace ha := ha.below hb
    replace hc := hc.below hb
    replace hB := hB.trans (hb.mono hB.size)
    clear hb
    have c0P1 := P1.c0
    have c1P1 := P1.c1
    have c0P2 := P2.c0
    have c1P2 := P2.c1
    have H2 := Lib.hid (awake4 w1)
    go_wp2_with fail
    clear c0P1 c1P1 c0P2 c1P2
    refine H2.out.mono ?_
    rintro e w2 ⟨rfl, hb⟩
    clear H2
    replace P1 := P1.below hb
    replace P2 := P2.below hb
    replace ha := ha.below hb
    replace hc := hc.below hb
    replace hB := hB.trans (hb.mono hB.size)
    clear hb
    have c0P1 := P1.c0
    have c1P1 := P1.c1
    have c0P2 := P2.c0
    have c1P2 := P2.c1
    go_wp2_with fail
    go_ret
    exact ⟨rfl, hB⟩

set_option maxRecDepth 100000 in
set_option maxHeartbeats 4000000 in
theorem scales_bad (A B : Int) (m d kk : Nat) (a b : Sl) (ws cs : List Int) (t : Nat) (ht : t < 256) (w : World) (ha : RI w a ws) (hc : RI w b cs) (hA : max A 0 = (m : Int)) (hD : max B 1 = (d : Int)) (hm : m < 9223372036854775808) (hd : d < 9223372036854775808) (HD0 : Hid (d ≠ 0)) (hkk : 1 + (t : Int) % 9 = (kk : Int)) (h1k : 1 ≤ kk) (h9k : kk ≤ 9) (h1' : ws.length ≤ 12) (h2' : cs.length ≤ 12) (cd : Int) (hcd : cd ≠ 0) (hcb : (cd == 0) = false) (HC : Hid (errOf (rat m d) ws cs = cd)) :
    Calls Tryz.prog 7 #[.agg #[.int .i64 A, .int .i64 B], .agg #[.slice a.a a.n a.c, .slice b.a b.n b.c], .int .u8 (t : Int)] w fun e w' => e = .returned (.bool true) ∧ Below w.heap.size w w' := by
  obtain ⟨aa, an, al⟩ := a
  obtain ⟨ba, bn, bl⟩ := b
  have ea := ha.len
  have ec := hc.len
  dsimp only at ea ec
  subst ea ec
  dsimp only
  have h12 : ¬ (12 : Int) < (ws.length : Int) := by omega
  have h13 : ¬ (12 : Int) < (cs.length : Int) := by omega
  obtain ⟨i0, hi0, hz0, hz1, hz2⟩ := info_parts Tryz.info3'
  go_enter Tryz.func7, Tryz.ntmps7
  have hb : Below w.heap.size w ((w.alloc (.cells #[.int .i64 A, .int .i64 B] 23)).alloc (.cells #[.slice aa ws.length al, .slice ba cs.length bl] 50)) := (((Below.refl _ _).alloc (Nat.le_refl _) _).alloc (by simp) _)
  replace ha := ha.below hb
  replace hc := hc.below hb
  have hB := hb
  have P1 : Pair ((w.alloc (.cells #[.int .i64 A, .int .i64 B] 23)).alloc (.cells #[.slice aa ws.length al, .slice ba cs.length bl] 50)) (w.heap.size) 23 (.int .i64 A) (.int .i64 B) := by
    have h := (Pair.new w 23 (.int .i64 A) (.int .i64 B)).alloc (.cells #[.slice aa ws.length al, .slice ba cs.length bl] 50)
    simpa only [World.size_alloc] using h
  have P2 : Pair ((w.alloc (.cells #[.int .i64 A, .int .i64 B] 23)).alloc (.cells #[.slice aa ws.length al, .slice ba cs.length bl] 50)) (w.heap.size + 1) 50 (.slice aa ws.length al) (.slice ba cs.length bl) := by
    have h := Pair.new (w.alloc (.cells #[.int .i64 A, .int .i64 B] 23)) 50 (.slice aa ws.length al) (.slice ba cs.length bl)
    simpa only [World.size_alloc] using h
  clear hb
  have c0P1 := P1.c0
  have c1P1 := P1.c1
  have c0P2 := P2.c0
  have c1P2 := P2.c1
  go_wp2_with fail
  clear c0P1 c1P1 c0P2 c1P2
  have hb : Below ((w.alloc (.cells #[.int .i64 A, .int .i64 B] 23)).alloc (.cells #[.slice aa ws.length al, .slice ba cs.length bl] 50)).heap.size ((w.alloc (.cells #[.int .i64 A, .int .i64 B] 23)).alloc (.cells #[.slice aa ws.length al, .slice ba cs.length bl] 50)) ((w.alloc (.cells #[.int .i64 A, .int .i64 B] 23)).alloc (.cells #[.slice aa ws.length al, .slice ba cs.length bl] 50)).drew := (Below.refl _ _).drew
  replace P1 := P1.below hb
  replace P2 := P2.below hb
  replace ha := ha.below hb
  replace hc := hc.below hb
  replace hB := hB.trans (hb.mono hB.size)
  clear hb
  refine Rd.regionT (fun X => Pair X (w.heap.size) 23 (.int .i64 A) (.int .i64 B) ∧ Pair X (w.heap.size + 1) 50 (.slice aa ws.length al) (.slice ba cs.length bl)) [0, 1, 2, 3, 4, 5] (.one 0 (.one 1 (.one 2 (.one 3 (.one 4 (.one 5 .done)))))) (fun ac W => ∃  (y20 y21 y22 y23 : Value), ac = { tmps := List.toArray (.agg #[.int .i64 A, .int .i64 B] :: .agg #[.slice aa ws.length al, .slice ba cs.length bl] :: .int .u8 (t : Int) :: .pointer (some ⟨w.heap.size, 0, none⟩) :: .pointer (some ⟨w.heap.size + 1, 0, none⟩) :: undef :: .bool false :: .slice aa ws.length al :: .slice ba cs.length bl :: undef :: undef :: undef :: undef :: undef :: undef :: undef :: undef :: undef :: undef :: undef :: y20 :: y21 :: y22 :: y23 :: undef :: undef :: undef :: undef :: undef :: undef :: undef :: undef :: undef :: undef :: undef :: undef :: undef :: undef :: undef :: undef :: undef :: undef :: undef :: undef :: undef :: undef :: undef :: undef :: undef :: undef :: undef :: undef :: undef :: undef :: undef :: undef :: undef :: undef :: undef :: undef :: undef :: undef :: undef :: undef :: undef :: undef :: undef :: undef :: undef :: undef :: undef :: undef :: undef :: undef :: undef :: undef :: undef :: undef :: undef :: undef :: undef :: undef :: undef :: undef :: undef :: undef :: undef :: undef :: undef :: undef :: undef :: undef :: undef :: undef :: undef :: undef :: undef :: undef :: undef :: undef :: undef :: undef :: undef :: undef :: undef :: undef :: undef :: undef :: undef :: undef :: undef :: undef :: undef :: undef :: undef :: undef :: undef :: undef :: undef :: undef :: []), defers := [] } ∧ Pair W (w.heap.size) 23 (.int .i64 A) (.int .i64 B) ∧ Pair W (w.heap.size + 1) 50 (.slice aa ws.length al) (.slice ba cs.length bl) ∧ RI W ⟨aa, ws.length, al⟩ ws ∧ RI W ⟨ba, cs.length, bl⟩ cs ∧ Below w.heap.size w W) (by kernel_rfl) (by kernel_rfl) (by kernel_rfl) ⟨P1, P2⟩ ?tree ?next
  case tree =>
    generalize ((w.alloc (.cells #[.int .i64 A, .int .i64 B] 23)).alloc (.cells #[.slice aa ws.length al, .slice ba cs.length bl] 50)).drew = w3 at P1 P2 ha hc hB ⊢
    refine Rd.tr_float (.pointer (some ⟨w.heap.size + 1, 0, none⟩)) (by simp only [List.getElem?_toArray, List.getElem?_cons_zero]; rfl) rfl (by rfl) (fun X _ => by go_simp) ?_
    simp only [Act.put, List.setIfInBounds_toArray, List.set_cons_succ, List.set_cons_zero]
    refine Rd.tr_float (.slice aa ws.length al) (by simp only [List.getElem?_toArray, List.getElem?_cons_succ, List.getElem?_cons_zero]; rfl) rfl (by rfl) (fun X hX => by have h0 := hX.2.c0; have h1 := hX.2.c1; go_simp) ?_
    simp only [Act.put, List.setIfInBounds_toArray, List.set_cons_succ, List.set_cons_zero]
    refine Rd.tr_float (.pointer (some ⟨w.heap.size + 1, 1, none⟩)) (by simp only [List.getElem?_toArray, List.getElem?_cons_succ, List.getElem?_cons_zero]; rfl) rfl (by rfl) (fun X _ => by go_simp) ?_
    simp only [Act.put, List.setIfInBounds_toArray, List.set_cons_succ, List.set_cons_zero]
    refine Rd.tr_float (.slice ba cs.length bl) (by simp only [List.getElem?_toArray, List.getElem?_cons_succ, List.getElem?_cons_zero]; rfl) rfl (by rfl) (fun X hX => by have h0 := hX.2.c0; have h1 := hX.2.c1; go_simp) ?_
    simp only [Act.put, List.setIfInBounds_toArray, List.set_cons_succ, List.set_cons_zero]
    refine Rd.tr_float (.slice aa ws.length al) (by simp only [List.getElem?_toArray, List.getElem?_cons_succ, List.getElem?_cons_zero]; rfl) rfl (by rfl) (fun X _ => by go_simp) ?_
    simp only [Act.put, List.setIfInBounds_toArray, List.set_cons_succ, List.set_cons_zero]
    refine Rd.tr_float (.slice ba cs.length bl) (by simp only [List.getElem?_toArray, List.getElem?_cons_succ, List.getElem?_cons_zero]; rfl) rfl (by rfl) (fun X _ => by go_simp) ?_
    simp only [Act.put, List.setIfInBounds_toArray, List.set_cons_succ, List.set_cons_zero]
    exact Rd.tr_end (⟨_, _, _, _, rfl, P1, P2, ha, hc, hB⟩)
  case next =>
    rintro a5 W4 ⟨y20, y21, y22, y23, rfl, P1, P2, ha, hc, hB⟩
    refine (?_ : ∀ (z0 z1 z4 z5 z9 z10 z11 z12 z13 z14 z15 z16 z17 z18 z19 z20 z21 z22 z23 z24 z25 z26 z27 z28 z29 z30 z31 z32 z33 z34 z35 z36 z37 z38 z39 z40 z41 z42 z43 z44 z45 z46 z47 z48 z49 z50 z51 z52 z53 z54 z55 z56 z57 z58 z59 z60 z61 z62 z63 z64 z65 z66 z67 z68 z69 z70 z71 z72 z73 z74 z75 z76 z77 z78 z79 z80 z81 z82 z83 z84 z85 z86 z87 z88 z89 z90 z91 z92 z93 z94 z95 z96 z97 z98 z99 z100 z101 z102 z103 z104 z105 z106 z107 z108 z109 z110 z111 z112 z113 z114 z115 z116 z117 z118 z119 : Value), Exit.then _ _ _ { tmps := List.toArray (z0 :: z1 :: .int .u8 (t : Int) :: .pointer (some ⟨w.heap.size, 0, none⟩) :: z4 :: z5 :: .bool false :: .slice aa ws.length al :: .slice ba cs.length bl :: z9 :: z10 :: z11 :: z12 :: z13 :: z14 :: z15 :: z16 :: z17 :: z18 :: z19 :: z20 :: z21 :: z22 :: z23 :: z24 :: z25 :: z26 :: z27 :: z28 :: z29 :: z30 :: z31 :: z32 :: z33 :: z34 :: z35 :: z36 :: z37 :: z38 :: z39 :: z40 :: z41 :: z42 :: z43 :: z44 :: z45 :: z46 :: z47 :: z48 :: z49 :: z50 :: z51 :: z52 :: z53 :: z54 :: z55 :: z56 :: z57 :: z58 :: z59 :: z60 :: z61 :: z62 :: z63 :: z64 :: z65 :: z66 :: z67 :: z68 :: z69 :: z70 :: z71 :: z72 :: z73 :: z74 :: z75 :: z76 :: z77 :: z78 :: z79 :: z80 :: z81 :: z82 :: z83 :: z84 :: z85 :: z86 :: z87 :: z88 :: z89 :: z90 :: z91 :: z92 :: z93 :: z94 :: z95 :: z96 :: z97 :: z98 :: z99 :: z100 :: z101 :: z102 :: z103 :: z104 :: z105 :: z106 :: z107 :: z108 :: z109 :: z110 :: z111 :: z112 :: z113 :: z114 :: z115 :: z116 :: z117 :: z118 :: z119 :: []), defers := [] } _) _ _ _ _ _ _ _ _ _ _ _ _ _ _ _ _ _ _ _ _ _ _ _ _ _ _ _ _ _ _ _ _ _ _ _ _ _ _ _ _ _ _ _ _ _ _ _ _ _ _ _ _ _ _ _ _ _ _ _ _ _ _ _ _ _ _ _ _ _ _ _ _ _ _ _ _ _ _ _ _ _ _ _ _ _ _ _ _ _ _ _ _ _ _ _ _ _ _ _ _ _ _ _ _ _ _ _ _ _ _ _ _ _ _ _
    intro z0 z1 z4 z5 z9 z10 z11 z12 z13 z14 z15 z16 z17 z18 z19 z20 z21 z22 z23 z24 z25 z26 z27 z28 z29 z30 z31 z32 z33 z34 z35 z36 z37 z38 z39 z40 z41 z42 z43 z44 z45 z46 z47 z48 z49 z50 z51 z52 z53 z54 z55 z56 z57 z58 z59 z60 z61 z62 z63 z64 z65 z66 z67 z68 z69 z70 z71 z72 z73 z74 z75 z76 z77 z78 z79 z80 z81 z82 z83 z84 z85 z86 z87 z88 z89 z90 z91 z92 z93 z94 z95 z96 z97 z98 z99 z100 z101 z102 z103 z104 z105 z106 z107 z108 z109 z110 z111 z112 z113 z114 z115 z116 z117 z118 z119
    have c0P1 := P1.c0
    have c1P1 := P1.c1
    have c0P2 := P2.c0
    have c1P2 := P2.c1
    have H6 := Lib.hid (awake4 W4)
    go_wp2_with fail
    clear c0P1 c1P1 c0P2 c1P2
    refine H6.out.mono ?_
    rintro e w7 ⟨rfl, hb⟩
    clear H6
    replace P1 := P1.below hb
    replace P2 := P2.below hb
    replace ha := ha.below hb
    replace hc := hc.below hb
    replace hB := hB.trans (hb.mono hB.size)
    clear hb
    have c0P1 := P1.c0
    have c1P1 := P1.c1
    have c0P2 := P2.c0
    have c1P2 := P2.c1
    have H12 := Lib.hid (both_any A B m d w7 hA hD hm hd HD0)
    go_wp2_with fail
    clear c0P1 c1P1 c0P2 c1P2
    refine H12.out.mono ?_
    rintro e w13 ⟨p8, q9, p10, q11, rfl, rp8, rp10, hb⟩
    clear H12
    replace P1 := P1.below hb
    replace P2 := P2.below hb
    replace ha := ha.below hb
    replace hc := hc.below hb
    replace hB := hB.trans (hb.mono hB.size)
    clear hb
    have hb : Below w13.heap.size w13 ((w13.alloc (.cells #[.slice p8.a p8.n p8.c, .slice q9.a q9.n q9.c] 29)).alloc (.cells #[.slice p10.a p10.n p10.c, .slice q11.a q11.n q11.c] 32)) := (((Below.refl _ _).alloc (Nat.le_refl _) _).alloc (by simp) _)
    replace P1 := P1.below hb
    replace P2 := P2.below hb
    replace ha := ha.below hb
    replace hc := hc.below hb
    replace rp8 := rp8.below hb
    replace rp10 := rp10.below hb
    replace hB := hB.trans (hb.mono hB.size)
    have P14 : Pair ((w13.alloc (.cells #[.slice p8.a p8.n p8.c, .slice q9.a q9.n q9.c] 29)).alloc (.cells #[.slice p10.a p10.n p10.c, .slice q11.a q11.n q11.c] 32)) (w13.heap.size) 29 (.slice p8.a p8.n p8.c) (.slice q9.a q9.n q9.c) := by
      have h := (Pair.new w13 29 (.slice p8.a p8.n p8.c) (.slice q9.a q9.n q9.c)).alloc (.cells #[.slice p10.a p10.n p10.c, .slice q11.a q11.n q11.c] 32)
      simpa only [World.size_alloc] using h
    have P15 : Pair ((w13.alloc (.cells #[.slice p8.a p8.n p8.c, .slice q9.a q9.n q9.c] 29)).alloc (.cells #[.slice p10.a p10.n p10.c, .slice q11.a q11.n q11.c] 32)) (w13.heap.size + 1) 32 (.slice p10.a p10.n p10.c) (.slice q11.a q11.n q11.c) := by
      have h := Pair.new (w13.alloc (.cells #[.slice p8.a p8.n p8.c, .slice q9.a q9.n q9.c] 29)) 32 (.slice p10.a p10.n p10.c) (.slice q11.a q11.n q11.c)
      simpa only [World.size_alloc] using h
    clear hb
    have c0P1 := P1.c0
    have c1P1 := P1.c1
    have c0P2 := P2.c0
    have c1P2 := P2.c1
    have c0P14 := P14.c0
    have c1P14 := P14.c1
    have c0P15 := P15.c0
    have c1P15 := P15.c1
    go_wp2_with fail
    clear c0P1 c1P1 c0P2 c1P2 c0P14 c1P14 c0P15 c1P15
    clear P1 P2 P15 rp10
    obtain ⟨B10, hB10⟩ : ∃ B, B = w13.heap.size := ⟨_, rfl⟩
    rw [← hB10] at P14 ⊢
    clear hB10
    generalize ((w13.alloc (.cells #[.slice p8.a p8.n p8.c, .slice q9.a q9.n q9.c] 29)).alloc (.cells #[.slice p10.a p10.n p10.c, .slice q11.a q11.n q11.c] 32)) = W0 at P14 ha hc rp8 hB ⊢
    have P10 := P14
    clear P14
    refine (?_ : ∀ (z0 z1 z2 z3 z4 z5 z11 z13 z14 z15 z16 z17 z18 z19 z20 z21 z22 z23 z24 z25 z26 z27 z28 z29 z30 z31 z32 z33 z34 z35 z36 z37 z38 z39 z40 z41 z42 z43 z44 z45 z49 z50 z51 z52 z53 z54 z55 z56 z57 z58 z59 z60 z61 z62 z63 z64 z65 z66 z67 z68 z69 z70 z71 z72 z73 z74 z75 z76 z77 z78 z79 z80 z81 z82 z83 z84 z85 z86 z87 z88 z89 z90 z91 z92 z93 z94 z95 z96 z97 z98 z99 z100 z101 z102 z103 z104 z105 z106 z107 z108 z109 z110 z111 z112 z113 z114 z115 z116 z117 z118 z119 : Value), Code.wp _ _ _ { tmps := List.toArray (z0 :: z1 :: z2 :: z3 :: z4 :: z5 :: .bool false :: .slice aa ws.length al :: .slice ba cs.length bl :: .int .i64 (kk : Int) :: .pointer (some ⟨B10, 0, none⟩) :: z11 :: .slice none 0 0 :: z13 :: z14 :: z15 :: z16 :: z17 :: z18 :: z19 :: z20 :: z21 :: z22 :: z23 :: z24 :: z25 :: z26 :: z27 :: z28 :: z29 :: z30 :: z31 :: z32 :: z33 :: z34 :: z35 :: z36 :: z37 :: z38 :: z39 :: z40 :: z41 :: z42 :: z43 :: z44 :: z45 :: .slice aa ws.length al :: .int .i64 (ws.length : Int) :: .int .i64 0 :: z49 :: z50 :: z51 :: z52 :: z53 :: z54 :: z55 :: z56 :: z57 :: z58 :: z59 :: z60 :: z61 :: z62 :: z63 :: z64 :: z65 :: z66 :: z67 :: z68 :: z69 :: z70 :: z71 :: z72 :: z73 :: z74 :: z75 :: z76 :: z77 :: z78 :: z79 :: z80 :: z81 :: z82 :: z83 :: z84 :: z85 :: z86 :: z87 :: z88 :: z89 :: z90 :: z91 :: z92 :: z93 :: z94 :: z95 :: z96 :: z97 :: z98 :: z99 :: z100 :: z101 :: z102 :: z103 :: z104 :: z105 :: z106 :: z107 :: z108 :: z109 :: z110 :: z111 :: z112 :: z113 :: z114 :: z115 :: z116 :: z117 :: z118 :: z119 :: []), defers := [] } _) _ _ _ _ _ _ _ _ _ _ _ _ _ _ _ _ _ _ _ _ _ _ _ _ _ _ _ _ _ _ _ _ _ _ _ _ _ _ _ _ _ _ _ _ _ _ _ _ _ _ _ _ _ _ _ _ _ _ _ _ _ _ _ _ _ _ _ _ _ _ _ _ _ _ _ _ _ _ _ _ _ _ _ _ _ _ _ _ _ _ _ _ _ _ _ _ _ _ _ _ _ _ _ _ _ _ _ _ _ _ _
    intro z0 z1 z2 z3 z4 z5 z11 z13 z14 z15 z16 z17 z18 z19 z20 z21 z22 z23 z24 z25 z26 z27 z28 z29 z30 z31 z32 z33 z34 z35 z36 z37 z38 z39 z40 z41 z42 z43 z44 z45 z49 z50 z51 z52 z53 z54 z55 z56 z57 z58 z59 z60 z61 z62 z63 z64 z65 z66 z67 z68 z69 z70 z71 z72 z73 z74 z75 z76 z77 z78 z79 z80 z81 z82 z83 z84 z85 z86 z87 z88 z89 z90 z91 z92 z93 z94 z95 z96 z97 z98 z99 z100 z101 z102 z103 z104 z105 z106 z107 z108 z109 z110 z111 z112 z113 z114 z115 z116 z117 z118 z119
    go_loopw [12, 48] (fun vv i wr => ∃ k : Nat, k ≤ ws.length ∧ i = .int .i64 (k : Int) ∧ Hid (wr.ownsRow W0.heap.size 3 1 vv k ((ws.take k).map (fun z => Value.int .i64 (z * (kk : Int))))) ∧ Hid (∀ z ∈ ws.take k, 1 ≤ z ∧ z ≤ 1000) ∧ Hid (Below W0.heap.size W0 wr)) (fun _ mi _ => ws.length - (intOf mi).toNat)
    case atStart => exact ⟨0, Nat.zero_le _, rfl, Lib.hid ⟨rfl, .inl ⟨rfl, rfl⟩⟩, Lib.hid (by simp), Lib.hid (Below.refl _ _)⟩
    case round =>
      obtain ⟨k, hk, rfl, HOW, HAL, HB0⟩ := hrel
      have hb0 := HB0.out
      have hbs := hb0.size
      have hBr : Below w.heap.size w wr := hB.trans (hb0.mono hB.size)
      by_cases hlt : k < ws.length
      · skip
        have hra : RI wr ⟨aa, ws.length, al⟩ (ws) := ha.below hb0
        have hlw : k < (ws).length := by omega
        obtain ⟨b2, o2, ea, _, hcell⟩ := hra.open (by intro e; rw [e] at hlw; simp at hlw)
        dsimp only at ea
        subst ea
        have c1 := hcell k hlw
        clear hcell hra
        have HMS := Lib.hid (map_snoc (fun z => Value.int .i64 (z * (kk : Int))) hlw)
        have HAS := Lib.hid (fun h => all_snoc (P := fun z => 1 ≤ z ∧ z ≤ 1000) hlw HAL.out h)
        generalize (ws).getD k 0 = z at c1 HMS HAS
        have HHA := Lib.hid ha
        have HHC := Lib.hid hc
        have HHR := Lib.hid rp8
        have HP10 := Lib.hid P10
        have HBR := Lib.hid hBr
        have HHB := Lib.hid hB
        clear ha hc rp8 P10 hBr hB HB0
        by_cases h1 : z < 1
        · skip
          go_wp2_with fail
          go_ret
          exact ⟨rfl, HBR.out⟩
        · skip
          by_cases h2 : 1000 < z
          · skip
            go_wp2_with fail
            go_ret
            exact ⟨rfl, HBR.out⟩
          · skip
            have HA2 := Lib.hid (HAS.out ⟨by omega, by omega⟩)
            obtain ⟨mm, hmm⟩ : ∃ mm : Int, z * (kk : Int) = mm := ⟨_, rfl⟩
            have b2 : mm ≤ 1000 * 9 := by rw [← hmm]; exact Int.mul_le_mul (by omega) (by omega) (by omega) (by omega)
            have b1 : 0 < mm := by rw [← hmm]; exact Int.mul_pos (by omega) (by omega)
            have HM2 : Hid (((ws).take (k + 1)).map (fun z => Value.int .i64 (z * (kk : Int))) = ((ws).take k).map (fun z => Value.int .i64 (z * (kk : Int))) ++ [.int .i64 mm]) := Lib.hid (by rw [HMS.out, hmm])
            clear HMS HAS
            have hrow := HOW.out
            clear HOW
            have hbl := hb0
            clear hb0
            go_wp2_with (at_builtin; refine wpList_append_own _ rfl _ _ 24 rfl W0.heap.size 3 i0 (.int .i64 0) 1 8 Tryz.underlying24 hi0 hz0 hz1 hz2 rfl (by decide) u12 _ _ rfl (hrow.alloc _) ⟨wr.heap.size, 0, none⟩ 1 1 [.int .i64 mm] rfl rfl (cell_one_new _ _ _) (by simp [Value.oneCell']) (by unfold maxLen; omega) (by omega) (by simp; omega) ?_; intro v2 w2 hown2 hgrow _)
            have hb2 : Below W0.heap.size W0 w2 := (hbl.alloc (by omega) _).grown hgrow (by simp; omega) (fun j ej => (hrow.lt j ej).1)
            have HH := Lib.hid (And.intro hown2 hb2)
            clear hown2 hb2 hgrow hrow hbl
            go_wp2_with fail
            go_round
            case rel => exact ⟨k + 1, by omega, by go_num, Lib.hid (by rw [HM2.out]; exact HH.out.1), HA2, Lib.hid HH.out.2⟩
            case measure => simp [intOf]; omega
      · skip
        have ek : k = ws.length := by omega
        have hall : ∀ z ∈ ws, 1 ≤ z ∧ z ≤ 1000 := by have h := HAL.out; rw [List.take_of_length_le (by omega)] at h; exact h
        have hG : RowI wr u12 ((ws).map (· * (kk : Int))) := RowI.of_owns (B := W0.heap.size) (by rw [List.length_map, List.map_map]; have h := HOW.out; rw [List.take_of_length_le (by omega), ek] at h; exact h)
        replace ha := ha.below hb0
        replace hc := hc.below hb0
        replace rp8 := rp8.below hb0
        replace P10 := P10.below hb0
        replace hB := hBr
        clear hBr HB0 HOW HAL hb0 hbs
        obtain ⟨gs, hgs, hG2⟩ := hG.sl
        subst hgs
        clear hG
        have hG := hG2
        clear hG2
        have eg := hG.len
        rw [List.length_map] at eg
        obtain ⟨ga, gn, gl⟩ := gs
        dsimp only at eg
        subst eg
        dsimp only
        have HE2 : Hid (errOf (rat m d) (ws.map (· * (kk : Int))) cs = cd) := Lib.hid (by rw [err_scaled h1k h9k hall]; exact HC.out)
        have c0P10 := P10.c0
        have c1P10 := P10.c1
        have H16 := Lib.hid (Fill_bad p8 q9 ⟨aa, ws.length, al⟩ ⟨ba, cs.length, bl⟩ (rat m d) ws cs wr rp8 ha hc (by omega) cd hcd hcb HC)
        go_wp2_with fail
        clear c0P10 c1P10
        refine H16.out.mono ?_
        rintro e w17 ⟨rfl, hb⟩
        clear H16
        replace P10 := P10.below hb
        replace ha := ha.below hb
        replace hc := hc.below hb
        replace rp8 := rp8.below hb
        replace hG := hG.below hb
        replace hB := hB.trans (hb.mono hB.size)
        clear hb
        have c0P10 := P10.c0
        have c1P10 := P10.c1
        have H18 := Lib.hid (Fill_bad p8 q9 ⟨ga, ws.length, gl⟩ ⟨ba, cs.length, bl⟩ (rat m d) (ws.map (· * (kk : Int))) cs w17 rp8 hG hc (by rw [List.length_map]; omega) cd hcd hcb HE2)
        go_wp2_with fail
        clear c0P10 c1P10
        refine H18.out.mono ?_
        rintro e w19 ⟨rfl, hb⟩
        clear H18
        replace P10 := P10.below hb
        replace ha := ha.below hb
        replace hc := hc.below hb
        replace rp8 := rp8.below hb
        replace hG := hG.below hb
        replace hB := hB.trans (hb.mono hB.size)
        clear hb
        have c0P10 := P10.c0
        have c1P10 := P10.c1
        go_wp2_with fail
        clear c0P10 c1P10
        refine (?_ : ∀ (z0 z1 z2 z3 z4 z5 z7 z8 z9 z10 z11 z12 z13 z14 z18 z19 z20 z21 z22 z23 z24 z25 z26 z27 z28 z29 z30 z31 z32 z33 z34 z35 z36 z37 z38 z39 z40 z41 z42 z43 z44 z45 z46 z47 z48 z49 z50 z51 z52 z53 z54 z55 z56 z57 z58 z59 z60 z61 z62 z63 z64 z65 z66 z67 z68 z69 z70 z71 z72 z73 z74 z75 z76 z77 z78 z79 z80 z81 z82 z83 z84 z85 z86 z87 z88 z89 z92 z93 z94 z95 z96 z97 z98 z99 z100 z101 z102 z103 z104 z105 z106 z107 z108 z109 z110 z111 z112 z113 z114 z115 z116 z117 z118 z119 : Value), Code.wp _ _ _ { tmps := List.toArray (z0 :: z1 :: z2 :: z3 :: z4 :: z5 :: u6 :: z7 :: z8 :: z9 :: z10 :: z11 :: z12 :: z13 :: z14 :: .slice none 0 0 :: .int .i64 cd :: .slice none 0 0 :: z18 :: z19 :: z20 :: z21 :: z22 :: z23 :: z24 :: z25 :: z26 :: z27 :: z28 :: z29 :: z30 :: z31 :: z32 :: z33 :: z34 :: z35 :: z36 :: z37 :: z38 :: z39 :: z40 :: z41 :: z42 :: z43 :: z44 :: z45 :: z46 :: z47 :: z48 :: z49 :: z50 :: z51 :: z52 :: z53 :: z54 :: z55 :: z56 :: z57 :: z58 :: z59 :: z60 :: z61 :: z62 :: z63 :: z64 :: z65 :: z66 :: z67 :: z68 :: z69 :: z70 :: z71 :: z72 :: z73 :: z74 :: z75 :: z76 :: z77 :: z78 :: z79 :: z80 :: z81 :: z82 :: z83 :: z84 :: z85 :: z86 :: z87 :: z88 :: z89 :: .int .i64 0 :: .int .i64 0 :: z92 :: z93 :: z94 :: z95 :: z96 :: z97 :: z98 :: z99 :: z100 :: z101 :: z102 :: z103 :: z104 :: z105 :: z106 :: z107 :: z108 :: z109 :: z110 :: z111 :: z112 :: z113 :: z114 :: z115 :: z116 :: z117 :: z118 :: z119 :: []), defers := [] } _) _ _ _ _ _ _ _ _ _ _ _ _ _ _ _ _ _ _ _ _ _ _ _ _ _ _ _ _ _ _ _ _ _ _ _ _ _ _ _ _ _ _ _ _ _ _ _ _ _ _ _ _ _ _ _ _ _ _ _ _ _ _ _ _ _ _ _ _ _ _ _ _ _ _ _ _ _ _ _ _ _ _ _ _ _ _ _ _ _ _ _ _ _ _ _ _ _ _ _ _ _ _ _ _ _ _ _ _ _ _ _ _ _ _
        intro z0 z1 z2 z3 z4 z5 z7 z8 z9 z10 z11 z12 z13 z14 z18 z19 z20 z21 z22 z23 z24 z25 z26 z27 z28 z29 z30 z31 z32 z33 z34 z35 z36 z37 z38 z39 z40 z41 z42 z43 z44 z45 z46 z47 z48 z49 z50 z51 z52 z53 z54 z55 z56 z57 z58 z59 z60 z61 z62 z63 z64 z65 z66 z67 z68 z69 z70 z71 z72 z73 z74 z75 z76 z77 z78 z79 z80 z81 z82 z83 z84 z85 z86 z87 z88 z89 z92 z93 z94 z95 z96 z97 z98 z99 z100 z101 z102 z103 z104 z105 z106 z107 z108 z109 z110 z111 z112 z113 z114 z115 z116 z117 z118 z119
        go_loopw [91] (fun i wr => i = .int .i64 0 ∧ Hid (Below w.heap.size w wr)) (fun _ _ => 0)
        case atStart => exact ⟨rfl, Lib.hid hB⟩
        case round =>
          clear hB P10 ha hc hG rp8
          obtain ⟨rfl, HBB⟩ := hrel
          have hB := HBB.out
          clear HBB
          go_wp2_with fail
          refine (?_ : ∀ (z0 z1 z2 z3 z4 z5 z7 z8 z9 z11 z12 z13 z14 z17 z18 z19 z20 z21 z22 z23 z24 z25 z26 z27 z28 z29 z30 z31 z32 z33 z34 z35 z36 z37 z38 z39 z40 z41 z42 z43 z44 z45 z46 z47 z48 z49 z50 z51 z52 z53 z54 z55 z56 z57 z58 z59 z60 z61 z62 z63 z64 z65 z66 z67 z68 z69 z70 z71 z72 z73 z74 z75 z76 z77 z78 z79 z80 z81 z82 z83 z84 z85 z86 z87 z88 z89 z90 z91 z92 z93 z94 z95 z96 z97 z98 z99 z100 z101 z102 z103 z104 z105 z106 z107 z108 z109 z110 z111 z112 z113 z114 z115 z116 z117 z118 z119 : Value), Code.wp _ _ _ { tmps := List.toArray (z0 :: z1 :: z2 :: z3 :: z4 :: z5 :: u6 :: z7 :: z8 :: z9 :: z10 :: z11 :: z12 :: z13 :: z14 :: .slice none 0 0 :: .int .i64 cd :: z17 :: z18 :: z19 :: z20 :: z21 :: z22 :: z23 :: z24 :: z25 :: z26 :: z27 :: z28 :: z29 :: z30 :: z31 :: z32 :: z33 :: z34 :: z35 :: z36 :: z37 :: z38 :: z39 :: z40 :: z41 :: z42 :: z43 :: z44 :: z45 :: z46 :: z47 :: z48 :: z49 :: z50 :: z51 :: z52 :: z53 :: z54 :: z55 :: z56 :: z57 :: z58 :: z59 :: z60 :: z61 :: z62 :: z63 :: z64 :: z65 :: z66 :: z67 :: z68 :: z69 :: z70 :: z71 :: z72 :: z73 :: z74 :: z75 :: z76 :: z77 :: z78 :: z79 :: z80 :: z81 :: z82 :: z83 :: z84 :: z85 :: z86 :: z87 :: z88 :: z89 :: z90 :: z91 :: z92 :: z93 :: z94 :: z95 :: z96 :: z97 :: z98 :: z99 :: z100 :: z101 :: z102 :: z103 :: z104 :: z105 :: z106 :: z107 :: z108 :: z109 :: z110 :: z111 :: z112 :: z113 :: z114 :: z115 :: z116 :: z117 :: z118 :: z119 :: []), defers := [] } _) _ _ _ _ _ _ _ _ _ _ _ _ _ _ _ _ _ _ _ _ _ _ _ _ _ _ _ _ _ _ _ _ _ _ _ _ _ _ _ _ _ _ _ _ _ _ _ _ _ _ _ _ _ _ _ _ _ _ _ _ _ _ _ _ _ _ _ _ _ _ _ _ _ _ _ _ _ _ _ _ _ _ _ _ _ _ _ _ _ _ _ _ _ _ _ _ _ _ _ _ _ _ _ _ _ _ _ _ _ _ _ _ _ _ _ _
          intro z0 z1 z2 z3 z4 z5 z7 z8 z9 z11 z12 z13 z14 z17 z18 z19 z20 z21 z22 z23 z24 z25 z26 z27 z28 z29 z30 z31 z32 z33 z34 z35 z36 z37 z38 z39 z40 z41 z42 z43 z44 z45 z46 z47 z48 z49 z50 z51 z52 z53 z54 z55 z56 z57 z58 z59 z60 z61 z62 z63 z64 z65 z66 z67 z68 z69 z70 z71 z72 z73 z74 z75 z76 z77 z78 z79 z80 z81 z82 z83 z84 z85 z86 z87 z88 z89 z90 z91 z92 z93 z94 z95 z96 z97 z98 z99 z100 z101 z102 z103 z104 z105 z106 z107 z108 z109 z110 z111 z112 z113 z114 z115 z116 z117 z118 z119
          go_wp2_with fail
          have hb : Below wr.heap.size wr wr.drew := (Below.refl _ _).drew
          replace hB := hB.trans (hb.mono hB.size)
          clear hb
          refine Rd.regionT (fun X => True) [0, 1, 2, 3, 4, 5, 6, 7, 8, 9, 10, 11, 13, 14, 15] (.one 0 (.one 1 (.one 2 (.one 3 (.one 4 (.one 5 (.one 6 (.one 7 (.one 8 (.one 9 (.one 10 (.one 11 (.one 12 (.one 13 (.one 14 (.one 15 .done)))))))))))))))) (fun ac W => ∃  (y105 y106 y107 y108 y109 y110 y111 y112 y113 y114 y115 y116 y117 y118 y119 : Value), ac = { tmps := List.toArray (z0 :: z1 :: z2 :: z3 :: z4 :: z5 :: .bool true :: z7 :: z8 :: z9 :: z10 :: z11 :: z12 :: z13 :: z14 :: .slice none 0 0 :: .int .i64 cd :: z17 :: z18 :: z19 :: z20 :: z21 :: z22 :: z23 :: z24 :: z25 :: z26 :: z27 :: z28 :: z29 :: z30 :: z31 :: z32 :: z33 :: z34 :: z35 :: z36 :: z37 :: z38 :: z39 :: z40 :: z41 :: z42 :: z43 :: z44 :: z45 :: z46 :: z47 :: z48 :: z49 :: z50 :: z51 :: z52 :: z53 :: z54 :: z55 :: z56 :: z57 :: z58 :: z59 :: z60 :: z61 :: z62 :: z63 :: z64 :: z65 :: z66 :: z67 :: z68 :: z69 :: z70 :: z71 :: z72 :: z73 :: z74 :: z75 :: z76 :: z77 :: z78 :: z79 :: z80 :: z81 :: z82 :: z83 :: z84 :: z85 :: z86 :: z87 :: z88 :: z89 :: z90 :: z91 :: z92 :: z93 :: z94 :: z95 :: z96 :: z97 :: z98 :: z99 :: z100 :: z101 :: z102 :: z103 :: z104 :: y105 :: y106 :: y107 :: y108 :: y109 :: y110 :: y111 :: y112 :: y113 :: y114 :: y115 :: y116 :: y117 :: y118 :: y119 :: []), defers := [] } ∧ Below w.heap.size w W) (by kernel_rfl) (by kernel_rfl) (by kernel_rfl) trivial ?tree ?next
          case tree =>
            generalize wr.drew = w20 at hB ⊢
            refine Rd.tr_float (.int .i64 cd) (by simp only [List.getElem?_toArray, List.getElem?_cons_zero]; rfl) rfl (by rfl) (fun X _ => by go_simp) ?_
            simp only [Act.put, List.setIfInBounds_toArray, List.set_cons_succ, List.set_cons_zero]
            refine Rd.tr_float (.bool true) (by simp only [List.getElem?_toArray, List.getElem?_cons_succ, List.getElem?_cons_zero]; rfl) rfl (by rfl) (fun X _ => by go_simp) ?_
            simp only [Act.put, List.setIfInBounds_toArray, List.set_cons_succ, List.set_cons_zero]
            refine Rd.tr_float (.bool true) (by simp only [List.getElem?_toArray, List.getElem?_cons_succ, List.getElem?_cons_zero]; rfl) rfl (by rfl) (fun X _ => by go_simp) ?_
            simp only [Act.put, List.setIfInBounds_toArray, List.set_cons_succ, List.set_cons_zero]
            refine Rd.tr_skip (by simp only [List.getElem?_toArray, List.getElem?_cons_succ, List.getElem?_cons_zero]; rfl) rfl (by rfl) ?_
            simp only [Act.put, List.setIfInBounds_toArray, List.set_cons_succ, List.set_cons_zero]
            refine Rd.tr_skip (by simp only [List.getElem?_toArray, List.getElem?_cons_succ, List.getElem?_cons_zero]; rfl) rfl (by rfl) ?_
            simp only [Act.put, List.setIfInBounds_toArray, List.set_cons_succ, List.set_cons_zero]
            refine Rd.tr_skip (by simp only [List.getElem?_toArray, List.getElem?_cons_succ, List.getElem?_cons_zero]; rfl) rfl (by rfl) ?_
            simp only [Act.put, List.setIfInBounds_toArray, List.set_cons_succ, List.set_cons_zero]
            refine Rd.tr_float (.bool true) (by simp only [List.getElem?_toArray, List.getElem?_cons_succ, List.getElem?_cons_zero]; rfl) rfl (by rfl) (fun X _ => by go_simp) ?_
            simp only [Act.put, List.setIfInBounds_toArray, List.set_cons_succ, List.set_cons_zero]
            refine Rd.tr_float (.bool true) (by simp only [List.getElem?_toArray, List.getElem?_cons_succ, List.getElem?_cons_zero]; rfl) rfl (by rfl) (fun X _ => by go_simp) ?_
            simp only [Act.put, List.setIfInBounds_toArray, List.set_cons_succ, List.set_cons_zero]
            refine Rd.tr_skip (by simp only [List.getElem?_toArray, List.getElem?_cons_succ, List.getElem?_cons_zero]; rfl) rfl (by rfl) ?_
            simp only [Act.put, List.setIfInBounds_toArray, List.set_cons_succ, List.set_cons_zero]
            refine Rd.tr_skip (by simp only [List.getElem?_toArray, List.getElem?_cons_succ, List.getElem?_cons_zero]; rfl) rfl (by rfl) ?_
            simp only [Act.put, List.setIfInBounds_toArray, List.set_cons_succ, List.set_cons_zero]
            refine Rd.tr_skip (by simp only [List.getElem?_toArray, List.getElem?_cons_succ, List.getElem?_cons_zero]; rfl) rfl (by rfl) ?_
            simp only [Act.put, List.setIfInBounds_toArray, List.set_cons_succ, List.set_cons_zero]
            refine Rd.tr_skip (by simp only [List.getElem?_toArray, List.getElem?_cons_succ, List.getElem?_cons_zero]; rfl) rfl (by rfl) ?_
            simp only [Act.put, List.setIfInBounds_toArray, List.set_cons_succ, List.set_cons_zero]
            refine Rd.tr_mskip (by simp only [List.getElem?_toArray, List.getElem?_cons_succ, List.getElem?_cons_zero]; rfl) rfl (by rfl) trivial ?_
            simp only [Act.put, List.setIfInBounds_toArray, List.set_cons_succ, List.set_cons_zero]
            refine Rd.tr_skip (by simp only [List.getElem?_toArray, List.getElem?_cons_succ, List.getElem?_cons_zero]; rfl) rfl (by rfl) ?_
            simp only [Act.put, List.setIfInBounds_toArray, List.set_cons_succ, List.set_cons_zero]
            refine Rd.tr_float (.bool true) (by simp only [List.getElem?_toArray, List.getElem?_cons_succ, List.getElem?_cons_zero]; rfl) rfl (by rfl) (fun X _ => by go_simp) ?_
            simp only [Act.put, List.setIfInBounds_toArray, List.set_cons_succ, List.set_cons_zero]
            refine Rd.tr_float (.bool true) (by simp only [List.getElem?_toArray, List.getElem?_cons_succ, List.getElem?_cons_zero]; rfl) rfl (by rfl) (fun X _ => by go_simp) ?_
            simp only [Act.put, List.setIfInBounds_toArray, List.set_cons_succ, List.set_cons_zero]
            exact Rd.tr_end (⟨_, _, _, _, _, _, _, _, _, _, _, _, _, _, _, rfl, hB⟩)
          case next =>
            rintro a22 W21 ⟨y105, y106, y107, y108, y109, y110, y111, y112, y113, y114, y115, y116, y117, y118, y119, rfl, hB⟩
            go_wp2_with fail
            go_ret
            exact ⟨rfl, hB⟩

set_option maxRecDepth 100000 in
set_option maxHeartbeats 4000000 in
theorem scales_good (A B : Int) (m d kk : Nat) (a b : Sl) (ks : List Kid) (t : Nat) (ht : t < 256) (w : World) (ha : RI w a (ks.map fun k => (k.1 : Int))) (hc : RI w b (ks.map fun k => (k.2 : Int))) (hA : max A 0 = (m : Int)) (hD : max B 1 = (d : Int)) (hm : m < 9223372036854775808) (hd : d < 9223372036854775808) (HD0 : Hid (d ≠ 0)) (hkk : 1 + (t : Int) % 9 = (kk : Int)) (h1k : 1 ≤ kk) (h9k : kk ≤ 9) (hl : ks.length ≤ 12) (HKK : Hid (∀ k ∈ ks, okKid k)) (HX : Hid (rat m d ≤ ((caps ks : Nat) : Rat))) (HE : Hid (errOf (rat m d) (ks.map fun k => (k.1 : Int)) (ks.map fun k => (k.2 : Int)) = 0)) :
    Calls Tryz.prog 7 #[.agg #[.int .i64 A, .int .i64 B], .agg #[.slice a.a a.n a.c, .slice b.a b.n b.c], .int .u8 (t : Int)] w fun e w' => e = .returned (.bool true) ∧ Below w.heap.size w w' := by
  obtain ⟨aa, an, al⟩ := a
  obtain ⟨ba, bn, bl⟩ := b
  have ea := ha.len
  have ec := hc.len
  dsimp only at ea ec
  rw [List.length_map] at ea ec
  subst ea ec
  dsimp only
  have h12 : ¬ (12 : Int) < (ks.length : Int) := by omega
  obtain ⟨i0, hi0, hz0, hz1, hz2⟩ := info_parts Tryz.info3'
  go_enter Tryz.func7, Tryz.ntmps7
  have hb : Below w.heap.size w ((w.alloc (.cells #[.int .i64 A, .int .i64 B] 23)).alloc (.cells #[.slice aa ks.length al, .slice ba ks.length bl] 50)) := (((Below.refl _ _).alloc (Nat.le_refl _) _).alloc (by simp) _)
  replace ha := ha.below hb
  replace hc := hc.below hb
  have hB := hb
  have P1 : Pair ((w.alloc (.cells #[.int .i64 A, .int .i64 B] 23)).alloc (.cells #[.slice aa ks.length al, .slice ba ks.length bl] 50)) (w.heap.size) 23 (.int .i64 A) (.int .i64 B) := by
    have h := (Pair.new w 23 (.int .i64 A) (.int .i64 B)).alloc (.cells #[.slice aa ks.length al, .slice ba ks.length bl] 50)
    simpa only [World.size_alloc] using h
  have P2 : Pair ((w.alloc (.cells #[.int .i64 A, .int .i64 B] 23)).alloc (.cells #[.slice aa ks.length al, .slice ba ks.length bl] 50)) (w.heap.size + 1) 50 (.slice aa ks.length al) (.slice ba ks.length bl) := by
    have h := Pair.new (w.alloc (.cells #[.int .i64 A, .int .i64 B] 23)) 50 (.slice aa ks.length al) (.slice ba ks.length bl)
    simpa only [World.size_alloc] using h
  clear hb
  have c0P1 := P1.c0
  have c1P1 := P1.c1
  have c0P2 := P2.c0
  have c1P2 := P2.c1
  go_wp2_with fail
  clear c0P1 c1P1 c0P2 c1P2
  have hb : Below ((w.alloc (.cells #[.int .i64 A, .int .i64 B] 23)).alloc (.cells #[.slice aa ks.length al, .slice ba ks.length bl] 50)).heap.size ((w.alloc (.cells #[.int .i64 A, .int .i64 B] 23)).alloc (.cells #[.slice aa ks.length al, .slice ba ks.length bl] 50)) ((w.alloc (.cells #[.int .i64 A, .int .i64 B] 23)).alloc (.cells #[.slice aa ks.length al, .slice ba ks.length bl] 50)).drew := (Below.refl _ _).drew
  replace P1 := P1.below hb
  replace P2 := P2.below hb
  replace ha := ha.below hb
  replace hc := hc.below hb
  replace hB := hB.trans (hb.mono hB.size)
  clear hb
  refine Rd.regionT (fun X => Pair X (w.heap.size) 23 (.int .i64 A) (.int .i64 B) ∧ Pair X (w.heap.size + 1) 50 (.slice aa ks.length al) (.slice ba ks.length bl)) [0, 1, 2, 3, 4, 5] (.one 0 (.one 1 (.one 2 (.one 3 (.one 4 (.one 5 .done)))))) (fun ac W => ∃  (y20 y21 y22 y23 : Value), ac = { tmps := List.toArray (.agg #[.int .i64 A, .int .i64 B] :: .agg #[.slice aa ks.length al, .slice ba ks.length bl] :: .int .u8 (t : Int) :: .pointer (some ⟨w.heap.size, 0, none⟩) :: .pointer (some ⟨w.heap.size + 1, 0, none⟩) :: undef :: .bool false :: .slice aa ks.length al :: .slice ba ks.length bl :: undef :: undef :: undef :: undef :: undef :: undef :: undef :: undef :: undef :: undef :: undef :: y20 :: y21 :: y22 :: y23 :: undef :: undef :: undef :: undef :: undef :: undef :: undef :: undef :: undef :: undef :: undef :: undef :: undef :: undef :: undef :: undef :: undef :: undef :: undef :: undef :: undef :: undef :: undef :: undef :: undef :: undef :: undef :: undef :: undef :: undef :: undef :: undef :: undef :: undef :: undef :: undef :: undef :: undef :: undef :: undef :: undef :: undef :: undef :: undef :: undef :: undef :: undef :: undef :: undef :: undef :: undef :: undef :: undef :: undef :: undef :: undef :: undef :: undef :: undef :: undef :: undef :: undef :: undef :: undef :: undef :: undef :: undef :: undef :: undef :: undef :: undef :: undef :: undef :: undef :: undef :: undef :: undef :: undef :: undef :: undef :: undef :: undef :: undef :: undef :: undef :: undef :: undef :: undef :: undef :: undef :: undef :: undef :: undef :: undef :: undef :: undef :: []), defers := [] } ∧ Pair W (w.heap.size) 23 (.int .i64 A) (.int .i64 B) ∧ Pair W (w.heap.size + 1) 50 (.slice aa ks.length al) (.slice ba ks.length bl) ∧ RI W ⟨aa, ks.length, al⟩ (ks.map fun k => (k.1 : Int)) ∧ RI W ⟨ba, ks.length, bl⟩ (ks.map fun k => (k.2 : Int)) ∧ Below w.heap.size w W) (by kernel_rfl) (by kernel_rfl) (by kernel_rfl) ⟨P1, P2⟩ ?tree ?next
  case tree =>
    generalize ((w.alloc (.cells #[.int .i64 A, .int .i64 B] 23)).alloc (.cells #[.slice aa ks.length al, .slice ba ks.length bl] 50)).drew = w3 at P1 P2 ha hc hB ⊢
    refine Rd.tr_float (.pointer (some ⟨w.heap.size + 1, 0, none⟩)) (by simp only [List.getElem?_toArray, List.getElem?_cons_zero]; rfl) rfl (by rfl) (fun X _ => by go_simp) ?_
    simp only [Act.put, List.setIfInBounds_toArray, List.set_cons_succ, List.set_cons_zero]
    refine Rd.tr_float (.slice aa ks.length al) (by simp only [List.getElem?_toArray, List.getElem?_cons_succ, List.getElem?_cons_zero]; rfl) rfl (by rfl) (fun X hX => by have h0 := hX.2.c0; have h1 := hX.2.c1; go_simp) ?_
    simp only [Act.put, List.setIfInBounds_toArray, List.set_cons_succ, List.set_cons_zero]
    refine Rd.tr_float (.pointer (some ⟨w.heap.size + 1, 1, none⟩)) (by simp only [List.getElem?_toArray, List.getElem?_cons_succ, List.getElem?_cons_zero]; rfl) rfl (by rfl) (fun X _ => by go_simp) ?_
    simp only [Act.put, List.setIfInBounds_toArray, List.set_cons_succ, List.set_cons_zero]
    refine Rd.tr_float (.slice ba ks.length bl) (by simp only [List.getElem?_toArray, List.getElem?_cons_succ, List.getElem?_cons_zero]; rfl) rfl (by rfl) (fun X hX => by have h0 := hX.2.c0; have h1 := hX.2.c1; go_simp) ?_
    simp only [Act.put, List.setIfInBounds_toArray, List.set_cons_succ, List.set_cons_zero]
    refine Rd.tr_float (.slice aa ks.length al) (by simp only [List.getElem?_toArray, List.getElem?_cons_succ, List.getElem?_cons_zero]; rfl) rfl (by rfl) (fun X _ => by go_simp) ?_
    simp only [Act.put, List.setIfInBounds_toArray, List.set_cons_succ, List.set_cons_zero]
    refine Rd.tr_float (.slice ba ks.length bl) (by simp only [List.getElem?_toArray, List.getElem?_cons_succ, List.getElem?_cons_zero]; rfl) rfl (by rfl) (fun X _ => by go_simp) ?_
    simp only [Act.put, List.setIfInBounds_toArray, List.set_cons_succ, List.set_cons_zero]
    exact Rd.tr_end (⟨_, _, _, _, rfl, P1, P2, ha, hc, hB⟩)
  case next =>
    rintro a5 W4 ⟨y20, y21, y22, y23, rfl, P1, P2, ha, hc, hB⟩
    refine (?_ : ∀ (z0 z1 z4 z5 z9 z10 z11 z12 z13 z14 z15 z16 z17 z18 z19 z20 z21 z22 z23 z24 z25 z26 z27 z28 z29 z30 z31 z32 z33 z34 z35 z36 z37 z38 z39 z40 z41 z42 z43 z44 z45 z46 z47 z48 z49 z50 z51 z52 z53 z54 z55 z56 z57 z58 z59 z60 z61 z62 z63 z64 z65 z66 z67 z68 z69 z70 z71 z72 z73 z74 z75 z76 z77 z78 z79 z80 z81 z82 z83 z84 z85 z86 z87 z88 z89 z90 z91 z92 z93 z94 z95 z96 z97 z98 z99 z100 z101 z102 z103 z104 z105 z106 z107 z108 z109 z110 z111 z112 z113 z114 z115 z116 z117 z118 z119 : Value), Exit.then _ _ _ { tmps := List.toArray (z0 :: z1 :: .int .u8 (t : Int) :: .pointer (some ⟨w.heap.size, 0, none⟩) :: z4 :: z5 :: .bool false :: .slice aa ks.length al :: .slice ba ks.length bl :: z9 :: z10 :: z11 :: z12 :: z13 :: z14 :: z15 :: z16 :: z17 :: z18 :: z19 :: z20 :: z21 :: z22 :: z23 :: z24 :: z25 :: z26 :: z27 :: z28 :: z29 :: z30 :: z31 :: z32 :: z33 :: z34 :: z35 :: z36 :: z37 :: z38 :: z39 :: z40 :: z41 :: z42 :: z43 :: z44 :: z45 :: z46 :: z47 :: z48 :: z49 :: z50 :: z51 :: z52 :: z53 :: z54 :: z55 :: z56 :: z57 :: z58 :: z59 :: z60 :: z61 :: z62 :: z63 :: z64 :: z65 :: z66 :: z67 :: z68 :: z69 :: z70 :: z71 :: z72 :: z73 :: z74 :: z75 :: z76 :: z77 :: z78 :: z79 :: z80 :: z81 :: z82 :: z83 :: z84 :: z85 :: z86 :: z87 :: z88 :: z89 :: z90 :: z91 :: z92 :: z93 :: z94 :: z95 :: z96 :: z97 :: z98 :: z99 :: z100 :: z101 :: z102 :: z103 :: z104 :: z105 :: z106 :: z107 :: z108 :: z109 :: z110 :: z111 :: z112 :: z113 :: z114 :: z115 :: z116 :: z117 :: z118 :: z119 :: []), defers := [] } _) _ _ _ _ _ _ _ _ _ _ _ _ _ _ _ _ _ _ _ _ _ _ _ _ _ _ _ _ _ _ _ _ _ _ _ _ _ _ _ _ _ _ _ _ _ _ _ _ _ _ _ _ _ _ _ _ _ _ _ _ _ _ _ _ _ _ _ _ _ _ _ _ _ _ _ _ _ _ _ _ _ _ _ _ _ _ _ _ _ _ _ _ _ _ _ _ _ _ _ _ _ _ _ _ _ _ _ _ _ _ _ _ _ _ _
    intro z0 z1 z4 z5 z9 z10 z11 z12 z13 z14 z15 z16 z17 z18 z19 z20 z21 z22 z23 z24 z25 z26 z27 z28 z29 z30 z31 z32 z33 z34 z35 z36 z37 z38 z39 z40 z41 z42 z43 z44 z45 z46 z47 z48 z49 z50 z51 z52 z53 z54 z55 z56 z57 z58 z59 z60 z61 z62 z63 z64 z65 z66 z67 z68 z69 z70 z71 z72 z73 z74 z75 z76 z77 z78 z79 z80 z81 z82 z83 z84 z85 z86 z87 z88 z89 z90 z91 z92 z93 z94 z95 z96 z97 z98 z99 z100 z101 z102 z103 z104 z105 z106 z107 z108 z109 z110 z111 z112 z113 z114 z115 z116 z117 z118 z119
    have c0P1 := P1.c0
    have c1P1 := P1.c1
    have c0P2 := P2.c0
    have c1P2 := P2.c1
    have H6 := Lib.hid (awake4 W4)
    go_wp2_with fail
    clear c0P1 c1P1 c0P2 c1P2
    refine H6.out.mono ?_
    rintro e w7 ⟨rfl, hb⟩
    clear H6
    replace P1 := P1.below hb
    replace P2 := P2.below hb
    replace ha := ha.below hb
    replace hc := hc.below hb
    replace hB := hB.trans (hb.mono hB.size)
    clear hb
    have c0P1 := P1.c0
    have c1P1 := P1.c1
    have c0P2 := P2.c0
    have c1P2 := P2.c1
    have H12 := Lib.hid (both_any A B m d w7 hA hD hm hd HD0)
    go_wp2_with fail
    clear c0P1 c1P1 c0P2 c1P2
    refine H12.out.mono ?_
    rintro e w13 ⟨p8, q9, p10, q11, rfl, rp8, rp10, hb⟩
    clear H12
    replace P1 := P1.below hb
    replace P2 := P2.below hb
    replace ha := ha.below hb
    replace hc := hc.below hb
    replace hB := hB.trans (hb.mono hB.size)
    clear hb
    have hb : Below w13.heap.size w13 ((w13.alloc (.cells #[.slice p8.a p8.n p8.c, .slice q9.a q9.n q9.c] 29)).alloc (.cells #[.slice p10.a p10.n p10.c, .slice q11.a q11.n q11.c] 32)) := (((Below.refl _ _).alloc (Nat.le_refl _) _).alloc (by simp) _)
    replace P1 := P1.below hb
    replace P2 := P2.below hb
    replace ha := ha.below hb
    replace hc := hc.below hb
    replace rp8 := rp8.below hb
    replace rp10 := rp10.below hb
    replace hB := hB.trans (hb.mono hB.size)
    have P14 : Pair ((w13.alloc (.cells #[.slice p8.a p8.n p8.c, .slice q9.a q9.n q9.c] 29)).alloc (.cells #[.slice p10.a p10.n p10.c, .slice q11.a q11.n q11.c] 32)) (w13.heap.size) 29 (.slice p8.a p8.n p8.c) (.slice q9.a q9.n q9.c) := by
      have h := (Pair.new w13 29 (.slice p8.a p8.n p8.c) (.slice q9.a q9.n q9.c)).alloc (.cells #[.slice p10.a p10.n p10.c, .slice q11.a q11.n q11.c] 32)
      simpa only [World.size_alloc] using h
    have P15 : Pair ((w13.alloc (.cells #[.slice p8.a p8.n p8.c, .slice q9.a q9.n q9.c] 29)).alloc (.cells #[.slice p10.a p10.n p10.c, .slice q11.a q11.n q11.c] 32)) (w13.heap.size + 1) 32 (.slice p10.a p10.n p10.c) (.slice q11.a q11.n q11.c) := by
      have h := Pair.new (w13.alloc (.cells #[.slice p8.a p8.n p8.c, .slice q9.a q9.n q9.c] 29)) 32 (.slice p10.a p10.n p10.c) (.slice q11.a q11.n q11.c)
      simpa only [World.size_alloc] using h
    clear hb
    have c0P1 := P1.c0
    have c1P1 := P1.c1
    have c0P2 := P2.c0
    have c1P2 := P2.c1
    have c0P14 := P14.c0
    have c1P14 := P14.c1
    have c0P15 := P15.c0
    have c1P15 := P15.c1
    go_wp2_with fail
    clear c0P1 c1P1 c0P2 c1P2 c0P14 c1P14 c0P15 c1P15
    clear P1 P2 P15 rp10
    obtain ⟨B10, hB10⟩ : ∃ B, B = w13.heap.size := ⟨_, rfl⟩
    rw [← hB10] at P14 ⊢
    clear hB10
    generalize ((w13.alloc (.cells #[.slice p8.a p8.n p8.c, .slice q9.a q9.n q9.c] 29)).alloc (.cells #[.slice p10.a p10.n p10.c, .slice q11.a q11.n q11.c] 32)) = W0 at P14 ha hc rp8 hB ⊢
    have P10 := P14
    clear P14
    refine (?_ : ∀ (z0 z1 z2 z3 z4 z5 z11 z13 z14 z15 z16 z17 z18 z19 z20 z21 z22 z23 z24 z25 z26 z27 z28 z29 z30 z31 z32 z33 z34 z35 z36 z37 z38 z39 z40 z41 z42 z43 z44 z45 z49 z50 z51 z52 z53 z54 z55 z56 z57 z58 z59 z60 z61 z62 z63 z64 z65 z66 z67 z68 z69 z70 z71 z72 z73 z74 z75 z76 z77 z78 z79 z80 z81 z82 z83 z84 z85 z86 z87 z88 z89 z90 z91 z92 z93 z94 z95 z96 z97 z98 z99 z100 z101 z102 z103 z104 z105 z106 z107 z108 z109 z110 z111 z112 z113 z114 z115 z116 z117 z118 z119 : Value), Code.wp _ _ _ { tmps := List.toArray (z0 :: z1 :: z2 :: z3 :: z4 :: z5 :: .bool false :: .slice aa ks.length al :: .slice ba ks.length bl :: .int .i64 (kk : Int) :: .pointer (some ⟨B10, 0, none⟩) :: z11 :: .slice none 0 0 :: z13 :: z14 :: z15 :: z16 :: z17 :: z18 :: z19 :: z20 :: z21 :: z22 :: z23 :: z24 :: z25 :: z26 :: z27 :: z28 :: z29 :: z30 :: z31 :: z32 :: z33 :: z34 :: z35 :: z36 :: z37 :: z38 :: z39 :: z40 :: z41 :: z42 :: z43 :: z44 :: z45 :: .slice aa ks.length al :: .int .i64 (ks.length : Int) :: .int .i64 0 :: z49 :: z50 :: z51 :: z52 :: z53 :: z54 :: z55 :: z56 :: z57 :: z58 :: z59 :: z60 :: z61 :: z62 :: z63 :: z64 :: z65 :: z66 :: z67 :: z68 :: z69 :: z70 :: z71 :: z72 :: z73 :: z74 :: z75 :: z76 :: z77 :: z78 :: z79 :: z80 :: z81 :: z82 :: z83 :: z84 :: z85 :: z86 :: z87 :: z88 :: z89 :: z90 :: z91 :: z92 :: z93 :: z94 :: z95 :: z96 :: z97 :: z98 :: z99 :: z100 :: z101 :: z102 :: z103 :: z104 :: z105 :: z106 :: z107 :: z108 :: z109 :: z110 :: z111 :: z112 :: z113 :: z114 :: z115 :: z116 :: z117 :: z118 :: z119 :: []), defers := [] } _) _ _ _ _ _ _ _ _ _ _ _ _ _ _ _ _ _ _ _ _ _ _ _ _ _ _ _ _ _ _ _ _ _ _ _ _ _ _ _ _ _ _ _ _ _ _ _ _ _ _ _ _ _ _ _ _ _ _ _ _ _ _ _ _ _ _ _ _ _ _ _ _ _ _ _ _ _ _ _ _ _ _ _ _ _ _ _ _ _ _ _ _ _ _ _ _ _ _ _ _ _ _ _ _ _ _ _ _ _ _ _
    intro z0 z1 z2 z3 z4 z5 z11 z13 z14 z15 z16 z17 z18 z19 z20 z21 z22 z23 z24 z25 z26 z27 z28 z29 z30 z31 z32 z33 z34 z35 z36 z37 z38 z39 z40 z41 z42 z43 z44 z45 z49 z50 z51 z52 z53 z54 z55 z56 z57 z58 z59 z60 z61 z62 z63 z64 z65 z66 z67 z68 z69 z70 z71 z72 z73 z74 z75 z76 z77 z78 z79 z80 z81 z82 z83 z84 z85 z86 z87 z88 z89 z90 z91 z92 z93 z94 z95 z96 z97 z98 z99 z100 z101 z102 z103 z104 z105 z106 z107 z108 z109 z110 z111 z112 z113 z114 z115 z116 z117 z118 z119
    go_loopw [12, 48] (fun vv i wr => ∃ k : Nat, k ≤ ks.length ∧ i = .int .i64 (k : Int) ∧ Hid (wr.ownsRow W0.heap.size 3 1 vv k (((ks.map fun k => (k.1 : Int)).take k).map (fun z => Value.int .i64 (z * (kk : Int))))) ∧ Hid (∀ z ∈ (ks.map fun k => (k.1 : Int)).take k, 1 ≤ z ∧ z ≤ 1000) ∧ Hid (Below W0.heap.size W0 wr)) (fun _ mi _ => ks.length - (intOf mi).toNat)
    case atStart => exact ⟨0, Nat.zero_le _, rfl, Lib.hid ⟨rfl, .inl ⟨rfl, rfl⟩⟩, Lib.hid (by simp), Lib.hid (Below.refl _ _)⟩
    case round =>
      obtain ⟨k, hk, rfl, HOW, HAL, HB0⟩ := hrel
      have hb0 := HB0.out
      have hbs := hb0.size
      have hBr : Below w.heap.size w wr := hB.trans (hb0.mono hB.size)
      by_cases hlt : k < ks.length
      · skip
        have hra : RI wr ⟨aa, ks.length, al⟩ ((ks.map fun k => (k.1 : Int))) := ha.below hb0
        have hlw : k < ((ks.map fun k => (k.1 : Int))).length := by rw [List.length_map]; omega
        obtain ⟨b2, o2, ea, _, hcell⟩ := hra.open (by intro e; rw [e] at hlw; simp at hlw)
        dsimp only at ea
        subst ea
        have c1 := hcell k hlw
        clear hcell hra
        have HMS := Lib.hid (map_snoc (fun z => Value.int .i64 (z * (kk : Int))) hlw)
        have HAS := Lib.hid (fun h => all_snoc (P := fun z => 1 ≤ z ∧ z ≤ 1000) hlw HAL.out h)
        generalize ((ks.map fun k => (k.1 : Int))).getD k 0 = z at c1 HMS HAS
        have HHA := Lib.hid ha
        have HHC := Lib.hid hc
        have HHR := Lib.hid rp8
        have HP10 := Lib.hid P10
        have HBR := Lib.hid hBr
        have HHB := Lib.hid hB
        clear ha hc rp8 P10 hBr hB HB0
        by_cases h1 : z < 1
        · skip
          go_wp2_with fail
          go_ret
          exact ⟨rfl, HBR.out⟩
        · skip
          by_cases h2 : 1000 < z
          · skip
            go_wp2_with fail
            go_ret
            exact ⟨rfl, HBR.out⟩
          · skip
            have HA2 := Lib.hid (HAS.out ⟨by omega, by omega⟩)
            obtain ⟨mm, hmm⟩ : ∃ mm : Int, z * (kk : Int) = mm := ⟨_, rfl⟩
            have b2 : mm ≤ 1000 * 9 := by rw [← hmm]; exact Int.mul_le_mul (by omega) (by omega) (by omega) (by omega)
            have b1 : 0 < mm := by rw [← hmm]; exact Int.mul_pos (by omega) (by omega)
            have HM2 : Hid ((((ks.map fun k => (k.1 : Int))).take (k + 1)).map (fun z => Value.int .i64 (z * (kk : Int))) = (((ks.map fun k => (k.1 : Int))).take k).map (fun z => Value.int .i64 (z * (kk : Int))) ++ [.int .i64 mm]) := Lib.hid (by rw [HMS.out, hmm])
            clear HMS HAS
            have hrow := HOW.out
            clear HOW
            have hbl := hb0
            clear hb0
            go_wp2_with (at_builtin; refine wpList_append_own _ rfl _ _ 24 rfl W0.heap.size 3 i0 (.int .i64 0) 1 8 Tryz.underlying24 hi0 hz0 hz1 hz2 rfl (by decide) u12 _ _ rfl (hrow.alloc _) ⟨wr.heap.size, 0, none⟩ 1 1 [.int .i64 mm] rfl rfl (cell_one_new _ _ _) (by simp [Value.oneCell']) (by unfold maxLen; omega) (by omega) (by simp; omega) ?_; intro v2 w2 hown2 hgrow _)
            have hb2 : Below W0.heap.size W0 w2 := (hbl.alloc (by omega) _).grown hgrow (by simp; omega) (fun j ej => (hrow.lt j ej).1)
            have HH := Lib.hid (And.intro hown2 hb2)
            clear hown2 hb2 hgrow hrow hbl
            go_wp2_with fail
            go_round
            case rel => exact ⟨k + 1, by omega, by go_num, Lib.hid (by rw [HM2.out]; exact HH.out.1), HA2, Lib.hid HH.out.2⟩
            case measure => simp [intOf]; omega
      · skip
        have ek : k = ks.length := by omega
        have hall : ∀ z ∈ (ks.map fun k => (k.1 : Int)), 1 ≤ z ∧ z ≤ 1000 := by have h := HAL.out; rw [List.take_of_length_le (by rw [List.length_map]; omega)] at h; exact h
        have hG : RowI wr u12 (((ks.map fun k => (k.1 : Int))).map (· * (kk : Int))) := RowI.of_owns (B := W0.heap.size) (by rw [List.length_map, List.map_map]; have h := HOW.out; rw [List.take_of_length_le (by rw [List.length_map]; omega), ek] at h; rw [List.length_map]; exact h)
        replace ha := ha.below hb0
        replace hc := hc.below hb0
        replace rp8 := rp8.below hb0
        replace P10 := P10.below hb0
        replace hB := hBr
        clear hBr HB0 HOW HAL hb0 hbs
        obtain ⟨gs, hgs, hG2⟩ := hG.sl
        subst hgs
        clear hG
        have hG := hG2
        clear hG2
        have eg := hG.len
        rw [List.length_map] at eg
        rw [List.length_map] at eg
        obtain ⟨ga, gn, gl⟩ := gs
        dsimp only at eg
        subst eg
        dsimp only
        rw [times_w] at hG
        have hc2 : RI wr ⟨ba, ks.length, bl⟩ ((times kk ks).map fun k => (k.2 : Int)) := by rw [times_c]; exact hc
        have HF : Hid (Fine d (rat m d)) := Lib.hid (fine_rat hd HD0.out)
        have HX0 : Hid (0 ≤ rat m d) := Lib.hid (rat_nonneg m d)
        have HKT : Hid (∀ k ∈ times kk ks, okKid k) := Lib.hid (times_ok h1k h9k HKK.out hall)
        have HXT : Hid (rat m d ≤ ((caps (times kk ks) : Nat) : Rat)) := Lib.hid (by rw [times_caps]; exact HX.out)
        have HET : Hid (errOf (rat m d) ((times kk ks).map fun k => (k.1 : Int)) ((times kk ks).map fun k => (k.2 : Int)) = 0) := Lib.hid (by rw [← times_w, times_c, err_scaled h1k h9k hall]; exact HE.out)
        have hlt2 : (times kk ks).length ≤ 32 := by unfold times; rw [List.length_map]; omega
        have HTG : Hid ((times kk ks).map (given (docLevel (rat m d) (times kk ks))) = ks.map (given (docLevel (rat m d) ks))) := Lib.hid (times_given (by omega) (fun k hk => (HKK.out k hk).1) (fun k hk => (HKT.out k hk).1) HX0.out HX.out)
        have HAL : Hid (ks.length = 1 → ∀ k ∈ ks, given (docLevel (rat m d) ks) k = rat m d) := Lib.hid (fun h => by obtain ⟨j, rfl⟩ := List.length_eq_one_iff.1 h; intro k hk; rw [List.mem_singleton.1 hk]; exact level_alone (doc_level (fun k hk => (HKK.out k hk).1) HX0.out HX.out))
        clear hall
        have c0P10 := P10.c0
        have c1P10 := P10.c1
        have H16 := Lib.hid (Fill_good p8 q9 ⟨aa, ks.length, al⟩ ⟨ba, ks.length, bl⟩ (rat m d) ks d wr rp8 ha hc (by omega) HKK HF HX HE)
        go_wp2_with fail
        clear c0P10 c1P10
        refine H16.out.mono ?_
        rintro e w17 ⟨v1, rfl, hv1, hb⟩
        clear H16
        replace P10 := P10.below hb
        replace ha := ha.below hb
        replace hc := hc.below hb
        replace rp8 := rp8.below hb
        replace hG := hG.below hb
        replace hc2 := hc2.below hb
        replace hB := hB.trans (hb.mono hB.size)
        clear hb
        have c0P10 := P10.c0
        have c1P10 := P10.c1
        have H18 := Lib.hid (Fill_good p8 q9 ⟨ga, ks.length, gl⟩ ⟨ba, ks.length, bl⟩ (rat m d) (times kk ks) d w17 rp8 hG hc2 hlt2 HKT HF HXT HET)
        rw [HTG.out] at H18
        go_wp2_with fail
        clear c0P10 c1P10
        refine H18.out.mono ?_
        rintro e w19 ⟨v2, rfl, hv2, hb⟩
        clear H18
        replace P10 := P10.below hb
        replace ha := ha.below hb
        replace hc := hc.below hb
        replace rp8 := rp8.below hb
        replace hG := hG.below hb
        replace hc2 := hc2.below hb
        replace hv1 := hv1.below hb
        replace hB := hB.trans (hb.mono hB.size)
        clear hb
        obtain ⟨vad, vcap, rfl⟩ := hv1.cut
        obtain ⟨wad, wcap, rfl⟩ := hv2.cut
        clear ha hc hc2 hG
        have c0P10 := P10.c0
        have c1P10 := P10.c1
        go_wp2_with fail
        clear c0P10 c1P10
        refine (?_ : ∀ (z0 z1 z2 z3 z4 z5 z7 z8 z9 z11 z12 z13 z14 z18 z19 z20 z21 z22 z23 z24 z25 z26 z27 z28 z29 z30 z31 z32 z33 z34 z35 z36 z37 z38 z39 z40 z41 z42 z43 z44 z45 z46 z47 z48 z49 z50 z51 z52 z53 z54 z55 z56 z57 z58 z59 z60 z61 z62 z63 z64 z65 z66 z67 z68 z69 z70 z71 z72 z73 z74 z75 z76 z77 z78 z79 z80 z81 z82 z83 z84 z85 z86 z87 z88 z89 z92 z93 z94 z95 z96 z97 z98 z99 z100 z101 z102 z103 z104 z105 z106 z107 z108 z109 z110 z111 z112 z113 z114 z115 z116 z117 z118 z119 : Value), Code.wp _ _ _ { tmps := List.toArray (z0 :: z1 :: z2 :: z3 :: z4 :: z5 :: u6 :: z7 :: z8 :: z9 :: .pointer (some ⟨B10, 0, none⟩) :: z11 :: z12 :: z13 :: z14 :: .slice vad ks.length vcap :: .int .i64 0 :: .slice wad ks.length wcap :: z18 :: z19 :: z20 :: z21 :: z22 :: z23 :: z24 :: z25 :: z26 :: z27 :: z28 :: z29 :: z30 :: z31 :: z32 :: z33 :: z34 :: z35 :: z36 :: z37 :: z38 :: z39 :: z40 :: z41 :: z42 :: z43 :: z44 :: z45 :: z46 :: z47 :: z48 :: z49 :: z50 :: z51 :: z52 :: z53 :: z54 :: z55 :: z56 :: z57 :: z58 :: z59 :: z60 :: z61 :: z62 :: z63 :: z64 :: z65 :: z66 :: z67 :: z68 :: z69 :: z70 :: z71 :: z72 :: z73 :: z74 :: z75 :: z76 :: z77 :: z78 :: z79 :: z80 :: z81 :: z82 :: z83 :: z84 :: z85 :: z86 :: z87 :: z88 :: z89 :: .int .i64 (ks.length : Int) :: .int .i64 0 :: z92 :: z93 :: z94 :: z95 :: z96 :: z97 :: z98 :: z99 :: z100 :: z101 :: z102 :: z103 :: z104 :: z105 :: z106 :: z107 :: z108 :: z109 :: z110 :: z111 :: z112 :: z113 :: z114 :: z115 :: z116 :: z117 :: z118 :: z119 :: []), defers := [] } _) _ _ _ _ _ _ _ _ _ _ _ _ _ _ _ _ _ _ _ _ _ _ _ _ _ _ _ _ _ _ _ _ _ _ _ _ _ _ _ _ _ _ _ _ _ _ _ _ _ _ _ _ _ _ _ _ _ _ _ _ _ _ _ _ _ _ _ _ _ _ _ _ _ _ _ _ _ _ _ _ _ _ _ _ _ _ _ _ _ _ _ _ _ _ _ _ _ _ _ _ _ _ _ _ _ _ _ _ _ _ _ _ _
        intro z0 z1 z2 z3 z4 z5 z7 z8 z9 z11 z12 z13 z14 z18 z19 z20 z21 z22 z23 z24 z25 z26 z27 z28 z29 z30 z31 z32 z33 z34 z35 z36 z37 z38 z39 z40 z41 z42 z43 z44 z45 z46 z47 z48 z49 z50 z51 z52 z53 z54 z55 z56 z57 z58 z59 z60 z61 z62 z63 z64 z65 z66 z67 z68 z69 z70 z71 z72 z73 z74 z75 z76 z77 z78 z79 z80 z81 z82 z83 z84 z85 z86 z87 z88 z89 z92 z93 z94 z95 z96 z97 z98 z99 z100 z101 z102 z103 z104 z105 z106 z107 z108 z109 z110 z111 z112 z113 z114 z115 z116 z117 z118 z119
        go_loopw [91] (fun i wr => ∃ k : Nat, k ≤ ks.length ∧ i = .int .i64 (k : Int) ∧ Hid (Pair wr B10 29 (.slice p8.a p8.n p8.c) (.slice q9.a q9.n q9.c)) ∧ Hid (RQ wr p8 q9 (rat m d)) ∧ Hid (RowQ wr (.slice vad ks.length vcap) (ks.map (given (docLevel (rat m d) ks)))) ∧ Hid (RowQ wr (.slice wad ks.length wcap) (ks.map (given (docLevel (rat m d) ks)))) ∧ Hid (Below w.heap.size w wr)) (fun mi _ => ks.length - (intOf mi).toNat)
        case atStart => exact ⟨0, Nat.zero_le _, rfl, Lib.hid P10, Lib.hid rp8, Lib.hid hv1, Lib.hid hv2, Lib.hid hB⟩
        case round =>
          clear hk hlt ek
          clear P10 rp8 hv1 hv2 hB
          obtain ⟨i, hi, rfl, HP10, Hrp8, Hhv1, Hhv2, HBB⟩ := hrel
          have P10 := HP10.out
          have rp8 := Hrp8.out
          have hv1 := Hhv1.out
          have hv2 := Hhv2.out
          have hB := HBB.out
          clear HP10 Hrp8 Hhv1 Hhv2 HBB
          by_cases hlt : i < ks.length
          · skip
            obtain ⟨VB, vc2, ev, p, q, sc, hq⟩ := hv1.at hlt
            injection ev with ev1 ev2 ev3
            subst ev1 ev3
            clear ev2
            obtain ⟨WB, wc2, ev, p2, q2, sd, hq2⟩ := hv2.at hlt
            injection ev with ev1 ev2 ev3
            subst ev1 ev3
            clear ev2
            generalize given (docLevel (rat m d) ks) (ks.getD i (0, 0)) = g1 at hq hq2
            have c0P10 := P10.c0
            have c1P10 := P10.c1
            go_wp2_with fail
            clear c0P10 c1P10
            have hb : Below wr.heap.size wr wr.drew := (Below.refl _ _).drew
            replace P10 := P10.below hb
            replace rp8 := rp8.below hb
            replace hv1 := hv1.below hb
            replace hv2 := hv2.below hb
            replace hq := hq.below hb
            replace hq2 := hq2.below hb
            replace sc := sc.below hb
            replace sd := sd.below hb
            replace hB := hB.trans (hb.mono hB.size)
            clear hb
            refine Rd.regionT (fun X => Pair X (B10) 29 (.slice p8.a p8.n p8.c) (.slice q9.a q9.n q9.c) ∧ SC X VB i p q ∧ SC X WB i p2 q2) [0, 1, 2, 3, 4, 5, 6, 7, 9] (.one 0 (.one 1 (.one 2 (.one 3 (.one 4 (.one 5 (.one 6 (.one 7 (.one 8 (.one 9 .done)))))))))) (fun ac W => ∃  (y94 y95 y96 y97 y98 y99 y100 y101 y102 : Value), ac = { tmps := List.toArray (z0 :: z1 :: z2 :: z3 :: z4 :: z5 :: u6 :: z7 :: z8 :: z9 :: .pointer (some ⟨B10, 0, none⟩) :: z11 :: z12 :: z13 :: z14 :: .slice (some ⟨VB, 0, none⟩) ks.length vcap :: .int .i64 0 :: .slice (some ⟨WB, 0, none⟩) ks.length wcap :: z18 :: .int .i64 (i : Int) :: z20 :: z21 :: z22 :: z23 :: z24 :: z25 :: z26 :: z27 :: z28 :: z29 :: z30 :: z31 :: z32 :: z33 :: z34 :: z35 :: z36 :: z37 :: z38 :: z39 :: z40 :: z41 :: z42 :: z43 :: z44 :: z45 :: z46 :: z47 :: z48 :: z49 :: z50 :: z51 :: z52 :: z53 :: z54 :: z55 :: z56 :: z57 :: z58 :: z59 :: z60 :: z61 :: z62 :: z63 :: z64 :: z65 :: z66 :: z67 :: z68 :: z69 :: z70 :: z71 :: z72 :: z73 :: z74 :: z75 :: z76 :: z77 :: z78 :: z79 :: z80 :: z81 :: z82 :: z83 :: z84 :: z85 :: z86 :: z87 :: z88 :: z89 :: .int .i64 (ks.length : Int) :: .int .i64 (i : Int) :: .bool true :: .int .i64 (i : Int) :: y94 :: y95 :: y96 :: y97 :: y98 :: y99 :: y100 :: y101 :: y102 :: .bool false :: u104 :: z105 :: z106 :: z107 :: z108 :: z109 :: z110 :: z111 :: z112 :: z113 :: z114 :: z115 :: z116 :: z117 :: z118 :: z119 :: []), defers := [] } ∧ Pair W (B10) 29 (.slice p8.a p8.n p8.c) (.slice q9.a q9.n q9.c) ∧ RQ W p8 q9 (rat m d) ∧ RowQ W (.slice (some ⟨VB, 0, none⟩) ks.length vcap) (ks.map (given (docLevel (rat m d) ks))) ∧ RowQ W (.slice (some ⟨WB, 0, none⟩) ks.length wcap) (ks.map (given (docLevel (rat m d) ks))) ∧ RQ W p q (g1) ∧ RQ W p2 q2 (g1) ∧ SC W VB i p q ∧ SC W WB i p2 q2 ∧ Below w.heap.size w W) (by kernel_rfl) (by kernel_rfl) (by kernel_rfl) ⟨P10, sc, sd⟩ ?tree ?next
            case tree =>
              generalize wr.drew = w20 at P10 rp8 hv1 hv2 hq hq2 sc sd hB ⊢
              refine Rd.tr_float (.slice (some ⟨VB, 0, none⟩) ks.length vcap) (by simp only [List.getElem?_toArray, List.getElem?_cons_zero]; rfl) rfl (by rfl) (fun X _ => by go_simp) ?_
              simp only [Act.put, List.setIfInBounds_toArray, List.set_cons_succ, List.set_cons_zero]
              refine Rd.tr_float (.int .i64 (i : Int)) (by simp only [List.getElem?_toArray, List.getElem?_cons_succ, List.getElem?_cons_zero]; rfl) rfl (by rfl) (fun X _ => by go_simp) ?_
              simp only [Act.put, List.setIfInBounds_toArray, List.set_cons_succ, List.set_cons_zero]
              refine Rd.tr_float (.pointer (some ⟨VB, i * 2, none⟩)) (by simp only [List.getElem?_toArray, List.getElem?_cons_succ, List.getElem?_cons_zero]; rfl) rfl (by rfl) (fun X _ => by go_simp) ?_
              simp only [Act.put, List.setIfInBounds_toArray, List.set_cons_succ, List.set_cons_zero]
              refine Rd.tr_float (.agg #[.slice p.a p.n p.c, .slice q.a q.n q.c]) (by simp only [List.getElem?_toArray, List.getElem?_cons_succ, List.getElem?_cons_zero]; rfl) rfl (by rfl) (fun X hX => by have h0 := (hX.2.1).2.1; have h1 := (hX.2.1).2.2; go_simp) ?_
              simp only [Act.put, List.setIfInBounds_toArray, List.set_cons_succ, List.set_cons_zero]
              refine Rd.tr_float (.slice (some ⟨WB, 0, none⟩) ks.length wcap) (by simp only [List.getElem?_toArray, List.getElem?_cons_succ, List.getElem?_cons_zero]; rfl) rfl (by rfl) (fun X _ => by go_simp) ?_
              simp only [Act.put, List.setIfInBounds_toArray, List.set_cons_succ, List.set_cons_zero]
              refine Rd.tr_float (.int .i64 (i : Int)) (by simp only [List.getElem?_toArray, List.getElem?_cons_succ, List.getElem?_cons_zero]; rfl) rfl (by rfl) (fun X _ => by go_simp) ?_
              simp only [Act.put, List.setIfInBounds_toArray, List.set_cons_succ, List.set_cons_zero]
              refine Rd.tr_float (.pointer (some ⟨WB, i * 2, none⟩)) (by simp only [List.getElem?_toArray, List.getElem?_cons_succ, List.getElem?_cons_zero]; rfl) rfl (by rfl) (fun X _ => by go_simp) ?_
              simp only [Act.put, List.setIfInBounds_toArray, List.set_cons_succ, List.set_cons_zero]
              refine Rd.tr_float (.agg #[.slice p2.a p2.n p2.c, .slice q2.a q2.n q2.c]) (by simp only [List.getElem?_toArray, List.getElem?_cons_succ, List.getElem?_cons_zero]; rfl) rfl (by rfl) (fun X hX => by have h0 := (hX.2.2).2.1; have h1 := (hX.2.2).2.2; go_simp) ?_
              simp only [Act.put, List.setIfInBounds_toArray, List.set_cons_succ, List.set_cons_zero]
              refine Rd.tr_move (by simp only [List.getElem?_toArray, List.getElem?_cons_succ, List.getElem?_cons_zero]; rfl) rfl (by rfl) (fun K hK => ?_)
              have H21 := Lib.hid (Qcmp p q p2 q2 (g1) (g1) w20 hq hq2)
              go_simp
              refine H21.out.mono ?_
              rintro e w22 ⟨rfl, hb⟩
              clear H21
              replace P10 := P10.below hb
              replace rp8 := rp8.below hb
              replace hv1 := hv1.below hb
              replace hv2 := hv2.below hb
              replace hq := hq.below hb
              replace hq2 := hq2.below hb
              replace sc := sc.below hb
              replace sd := sd.below hb
              replace hB := hB.trans (hb.mono hB.size)
              clear hb
              refine hK _ _ ⟨P10, sc, sd⟩ ?_
              clear hK K
              refine Rd.tr_float (.bool false) (by simp only [List.getElem?_toArray, List.getElem?_cons_succ, List.getElem?_cons_zero]; rfl) rfl (by rfl) (fun X _ => by have hO := cmpQ_self g1; go_simp) ?_
              simp only [Act.put, List.setIfInBounds_toArray, List.set_cons_succ, List.set_cons_zero]
              exact Rd.tr_end (⟨_, _, _, _, _, _, _, _, _, rfl, P10, rp8, hv1, hv2, hq, hq2, sc, sd, hB⟩)
            case next =>
              rintro a24 W23 ⟨y94, y95, y96, y97, y98, y99, y100, y101, y102, rfl, P10, rp8, hv1, hv2, hq, hq2, sc, sd, hB⟩
              go_wp2_with fail
              go_round
              case rel => exact ⟨i + 1, by omega, by go_num, Lib.hid P10, Lib.hid rp8, Lib.hid hv1, Lib.hid hv2, Lib.hid hB⟩
              case measure => simp [intOf]; omega
          · skip
            clear hv2
            by_cases hone : ks.length = 1
            · skip
              have h0l : 0 < ks.length := by omega
              obtain ⟨VB, vc2, ev, p, q, sc, hq⟩ := hv1.at h0l
              injection ev with ev1 ev2 ev3
              subst ev1 ev3
              clear ev2
              rw [HAL.out hone _ (kget_mem h0l)] at hq
              have HONE := Lib.hid hone
              clear hone
              go_wp2_with fail
              refine (?_ : ∀ (z0 z1 z2 z3 z4 z5 z7 z8 z9 z11 z12 z13 z14 z17 z18 z19 z20 z21 z22 z23 z24 z25 z26 z27 z28 z29 z30 z31 z32 z33 z34 z35 z36 z37 z38 z39 z40 z41 z42 z43 z44 z45 z46 z47 z48 z49 z50 z51 z52 z53 z54 z55 z56 z57 z58 z59 z60 z61 z62 z63 z64 z65 z66 z67 z68 z69 z70 z71 z72 z73 z74 z75 z76 z77 z78 z79 z80 z81 z82 z83 z84 z85 z86 z87 z88 z89 z90 z91 z92 z93 z94 z95 z96 z97 z98 z99 z100 z101 z102 z103 z104 z105 z106 z107 z108 z109 z110 z111 z112 z113 z114 z115 z116 z117 z118 z119 : Value), Code.wp _ _ _ { tmps := List.toArray (z0 :: z1 :: z2 :: z3 :: z4 :: z5 :: u6 :: z7 :: z8 :: z9 :: .pointer (some ⟨B10, 0, none⟩) :: z11 :: z12 :: z13 :: z14 :: .slice (some ⟨VB, 0, none⟩) ks.length vcap :: .int .i64 0 :: z17 :: z18 :: z19 :: z20 :: z21 :: z22 :: z23 :: z24 :: z25 :: z26 :: z27 :: z28 :: z29 :: z30 :: z31 :: z32 :: z33 :: z34 :: z35 :: z36 :: z37 :: z38 :: z39 :: z40 :: z41 :: z42 :: z43 :: z44 :: z45 :: z46 :: z47 :: z48 :: z49 :: z50 :: z51 :: z52 :: z53 :: z54 :: z55 :: z56 :: z57 :: z58 :: z59 :: z60 :: z61 :: z62 :: z63 :: z64 :: z65 :: z66 :: z67 :: z68 :: z69 :: z70 :: z71 :: z72 :: z73 :: z74 :: z75 :: z76 :: z77 :: z78 :: z79 :: z80 :: z81 :: z82 :: z83 :: z84 :: z85 :: z86 :: z87 :: z88 :: z89 :: z90 :: z91 :: z92 :: z93 :: z94 :: z95 :: z96 :: z97 :: z98 :: z99 :: z100 :: z101 :: z102 :: z103 :: z104 :: z105 :: z106 :: z107 :: z108 :: z109 :: z110 :: z111 :: z112 :: z113 :: z114 :: z115 :: z116 :: z117 :: z118 :: z119 :: []), defers := [] } _) _ _ _ _ _ _ _ _ _ _ _ _ _ _ _ _ _ _ _ _ _ _ _ _ _ _ _ _ _ _ _ _ _ _ _ _ _ _ _ _ _ _ _ _ _ _ _ _ _ _ _ _ _ _ _ _ _ _ _ _ _ _ _ _ _ _ _ _ _ _ _ _ _ _ _ _ _ _ _ _ _ _ _ _ _ _ _ _ _ _ _ _ _ _ _ _ _ _ _ _ _ _ _ _ _ _ _ _ _ _ _ _ _ _ _ _
              intro z0 z1 z2 z3 z4 z5 z7 z8 z9 z11 z12 z13 z14 z17 z18 z19 z20 z21 z22 z23 z24 z25 z26 z27 z28 z29 z30 z31 z32 z33 z34 z35 z36 z37 z38 z39 z40 z41 z42 z43 z44 z45 z46 z47 z48 z49 z50 z51 z52 z53 z54 z55 z56 z57 z58 z59 z60 z61 z62 z63 z64 z65 z66 z67 z68 z69 z70 z71 z72 z73 z74 z75 z76 z77 z78 z79 z80 z81 z82 z83 z84 z85 z86 z87 z88 z89 z90 z91 z92 z93 z94 z95 z96 z97 z98 z99 z100 z101 z102 z103 z104 z105 z106 z107 z108 z109 z110 z111 z112 z113 z114 z115 z116 z117 z118 z119
              have c0P10 := P10.c0
              have c1P10 := P10.c1
              go_wp2_with fail
              clear c0P10 c1P10
              have hb : Below wr.heap.size wr wr.drew := (Below.refl _ _).drew
              replace P10 := P10.below hb
              replace rp8 := rp8.below hb
              replace hv1 := hv1.below hb
              replace hq := hq.below hb
              replace sc := sc.below hb
              replace hB := hB.trans (hb.mono hB.size)
              clear hb
              refine Rd.regionT (fun X => Pair X (B10) 29 (.slice p8.a p8.n p8.c) (.slice q9.a q9.n q9.c) ∧ SC X VB 0 p q) [0, 1, 2, 3, 4, 5, 6, 7, 8, 9, 10, 11, 13, 14, 15] (.one 0 (.one 1 (.one 2 (.one 3 (.one 4 (.one 5 (.one 6 (.one 7 (.one 8 (.one 9 (.one 10 (.one 11 (.one 12 (.one 13 (.one 14 (.one 15 .done)))))))))))))))) (fun ac W => ∃  (y105 y106 y107 y108 y109 y110 y111 y112 y113 y114 y115 y116 y117 y118 y119 : Value), ac = { tmps := List.toArray (z0 :: z1 :: z2 :: z3 :: z4 :: z5 :: .bool true :: z7 :: z8 :: z9 :: .pointer (some ⟨B10, 0, none⟩) :: z11 :: z12 :: z13 :: z14 :: .slice (some ⟨VB, 0, none⟩) ks.length vcap :: .int .i64 0 :: z17 :: z18 :: z19 :: z20 :: z21 :: z22 :: z23 :: z24 :: z25 :: z26 :: z27 :: z28 :: z29 :: z30 :: z31 :: z32 :: z33 :: z34 :: z35 :: z36 :: z37 :: z38 :: z39 :: z40 :: z41 :: z42 :: z43 :: z44 :: z45 :: z46 :: z47 :: z48 :: z49 :: z50 :: z51 :: z52 :: z53 :: z54 :: z55 :: z56 :: z57 :: z58 :: z59 :: z60 :: z61 :: z62 :: z63 :: z64 :: z65 :: z66 :: z67 :: z68 :: z69 :: z70 :: z71 :: z72 :: z73 :: z74 :: z75 :: z76 :: z77 :: z78 :: z79 :: z80 :: z81 :: z82 :: z83 :: z84 :: z85 :: z86 :: z87 :: z88 :: z89 :: z90 :: z91 :: z92 :: z93 :: z94 :: z95 :: z96 :: z97 :: z98 :: z99 :: z100 :: z101 :: z102 :: z103 :: z104 :: y105 :: y106 :: y107 :: y108 :: y109 :: y110 :: y111 :: y112 :: y113 :: y114 :: y115 :: y116 :: y117 :: y118 :: y119 :: []), defers := [] } ∧ Below w.heap.size w W) (by kernel_rfl) (by kernel_rfl) (by kernel_rfl) ⟨P10, sc⟩ ?tree ?next
              case tree =>
                generalize wr.drew = w25 at P10 rp8 hv1 hq sc hB ⊢
                refine Rd.tr_float (.int .i64 0) (by simp only [List.getElem?_toArray, List.getElem?_cons_zero]; rfl) rfl (by rfl) (fun X _ => by go_simp) ?_
                simp only [Act.put, List.setIfInBounds_toArray, List.set_cons_succ, List.set_cons_zero]
                refine Rd.tr_float (.bool false) (by simp only [List.getElem?_toArray, List.getElem?_cons_succ, List.getElem?_cons_zero]; rfl) rfl (by rfl) (fun X _ => by go_simp) ?_
                simp only [Act.put, List.setIfInBounds_toArray, List.set_cons_succ, List.set_cons_zero]
                refine Rd.tr_float (.bool false) (by simp only [List.getElem?_toArray, List.getElem?_cons_succ, List.getElem?_cons_zero]; rfl) rfl (by rfl) (fun X _ => by go_simp) ?_
                simp only [Act.put, List.setIfInBounds_toArray, List.set_cons_succ, List.set_cons_zero]
                refine Rd.tr_float (.slice (some ⟨VB, 0, none⟩) ks.length vcap) (by simp only [List.getElem?_toArray, List.getElem?_cons_succ, List.getElem?_cons_zero]; rfl) rfl (by rfl) (fun X _ => by go_simp) ?_
                simp only [Act.put, List.setIfInBounds_toArray, List.set_cons_succ, List.set_cons_zero]
                refine Rd.tr_float (.int .i64 (ks.length : Int)) (by simp only [List.getElem?_toArray, List.getElem?_cons_succ, List.getElem?_cons_zero]; rfl) rfl (by rfl) (fun X _ => by go_simp) ?_
                simp only [Act.put, List.setIfInBounds_toArray, List.set_cons_succ, List.set_cons_zero]
                refine Rd.tr_float (.bool false) (by simp only [List.getElem?_toArray, List.getElem?_cons_succ, List.getElem?_cons_zero]; rfl) rfl (by rfl) (fun X _ => by have hO := HONE.out; go_simp) ?_
                simp only [Act.put, List.setIfInBounds_toArray, List.set_cons_succ, List.set_cons_zero]
                refine Rd.tr_float (.bool false) (by simp only [List.getElem?_toArray, List.getElem?_cons_succ, List.getElem?_cons_zero]; rfl) rfl (by rfl) (fun X _ => by go_simp) ?_
                simp only [Act.put, List.setIfInBounds_toArray, List.set_cons_succ, List.set_cons_zero]
                refine Rd.tr_float (.bool false) (by simp only [List.getElem?_toArray, List.getElem?_cons_succ, List.getElem?_cons_zero]; rfl) rfl (by rfl) (fun X _ => by go_simp) ?_
                simp only [Act.put, List.setIfInBounds_toArray, List.set_cons_succ, List.set_cons_zero]
                refine Rd.tr_float (.slice (some ⟨VB, 0, none⟩) ks.length vcap) (by simp only [List.getElem?_toArray, List.getElem?_cons_succ, List.getElem?_cons_zero]; rfl) rfl (by rfl) (fun X _ => by go_simp) ?_
                simp only [Act.put, List.setIfInBounds_toArray, List.set_cons_succ, List.set_cons_zero]
                refine Rd.tr_float (.pointer (some ⟨VB, 0, none⟩)) (by simp only [List.getElem?_toArray, List.getElem?_cons_succ, List.getElem?_cons_zero]; rfl) rfl (by rfl) (fun X _ => by go_simp) ?_
                simp only [Act.put, List.setIfInBounds_toArray, List.set_cons_succ, List.set_cons_zero]
                refine Rd.tr_float (.agg #[.slice p.a p.n p.c, .slice q.a q.n q.c]) (by simp only [List.getElem?_toArray, List.getElem?_cons_succ, List.getElem?_cons_zero]; rfl) rfl (by rfl) (fun X hX => by have h0 : X.cell? ⟨VB, 0, none⟩ = _ := (hX.2).2.1; have h1 : X.cell? ⟨VB, 1, none⟩ = _ := (hX.2).2.2; go_simp) ?_
                simp only [Act.put, List.setIfInBounds_toArray, List.set_cons_succ, List.set_cons_zero]
                refine Rd.tr_float (.agg #[.slice p8.a p8.n p8.c, .slice q9.a q9.n q9.c]) (by simp only [List.getElem?_toArray, List.getElem?_cons_succ, List.getElem?_cons_zero]; rfl) rfl (by rfl) (fun X hX => by have h0 := hX.1.c0; have h1 := hX.1.c1; go_simp) ?_
                simp only [Act.put, List.setIfInBounds_toArray, List.set_cons_succ, List.set_cons_zero]
                refine Rd.tr_move (by simp only [List.getElem?_toArray, List.getElem?_cons_succ, List.getElem?_cons_zero]; rfl) rfl (by rfl) (fun K hK => ?_)
                have H26 := Lib.hid (Qcmp p q p8 q9 (rat m d) (rat m d) w25 hq rp8)
                go_simp
                refine H26.out.mono ?_
                rintro e w27 ⟨rfl, hb⟩
                clear H26
                replace P10 := P10.below hb
                replace rp8 := rp8.below hb
                replace hv1 := hv1.below hb
                replace hq := hq.below hb
                replace sc := sc.below hb
                replace hB := hB.trans (hb.mono hB.size)
                clear hb
                refine hK _ _ ⟨P10, sc⟩ ?_
                clear hK K
                refine Rd.tr_float (.bool true) (by simp only [List.getElem?_toArray, List.getElem?_cons_succ, List.getElem?_cons_zero]; rfl) rfl (by rfl) (fun X _ => by have hO := cmpQ_self (rat m d); go_simp) ?_
                simp only [Act.put, List.setIfInBounds_toArray, List.set_cons_succ, List.set_cons_zero]
                refine Rd.tr_float (.bool true) (by simp only [List.getElem?_toArray, List.getElem?_cons_succ, List.getElem?_cons_zero]; rfl) rfl (by rfl) (fun X _ => by go_simp) ?_
                simp only [Act.put, List.setIfInBounds_toArray, List.set_cons_succ, List.set_cons_zero]
                refine Rd.tr_float (.bool true) (by simp only [List.getElem?_toArray, List.getElem?_cons_succ, List.getElem?_cons_zero]; rfl) rfl (by rfl) (fun X _ => by go_simp) ?_
                simp only [Act.put, List.setIfInBounds_toArray, List.set_cons_succ, List.set_cons_zero]
                exact Rd.tr_end (⟨_, _, _, _, _, _, _, _, _, _, _, _, _, _, _, rfl, hB⟩)
              case next =>
                rintro a29 W28 ⟨y105, y106, y107, y108, y109, y110, y111, y112, y113, y114, y115, y116, y117, y118, y119, rfl, hB⟩
                go_wp2_with fail
                go_ret
                exact ⟨rfl, hB⟩
            · skip
              go_wp2_with fail
              refine (?_ : ∀ (z0 z1 z2 z3 z4 z5 z7 z8 z9 z11 z12 z13 z14 z17 z18 z19 z20 z21 z22 z23 z24 z25 z26 z27 z28 z29 z30 z31 z32 z33 z34 z35 z36 z37 z38 z39 z40 z41 z42 z43 z44 z45 z46 z47 z48 z49 z50 z51 z52 z53 z54 z55 z56 z57 z58 z59 z60 z61 z62 z63 z64 z65 z66 z67 z68 z69 z70 z71 z72 z73 z74 z75 z76 z77 z78 z79 z80 z81 z82 z83 z84 z85 z86 z87 z88 z89 z90 z91 z92 z93 z94 z95 z96 z97 z98 z99 z100 z101 z102 z103 z104 z105 z106 z107 z108 z109 z110 z111 z112 z113 z114 z115 z116 z117 z118 z119 : Value), Code.wp _ _ _ { tmps := List.toArray (z0 :: z1 :: z2 :: z3 :: z4 :: z5 :: u6 :: z7 :: z8 :: z9 :: .pointer (some ⟨B10, 0, none⟩) :: z11 :: z12 :: z13 :: z14 :: .slice vad ks.length vcap :: .int .i64 0 :: z17 :: z18 :: z19 :: z20 :: z21 :: z22 :: z23 :: z24 :: z25 :: z26 :: z27 :: z28 :: z29 :: z30 :: z31 :: z32 :: z33 :: z34 :: z35 :: z36 :: z37 :: z38 :: z39 :: z40 :: z41 :: z42 :: z43 :: z44 :: z45 :: z46 :: z47 :: z48 :: z49 :: z50 :: z51 :: z52 :: z53 :: z54 :: z55 :: z56 :: z57 :: z58 :: z59 :: z60 :: z61 :: z62 :: z63 :: z64 :: z65 :: z66 :: z67 :: z68 :: z69 :: z70 :: z71 :: z72 :: z73 :: z74 :: z75 :: z76 :: z77 :: z78 :: z79 :: z80 :: z81 :: z82 :: z83 :: z84 :: z85 :: z86 :: z87 :: z88 :: z89 :: z90 :: z91 :: z92 :: z93 :: z94 :: z95 :: z96 :: z97 :: z98 :: z99 :: z100 :: z101 :: z102 :: z103 :: z104 :: z105 :: z106 :: z107 :: z108 :: z109 :: z110 :: z111 :: z112 :: z113 :: z114 :: z115 :: z116 :: z117 :: z118 :: z119 :: []), defers := [] } _) _ _ _ _ _ _ _ _ _ _ _ _ _ _ _ _ _ _ _ _ _ _ _ _ _ _ _ _ _ _ _ _ _ _ _ _ _ _ _ _ _ _ _ _ _ _ _ _ _ _ _ _ _ _ _ _ _ _ _ _ _ _ _ _ _ _ _ _ _ _ _ _ _ _ _ _ _ _ _ _ _ _ _ _ _ _ _ _ _ _ _ _ _ _ _ _ _ _ _ _ _ _ _ _ _ _ _ _ _ _ _ _ _ _ _ _
              intro z0 z1 z2 z3 z4 z5 z7 z8 z9 z11 z12 z13 z14 z17 z18 z19 z20 z21 z22 z23 z24 z25 z26 z27 z28 z29 z30 z31 z32 z33 z34 z35 z36 z37 z38 z39 z40 z41 z42 z43 z44 z45 z46 z47 z48 z49 z50 z51 z52 z53 z54 z55 z56 z57 z58 z59 z60 z61 z62 z63 z64 z65 z66 z67 z68 z69 z70 z71 z72 z73 z74 z75 z76 z77 z78 z79 z80 z81 z82 z83 z84 z85 z86 z87 z88 z89 z90 z91 z92 z93 z94 z95 z96 z97 z98 z99 z100 z101 z102 z103 z104 z105 z106 z107 z108 z109 z110 z111 z112 z113 z114 z115 z116 z117 z118 z119
              have c0P10 := P10.c0
              have c1P10 := P10.c1
              go_wp2_with fail
              clear c0P10 c1P10
              have hb : Below wr.heap.size wr wr.drew := (Below.refl _ _).drew
              replace P10 := P10.below hb
              replace rp8 := rp8.below hb
              replace hv1 := hv1.below hb
              replace hB := hB.trans (hb.mono hB.size)
              clear hb
              refine Rd.regionT (fun X => Pair X (B10) 29 (.slice p8.a p8.n p8.c) (.slice q9.a q9.n q9.c)) [0, 1, 2, 3, 4, 5, 6, 7, 8, 9, 10, 11, 13, 14, 15] (.one 0 (.one 1 (.one 2 (.one 3 (.one 4 (.one 5 (.one 6 (.one 7 (.one 8 (.one 9 (.one 10 (.one 11 (.one 12 (.one 13 (.one 14 (.one 15 .done)))))))))))))))) (fun ac W => ∃  (y105 y106 y107 y108 y109 y110 y111 y112 y113 y114 y115 y116 y117 y118 y119 : Value), ac = { tmps := List.toArray (z0 :: z1 :: z2 :: z3 :: z4 :: z5 :: .bool true :: z7 :: z8 :: z9 :: .pointer (some ⟨B10, 0, none⟩) :: z11 :: z12 :: z13 :: z14 :: .slice vad ks.length vcap :: .int .i64 0 :: z17 :: z18 :: z19 :: z20 :: z21 :: z22 :: z23 :: z24 :: z25 :: z26 :: z27 :: z28 :: z29 :: z30 :: z31 :: z32 :: z33 :: z34 :: z35 :: z36 :: z37 :: z38 :: z39 :: z40 :: z41 :: z42 :: z43 :: z44 :: z45 :: z46 :: z47 :: z48 :: z49 :: z50 :: z51 :: z52 :: z53 :: z54 :: z55 :: z56 :: z57 :: z58 :: z59 :: z60 :: z61 :: z62 :: z63 :: z64 :: z65 :: z66 :: z67 :: z68 :: z69 :: z70 :: z71 :: z72 :: z73 :: z74 :: z75 :: z76 :: z77 :: z78 :: z79 :: z80 :: z81 :: z82 :: z83 :: z84 :: z85 :: z86 :: z87 :: z88 :: z89 :: z90 :: z91 :: z92 :: z93 :: z94 :: z95 :: z96 :: z97 :: z98 :: z99 :: z100 :: z101 :: z102 :: z103 :: z104 :: y105 :: y106 :: y107 :: y108 :: y109 :: y110 :: y111 :: y112 :: y113 :: y114 :: y115 :: y116 :: y117 :: y118 :: y119 :: []), defers := [] } ∧ Below w.heap.size w W) (by kernel_rfl) (by kernel_rfl) (by kernel_rfl) P10 ?tree ?next
              case tree =>
                generalize wr.drew = w30 at P10 rp8 hv1 hB ⊢
                refine Rd.tr_float (.int .i64 0) (by simp only [List.getElem?_toArray, List.getElem?_cons_zero]; rfl) rfl (by rfl) (fun X _ => by go_simp) ?_
                simp only [Act.put, List.setIfInBounds_toArray, List.set_cons_succ, List.set_cons_zero]
                refine Rd.tr_float (.bool false) (by simp only [List.getElem?_toArray, List.getElem?_cons_succ, List.getElem?_cons_zero]; rfl) rfl (by rfl) (fun X _ => by go_simp) ?_
                simp only [Act.put, List.setIfInBounds_toArray, List.set_cons_succ, List.set_cons_zero]
                refine Rd.tr_float (.bool false) (by simp only [List.getElem?_toArray, List.getElem?_cons_succ, List.getElem?_cons_zero]; rfl) rfl (by rfl) (fun X _ => by go_simp) ?_
                simp only [Act.put, List.setIfInBounds_toArray, List.set_cons_succ, List.set_cons_zero]
                refine Rd.tr_float (.slice vad ks.length vcap) (by simp only [List.getElem?_toArray, List.getElem?_cons_succ, List.getElem?_cons_zero]; rfl) rfl (by rfl) (fun X _ => by go_simp) ?_
                simp only [Act.put, List.setIfInBounds_toArray, List.set_cons_succ, List.set_cons_zero]
                refine Rd.tr_float (.int .i64 (ks.length : Int)) (by simp only [List.getElem?_toArray, List.getElem?_cons_succ, List.getElem?_cons_zero]; rfl) rfl (by rfl) (fun X _ => by go_simp) ?_
                simp only [Act.put, List.setIfInBounds_toArray, List.set_cons_succ, List.set_cons_zero]
                refine Rd.tr_float (.bool true) (by simp only [List.getElem?_toArray, List.getElem?_cons_succ, List.getElem?_cons_zero]; rfl) rfl (by rfl) (fun X _ => by have hO := hone; have hO2 : ¬ (ks.length : Int) = 1 := (by omega); go_simp) ?_
                simp only [Act.put, List.setIfInBounds_toArray, List.set_cons_succ, List.set_cons_zero]
                refine Rd.tr_float (.bool true) (by simp only [List.getElem?_toArray, List.getElem?_cons_succ, List.getElem?_cons_zero]; rfl) rfl (by rfl) (fun X _ => by go_simp) ?_
                simp only [Act.put, List.setIfInBounds_toArray, List.set_cons_succ, List.set_cons_zero]
                refine Rd.tr_float (.bool true) (by simp only [List.getElem?_toArray, List.getElem?_cons_succ, List.getElem?_cons_zero]; rfl) rfl (by rfl) (fun X _ => by go_simp) ?_
                simp only [Act.put, List.setIfInBounds_toArray, List.set_cons_succ, List.set_cons_zero]
                refine Rd.tr_skip (by simp only [List.getElem?_toArray, List.getElem?_cons_succ, List.getElem?_cons_zero]; rfl) rfl (by rfl) ?_
                simp only [Act.put, List.setIfInBounds_toArray, List.set_cons_succ, List.set_cons_zero]
                refine Rd.tr_skip (by simp only [List.getElem?_toArray, List.getElem?_cons_succ, List.getElem?_cons_zero]; rfl) rfl (by rfl) ?_
                simp only [Act.put, List.setIfInBounds_toArray, List.set_cons_succ, List.set_cons_zero]
                refine Rd.tr_skip (by simp only [List.getElem?_toArray, List.getElem?_cons_succ, List.getElem?_cons_zero]; rfl) rfl (by rfl) ?_
                simp only [Act.put, List.setIfInBounds_toArray, List.set_cons_succ, List.set_cons_zero]
                refine Rd.tr_skip (by simp only [List.getElem?_toArray, List.getElem?_cons_succ, List.getElem?_cons_zero]; rfl) rfl (by rfl) ?_
                simp only [Act.put, List.setIfInBounds_toArray, List.set_cons_succ, List.set_cons_zero]
                refine Rd.tr_mskip (by simp only [List.getElem?_toArray, List.getElem?_cons_succ, List.getElem?_cons_zero]; rfl) rfl (by rfl) P10 ?_
                simp only [Act.put, List.setIfInBounds_toArray, List.set_cons_succ, List.set_cons_zero]
                refine Rd.tr_skip (by simp only [List.getElem?_toArray, List.getElem?_cons_succ, List.getElem?_cons_zero]; rfl) rfl (by rfl) ?_
                simp only [Act.put, List.setIfInBounds_toArray, List.set_cons_succ, List.set_cons_zero]
                refine Rd.tr_float (.bool true) (by simp only [List.getElem?_toArray, List.getElem?_cons_succ, List.getElem?_cons_zero]; rfl) rfl (by rfl) (fun X _ => by go_simp) ?_
                simp only [Act.put, List.setIfInBounds_toArray, List.set_cons_succ, List.set_cons_zero]
                refine Rd.tr_float (.bool true) (by simp only [List.getElem?_toArray, List.getElem?_cons_succ, List.getElem?_cons_zero]; rfl) rfl (by rfl) (fun X _ => by go_simp) ?_
                simp only [Act.put, List.setIfInBounds_toArray, List.set_cons_succ, List.set_cons_zero]
                exact Rd.tr_end (⟨_, _, _, _, _, _, _, _, _, _, _, _, _, _, _, rfl, hB⟩)
              case next =>
                rintro a32 W31 ⟨y105, y106, y107, y108, y109, y110, y111, y112, y113, y114, y115, y116, y117, y118, y119, rfl, hB⟩
                go_wp2_with fail
                go_ret
                exact ⟨rfl, hB⟩

theorem fillScales_any (A B : Int) (a b : Sl) (ws cs : List Int) (u : Int) (w : World) (ha : RI w a ws) (hc : RI w b cs) (hA1 : A < 9223372036854775808) (hB1 : B < 9223372036854775808) (hu0 : 0 ≤ u) (hu1 : u < 256) :
    Calls Tryz.prog 7 #[.agg #[.int .i64 A, .int .i64 B], .agg #[.slice a.a a.n a.c, .slice b.a b.n b.c], .int .u8 u] w fun e w' => e = .returned (.bool true) ∧ Below w.heap.size w w' := by
  obtain ⟨t, rfl⟩ : ∃ t : Nat, u = (t : Int) := ⟨u.toNat, by omega⟩
  by_cases h1 : 12 < ws.length
  · exact scales_l1 A B a b ws cs t (by omega) w ha hc h1
  by_cases h2 : 12 < cs.length
  · exact scales_l2 A B a b ws cs t (by omega) w ha hc (by omega) h2
  have hA : max A 0 = (((max A 0).toNat : Nat) : Int) := by omega
  have hD : max B 1 = (((max B 1).toNat : Nat) : Int) := by omega
  have hm : (max A 0).toNat < 9223372036854775808 := by omega
  have hd : (max B 1).toNat < 9223372036854775808 := by omega
  have HD0 : Hid ((max B 1).toNat ≠ 0) := Lib.hid (by omega)
  generalize (max A 0).toNat = m at hA hm
  generalize (max B 1).toNat = d at hD hd HD0
  have hkk : 1 + (t : Int) % 9 = ((1 + t % 9 : Nat) : Int) := by omega
  by_cases h0 : errOf (rat m d) ws cs = 0
  · obtain ⟨ks, rfl, rfl, hk, hl, hx⟩ := err_kids h0
    exact scales_good A B m d (1 + t % 9) a b ks t (by omega) w ha hc hA hD hm hd HD0 hkk (by omega) (by omega) (by rw [List.length_map] at h1; omega) (Lib.hid hk) (Lib.hid hx) (Lib.hid h0)
  · exact scales_bad A B m d (1 + t % 9) a b ws cs t (by omega) w ha hc hA hD hm hd HD0 hkk (by omega) (by omega) (by omega) (by omega) _ h0 (by simpa using h0) (Lib.hid rfl)
end Go.Proofs.YtphllajedkpcbaaGreatDoor
