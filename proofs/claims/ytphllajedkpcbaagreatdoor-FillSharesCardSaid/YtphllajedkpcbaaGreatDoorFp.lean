/-
  The document's by and Given, told in rationals. Condition: weights and caps of less than 63 bits; not more than a hundred limbs.
-/
import Derived.Test.YtphllajedkpcbaaGreatDoorFn
namespace Go.Proofs.YtphllajedkpcbaaGreatDoor
open Go.RowKit Go.Dig Go.Shelf Go.Proofs Go.Rq

set_option maxRecDepth 100000 in
set_option maxHeartbeats 4000000 in
theorem by_any (c k : Nat) (w : World) (hc : c < 9223372036854775808) (hk : k < 9223372036854775808) (HK : Hid (k ≠ 0)) :
    Calls Tryz.prog 36 #[.int .i64 (c : Int), .int .i64 (k : Int)] w fun e w' => ∃ u v : Sl, e = .returned (.agg #[.slice u.a u.n u.c, .slice v.a v.n v.c]) ∧ RK w' u v (rat c k) ∧ Below w.heap.size w w' := by
  go_enter Tryz.func36, Tryz.ntmps36
  have hb : Below w.heap.size w (w.alloc (.cells #[.slice none 0 0, .slice none 0 0] 32)) := ((Below.refl _ _).alloc (Nat.le_refl _) _)
  have hB := hb
  have P1 : Pair (w.alloc (.cells #[.slice none 0 0, .slice none 0 0] 32)) (w.heap.size) 32 (.slice none 0 0) (.slice none 0 0) := by
    have h := Pair.new w 32 (.slice none 0 0) (.slice none 0 0)
    simpa only [World.size_alloc] using h
  clear hb
  have c0P1 := P1.c0
  have c1P1 := P1.c1
  have H4 := Lib.hid (Of_any c (w.alloc (.cells #[.slice none 0 0, .slice none 0 0] 32)) (by omega))
  go_wp2_with fail
  clear c0P1 c1P1
  refine H4.out.mono ?_
  rintro e w5 ⟨v2, rfl, rx3, hb⟩
  clear H4
  replace P1 := P1.below hb
  replace hB := hB.trans (hb.mono hB.size)
  clear hb
  obtain ⟨x3, rfl, rx3⟩ := rx3.sl
  have c0P1 := P1.c0
  have c1P1 := P1.c1
  have H8 := Lib.hid (Of_any k w5 (by omega))
  go_wp2_with fail
  clear c0P1 c1P1
  refine H8.out.mono ?_
  rintro e w9 ⟨v6, rfl, rx7, hb⟩
  clear H8
  replace P1 := P1.below hb
  replace rx3 := rx3.below hb
  replace hB := hB.trans (hb.mono hB.size)
  clear hb
  obtain ⟨x7, rfl, rx7⟩ := rx7.sl
  have c0P1 := P1.c0
  have c1P1 := P1.c1
  have H12 := Lib.hid (Kof (.slice x3.a x3.n x3.c) (.slice x7.a x7.n x7.c) c k w9 rx3 rx7 (Nat.lt_of_lt_of_le (by omega : c < 9223372036854775808) (big_small 6400 (by decide) (by omega))) (Nat.lt_of_lt_of_le (by omega : k < 9223372036854775808) (big_small 6400 (by decide) (by omega))) HK.out)
  go_wp2_with fail
  clear c0P1 c1P1
  refine H12.out.mono ?_
  rintro e w13 ⟨x10, y11, rfl, rx10, hb⟩
  clear H12
  replace P1 := P1.below hb
  replace rx3 := rx3.below hb
  replace rx7 := rx7.below hb
  replace hB := hB.trans (hb.mono hB.size)
  clear hb
  have c0P1 := P1.c0
  have c1P1 := P1.c1
  have z0P1 := P1.z0
  have z1P1 := P1.z1
  have hsz := hB.size
  go_wp2_with fail
  replace rx10 := rx10.pset P1 (.slice x10.a x10.n x10.c) (.slice y11.a y11.n y11.c)
  replace hB := Below.pset (B := w.heap.size) hB (by omega) (.slice x10.a x10.n x10.c) (.slice y11.a y11.n y11.c)
  have PX := P1.set (.slice x10.a x10.n x10.c) (.slice y11.a y11.n y11.c)
  generalize (w13.setCell ⟨w.heap.size, 0, none⟩ (.slice x10.a x10.n x10.c)).setCell ⟨w.heap.size, 1, none⟩ (.slice y11.a y11.n y11.c) = WW at rx10 PX hB ⊢
  refine bodyPost_ret (v := .agg #[.slice x10.a x10.n x10.c, .slice y11.a y11.n y11.c]) ?_ rfl ⟨x10, y11, rfl, rx10, hB⟩
  simp [results, Tryz.f36, go_sem, PX.c0, PX.c1]

set_option maxRecDepth 100000 in
set_option maxHeartbeats 4000000 in
theorem given_cap (p q : Sl) (l : Rat) (k c : Nat) (w : World) (hl : RK w p q l) (hk : k < 9223372036854775808) (hc : c < 9223372036854775808) (HZ : Hid (Sz (l * (k : Rat)))) (HO : Hid ((c : Rat) < l * (k : Rat))) :
    Calls Tryz.prog 29 #[.agg #[.slice p.a p.n p.c, .slice q.a q.n q.c], .int .i64 (k : Int), .int .i64 (c : Int)] w fun e w' => ∃ u v : Sl, e = .returned (.agg #[.slice u.a u.n u.c, .slice v.a v.n v.c]) ∧ RK w' u v (given l (k, c)) ∧ Below w.heap.size w w' := by
  go_enter Tryz.func29, Tryz.ntmps29
  have hb : Below w.heap.size w ((w.alloc (.cells #[.slice p.a p.n p.c, .slice q.a q.n q.c] 32)).alloc (.cells #[.slice none 0 0, .slice none 0 0] 32)) := (((Below.refl _ _).alloc (Nat.le_refl _) _).alloc (by simp) _)
  replace hl := hl.below hb
  have hB := hb
  have P1 : Pair ((w.alloc (.cells #[.slice p.a p.n p.c, .slice q.a q.n q.c] 32)).alloc (.cells #[.slice none 0 0, .slice none 0 0] 32)) (w.heap.size) 32 (.slice p.a p.n p.c) (.slice q.a q.n q.c) := by
    have h := (Pair.new w 32 (.slice p.a p.n p.c) (.slice q.a q.n q.c)).alloc (.cells #[.slice none 0 0, .slice none 0 0] 32)
    simpa only [World.size_alloc] using h
  have P2 : Pair ((w.alloc (.cells #[.slice p.a p.n p.c, .slice q.a q.n q.c] 32)).alloc (.cells #[.slice none 0 0, .slice none 0 0] 32)) (w.heap.size + 1) 32 (.slice none 0 0) (.slice none 0 0) := by
    have h := Pair.new (w.alloc (.cells #[.slice p.a p.n p.c, .slice q.a q.n q.c] 32)) 32 (.slice none 0 0) (.slice none 0 0)
    simpa only [World.size_alloc] using h
  clear hb
  have c0P1 := P1.c0
  have c1P1 := P1.c1
  have c0P2 := P2.c0
  have c1P2 := P2.c1
  go_wp2_with fail
  clear c0P1 c1P1 c0P2 c1P2
  have hb : Below ((w.alloc (.cells #[.slice p.a p.n p.c, .slice q.a q.n q.c] 32)).alloc (.cells #[.slice none 0 0, .slice none 0 0] 32)).heap.size ((w.alloc (.cells #[.slice p.a p.n p.c, .slice q.a q.n q.c] 32)).alloc (.cells #[.slice none 0 0, .slice none 0 0] 32)) ((w.alloc (.cells #[.slice p.a p.n p.c, .slice q.a q.n q.c] 32)).alloc (.cells #[.slice none 0 0, .slice none 0 0] 32)).drew := (Below.refl _ _).drew
  replace P1 := P1.below hb
  replace P2 := P2.below hb
  replace hl := hl.below hb
  replace hB := hB.trans (hb.mono hB.size)
  clear hb
  refine Rd.regionT (fun X => Pair X (w.heap.size) 32 (.slice p.a p.n p.c) (.slice q.a q.n q.c) ∧ Pair X (w.heap.size + 1) 32 (.slice none 0 0) (.slice none 0 0)) [0, 1] (.one 0 (.one 1 (.two 2 (.two 3 (.one 4 (.one 5 .done)) 4 (.one 3 (.one 5 .done))) 4 (.one 2 (.one 3 (.one 5 .done)))))) (fun ac W => ∃ (py : Sl) (qy : Sl) (B7 : Nat) (y8 y9 y10 y11 : Value), ac = { tmps := List.toArray (.agg #[.slice p.a p.n p.c, .slice q.a q.n q.c] :: .int .i64 (k : Int) :: .int .i64 (c : Int) :: .pointer (some ⟨w.heap.size, 0, none⟩) :: undef :: undef :: .pointer (some ⟨w.heap.size + 1, 0, none⟩) :: .pointer (some ⟨B7, 0, none⟩) :: y8 :: y9 :: y10 :: y11 :: undef :: undef :: undef :: undef :: undef :: undef :: undef :: undef :: []), defers := [] } ∧ Pair W (w.heap.size) 32 (.slice p.a p.n p.c) (.slice q.a q.n q.c) ∧ Pair W (w.heap.size + 1) 32 (.slice none 0 0) (.slice none 0 0) ∧ RK W p q (l) ∧ Pair W B7 32 (.slice py.a py.n py.c) (.slice qy.a qy.n qy.c) ∧ RK W py qy (l * (k : Rat)) ∧ Below w.heap.size w W) (by kernel_rfl) (by kernel_rfl) (by kernel_rfl) ⟨P1, P2⟩ ?tree ?next
  case tree =>
    generalize ((w.alloc (.cells #[.slice p.a p.n p.c, .slice q.a q.n q.c] 32)).alloc (.cells #[.slice none 0 0, .slice none 0 0] 32)).drew = w3 at P1 P2 hl hB ⊢
    refine Rd.tr_float (.agg #[.slice p.a p.n p.c, .slice q.a q.n q.c]) (by simp only [List.getElem?_toArray, List.getElem?_cons_zero]; rfl) rfl (by rfl) (fun X hX => by have h0 := hX.1.c0; have h1 := hX.1.c1; go_simp) ?_
    simp only [Act.put, List.setIfInBounds_toArray, List.set_cons_succ, List.set_cons_zero]
    refine Rd.tr_float (.int .i64 (k : Int)) (by simp only [List.getElem?_toArray, List.getElem?_cons_succ, List.getElem?_cons_zero]; rfl) rfl (by rfl) (fun X _ => by go_simp) ?_
    simp only [Act.put, List.setIfInBounds_toArray, List.set_cons_succ, List.set_cons_zero]
    refine Rd.tr_two (by simp only [List.getElem?_toArray, List.getElem?_cons_succ, List.getElem?_cons_zero]; rfl) (by rfl) (by simp only [List.getElem?_toArray, List.getElem?_cons_succ, List.getElem?_cons_zero]; rfl) (by rfl) (fun K hK => ?_) (fun K hK => ?_)
    · skip
      have H6 := Lib.hid (Kint (k) (by omega) w3)
      go_simp
      refine H6.out.mono ?_
      rintro e w7 ⟨x4, y5, rfl, rx4, hb⟩
      clear H6
      replace P1 := P1.below hb
      replace P2 := P2.below hb
      replace hl := hl.below hb
      replace hB := hB.trans (hb.mono hB.size)
      clear hb
      refine hK _ _ ⟨P1, P2⟩ ?_
      clear hK K
      refine Rd.tr_two (by simp only [List.getElem?_toArray, List.getElem?_cons_succ, List.getElem?_cons_zero]; rfl) (by rfl) (by simp only [List.getElem?_toArray, List.getElem?_cons_succ, List.getElem?_cons_zero]; rfl) (by rfl) (fun K hK => ?_) (fun K hK => ?_)
      · skip
        have H10 := Lib.hid (Kmul p q x4 y5 (l) (((k : Nat) : Rat)) w7 hl rx4 HZ.out )
        go_simp
        refine H10.out.mono ?_
        rintro e w11 ⟨x8, y9, rfl, rx8, hb⟩
        clear H10
        replace P1 := P1.below hb
        replace P2 := P2.below hb
        replace hl := hl.below hb
        replace rx4 := rx4.below hb
        replace hB := hB.trans (hb.mono hB.size)
        clear hb
        refine hK _ _ ⟨P1, P2⟩ ?_
        clear hK K
        refine Rd.tr_move (by simp only [List.getElem?_toArray, List.getElem?_cons_succ, List.getElem?_cons_zero]; rfl) rfl (by rfl) (fun K hK => ?_)
        go_simp
        have P12 := Pair.new w11 32 (.slice none 0 0) (.slice none 0 0)
        have nP1P12 := P1.lt
        have nP2P12 := P2.lt
        have gP12 := hB.size
        have hb : Below w11.heap.size w11 (w11.alloc (.cells #[.slice none 0 0, .slice none 0 0] 32)) := (Below.refl _ _).alloc (Nat.le_refl _) _
        replace P1 := P1.below hb
        replace P2 := P2.below hb
        replace hl := hl.below hb
        replace rx4 := rx4.below hb
        replace rx8 := rx8.below hb
        replace hB := hB.trans (hb.mono hB.size)
        clear hb
        generalize w11.alloc (.cells #[.slice none 0 0, .slice none 0 0] 32) = w14 at P1 P2 hl rx4 rx8 P12 hB ⊢
        generalize w11.heap.size = B13 at nP1P12 nP2P12 P12 gP12 ⊢
        refine hK _ _ ⟨P1, P2⟩ ?_
        clear hK K
        refine Rd.tr_move (by simp only [List.getElem?_toArray, List.getElem?_cons_succ, List.getElem?_cons_zero]; rfl) rfl (by rfl) (fun K hK => ?_)
        have c0P12 := P12.c0
        have c1P12 := P12.c1
        have z0P12 := P12.z0
        have z1P12 := P12.z1
        go_simp
        clear c0P12 c1P12 z0P12 z1P12
        replace hl := hl.pset P12 (.slice x8.a x8.n x8.c) (.slice y9.a y9.n y9.c)
        replace rx4 := rx4.pset P12 (.slice x8.a x8.n x8.c) (.slice y9.a y9.n y9.c)
        replace rx8 := rx8.pset P12 (.slice x8.a x8.n x8.c) (.slice y9.a y9.n y9.c)
        replace P1 := P1.other (B := B13) (by omega) (.slice x8.a x8.n x8.c) (.slice y9.a y9.n y9.c)
        replace P2 := P2.other (B := B13) (by omega) (.slice x8.a x8.n x8.c) (.slice y9.a y9.n y9.c)
        replace hB := Below.pset (B := B13) hB (by omega) (.slice x8.a x8.n x8.c) (.slice y9.a y9.n y9.c)
        replace P12 := P12.set (.slice x8.a x8.n x8.c) (.slice y9.a y9.n y9.c)
        generalize (w14.setCell ⟨B13, 0, none⟩ (.slice x8.a x8.n x8.c)).setCell ⟨B13, 1, none⟩ (.slice y9.a y9.n y9.c) = w15 at P1 P2 P12 hl rx4 rx8 hB ⊢
        refine hK _ _ ⟨P1, P2⟩ ?_
        clear hK K
        exact Rd.tr_end (⟨x8, y9, B13, _, _, _, _, rfl, P1, P2, hl, P12, rx8, hB⟩)
      · skip
        go_simp
        have P16 := Pair.new w7 32 (.slice none 0 0) (.slice none 0 0)
        have nP1P16 := P1.lt
        have nP2P16 := P2.lt
        have gP16 := hB.size
        have hb : Below w7.heap.size w7 (w7.alloc (.cells #[.slice none 0 0, .slice none 0 0] 32)) := (Below.refl _ _).alloc (Nat.le_refl _) _
        replace P1 := P1.below hb
        replace P2 := P2.below hb
        replace hl := hl.below hb
        replace rx4 := rx4.below hb
        replace hB := hB.trans (hb.mono hB.size)
        clear hb
        generalize w7.alloc (.cells #[.slice none 0 0, .slice none 0 0] 32) = w18 at P1 P2 hl rx4 P16 hB ⊢
        generalize w7.heap.size = B17 at nP1P16 nP2P16 P16 gP16 ⊢
        refine hK _ _ ⟨P1, P2⟩ ?_
        clear hK K
        refine Rd.tr_move (by simp only [List.getElem?_toArray, List.getElem?_cons_succ, List.getElem?_cons_zero]; rfl) rfl (by rfl) (fun K hK => ?_)
        have H21 := Lib.hid (Kmul p q x4 y5 (l) (((k : Nat) : Rat)) w18 hl rx4 HZ.out )
        go_simp
        refine H21.out.mono ?_
        rintro e w22 ⟨x19, y20, rfl, rx19, hb⟩
        clear H21
        replace P1 := P1.below hb
        replace P2 := P2.below hb
        replace P16 := P16.below hb
        replace hl := hl.below hb
        replace rx4 := rx4.below hb
        replace hB := hB.trans (hb.mono hB.size)
        clear hb
        refine hK _ _ ⟨P1, P2⟩ ?_
        clear hK K
        refine Rd.tr_move (by simp only [List.getElem?_toArray, List.getElem?_cons_succ, List.getElem?_cons_zero]; rfl) rfl (by rfl) (fun K hK => ?_)
        have c0P16 := P16.c0
        have c1P16 := P16.c1
        have z0P16 := P16.z0
        have z1P16 := P16.z1
        go_simp
        clear c0P16 c1P16 z0P16 z1P16
        replace hl := hl.pset P16 (.slice x19.a x19.n x19.c) (.slice y20.a y20.n y20.c)
        replace rx4 := rx4.pset P16 (.slice x19.a x19.n x19.c) (.slice y20.a y20.n y20.c)
        replace rx19 := rx19.pset P16 (.slice x19.a x19.n x19.c) (.slice y20.a y20.n y20.c)
        replace P1 := P1.other (B := B17) (by omega) (.slice x19.a x19.n x19.c) (.slice y20.a y20.n y20.c)
        replace P2 := P2.other (B := B17) (by omega) (.slice x19.a x19.n x19.c) (.slice y20.a y20.n y20.c)
        replace hB := Below.pset (B := B17) hB (by omega) (.slice x19.a x19.n x19.c) (.slice y20.a y20.n y20.c)
        replace P16 := P16.set (.slice x19.a x19.n x19.c) (.slice y20.a y20.n y20.c)
        generalize (w22.setCell ⟨B17, 0, none⟩ (.slice x19.a x19.n x19.c)).setCell ⟨B17, 1, none⟩ (.slice y20.a y20.n y20.c) = w23 at P1 P2 P16 hl rx4 rx19 hB ⊢
        refine hK _ _ ⟨P1, P2⟩ ?_
        clear hK K
        exact Rd.tr_end (⟨x19, y20, B17, _, _, _, _, rfl, P1, P2, hl, P16, rx19, hB⟩)
    · skip
      go_simp
      have P24 := Pair.new w3 32 (.slice none 0 0) (.slice none 0 0)
      have nP1P24 := P1.lt
      have nP2P24 := P2.lt
      have gP24 := hB.size
      have hb : Below w3.heap.size w3 (w3.alloc (.cells #[.slice none 0 0, .slice none 0 0] 32)) := (Below.refl _ _).alloc (Nat.le_refl _) _
      replace P1 := P1.below hb
      replace P2 := P2.below hb
      replace hl := hl.below hb
      replace hB := hB.trans (hb.mono hB.size)
      clear hb
      generalize w3.alloc (.cells #[.slice none 0 0, .slice none 0 0] 32) = w26 at P1 P2 hl P24 hB ⊢
      generalize w3.heap.size = B25 at nP1P24 nP2P24 P24 gP24 ⊢
      refine hK _ _ ⟨P1, P2⟩ ?_
      clear hK K
      refine Rd.tr_move (by simp only [List.getElem?_toArray, List.getElem?_cons_succ, List.getElem?_cons_zero]; rfl) rfl (by rfl) (fun K hK => ?_)
      have H29 := Lib.hid (Kint (k) (by omega) w26)
      go_simp
      refine H29.out.mono ?_
      rintro e w30 ⟨x27, y28, rfl, rx27, hb⟩
      clear H29
      replace P1 := P1.below hb
      replace P2 := P2.below hb
      replace P24 := P24.below hb
      replace hl := hl.below hb
      replace hB := hB.trans (hb.mono hB.size)
      clear hb
      refine hK _ _ ⟨P1, P2⟩ ?_
      clear hK K
      refine Rd.tr_move (by simp only [List.getElem?_toArray, List.getElem?_cons_succ, List.getElem?_cons_zero]; rfl) rfl (by rfl) (fun K hK => ?_)
      have H33 := Lib.hid (Kmul p q x27 y28 (l) (((k : Nat) : Rat)) w30 hl rx27 HZ.out )
      go_simp
      refine H33.out.mono ?_
      rintro e w34 ⟨x31, y32, rfl, rx31, hb⟩
      clear H33
      replace P1 := P1.below hb
      replace P2 := P2.below hb
      replace P24 := P24.below hb
      replace hl := hl.below hb
      replace rx27 := rx27.below hb
      replace hB := hB.trans (hb.mono hB.size)
      clear hb
      refine hK _ _ ⟨P1, P2⟩ ?_
      clear hK K
      refine Rd.tr_move (by simp only [List.getElem?_toArray, List.getElem?_cons_succ, List.getElem?_cons_zero]; rfl) rfl (by rfl) (fun K hK => ?_)
      have c0P24 := P24.c0
      have c1P24 := P24.c1
      have z0P24 := P24.z0
      have z1P24 := P24.z1
      go_simp
      clear c0P24 c1P24 z0P24 z1P24
      replace hl := hl.pset P24 (.slice x31.a x31.n x31.c) (.slice y32.a y32.n y32.c)
      replace rx27 := rx27.pset P24 (.slice x31.a x31.n x31.c) (.slice y32.a y32.n y32.c)
      replace rx31 := rx31.pset P24 (.slice x31.a x31.n x31.c) (.slice y32.a y32.n y32.c)
      replace P1 := P1.other (B := B25) (by omega) (.slice x31.a x31.n x31.c) (.slice y32.a y32.n y32.c)
      replace P2 := P2.other (B := B25) (by omega) (.slice x31.a x31.n x31.c) (.slice y32.a y32.n y32.c)
      replace hB := Below.pset (B := B25) hB (by omega) (.slice x31.a x31.n x31.c) (.slice y32.a y32.n y32.c)
      replace P24 := P24.set (.slice x31.a x31.n x31.c) (.slice y32.a y32.n y32.c)
      generalize (w34.setCell ⟨B25, 0, none⟩ (.slice x31.a x31.n x31.c)).setCell ⟨B25, 1, none⟩ (.slice y32.a y32.n y32.c) = w35 at P1 P2 P24 hl rx27 rx31 hB ⊢
      refine hK _ _ ⟨P1, P2⟩ ?_
      clear hK K
      exact Rd.tr_end (⟨x31, y32, B25, _, _, _, _, rfl, P1, P2, hl, P24, rx31, hB⟩)
  case next =>
    rintro a37 W36 ⟨py, qy, B7, y8, y9, y10, y11, rfl, P1, P2, hl, P7, hy, hB⟩
    have c0P1 := P1.c0
    have c1P1 := P1.c1
    have c0P2 := P2.c0
    have c1P2 := P2.c1
    have c0P7 := P7.c0
    have c1P7 := P7.c1
    go_wp2_with fail
    clear c0P1 c1P1 c0P2 c1P2 c0P7 c1P7
    have hb : Below W36.heap.size W36 W36.drew := (Below.refl _ _).drew
    replace P1 := P1.below hb
    replace P2 := P2.below hb
    replace P7 := P7.below hb
    replace hl := hl.below hb
    replace hy := hy.below hb
    replace hB := hB.trans (hb.mono hB.size)
    clear hb
    refine Rd.regionT (fun X => Pair X (w.heap.size) 32 (.slice p.a p.n p.c) (.slice q.a q.n q.c) ∧ Pair X (w.heap.size + 1) 32 (.slice none 0 0) (.slice none 0 0) ∧ Pair X (B7) 32 (.slice py.a py.n py.c) (.slice qy.a qy.n qy.c)) [0, 1, 4] (.one 0 (.one 1 (.one 2 (.one 3 (.one 4 .done))))) (fun ac W => ∃ (T : Bool) (y12 y13 y14 y15 : Value), ac = { tmps := List.toArray (.agg #[.slice p.a p.n p.c, .slice q.a q.n q.c] :: .int .i64 (k : Int) :: .int .i64 (c : Int) :: .pointer (some ⟨w.heap.size, 0, none⟩) :: undef :: undef :: .pointer (some ⟨w.heap.size + 1, 0, none⟩) :: .pointer (some ⟨B7, 0, none⟩) :: y8 :: y9 :: y10 :: y11 :: y12 :: y13 :: y14 :: y15 :: .bool T :: undef :: undef :: undef :: []), defers := [] } ∧ Pair W (w.heap.size) 32 (.slice p.a p.n p.c) (.slice q.a q.n q.c) ∧ Pair W (w.heap.size + 1) 32 (.slice none 0 0) (.slice none 0 0) ∧ Pair W (B7) 32 (.slice py.a py.n py.c) (.slice qy.a qy.n qy.c) ∧ RK W p q (l) ∧ RK W py qy (l * (k : Rat)) ∧ T = decide ((c : Rat) < l * (k : Rat)) ∧ Below w.heap.size w W) (by kernel_rfl) (by kernel_rfl) (by kernel_rfl) ⟨P1, P2, P7⟩ ?tree ?next
    case tree =>
      generalize W36.drew = w38 at P1 P2 P7 hl hy hB ⊢
      refine Rd.tr_float (.agg #[.slice py.a py.n py.c, .slice qy.a qy.n qy.c]) (by simp only [List.getElem?_toArray, List.getElem?_cons_zero]; rfl) rfl (by rfl) (fun X hX => by have h0 := hX.2.2.c0; have h1 := hX.2.2.c1; go_simp) ?_
      simp only [Act.put, List.setIfInBounds_toArray, List.set_cons_succ, List.set_cons_zero]
      refine Rd.tr_float (.int .i64 (c : Int)) (by simp only [List.getElem?_toArray, List.getElem?_cons_succ, List.getElem?_cons_zero]; rfl) rfl (by rfl) (fun X _ => by go_simp) ?_
      simp only [Act.put, List.setIfInBounds_toArray, List.set_cons_succ, List.set_cons_zero]
      refine Rd.tr_move (by simp only [List.getElem?_toArray, List.getElem?_cons_succ, List.getElem?_cons_zero]; rfl) rfl (by rfl) (fun K hK => ?_)
      have H41 := Lib.hid (Kint (c) (by omega) w38)
      go_simp
      refine H41.out.mono ?_
      rintro e w42 ⟨x39, y40, rfl, rx39, hb⟩
      clear H41
      replace P1 := P1.below hb
      replace P2 := P2.below hb
      replace P7 := P7.below hb
      replace hl := hl.below hb
      replace hy := hy.below hb
      replace hB := hB.trans (hb.mono hB.size)
      clear hb
      refine hK _ _ ⟨P1, P2, P7⟩ ?_
      clear hK K
      refine Rd.tr_move (by simp only [List.getElem?_toArray, List.getElem?_cons_succ, List.getElem?_cons_zero]; rfl) rfl (by rfl) (fun K hK => ?_)
      have H43 := Lib.hid (Kcmp py qy x39 y40 (l * (k : Rat)) (((c : Nat) : Rat)) w42 hy rx39)
      go_simp
      refine H43.out.mono ?_
      rintro e w44 ⟨rfl, hb⟩
      clear H43
      replace P1 := P1.below hb
      replace P2 := P2.below hb
      replace P7 := P7.below hb
      replace hl := hl.below hb
      replace hy := hy.below hb
      replace rx39 := rx39.below hb
      replace hB := hB.trans (hb.mono hB.size)
      clear hb
      refine hK _ _ ⟨P1, P2, P7⟩ ?_
      clear hK K
      refine Rd.tr_float (.bool (decide (0 < (cmpQ (l * (k : Rat)) (((c : Nat) : Rat)))))) (by simp only [List.getElem?_toArray, List.getElem?_cons_succ, List.getElem?_cons_zero]; rfl) rfl (by rfl) (fun X _ => by go_simp) ?_
      simp only [Act.put, List.setIfInBounds_toArray, List.set_cons_succ, List.set_cons_zero]
      exact Rd.tr_end (⟨_, _, _, _, _, rfl, P1, P2, P7, hl, hy, (by simp only [cmpQ_gt]), hB⟩)
    case next =>
      rintro a46 W45 ⟨T, y12, y13, y14, y15, rfl, P1, P2, P7, hl, hy, hT, hB⟩
      rw [decide_eq_true HO.out] at hT
      subst hT
      have c0P1 := P1.c0
      have c1P1 := P1.c1
      have c0P2 := P2.c0
      have c1P2 := P2.c1
      have c0P7 := P7.c0
      have c1P7 := P7.c1
      have H49 := Lib.hid (Kint (c) (by omega) W45)
      go_wp2_with fail
      clear c0P1 c1P1 c0P2 c1P2 c0P7 c1P7
      refine H49.out.mono ?_
      rintro e w50 ⟨x47, y48, rfl, rx47, hb⟩
      clear H49
      replace P1 := P1.below hb
      replace P2 := P2.below hb
      replace P7 := P7.below hb
      replace hl := hl.below hb
      replace hy := hy.below hb
      replace hB := hB.trans (hb.mono hB.size)
      clear hb
      have c0P1 := P1.c0
      have c1P1 := P1.c1
      have c0P2 := P2.c0
      have c1P2 := P2.c1
      have c0P7 := P7.c0
      have c1P7 := P7.c1
      have z0P2 := P2.z0
      have z1P2 := P2.z1
      have hsz := hB.size
      go_wp2_with fail
      replace rx47 := rx47.pset P2 (.slice x47.a x47.n x47.c) (.slice y48.a y48.n y48.c)
      replace hB := Below.pset (B := w.heap.size + 1) hB (by omega) (.slice x47.a x47.n x47.c) (.slice y48.a y48.n y48.c)
      have PX := P2.set (.slice x47.a x47.n x47.c) (.slice y48.a y48.n y48.c)
      generalize (w50.setCell ⟨w.heap.size + 1, 0, none⟩ (.slice x47.a x47.n x47.c)).setCell ⟨w.heap.size + 1, 1, none⟩ (.slice y48.a y48.n y48.c) = WW at rx47 PX hB ⊢
      unfold given; rw [if_pos HO.out]
      refine bodyPost_ret (v := .agg #[.slice x47.a x47.n x47.c, .slice y48.a y48.n y48.c]) ?_ rfl ⟨x47, y48, rfl, rx47, hB⟩
      simp [results, Tryz.f29, go_sem, PX.c0, PX.c1]

set_option maxRecDepth 100000 in
set_option maxHeartbeats 4000000 in
theorem given_low' (p q : Sl) (l : Rat) (k c : Nat) (w : World) (hl : RK w p q l) (hk : k < 9223372036854775808) (hc : c < 9223372036854775808) (HZ : Hid (Sz (l * (k : Rat)))) (HO : Hid (¬ (c : Rat) < l * (k : Rat))) :
    Calls Tryz.prog 29 #[.agg #[.slice p.a p.n p.c, .slice q.a q.n q.c], .int .i64 (k : Int), .int .i64 (c : Int)] w fun e w' => ∃ u v : Sl, e = .returned (.agg #[.slice u.a u.n u.c, .slice v.a v.n v.c]) ∧ RK w' u v (given l (k, c)) ∧ Below w.heap.size w w' := by
  go_enter Tryz.func29, Tryz.ntmps29
  have hb : Below w.heap.size w ((w.alloc (.cells #[.slice p.a p.n p.c, .slice q.a q.n q.c] 32)).alloc (.cells #[.slice none 0 0, .slice none 0 0] 32)) := (((Below.refl _ _).alloc (Nat.le_refl _) _).alloc (by simp) _)
  replace hl := hl.below hb
  have hB := hb
  have P1 : Pair ((w.alloc (.cells #[.slice p.a p.n p.c, .slice q.a q.n q.c] 32)).alloc (.cells #[.slice none 0 0, .slice none 0 0] 32)) (w.heap.size) 32 (.slice p.a p.n p.c) (.slice q.a q.n q.c) := by
    have h := (Pair.new w 32 (.slice p.a p.n p.c) (.slice q.a q.n q.c)).alloc (.cells #[.slice none 0 0, .slice none 0 0] 32)
    simpa only [World.size_alloc] using h
  have P2 : Pair ((w.alloc (.cells #[.slice p.a p.n p.c, .slice q.a q.n q.c] 32)).alloc (.cells #[.slice none 0 0, .slice none 0 0] 32)) (w.heap.size + 1) 32 (.slice none 0 0) (.slice none 0 0) := by
    have h := Pair.new (w.alloc (.cells #[.slice p.a p.n p.c, .slice q.a q.n q.c] 32)) 32 (.slice none 0 0) (.slice none 0 0)
    simpa only [World.size_alloc] using h
  clear hb
  have c0P1 := P1.c0
  have c1P1 := P1.c1
  have c0P2 := P2.c0
  have c1P2 := P2.c1
  go_wp2_with fail
  clear c0P1 c1P1 c0P2 c1P2
  have hb : Below ((w.alloc (.cells #[.slice p.a p.n p.c, .slice q.a q.n q.c] 32)).alloc (.cells #[.slice none 0 0, .slice none 0 0] 32)).heap.size ((w.alloc (.cells #[.slice p.a p.n p.c, .slice q.a q.n q.c] 32)).alloc (.cells #[.slice none 0 0, .slice none 0 0] 32)) ((w.alloc (.cells #[.slice p.a p.n p.c, .slice q.a q.n q.c] 32)).alloc (.cells #[.slice none 0 0, .slice none 0 0] 32)).drew := (Below.refl _ _).drew
  replace P1 := P1.below hb
  replace P2 := P2.below hb
  replace hl := hl.below hb
  replace hB := hB.trans (hb.mono hB.size)
  clear hb
  refine Rd.regionT (fun X => Pair X (w.heap.size) 32 (.slice p.a p.n p.c) (.slice q.a q.n q.c) ∧ Pair X (w.heap.size + 1) 32 (.slice none 0 0) (.slice none 0 0)) [0, 1] (.one 0 (.one 1 (.two 2 (.two 3 (.one 4 (.one 5 .done)) 4 (.one 3 (.one 5 .done))) 4 (.one 2 (.one 3 (.one 5 .done)))))) (fun ac W => ∃ (py : Sl) (qy : Sl) (B7 : Nat) (y8 y9 y10 y11 : Value), ac = { tmps := List.toArray (.agg #[.slice p.a p.n p.c, .slice q.a q.n q.c] :: .int .i64 (k : Int) :: .int .i64 (c : Int) :: .pointer (some ⟨w.heap.size, 0, none⟩) :: undef :: undef :: .pointer (some ⟨w.heap.size + 1, 0, none⟩) :: .pointer (some ⟨B7, 0, none⟩) :: y8 :: y9 :: y10 :: y11 :: undef :: undef :: undef :: undef :: undef :: undef :: undef :: undef :: []), defers := [] } ∧ Pair W (w.heap.size) 32 (.slice p.a p.n p.c) (.slice q.a q.n q.c) ∧ Pair W (w.heap.size + 1) 32 (.slice none 0 0) (.slice none 0 0) ∧ RK W p q (l) ∧ Pair W B7 32 (.slice py.a py.n py.c) (.slice qy.a qy.n qy.c) ∧ RK W py qy (l * (k : Rat)) ∧ Below w.heap.size w W) (by kernel_rfl) (by kernel_rfl) (by kernel_rfl) ⟨P1, P2⟩ ?tree ?next
  case tree =>
    generalize ((w.alloc (.cells #[.slice p.a p.n p.c, .slice q.a q.n q.c] 32)).alloc (.cells #[.slice none 0 0, .slice none 0 0] 32)).drew = w3 at P1 P2 hl hB ⊢
    refine Rd.tr_float (.agg #[.slice p.a p.n p.c, .slice q.a q.n q.c]) (by simp only [List.getElem?_toArray, List.getElem?_cons_zero]; rfl) rfl (by rfl) (fun X hX => by have h0 := hX.1.c0; have h1 := hX.1.c1; go_simp) ?_
    simp only [Act.put, List.setIfInBounds_toArray, List.set_cons_succ, List.set_cons_zero]
    refine Rd.tr_float (.int .i64 (k : Int)) (by simp only [List.getElem?_toArray, List.getElem?_cons_succ, List.getElem?_cons_zero]; rfl) rfl (by rfl) (fun X _ => by go_simp) ?_
    simp only [Act.put, List.setIfInBounds_toArray, List.set_cons_succ, List.set_cons_zero]
    refine Rd.tr_two (by simp only [List.getElem?_toArray, List.getElem?_cons_succ, List.getElem?_cons_zero]; rfl) (by rfl) (by simp only [List.getElem?_toArray, List.getElem?_cons_succ, List.getElem?_cons_zero]; rfl) (by rfl) (fun K hK => ?_) (fun K hK => ?_)
    · skip
      have H6 := Lib.hid (Kint (k) (by omega) w3)
      go_simp
      refine H6.out.mono ?_
      rintro e w7 ⟨x4, y5, rfl, rx4, hb⟩
      clear H6
      replace P1 := P1.below hb
      replace P2 := P2.below hb
      replace hl := hl.below hb
      replace hB := hB.trans (hb.mono hB.size)
      clear hb
      refine hK _ _ ⟨P1, P2⟩ ?_
      clear hK K
      refine Rd.tr_two (by simp only [List.getElem?_toArray, List.getElem?_cons_succ, List.getElem?_cons_zero]; rfl) (by rfl) (by simp only [List.getElem?_toArray, List.getElem?_cons_succ, List.getElem?_cons_zero]; rfl) (by rfl) (fun K hK => ?_) (fun K hK => ?_)
      · skip
        have H10 := Lib.hid (Kmul p q x4 y5 (l) (((k : Nat) : Rat)) w7 hl rx4 HZ.out )
        go_simp
        refine H10.out.mono ?_
        rintro e w11 ⟨x8, y9, rfl, rx8, hb⟩
        clear H10
        replace P1 := P1.below hb
        replace P2 := P2.below hb
        replace hl := hl.below hb
        replace rx4 := rx4.below hb
        replace hB := hB.trans (hb.mono hB.size)
        clear hb
        refine hK _ _ ⟨P1, P2⟩ ?_
        clear hK K
        refine Rd.tr_move (by simp only [List.getElem?_toArray, List.getElem?_cons_succ, List.getElem?_cons_zero]; rfl) rfl (by rfl) (fun K hK => ?_)
        go_simp
        have P12 := Pair.new w11 32 (.slice none 0 0) (.slice none 0 0)
        have nP1P12 := P1.lt
        have nP2P12 := P2.lt
        have gP12 := hB.size
        have hb : Below w11.heap.size w11 (w11.alloc (.cells #[.slice none 0 0, .slice none 0 0] 32)) := (Below.refl _ _).alloc (Nat.le_refl _) _
        replace P1 := P1.below hb
        replace P2 := P2.below hb
        replace hl := hl.below hb
        replace rx4 := rx4.below hb
        replace rx8 := rx8.below hb
        replace hB := hB.trans (hb.mono hB.size)
        clear hb
        generalize w11.alloc (.cells #[.slice none 0 0, .slice none 0 0] 32) = w14 at P1 P2 hl rx4 rx8 P12 hB ⊢
        generalize w11.heap.size = B13 at nP1P12 nP2P12 P12 gP12 ⊢
        refine hK _ _ ⟨P1, P2⟩ ?_
        clear hK K
        refine Rd.tr_move (by simp only [List.getElem?_toArray, List.getElem?_cons_succ, List.getElem?_cons_zero]; rfl) rfl (by rfl) (fun K hK => ?_)
        have c0P12 := P12.c0
        have c1P12 := P12.c1
        have z0P12 := P12.z0
        have z1P12 := P12.z1
        go_simp
        clear c0P12 c1P12 z0P12 z1P12
        replace hl := hl.pset P12 (.slice x8.a x8.n x8.c) (.slice y9.a y9.n y9.c)
        replace rx4 := rx4.pset P12 (.slice x8.a x8.n x8.c) (.slice y9.a y9.n y9.c)
        replace rx8 := rx8.pset P12 (.slice x8.a x8.n x8.c) (.slice y9.a y9.n y9.c)
        replace P1 := P1.other (B := B13) (by omega) (.slice x8.a x8.n x8.c) (.slice y9.a y9.n y9.c)
        replace P2 := P2.other (B := B13) (by omega) (.slice x8.a x8.n x8.c) (.slice y9.a y9.n y9.c)
        replace hB := Below.pset (B := B13) hB (by omega) (.slice x8.a x8.n x8.c) (.slice y9.a y9.n y9.c)
        replace P12 := P12.set (.slice x8.a x8.n x8.c) (.slice y9.a y9.n y9.c)
        generalize (w14.setCell ⟨B13, 0, none⟩ (.slice x8.a x8.n x8.c)).setCell ⟨B13, 1, none⟩ (.slice y9.a y9.n y9.c) = w15 at P1 P2 P12 hl rx4 rx8 hB ⊢
        refine hK _ _ ⟨P1, P2⟩ ?_
        clear hK K
        exact Rd.tr_end (⟨x8, y9, B13, _, _, _, _, rfl, P1, P2, hl, P12, rx8, hB⟩)
      · skip
        go_simp
        have P16 := Pair.new w7 32 (.slice none 0 0) (.slice none 0 0)
        have nP1P16 := P1.lt
        have nP2P16 := P2.lt
        have gP16 := hB.size
        have hb : Below w7.heap.size w7 (w7.alloc (.cells #[.slice none 0 0, .slice none 0 0] 32)) := (Below.refl _ _).alloc (Nat.le_refl _) _
        replace P1 := P1.below hb
        replace P2 := P2.below hb
        replace hl := hl.below hb
        replace rx4 := rx4.below hb
        replace hB := hB.trans (hb.mono hB.size)
        clear hb
        generalize w7.alloc (.cells #[.slice none 0 0, .slice none 0 0] 32) = w18 at P1 P2 hl rx4 P16 hB ⊢
        generalize w7.heap.size = B17 at nP1P16 nP2P16 P16 gP16 ⊢
        refine hK _ _ ⟨P1, P2⟩ ?_
        clear hK K
        refine Rd.tr_move (by simp only [List.getElem?_toArray, List.getElem?_cons_succ, List.getElem?_cons_zero]; rfl) rfl (by rfl) (fun K hK => ?_)
        have H21 := Lib.hid (Kmul p q x4 y5 (l) (((k : Nat) : Rat)) w18 hl rx4 HZ.out )
        go_simp
        refine H21.out.mono ?_
        rintro e w22 ⟨x19, y20, rfl, rx19, hb⟩
        clear H21
        replace P1 := P1.below hb
        replace P2 := P2.below hb
        replace P16 := P16.below hb
        replace hl := hl.below hb
        replace rx4 := rx4.below hb
        replace hB := hB.trans (hb.mono hB.size)
        clear hb
        refine hK _ _ ⟨P1, P2⟩ ?_
        clear hK K
        refine Rd.tr_move (by simp only [List.getElem?_toArray, List.getElem?_cons_succ, List.getElem?_cons_zero]; rfl) rfl (by rfl) (fun K hK => ?_)
        have c0P16 := P16.c0
        have c1P16 := P16.c1
        have z0P16 := P16.z0
        have z1P16 := P16.z1
        go_simp
        clear c0P16 c1P16 z0P16 z1P16
        replace hl := hl.pset P16 (.slice x19.a x19.n x19.c) (.slice y20.a y20.n y20.c)
        replace rx4 := rx4.pset P16 (.slice x19.a x19.n x19.c) (.slice y20.a y20.n y20.c)
        replace rx19 := rx19.pset P16 (.slice x19.a x19.n x19.c) (.slice y20.a y20.n y20.c)
        replace P1 := P1.other (B := B17) (by omega) (.slice x19.a x19.n x19.c) (.slice y20.a y20.n y20.c)
        replace P2 := P2.other (B := B17) (by omega) (.slice x19.a x19.n x19.c) (.slice y20.a y20.n y20.c)
        replace hB := Below.pset (B := B17) hB (by omega) (.slice x19.a x19.n x19.c) (.slice y20.a y20.n y20.c)
        replace P16 := P16.set (.slice x19.a x19.n x19.c) (.slice y20.a y20.n y20.c)
        generalize (w22.setCell ⟨B17, 0, none⟩ (.slice x19.a x19.n x19.c)).setCell ⟨B17, 1, none⟩ (.slice y20.a y20.n y20.c) = w23 at P1 P2 P16 hl rx4 rx19 hB ⊢
        refine hK _ _ ⟨P1, P2⟩ ?_
        clear hK K
        exact Rd.tr_end (⟨x19, y20, B17, _, _, _, _, rfl, P1, P2, hl, P16, rx19, hB⟩)
    · skip
      go_simp
      have P24 := Pair.new w3 32 (.slice none 0 0) (.slice none 0 0)
      have nP1P24 := P1.lt
      have nP2P24 := P2.lt
      have gP24 := hB.size
      have hb : Below w3.heap.size w3 (w3.alloc (.cells #[.slice none 0 0, .slice none 0 0] 32)) := (Below.refl _ _).alloc (Nat.le_refl _) _
      replace P1 := P1.below hb
      replace P2 := P2.below hb
      replace hl := hl.below hb
      replace hB := hB.trans (hb.mono hB.size)
      clear hb
      generalize w3.alloc (.cells #[.slice none 0 0, .slice none 0 0] 32) = w26 at P1 P2 hl P24 hB ⊢
      generalize w3.heap.size = B25 at nP1P24 nP2P24 P24 gP24 ⊢
      refine hK _ _ ⟨P1, P2⟩ ?_
      clear hK K
      refine Rd.tr_move (by simp only [List.getElem?_toArray, List.getElem?_cons_succ, List.getElem?_cons_zero]; rfl) rfl (by rfl) (fun K hK => ?_)
      have H29 := Lib.hid (Kint (k) (by omega) w26)
      go_simp
      refine H29.out.mono ?_
      rintro e w30 ⟨x27, y28, rfl, rx27, hb⟩
      clear H29
      replace P1 := P1.below hb
      replace P2 := P2.below hb
      replace P24 := P24.below hb
      replace hl := hl.below hb
      replace hB := hB.trans (hb.mono hB.size)
      clear hb
      refine hK _ _ ⟨P1, P2⟩ ?_
      clear hK K
      refine Rd.tr_move (by simp only [List.getElem?_toArray, List.getElem?_cons_succ, List.getElem?_cons_zero]; rfl) rfl (by rfl) (fun K hK => ?_)
      have H33 := Lib.hid (Kmul p q x27 y28 (l) (((k : Nat) : Rat)) w30 hl rx27 HZ.out )
      go_simp
      refine H33.out.mono ?_
      rintro e w34 ⟨x31, y32, rfl, rx31, hb⟩
      clear H33
      replace P1 := P1.below hb
      replace P2 := P2.below hb
      replace P24 := P24.below hb
      replace hl := hl.below hb
      replace rx27 := rx27.below hb
      replace hB := hB.trans (hb.mono hB.size)
      clear hb
      refine hK _ _ ⟨P1, P2⟩ ?_
      clear hK K
      refine Rd.tr_move (by simp only [List.getElem?_toArray, List.getElem?_cons_succ, List.getElem?_cons_zero]; rfl) rfl (by rfl) (fun K hK => ?_)
      have c0P24 := P24.c0
      have c1P24 := P24.c1
      have z0P24 := P24.z0
      have z1P24 := P24.z1
      go_simp
      clear c0P24 c1P24 z0P24 z1P24
      replace hl := hl.pset P24 (.slice x31.a x31.n x31.c) (.slice y32.a y32.n y32.c)
      replace rx27 := rx27.pset P24 (.slice x31.a x31.n x31.c) (.slice y32.a y32.n y32.c)
      replace rx31 := rx31.pset P24 (.slice x31.a x31.n x31.c) (.slice y32.a y32.n y32.c)
      replace P1 := P1.other (B := B25) (by omega) (.slice x31.a x31.n x31.c) (.slice y32.a y32.n y32.c)
      replace P2 := P2.other (B := B25) (by omega) (.slice x31.a x31.n x31.c) (.slice y32.a y32.n y32.c)
      replace hB := Below.pset (B := B25) hB (by omega) (.slice x31.a x31.n x31.c) (.slice y32.a y32.n y32.c)
      replace P24 := P24.set (.slice x31.a x31.n x31.c) (.slice y32.a y32.n y32.c)
      generalize (w34.setCell ⟨B25, 0, none⟩ (.slice x31.a x31.n x31.c)).setCell ⟨B25, 1, none⟩ (.slice y32.a y32.n y32.c) = w35 at P1 P2 P24 hl rx27 rx31 hB ⊢
      refine hK _ _ ⟨P1, P2⟩ ?_
      clear hK K
      exact Rd.tr_end (⟨x31, y32, B25, _, _, _, _, rfl, P1, P2, hl, P24, rx31, hB⟩)
  case next =>
    rintro a37 W36 ⟨py, qy, B7, y8, y9, y10, y11, rfl, P1, P2, hl, P7, hy, hB⟩
    have c0P1 := P1.c0
    have c1P1 := P1.c1
    have c0P2 := P2.c0
    have c1P2 := P2.c1
    have c0P7 := P7.c0
    have c1P7 := P7.c1
    go_wp2_with fail
    clear c0P1 c1P1 c0P2 c1P2 c0P7 c1P7
    have hb : Below W36.heap.size W36 W36.drew := (Below.refl _ _).drew
    replace P1 := P1.below hb
    replace P2 := P2.below hb
    replace P7 := P7.below hb
    replace hl := hl.below hb
    replace hy := hy.below hb
    replace hB := hB.trans (hb.mono hB.size)
    clear hb
    refine Rd.regionT (fun X => Pair X (w.heap.size) 32 (.slice p.a p.n p.c) (.slice q.a q.n q.c) ∧ Pair X (w.heap.size + 1) 32 (.slice none 0 0) (.slice none 0 0) ∧ Pair X (B7) 32 (.slice py.a py.n py.c) (.slice qy.a qy.n qy.c)) [0, 1, 4] (.one 0 (.one 1 (.one 2 (.one 3 (.one 4 .done))))) (fun ac W => ∃ (T : Bool) (y12 y13 y14 y15 : Value), ac = { tmps := List.toArray (.agg #[.slice p.a p.n p.c, .slice q.a q.n q.c] :: .int .i64 (k : Int) :: .int .i64 (c : Int) :: .pointer (some ⟨w.heap.size, 0, none⟩) :: undef :: undef :: .pointer (some ⟨w.heap.size + 1, 0, none⟩) :: .pointer (some ⟨B7, 0, none⟩) :: y8 :: y9 :: y10 :: y11 :: y12 :: y13 :: y14 :: y15 :: .bool T :: undef :: undef :: undef :: []), defers := [] } ∧ Pair W (w.heap.size) 32 (.slice p.a p.n p.c) (.slice q.a q.n q.c) ∧ Pair W (w.heap.size + 1) 32 (.slice none 0 0) (.slice none 0 0) ∧ Pair W (B7) 32 (.slice py.a py.n py.c) (.slice qy.a qy.n qy.c) ∧ RK W p q (l) ∧ RK W py qy (l * (k : Rat)) ∧ T = decide ((c : Rat) < l * (k : Rat)) ∧ Below w.heap.size w W) (by kernel_rfl) (by kernel_rfl) (by kernel_rfl) ⟨P1, P2, P7⟩ ?tree ?next
    case tree =>
      generalize W36.drew = w38 at P1 P2 P7 hl hy hB ⊢
      refine Rd.tr_float (.agg #[.slice py.a py.n py.c, .slice qy.a qy.n qy.c]) (by simp only [List.getElem?_toArray, List.getElem?_cons_zero]; rfl) rfl (by rfl) (fun X hX => by have h0 := hX.2.2.c0; have h1 := hX.2.2.c1; go_simp) ?_
      simp only [Act.put, List.setIfInBounds_toArray, List.set_cons_succ, List.set_cons_zero]
      refine Rd.tr_float (.int .i64 (c : Int)) (by simp only [List.getElem?_toArray, List.getElem?_cons_succ, List.getElem?_cons_zero]; rfl) rfl (by rfl) (fun X _ => by go_simp) ?_
      simp only [Act.put, List.setIfInBounds_toArray, List.set_cons_succ, List.set_cons_zero]
      refine Rd.tr_move (by simp only [List.getElem?_toArray, List.getElem?_cons_succ, List.getElem?_cons_zero]; rfl) rfl (by rfl) (fun K hK => ?_)
      have H41 := Lib.hid (Kint (c) (by omega) w38)
      go_simp
      refine H41.out.mono ?_
      rintro e w42 ⟨x39, y40, rfl, rx39, hb⟩
      clear H41
      replace P1 := P1.below hb
      replace P2 := P2.below hb
      replace P7 := P7.below hb
      replace hl := hl.below hb
      replace hy := hy.below hb
      replace hB := hB.trans (hb.mono hB.size)
      clear hb
      refine hK _ _ ⟨P1, P2, P7⟩ ?_
      clear hK K
      refine Rd.tr_move (by simp only [List.getElem?_toArray, List.getElem?_cons_succ, List.getElem?_cons_zero]; rfl) rfl (by rfl) (fun K hK => ?_)
      have H43 := Lib.hid (Kcmp py qy x39 y40 (l * (k : Rat)) (((c : Nat) : Rat)) w42 hy rx39)
      go_simp
      refine H43.out.mono ?_
      rintro e w44 ⟨rfl, hb⟩
      clear H43
      replace P1 := P1.below hb
      replace P2 := P2.below hb
      replace P7 := P7.below hb
      replace hl := hl.below hb
      replace hy := hy.below hb
      replace rx39 := rx39.below hb
      replace hB := hB.trans (hb.mono hB.size)
      clear hb
      refine hK _ _ ⟨P1, P2, P7⟩ ?_
      clear hK K
      refine Rd.tr_float (.bool (decide (0 < (cmpQ (l * (k : Rat)) (((c : Nat) : Rat)))))) (by simp only [List.getElem?_toArray, List.getElem?_cons_succ, List.getElem?_cons_zero]; rfl) rfl (by rfl) (fun X _ => by go_simp) ?_
      simp only [Act.put, List.setIfInBounds_toArray, List.set_cons_succ, List.set_cons_zero]
      exact Rd.tr_end (⟨_, _, _, _, _, rfl, P1, P2, P7, hl, hy, (by simp only [cmpQ_gt]), hB⟩)
    case next =>
      rintro a46 W45 ⟨T, y12, y13, y14, y15, rfl, P1, P2, P7, hl, hy, hT, hB⟩
      rw [decide_eq_false HO.out] at hT
      subst hT
      have c0P1 := P1.c0
      have c1P1 := P1.c1
      have c0P2 := P2.c0
      have c1P2 := P2.c1
      have c0P7 := P7.c0
      have c1P7 := P7.c1
      have z0P2 := P2.z0
      have z1P2 := P2.z1
      have hsz := hB.size
      go_wp2_with fail
      replace hy := hy.pset P2 (.slice py.a py.n py.c) (.slice qy.a qy.n qy.c)
      replace hB := Below.pset (B := w.heap.size + 1) hB (by omega) (.slice py.a py.n py.c) (.slice qy.a qy.n qy.c)
      have PX := P2.set (.slice py.a py.n py.c) (.slice qy.a qy.n qy.c)
      generalize (W45.setCell ⟨w.heap.size + 1, 0, none⟩ (.slice py.a py.n py.c)).setCell ⟨w.heap.size + 1, 1, none⟩ (.slice qy.a qy.n qy.c) = WW at hy PX hB ⊢
      unfold given; rw [if_neg HO.out]
      refine bodyPost_ret (v := .agg #[.slice py.a py.n py.c, .slice qy.a qy.n qy.c]) ?_ rfl ⟨py, qy, rfl, hy, hB⟩
      simp [results, Tryz.f29, go_sem, PX.c0, PX.c1]

theorem given_any (p q : Sl) (l : Rat) (k c : Nat) (w : World) (hl : RK w p q l) (hk : k < 9223372036854775808) (hc : c < 9223372036854775808) (HZ : Hid (Sz (l * (k : Rat)))) :
    Calls Tryz.prog 29 #[.agg #[.slice p.a p.n p.c, .slice q.a q.n q.c], .int .i64 (k : Int), .int .i64 (c : Int)] w fun e w' => ∃ u v : Sl, e = .returned (.agg #[.slice u.a u.n u.c, .slice v.a v.n v.c]) ∧ RK w' u v (given l (k, c)) ∧ Below w.heap.size w w' := by
  by_cases h : (c : Rat) < l * (k : Rat)
  · exact given_cap p q l k c w hl hk hc HZ (Lib.hid h)
  · exact given_low' p q l k c w hl hk hc HZ (Lib.hid h)
end Go.Proofs.YtphllajedkpcbaaGreatDoor
