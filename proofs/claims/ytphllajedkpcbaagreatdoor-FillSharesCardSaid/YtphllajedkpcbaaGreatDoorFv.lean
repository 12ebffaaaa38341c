/-
  The document's Level is the level, told in rationals. Condition: at most 32 children, weights from 1 to 10000, caps to 64; what is shared isn't above the caps, and its denominator is below 2 to the 600th.
-/
import Derived.Test.YtphllajedkpcbaaGreatDoorFs
namespace Go.Proofs.YtphllajedkpcbaaGreatDoor
open Go.RowKit Go.Dig Go.Shelf Go.Proofs Go.Rq

set_option maxRecDepth 100000 in
set_option maxHeartbeats 4000000 in
theorem Level_doc (p q a b : Sl) (x : Rat) (ks : List Kid) (D : Nat) (w : World) (hx : RK w p q x) (ha : RI w a (ks.map fun k => (k.1 : Int))) (hc : RI w b (ks.map fun k => (k.2 : Int))) (hn : ks.length ≤ 32) (HKK : Hid (∀ k ∈ ks, okKid k)) (HF : Hid (Fine D x)) (HX : Hid (x ≤ ((caps ks : Nat) : Rat))) :
    Calls Tryz.prog 17 #[.agg #[.slice p.a p.n p.c, .slice q.a q.n q.c], .slice a.a a.n a.c, .slice b.a b.n b.c] w fun e w' => ∃ u v : Sl, e = .returned (.agg #[.slice u.a u.n u.c, .slice v.a v.n v.c]) ∧ RK w' u v (docLevel x ks) ∧ Below w.heap.size w w' := by
  obtain ⟨aa, an, al⟩ := a
  obtain ⟨ba, bn, bl⟩ := b
  have ea := ha.len
  have ec := hc.len
  rw [List.length_map] at ea ec
  dsimp only at ea ec
  subst ea ec
  dsimp only
  have HX0 : Hid (0 ≤ x) := Lib.hid hx.1.pos
  have HX2 : Hid (x ≤ ((2048 : Nat) : Rat)) := Lib.hid (Rat.le_trans HX.out (Rat.natCast_le_natCast.2 (by have := caps_le ks HKK.out; omega)))
  go_enter Tryz.func17, Tryz.ntmps17
  have hb : Below w.heap.size w ((w.alloc (.cells #[.slice p.a p.n p.c, .slice q.a q.n q.c] 32)).alloc (.cells #[.slice none 0 0, .slice none 0 0] 32)) := (((Below.refl _ _).alloc (Nat.le_refl _) _).alloc (by simp) _)
  replace hx := hx.below hb
  replace ha := ha.below hb
  replace hc := hc.below hb
  have hB := hb
  have P1 : Pair ((w.alloc (.cells #[.slice p.a p.n p.c, .slice q.a q.n q.c] 32)).alloc (.cells #[.slice none 0 0, .slice none 0 0] 32)) (w.heap.size) 32 (.slice p.a p.n p.c) (.slice q.a q.n q.c) := by
    have h := (Pair.new w 32 (.slice p.a p.n p.c) (.slice q.a q.n q.c)).alloc (.cells #[.slice none 0 0, .slice none 0 0] 32)
    simpa only [World.size_alloc] using h
  have P2 : Pair ((w.alloc (.cells #[.slice p.a p.n p.c, .slice q.a q.n q.c] 32)).alloc (.cells #[.slice none 0 0, .slice none 0 0] 32)) (w.heap.size + 1) 32 (.slice none 0 0) (.slice none 0 0) := by
    have h := Pair.new (w.alloc (.cells #[.slice p.a p.n p.c, .slice q.a q.n q.c] 32)) 32 (.slice none 0 0) (.slice none 0 0)
    simpa only [World.size_alloc] using h
  clear hb
  have c0P1 := P1.c0
  have c1P1 := P1.c1
  have c0P2 := P2.c0
  have c1P2 := P2.c1
  have H5 := Lib.hid (Kint (0) (by omega) ((w.alloc (.cells #[.slice p.a p.n p.c, .slice q.a q.n q.c] 32)).alloc (.cells #[.slice none 0 0, .slice none 0 0] 32)))
  go_wp2_with fail
  clear c0P1 c1P1 c0P2 c1P2
  refine H5.out.mono ?_
  rintro e w6 ⟨x3, y4, rfl, rx3, hb⟩
  clear H5
  replace P1 := P1.below hb
  replace P2 := P2.below hb
  replace hx := hx.below hb
  replace ha := ha.below hb
  replace hc := hc.below hb
  replace hB := hB.trans (hb.mono hB.size)
  clear hb
  have hp6 := P2.lt
  have hb : Below w6.heap.size w6 (w6.alloc (.cells #[.slice x3.a x3.n x3.c, .slice y4.a y4.n y4.c] 32)) := ((Below.refl _ _).alloc (Nat.le_refl _) _)
  replace P1 := P1.below hb
  replace P2 := P2.below hb
  replace hx := hx.below hb
  replace ha := ha.below hb
  replace hc := hc.below hb
  replace rx3 := rx3.below hb
  replace hB := hB.trans (hb.mono hB.size)
  have P7 : Pair (w6.alloc (.cells #[.slice x3.a x3.n x3.c, .slice y4.a y4.n y4.c] 32)) (w6.heap.size) 32 (.slice x3.a x3.n x3.c) (.slice y4.a y4.n y4.c) := by
    have h := Pair.new w6 32 (.slice x3.a x3.n x3.c) (.slice y4.a y4.n y4.c)
    simpa only [World.size_alloc] using h
  clear hb
  have c0P1 := P1.c0
  have c1P1 := P1.c1
  have c0P2 := P2.c0
  have c1P2 := P2.c1
  have c0P7 := P7.c0
  have c1P7 := P7.c1
  go_wp2_with fail
  clear c0P1 c1P1 c0P2 c1P2 c0P7 c1P7
  obtain ⟨B7, hB7⟩ : ∃ B, B = w6.heap.size := ⟨_, rfl⟩
  rw [← hB7] at hp6 P7 ⊢
  clear hB7
  have HR0 : Hid (lowOf x ks (ks.take 0) 0 = ((0 : Nat) : Rat)) := Lib.hid (by rw [List.take_zero]; rfl)
  refine (?_ : ∀ (z0 z4 z5 z8 z9 z10 z11 z12 z13 z14 z17 z18 z19 z20 z21 z22 z23 z24 z25 z26 z27 z28 z29 z30 z31 z32 z33 z34 z35 z36 z37 z38 z39 z40 z41 z42 z43 z44 z45 z46 z47 z48 z49 z50 z51 z52 z53 z54 z55 z56 z57 z58 z59 z60 z61 z62 z63 z64 z65 z66 z67 z68 z69 z70 z71 z72 z73 z74 z75 z76 z77 z78 z79 z80 z81 z82 z83 z84 z85 z86 z87 : Value), Code.wp _ _ _ { tmps := List.toArray (z0 :: .slice aa ks.length al :: .slice ba ks.length bl :: .pointer (some ⟨w.heap.size, 0, none⟩) :: z4 :: z5 :: .pointer (some ⟨w.heap.size + 1, 0, none⟩) :: .pointer (some ⟨B7, 0, none⟩) :: z8 :: z9 :: z10 :: z11 :: z12 :: z13 :: z14 :: .int .i64 (ks.length : Int) :: .int .i64 0 :: z17 :: z18 :: z19 :: z20 :: z21 :: z22 :: z23 :: z24 :: z25 :: z26 :: z27 :: z28 :: z29 :: z30 :: z31 :: z32 :: z33 :: z34 :: z35 :: z36 :: z37 :: z38 :: z39 :: z40 :: z41 :: z42 :: z43 :: z44 :: z45 :: z46 :: z47 :: z48 :: z49 :: z50 :: z51 :: z52 :: z53 :: z54 :: z55 :: z56 :: z57 :: z58 :: z59 :: z60 :: z61 :: z62 :: z63 :: z64 :: z65 :: z66 :: z67 :: z68 :: z69 :: z70 :: z71 :: z72 :: z73 :: z74 :: z75 :: z76 :: z77 :: z78 :: z79 :: z80 :: z81 :: z82 :: z83 :: z84 :: z85 :: z86 :: z87 :: []), defers := [] } _) _ _ _ _ _ _ _ _ _ _ _ _ _ _ _ _ _ _ _ _ _ _ _ _ _ _ _ _ _ _ _ _ _ _ _ _ _ _ _ _ _ _ _ _ _ _ _ _ _ _ _ _ _ _ _ _ _ _ _ _ _ _ _ _ _ _ _ _ _ _ _ _ _ _ _ _ _ _ _ _ _
  intro z0 z4 z5 z8 z9 z10 z11 z12 z13 z14 z17 z18 z19 z20 z21 z22 z23 z24 z25 z26 z27 z28 z29 z30 z31 z32 z33 z34 z35 z36 z37 z38 z39 z40 z41 z42 z43 z44 z45 z46 z47 z48 z49 z50 z51 z52 z53 z54 z55 z56 z57 z58 z59 z60 z61 z62 z63 z64 z65 z66 z67 z68 z69 z70 z71 z72 z73 z74 z75 z76 z77 z78 z79 z80 z81 z82 z83 z84 z85 z86 z87
  go_loopw [16] (fun i wr => ∃ (k : Nat) (ps qs : Sl) (low : Rat), k ≤ ks.length ∧ i = .int .i64 (k : Int) ∧ Hid (Lv low) ∧ Hid (low = lowOf x ks (ks.take k) 0) ∧ Hid (Pair wr (w.heap.size) 32 (.slice p.a p.n p.c) (.slice q.a q.n q.c)) ∧ Hid (Pair wr (w.heap.size + 1) 32 (.slice none 0 0) (.slice none 0 0)) ∧ Hid (RK wr p q x) ∧ Hid (RI wr ⟨aa, ks.length, al⟩ (ks.map fun k => (k.1 : Int))) ∧ Hid (RI wr ⟨ba, ks.length, bl⟩ (ks.map fun k => (k.2 : Int))) ∧ Hid (Pair wr B7 32 (.slice ps.a ps.n ps.c) (.slice qs.a qs.n qs.c)) ∧ Hid (RK wr ps qs low) ∧ Hid (Below w.heap.size w wr)) (fun mi _ => ks.length - (intOf mi).toNat)
  case atStart => exact ⟨0, x3, y4, ((0 : Nat) : Rat), Nat.zero_le _, rfl, Lib.hid Lv.zero, Lib.hid HR0.out.symm, Lib.hid P1, Lib.hid P2, Lib.hid hx, Lib.hid ha, Lib.hid hc, Lib.hid P7, Lib.hid rx3, Lib.hid hB⟩
  case round =>
    clear P1 P2 P7 rx3 hx ha hc hB
    obtain ⟨k, ps, qs, low, hk, rfl, HLV, HLO, HPL, HPR, Hhx, Hha, Hhc, HP7, Hhs, HBB⟩ := hrel
    have PL := HPL.out
    have PR := HPR.out
    have hx := Hhx.out
    have ha := Hha.out
    have hc := Hhc.out
    have P7 := HP7.out
    have hs := Hhs.out
    have hB := HBB.out
    clear HPL HPR Hhx Hha Hhc HP7 Hhs HBB
    by_cases hlt : k < ks.length
    · skip
      obtain ⟨b1, o1, ec, ic⟩ := hc.at hlt
      obtain ⟨b2, o2, ea, iw⟩ := ha.at hlt
      subst ea ec
      have hkk := HKK.out _ (kget_mem hlt)
      have HSN := Lib.hid (lowOf_snoc x hlt)
      generalize ks.getD k (0, 0) = kid at ic iw hkk HSN
      obtain ⟨wt, cp⟩ := kid
      dsimp only at ic iw
      have hwt := hkk.2.1
      have hcp := hkk.2.2
      have HW0 : Hid (wt ≠ 0) := Lib.hid hkk.1
      have HTV : Hid (Lv (rat cp wt)) := Lib.hid (Lv.top hkk)
      dsimp only at hwt hcp
      clear hkk
      have hsz := hB.size
      have hs7 := P7.lt
      have hsr := PR.lt
      have hsl := PL.lt
      have c0PL := PL.c0
      have c1PL := PL.c1
      have c0PR := PR.c0
      have c1PR := PR.c1
      have c0P7 := P7.c0
      have c1P7 := P7.c1
      go_wp2_with fail
      clear c0PL c1PL c0PR c1PR c0P7 c1P7
      have hb : Below wr.heap.size wr wr.drew := (Below.refl _ _).drew
      replace PL := PL.below hb
      replace PR := PR.below hb
      replace P7 := P7.below hb
      replace hx := hx.below hb
      replace ha := ha.below hb
      replace hc := hc.below hb
      replace hs := hs.below hb
      replace iw := iw.below hb
      replace ic := ic.below hb
      replace hB := hB.trans (hb.mono hB.size)
      clear hb
      refine Rd.regionT (fun X => Pair X (w.heap.size) 32 (.slice p.a p.n p.c) (.slice q.a q.n q.c) ∧ Pair X (w.heap.size + 1) 32 (.slice none 0 0) (.slice none 0 0) ∧ Pair X (B7) 32 (.slice ps.a ps.n ps.c) (.slice qs.a qs.n qs.c) ∧ IC X b2 (o2 + k) (wt : Int) ∧ IC X b1 (o1 + k) (cp : Int)) [0, 1, 2, 3, 4, 5, 6, 7] (.one 0 (.one 1 (.one 2 (.one 3 (.one 4 (.one 5 (.one 6 (.one 7 (.two 8 (.one 9 (.one 10 .done)) 9 (.one 8 (.one 10 .done))))))))))) (fun ac W => ∃ (py : Sl) (qy : Sl) (B9 : Nat) (y19 y20 y21 y22 y23 y24 y25 y26 y27 : Value), ac = { tmps := List.toArray (z0 :: .slice (some ⟨b2, o2, none⟩) ks.length al :: .slice (some ⟨b1, o1, none⟩) ks.length bl :: .pointer (some ⟨w.heap.size, 0, none⟩) :: z4 :: z5 :: .pointer (some ⟨w.heap.size + 1, 0, none⟩) :: .pointer (some ⟨B7, 0, none⟩) :: .int .i64 (k : Int) :: .pointer (some ⟨B9, 0, none⟩) :: z10 :: z11 :: z12 :: z13 :: z14 :: .int .i64 (ks.length : Int) :: .int .i64 (k : Int) :: .bool true :: .int .i64 (k : Int) :: y19 :: y20 :: y21 :: y22 :: y23 :: y24 :: y25 :: y26 :: y27 :: u28 :: u29 :: u30 :: u31 :: u32 :: u33 :: u34 :: u35 :: u36 :: u37 :: u38 :: u39 :: u40 :: u41 :: u42 :: z43 :: z44 :: z45 :: z46 :: z47 :: z48 :: z49 :: z50 :: z51 :: z52 :: z53 :: z54 :: z55 :: z56 :: z57 :: z58 :: z59 :: z60 :: z61 :: z62 :: z63 :: z64 :: z65 :: z66 :: z67 :: z68 :: z69 :: z70 :: z71 :: z72 :: z73 :: z74 :: z75 :: z76 :: z77 :: z78 :: z79 :: z80 :: z81 :: z82 :: z83 :: z84 :: z85 :: z86 :: z87 :: []), defers := [] } ∧ Pair W (w.heap.size) 32 (.slice p.a p.n p.c) (.slice q.a q.n q.c) ∧ Pair W (w.heap.size + 1) 32 (.slice none 0 0) (.slice none 0 0) ∧ Pair W (B7) 32 (.slice ps.a ps.n ps.c) (.slice qs.a qs.n qs.c) ∧ RK W p q (x) ∧ RI W ⟨some ⟨b2, o2, none⟩, ks.length, al⟩ (ks.map fun k => (k.1 : Int)) ∧ RI W ⟨some ⟨b1, o1, none⟩, ks.length, bl⟩ (ks.map fun k => (k.2 : Int)) ∧ RK W ps qs (low) ∧ IC W b2 (o2 + k) (wt : Int) ∧ IC W b1 (o1 + k) (cp : Int) ∧ Pair W B9 32 (.slice py.a py.n py.c) (.slice qy.a qy.n qy.c) ∧ RK W py qy (rat cp wt) ∧ Below w.heap.size w W) (by kernel_rfl) (by kernel_rfl) (by kernel_rfl) ⟨PL, PR, P7, iw, ic⟩ ?tree ?next
      case tree =>
        generalize wr.drew = w8 at PL PR P7 hx ha hc hs iw ic hB ⊢
        refine Rd.tr_float (.slice (some ⟨b1, o1, none⟩) ks.length bl) (by simp only [List.getElem?_toArray, List.getElem?_cons_zero]; rfl) rfl (by rfl) (fun X _ => by go_simp) ?_
        simp only [Act.put, List.setIfInBounds_toArray, List.set_cons_succ, List.set_cons_zero]
        refine Rd.tr_float (.int .i64 (k : Int)) (by simp only [List.getElem?_toArray, List.getElem?_cons_succ, List.getElem?_cons_zero]; rfl) rfl (by rfl) (fun X _ => by go_simp) ?_
        simp only [Act.put, List.setIfInBounds_toArray, List.set_cons_succ, List.set_cons_zero]
        refine Rd.tr_float (.pointer (some ⟨b1, o1 + k, none⟩)) (by simp only [List.getElem?_toArray, List.getElem?_cons_succ, List.getElem?_cons_zero]; rfl) rfl (by rfl) (fun X _ => by go_simp) ?_
        simp only [Act.put, List.setIfInBounds_toArray, List.set_cons_succ, List.set_cons_zero]
        refine Rd.tr_float (.int .i64 (cp : Int)) (by simp only [List.getElem?_toArray, List.getElem?_cons_succ, List.getElem?_cons_zero]; rfl) rfl (by rfl) (fun X hX => by have h0 := (hX.2.2.2.2).2; go_simp) ?_
        simp only [Act.put, List.setIfInBounds_toArray, List.set_cons_succ, List.set_cons_zero]
        refine Rd.tr_float (.slice (some ⟨b2, o2, none⟩) ks.length al) (by simp only [List.getElem?_toArray, List.getElem?_cons_succ, List.getElem?_cons_zero]; rfl) rfl (by rfl) (fun X _ => by go_simp) ?_
        simp only [Act.put, List.setIfInBounds_toArray, List.set_cons_succ, List.set_cons_zero]
        refine Rd.tr_float (.int .i64 (k : Int)) (by simp only [List.getElem?_toArray, List.getElem?_cons_succ, List.getElem?_cons_zero]; rfl) rfl (by rfl) (fun X _ => by go_simp) ?_
        simp only [Act.put, List.setIfInBounds_toArray, List.set_cons_succ, List.set_cons_zero]
        refine Rd.tr_float (.pointer (some ⟨b2, o2 + k, none⟩)) (by simp only [List.getElem?_toArray, List.getElem?_cons_succ, List.getElem?_cons_zero]; rfl) rfl (by rfl) (fun X _ => by go_simp) ?_
        simp only [Act.put, List.setIfInBounds_toArray, List.set_cons_succ, List.set_cons_zero]
        refine Rd.tr_float (.int .i64 (wt : Int)) (by simp only [List.getElem?_toArray, List.getElem?_cons_succ, List.getElem?_cons_zero]; rfl) rfl (by rfl) (fun X hX => by have h0 := (hX.2.2.2.1).2; go_simp) ?_
        simp only [Act.put, List.setIfInBounds_toArray, List.set_cons_succ, List.set_cons_zero]
        refine Rd.tr_two (by simp only [List.getElem?_toArray, List.getElem?_cons_succ, List.getElem?_cons_zero]; rfl) (by rfl) (by simp only [List.getElem?_toArray, List.getElem?_cons_succ, List.getElem?_cons_zero]; rfl) (by rfl) (fun K hK => ?_) (fun K hK => ?_)
        · skip
          have H11 := Lib.hid (by_any cp wt w8 (by omega) (by omega) HW0)
          go_simp
          refine H11.out.mono ?_
          rintro e w12 ⟨x9, y10, rfl, rx9, hb⟩
          clear H11
          replace PL := PL.below hb
          replace PR := PR.below hb
          replace P7 := P7.below hb
          replace hx := hx.below hb
          replace ha := ha.below hb
          replace hc := hc.below hb
          replace hs := hs.below hb
          replace iw := iw.below hb
          replace ic := ic.below hb
          replace hB := hB.trans (hb.mono hB.size)
          clear hb
          refine hK _ _ ⟨PL, PR, P7, iw, ic⟩ ?_
          clear hK K
          refine Rd.tr_move (by simp only [List.getElem?_toArray, List.getElem?_cons_succ, List.getElem?_cons_zero]; rfl) rfl (by rfl) (fun K hK => ?_)
          go_simp
          have P13 := Pair.new w12 32 (.slice none 0 0) (.slice none 0 0)
          have nPLP13 := PL.lt
          have nPRP13 := PR.lt
          have nP7P13 := P7.lt
          have gP13 := hB.size
          have hb : Below w12.heap.size w12 (w12.alloc (.cells #[.slice none 0 0, .slice none 0 0] 32)) := (Below.refl _ _).alloc (Nat.le_refl _) _
          replace PL := PL.below hb
          replace PR := PR.below hb
          replace P7 := P7.below hb
          replace hx := hx.below hb
          replace ha := ha.below hb
          replace hc := hc.below hb
          replace hs := hs.below hb
          replace iw := iw.below hb
          replace ic := ic.below hb
          replace rx9 := rx9.below hb
          replace hB := hB.trans (hb.mono hB.size)
          clear hb
          generalize w12.alloc (.cells #[.slice none 0 0, .slice none 0 0] 32) = w15 at PL PR P7 hx ha hc hs iw ic rx9 P13 hB ⊢
          generalize w12.heap.size = B14 at nPLP13 nPRP13 nP7P13 P13 gP13 ⊢
          refine hK _ _ ⟨PL, PR, P7, iw, ic⟩ ?_
          clear hK K
          refine Rd.tr_move (by simp only [List.getElem?_toArray, List.getElem?_cons_succ, List.getElem?_cons_zero]; rfl) rfl (by rfl) (fun K hK => ?_)
          have c0P13 := P13.c0
          have c1P13 := P13.c1
          have z0P13 := P13.z0
          have z1P13 := P13.z1
          go_simp
          clear c0P13 c1P13 z0P13 z1P13
          replace hx := hx.pset P13 (.slice x9.a x9.n x9.c) (.slice y10.a y10.n y10.c)
          replace ha := ha.pset P13 (.slice x9.a x9.n x9.c) (.slice y10.a y10.n y10.c)
          replace hc := hc.pset P13 (.slice x9.a x9.n x9.c) (.slice y10.a y10.n y10.c)
          replace hs := hs.pset P13 (.slice x9.a x9.n x9.c) (.slice y10.a y10.n y10.c)
          replace iw := iw.pset P13 (.slice x9.a x9.n x9.c) (.slice y10.a y10.n y10.c)
          replace ic := ic.pset P13 (.slice x9.a x9.n x9.c) (.slice y10.a y10.n y10.c)
          replace rx9 := rx9.pset P13 (.slice x9.a x9.n x9.c) (.slice y10.a y10.n y10.c)
          replace PL := PL.other (B := B14) (by omega) (.slice x9.a x9.n x9.c) (.slice y10.a y10.n y10.c)
          replace PR := PR.other (B := B14) (by omega) (.slice x9.a x9.n x9.c) (.slice y10.a y10.n y10.c)
          replace P7 := P7.other (B := B14) (by omega) (.slice x9.a x9.n x9.c) (.slice y10.a y10.n y10.c)
          replace hB := Below.pset (B := B14) hB (by omega) (.slice x9.a x9.n x9.c) (.slice y10.a y10.n y10.c)
          replace P13 := P13.set (.slice x9.a x9.n x9.c) (.slice y10.a y10.n y10.c)
          generalize (w15.setCell ⟨B14, 0, none⟩ (.slice x9.a x9.n x9.c)).setCell ⟨B14, 1, none⟩ (.slice y10.a y10.n y10.c) = w16 at PL PR P7 P13 hx ha hc hs iw ic rx9 hB ⊢
          refine hK _ _ ⟨PL, PR, P7, iw, ic⟩ ?_
          clear hK K
          exact Rd.tr_end (⟨x9, y10, B14, _, _, _, _, _, _, _, _, _, rfl, PL, PR, P7, hx, ha, hc, hs, iw, ic, P13, rx9, hB⟩)
        · skip
          go_simp
          have P17 := Pair.new w8 32 (.slice none 0 0) (.slice none 0 0)
          have nPLP17 := PL.lt
          have nPRP17 := PR.lt
          have nP7P17 := P7.lt
          have gP17 := hB.size
          have hb : Below w8.heap.size w8 (w8.alloc (.cells #[.slice none 0 0, .slice none 0 0] 32)) := (Below.refl _ _).alloc (Nat.le_refl _) _
          replace PL := PL.below hb
          replace PR := PR.below hb
          replace P7 := P7.below hb
          replace hx := hx.below hb
          replace ha := ha.below hb
          replace hc := hc.below hb
          replace hs := hs.below hb
          replace iw := iw.below hb
          replace ic := ic.below hb
          replace hB := hB.trans (hb.mono hB.size)
          clear hb
          generalize w8.alloc (.cells #[.slice none 0 0, .slice none 0 0] 32) = w19 at PL PR P7 hx ha hc hs iw ic P17 hB ⊢
          generalize w8.heap.size = B18 at nPLP17 nPRP17 nP7P17 P17 gP17 ⊢
          refine hK _ _ ⟨PL, PR, P7, iw, ic⟩ ?_
          clear hK K
          refine Rd.tr_move (by simp only [List.getElem?_toArray, List.getElem?_cons_succ, List.getElem?_cons_zero]; rfl) rfl (by rfl) (fun K hK => ?_)
          have H22 := Lib.hid (by_any cp wt w19 (by omega) (by omega) HW0)
          go_simp
          refine H22.out.mono ?_
          rintro e w23 ⟨x20, y21, rfl, rx20, hb⟩
          clear H22
          replace PL := PL.below hb
          replace PR := PR.below hb
          replace P7 := P7.below hb
          replace P17 := P17.below hb
          replace hx := hx.below hb
          replace ha := ha.below hb
          replace hc := hc.below hb
          replace hs := hs.below hb
          replace iw := iw.below hb
          replace ic := ic.below hb
          replace hB := hB.trans (hb.mono hB.size)
          clear hb
          refine hK _ _ ⟨PL, PR, P7, iw, ic⟩ ?_
          clear hK K
          refine Rd.tr_move (by simp only [List.getElem?_toArray, List.getElem?_cons_succ, List.getElem?_cons_zero]; rfl) rfl (by rfl) (fun K hK => ?_)
          have c0P17 := P17.c0
          have c1P17 := P17.c1
          have z0P17 := P17.z0
          have z1P17 := P17.z1
          go_simp
          clear c0P17 c1P17 z0P17 z1P17
          replace hx := hx.pset P17 (.slice x20.a x20.n x20.c) (.slice y21.a y21.n y21.c)
          replace ha := ha.pset P17 (.slice x20.a x20.n x20.c) (.slice y21.a y21.n y21.c)
          replace hc := hc.pset P17 (.slice x20.a x20.n x20.c) (.slice y21.a y21.n y21.c)
          replace hs := hs.pset P17 (.slice x20.a x20.n x20.c) (.slice y21.a y21.n y21.c)
          replace iw := iw.pset P17 (.slice x20.a x20.n x20.c) (.slice y21.a y21.n y21.c)
          replace ic := ic.pset P17 (.slice x20.a x20.n x20.c) (.slice y21.a y21.n y21.c)
          replace rx20 := rx20.pset P17 (.slice x20.a x20.n x20.c) (.slice y21.a y21.n y21.c)
          replace PL := PL.other (B := B18) (by omega) (.slice x20.a x20.n x20.c) (.slice y21.a y21.n y21.c)
          replace PR := PR.other (B := B18) (by omega) (.slice x20.a x20.n x20.c) (.slice y21.a y21.n y21.c)
          replace P7 := P7.other (B := B18) (by omega) (.slice x20.a x20.n x20.c) (.slice y21.a y21.n y21.c)
          replace hB := Below.pset (B := B18) hB (by omega) (.slice x20.a x20.n x20.c) (.slice y21.a y21.n y21.c)
          replace P17 := P17.set (.slice x20.a x20.n x20.c) (.slice y21.a y21.n y21.c)
          generalize (w23.setCell ⟨B18, 0, none⟩ (.slice x20.a x20.n x20.c)).setCell ⟨B18, 1, none⟩ (.slice y21.a y21.n y21.c) = w24 at PL PR P7 P17 hx ha hc hs iw ic rx20 hB ⊢
          refine hK _ _ ⟨PL, PR, P7, iw, ic⟩ ?_
          clear hK K
          exact Rd.tr_end (⟨x20, y21, B18, _, _, _, _, _, _, _, _, _, rfl, PL, PR, P7, hx, ha, hc, hs, iw, ic, P17, rx20, hB⟩)
      case next =>
        rintro a26 W25 ⟨py, qy, B9, y19, y20, y21, y22, y23, y24, y25, y26, y27, rfl, PL, PR, P7, hx, ha, hc, hs, iw, ic, P9, hy, hB⟩
        by_cases HO1 : sum (rat cp wt) ks < x
        · skip
          have HO := Lib.hid HO1
          clear HO1
          have c0PL := PL.c0
          have c1PL := PL.c1
          have c0PR := PR.c0
          have c1PR := PR.c1
          have c0P7 := P7.c0
          have c1P7 := P7.c1
          have c0P9 := P9.c0
          have c1P9 := P9.c1
          go_wp2_with fail
          clear c0PL c1PL c0PR c1PR c0P7 c1P7 c0P9 c1P9
          have hb : Below W25.heap.size W25 W25.drew := (Below.refl _ _).drew
          replace PL := PL.below hb
          replace PR := PR.below hb
          replace P7 := P7.below hb
          replace P9 := P9.below hb
          replace hx := hx.below hb
          replace ha := ha.below hb
          replace hc := hc.below hb
          replace hs := hs.below hb
          replace iw := iw.below hb
          replace ic := ic.below hb
          replace hy := hy.below hb
          replace hB := hB.trans (hb.mono hB.size)
          clear hb
          refine Rd.regionT (fun X => Pair X (w.heap.size) 32 (.slice p.a p.n p.c) (.slice q.a q.n q.c) ∧ Pair X (w.heap.size + 1) 32 (.slice none 0 0) (.slice none 0 0) ∧ Pair X (B7) 32 (.slice ps.a ps.n ps.c) (.slice qs.a qs.n qs.c) ∧ Pair X (B9) 32 (.slice py.a py.n py.c) (.slice qy.a qy.n qy.c)) [0, 1, 2, 4, 6, 7, 8, 9, 11, 12] (.one 0 (.one 1 (.one 2 (.one 4 (.one 3 (.one 5 (.one 6 (.one 7 (.one 8 (.one 9 (.one 10 (.one 11 (.one 12 .done))))))))))))) (fun ac W => ∃ (T : Bool) (y28 y29 y30 y31 y32 y33 y34 y35 y36 y37 y38 y39 : Value), ac = { tmps := List.toArray (z0 :: .slice (some ⟨b2, o2, none⟩) ks.length al :: .slice (some ⟨b1, o1, none⟩) ks.length bl :: .pointer (some ⟨w.heap.size, 0, none⟩) :: z4 :: z5 :: .pointer (some ⟨w.heap.size + 1, 0, none⟩) :: .pointer (some ⟨B7, 0, none⟩) :: .int .i64 (k : Int) :: .pointer (some ⟨B9, 0, none⟩) :: z10 :: z11 :: z12 :: z13 :: z14 :: .int .i64 (ks.length : Int) :: .int .i64 (k : Int) :: .bool true :: .int .i64 (k : Int) :: y19 :: y20 :: y21 :: y22 :: y23 :: y24 :: y25 :: y26 :: y27 :: y28 :: y29 :: y30 :: y31 :: y32 :: y33 :: y34 :: y35 :: y36 :: y37 :: y38 :: y39 :: .bool T :: u41 :: u42 :: z43 :: z44 :: z45 :: z46 :: z47 :: z48 :: z49 :: z50 :: z51 :: z52 :: z53 :: z54 :: z55 :: z56 :: z57 :: z58 :: z59 :: z60 :: z61 :: z62 :: z63 :: z64 :: z65 :: z66 :: z67 :: z68 :: z69 :: z70 :: z71 :: z72 :: z73 :: z74 :: z75 :: z76 :: z77 :: z78 :: z79 :: z80 :: z81 :: z82 :: z83 :: z84 :: z85 :: z86 :: z87 :: []), defers := [] } ∧ Pair W (w.heap.size) 32 (.slice p.a p.n p.c) (.slice q.a q.n q.c) ∧ Pair W (w.heap.size + 1) 32 (.slice none 0 0) (.slice none 0 0) ∧ Pair W (B7) 32 (.slice ps.a ps.n ps.c) (.slice qs.a qs.n qs.c) ∧ Pair W (B9) 32 (.slice py.a py.n py.c) (.slice qy.a qy.n qy.c) ∧ RK W p q (x) ∧ RI W ⟨some ⟨b2, o2, none⟩, ks.length, al⟩ (ks.map fun k => (k.1 : Int)) ∧ RI W ⟨some ⟨b1, o1, none⟩, ks.length, bl⟩ (ks.map fun k => (k.2 : Int)) ∧ RK W ps qs (low) ∧ IC W b2 (o2 + k) (wt : Int) ∧ IC W b1 (o1 + k) (cp : Int) ∧ RK W py qy (rat cp wt) ∧ T = decide (low < rat cp wt) ∧ Below w.heap.size w W) (by kernel_rfl) (by kernel_rfl) (by kernel_rfl) ⟨PL, PR, P7, P9⟩ ?tree ?next
          case tree =>
            generalize W25.drew = w27 at PL PR P7 P9 hx ha hc hs iw ic hy hB ⊢
            refine Rd.tr_float (.agg #[.slice py.a py.n py.c, .slice qy.a qy.n qy.c]) (by simp only [List.getElem?_toArray, List.getElem?_cons_zero]; rfl) rfl (by rfl) (fun X hX => by have h0 := hX.2.2.2.c0; have h1 := hX.2.2.2.c1; go_simp) ?_
            simp only [Act.put, List.setIfInBounds_toArray, List.set_cons_succ, List.set_cons_zero]
            refine Rd.tr_float (.slice (some ⟨b2, o2, none⟩) ks.length al) (by simp only [List.getElem?_toArray, List.getElem?_cons_succ, List.getElem?_cons_zero]; rfl) rfl (by rfl) (fun X _ => by go_simp) ?_
            simp only [Act.put, List.setIfInBounds_toArray, List.set_cons_succ, List.set_cons_zero]
            refine Rd.tr_float (.slice (some ⟨b1, o1, none⟩) ks.length bl) (by simp only [List.getElem?_toArray, List.getElem?_cons_succ, List.getElem?_cons_zero]; rfl) rfl (by rfl) (fun X _ => by go_simp) ?_
            simp only [Act.put, List.setIfInBounds_toArray, List.set_cons_succ, List.set_cons_zero]
            refine Rd.tr_float (.agg #[.slice p.a p.n p.c, .slice q.a q.n q.c]) (by simp only [List.getElem?_toArray, List.getElem?_cons_succ, List.getElem?_cons_zero]; rfl) rfl (by rfl) (fun X hX => by have h0 := hX.1.c0; have h1 := hX.1.c1; go_simp) ?_
            simp only [Act.put, List.setIfInBounds_toArray, List.set_cons_succ, List.set_cons_zero]
            refine Rd.tr_move (by simp only [List.getElem?_toArray, List.getElem?_cons_succ, List.getElem?_cons_zero]; rfl) rfl (by rfl) (fun K hK => ?_)
            have H30 := Lib.hid (Sum_any py qy ⟨some ⟨b2, o2, none⟩, ks.length, al⟩ ⟨some ⟨b1, o1, none⟩, ks.length, bl⟩ (rat cp wt) ks w27 hy ha hc (by omega) HKK (Lib.hid (fun n hn => HTV.out.mul n hn)) (Lib.hid (fun js hj hl => HTV.out.sum js (by omega) (fun k hk => (HKK.out k (hj k hk)).2.2))))
            go_simp
            refine H30.out.mono ?_
            rintro e w31 ⟨x28, y29, rfl, rx28, hb⟩
            clear H30
            replace PL := PL.below hb
            replace PR := PR.below hb
            replace P7 := P7.below hb
            replace P9 := P9.below hb
            replace hx := hx.below hb
            replace ha := ha.below hb
            replace hc := hc.below hb
            replace hs := hs.below hb
            replace iw := iw.below hb
            replace ic := ic.below hb
            replace hy := hy.below hb
            replace hB := hB.trans (hb.mono hB.size)
            clear hb
            refine hK _ _ ⟨PL, PR, P7, P9⟩ ?_
            clear hK K
            refine Rd.tr_move (by simp only [List.getElem?_toArray, List.getElem?_cons_succ, List.getElem?_cons_zero]; rfl) rfl (by rfl) (fun K hK => ?_)
            have H32 := Lib.hid (Kcmp x28 y29 p q (sum (rat cp wt) ks) (x) w31 rx28 hx)
            go_simp
            refine H32.out.mono ?_
            rintro e w33 ⟨rfl, hb⟩
            clear H32
            replace PL := PL.below hb
            replace PR := PR.below hb
            replace P7 := P7.below hb
            replace P9 := P9.below hb
            replace hx := hx.below hb
            replace ha := ha.below hb
            replace hc := hc.below hb
            replace hs := hs.below hb
            replace iw := iw.below hb
            replace ic := ic.below hb
            replace hy := hy.below hb
            replace rx28 := rx28.below hb
            replace hB := hB.trans (hb.mono hB.size)
            clear hb
            refine hK _ _ ⟨PL, PR, P7, P9⟩ ?_
            clear hK K
            refine Rd.tr_float (.bool true) (by simp only [List.getElem?_toArray, List.getElem?_cons_succ, List.getElem?_cons_zero]; rfl) rfl (by rfl) (fun X _ => by have hO := cmpQ_lt.2 HO.out; go_simp) ?_
            simp only [Act.put, List.setIfInBounds_toArray, List.set_cons_succ, List.set_cons_zero]
            refine Rd.tr_float (.bool true) (by simp only [List.getElem?_toArray, List.getElem?_cons_succ, List.getElem?_cons_zero]; rfl) rfl (by rfl) (fun X _ => by go_simp) ?_
            simp only [Act.put, List.setIfInBounds_toArray, List.set_cons_succ, List.set_cons_zero]
            refine Rd.tr_float (.agg #[.slice py.a py.n py.c, .slice qy.a qy.n qy.c]) (by simp only [List.getElem?_toArray, List.getElem?_cons_succ, List.getElem?_cons_zero]; rfl) rfl (by rfl) (fun X hX => by have h0 := hX.2.2.2.c0; have h1 := hX.2.2.2.c1; go_simp) ?_
            simp only [Act.put, List.setIfInBounds_toArray, List.set_cons_succ, List.set_cons_zero]
            refine Rd.tr_float (.agg #[.slice ps.a ps.n ps.c, .slice qs.a qs.n qs.c]) (by simp only [List.getElem?_toArray, List.getElem?_cons_succ, List.getElem?_cons_zero]; rfl) rfl (by rfl) (fun X hX => by have h0 := hX.2.2.1.c0; have h1 := hX.2.2.1.c1; go_simp) ?_
            simp only [Act.put, List.setIfInBounds_toArray, List.set_cons_succ, List.set_cons_zero]
            refine Rd.tr_move (by simp only [List.getElem?_toArray, List.getElem?_cons_succ, List.getElem?_cons_zero]; rfl) rfl (by rfl) (fun K hK => ?_)
            have H34 := Lib.hid (Kcmp py qy ps qs (rat cp wt) (low) w33 hy hs)
            go_simp
            refine H34.out.mono ?_
            rintro e w35 ⟨rfl, hb⟩
            clear H34
            replace PL := PL.below hb
            replace PR := PR.below hb
            replace P7 := P7.below hb
            replace P9 := P9.below hb
            replace hx := hx.below hb
            replace ha := ha.below hb
            replace hc := hc.below hb
            replace hs := hs.below hb
            replace iw := iw.below hb
            replace ic := ic.below hb
            replace hy := hy.below hb
            replace rx28 := rx28.below hb
            replace hB := hB.trans (hb.mono hB.size)
            clear hb
            refine hK _ _ ⟨PL, PR, P7, P9⟩ ?_
            clear hK K
            refine Rd.tr_float (.bool (decide (0 < (cmpQ (rat cp wt) (low))))) (by simp only [List.getElem?_toArray, List.getElem?_cons_succ, List.getElem?_cons_zero]; rfl) rfl (by rfl) (fun X _ => by go_simp) ?_
            simp only [Act.put, List.setIfInBounds_toArray, List.set_cons_succ, List.set_cons_zero]
            refine Rd.tr_float (.bool (decide (0 < (cmpQ (rat cp wt) (low))))) (by simp only [List.getElem?_toArray, List.getElem?_cons_succ, List.getElem?_cons_zero]; rfl) rfl (by rfl) (fun X _ => by go_simp) ?_
            simp only [Act.put, List.setIfInBounds_toArray, List.set_cons_succ, List.set_cons_zero]
            exact Rd.tr_end (⟨_, _, _, _, _, _, _, _, _, _, _, _, _, rfl, PL, PR, P7, P9, hx, ha, hc, hs, iw, ic, hy, (by simp only [cmpQ_gt]), hB⟩)
          case next =>
            rintro a37 W36 ⟨T, y28, y29, y30, y31, y32, y33, y34, y35, y36, y37, y38, y39, rfl, PL, PR, P7, P9, hx, ha, hc, hs, iw, ic, hy, hT, hB⟩
            by_cases HO2 : low < rat cp wt
            · skip
              rw [decide_eq_true HO2] at hT
              subst hT
              have H22 := Lib.hid HO2
              clear HO2
              have h79 := P7.lt
              have h99 := P9.lt
              have c0PL := PL.c0
              have c1PL := PL.c1
              have c0PR := PR.c0
              have c1PR := PR.c1
              have c0P7 := P7.c0
              have c1P7 := P7.c1
              have c0P9 := P9.c0
              have c1P9 := P9.c1
              have z0P7 := P7.z0
              have z1P7 := P7.z1
              go_wp2_with fail
              clear c0PL c1PL c0PR c1PR c0P7 c1P7 c0P9 c1P9
              clear z0P7 z1P7
              replace hx := hx.pset P7 (.slice py.a py.n py.c) (.slice qy.a qy.n qy.c)
              replace ha := ha.pset P7 (.slice py.a py.n py.c) (.slice qy.a qy.n qy.c)
              replace hc := hc.pset P7 (.slice py.a py.n py.c) (.slice qy.a qy.n qy.c)
              replace hs := hs.pset P7 (.slice py.a py.n py.c) (.slice qy.a qy.n qy.c)
              replace iw := iw.pset P7 (.slice py.a py.n py.c) (.slice qy.a qy.n qy.c)
              replace ic := ic.pset P7 (.slice py.a py.n py.c) (.slice qy.a qy.n qy.c)
              replace hy := hy.pset P7 (.slice py.a py.n py.c) (.slice qy.a qy.n qy.c)
              replace PL := PL.other (B := B7) (by omega) (.slice py.a py.n py.c) (.slice qy.a qy.n qy.c)
              replace PR := PR.other (B := B7) (by omega) (.slice py.a py.n py.c) (.slice qy.a qy.n qy.c)
              replace hB := Below.pset (B := B7) hB (by omega) (.slice py.a py.n py.c) (.slice qy.a qy.n qy.c)
              replace P7 := P7.set (.slice py.a py.n py.c) (.slice qy.a qy.n qy.c)
              generalize (W36.setCell ⟨B7, 0, none⟩ (.slice py.a py.n py.c)).setCell ⟨B7, 1, none⟩ (.slice qy.a qy.n qy.c) = WW at hx ha hc hs iw ic hy PL PR P7 hB ⊢
              go_round
              case rel => exact ⟨k + 1, py, qy, rat cp wt, by omega, by go_num, HTV, Lib.hid (by rw [HSN.out, ← HLO.out, if_pos ⟨HO.out, H22.out⟩]; rfl), Lib.hid PL, Lib.hid PR, Lib.hid hx, Lib.hid ha, Lib.hid hc, Lib.hid P7, Lib.hid hy, Lib.hid hB⟩
              case measure => simp [intOf]; omega
            · skip
              rw [decide_eq_false HO2] at hT
              subst hT
              have H22 := Lib.hid HO2
              clear HO2
              go_wp2_with fail
              go_round
              case rel => exact ⟨k + 1, ps, qs, low, by omega, by go_num, HLV, Lib.hid (by rw [HSN.out, ← HLO.out, if_neg (fun h => H22.out h.2)]), Lib.hid PL, Lib.hid PR, Lib.hid hx, Lib.hid ha, Lib.hid hc, Lib.hid P7, Lib.hid hs, Lib.hid hB⟩
              case measure => simp [intOf]; omega
        · skip
          have HO := Lib.hid HO1
          clear HO1
          have c0PL := PL.c0
          have c1PL := PL.c1
          have c0PR := PR.c0
          have c1PR := PR.c1
          have c0P7 := P7.c0
          have c1P7 := P7.c1
          have c0P9 := P9.c0
          have c1P9 := P9.c1
          go_wp2_with fail
          clear c0PL c1PL c0PR c1PR c0P7 c1P7 c0P9 c1P9
          have hb : Below W25.heap.size W25 W25.drew := (Below.refl _ _).drew
          replace PL := PL.below hb
          replace PR := PR.below hb
          replace P7 := P7.below hb
          replace P9 := P9.below hb
          replace hx := hx.below hb
          replace ha := ha.below hb
          replace hc := hc.below hb
          replace hs := hs.below hb
          replace iw := iw.below hb
          replace ic := ic.below hb
          replace hy := hy.below hb
          replace hB := hB.trans (hb.mono hB.size)
          clear hb
          refine Rd.regionT (fun X => Pair X (w.heap.size) 32 (.slice p.a p.n p.c) (.slice q.a q.n q.c) ∧ Pair X (w.heap.size + 1) 32 (.slice none 0 0) (.slice none 0 0) ∧ Pair X (B7) 32 (.slice ps.a ps.n ps.c) (.slice qs.a qs.n qs.c) ∧ Pair X (B9) 32 (.slice py.a py.n py.c) (.slice qy.a qy.n qy.c)) [0, 1, 2, 4, 6, 7, 8, 9, 11, 12] (.one 0 (.one 1 (.one 2 (.one 4 (.one 3 (.one 5 (.one 6 (.one 7 (.one 8 (.one 9 (.one 10 (.one 11 (.one 12 .done))))))))))))) (fun ac W => ∃  (y28 y29 y30 y31 y32 y33 y34 y35 y36 y37 y38 y39 : Value), ac = { tmps := List.toArray (z0 :: .slice (some ⟨b2, o2, none⟩) ks.length al :: .slice (some ⟨b1, o1, none⟩) ks.length bl :: .pointer (some ⟨w.heap.size, 0, none⟩) :: z4 :: z5 :: .pointer (some ⟨w.heap.size + 1, 0, none⟩) :: .pointer (some ⟨B7, 0, none⟩) :: .int .i64 (k : Int) :: .pointer (some ⟨B9, 0, none⟩) :: z10 :: z11 :: z12 :: z13 :: z14 :: .int .i64 (ks.length : Int) :: .int .i64 (k : Int) :: .bool true :: .int .i64 (k : Int) :: y19 :: y20 :: y21 :: y22 :: y23 :: y24 :: y25 :: y26 :: y27 :: y28 :: y29 :: y30 :: y31 :: y32 :: y33 :: y34 :: y35 :: y36 :: y37 :: y38 :: y39 :: .bool false :: u41 :: u42 :: z43 :: z44 :: z45 :: z46 :: z47 :: z48 :: z49 :: z50 :: z51 :: z52 :: z53 :: z54 :: z55 :: z56 :: z57 :: z58 :: z59 :: z60 :: z61 :: z62 :: z63 :: z64 :: z65 :: z66 :: z67 :: z68 :: z69 :: z70 :: z71 :: z72 :: z73 :: z74 :: z75 :: z76 :: z77 :: z78 :: z79 :: z80 :: z81 :: z82 :: z83 :: z84 :: z85 :: z86 :: z87 :: []), defers := [] } ∧ Pair W (w.heap.size) 32 (.slice p.a p.n p.c) (.slice q.a q.n q.c) ∧ Pair W (w.heap.size + 1) 32 (.slice none 0 0) (.slice none 0 0) ∧ Pair W (B7) 32 (.slice ps.a ps.n ps.c) (.slice qs.a qs.n qs.c) ∧ Pair W (B9) 32 (.slice py.a py.n py.c) (.slice qy.a qy.n qy.c) ∧ RK W p q (x) ∧ RI W ⟨some ⟨b2, o2, none⟩, ks.length, al⟩ (ks.map fun k => (k.1 : Int)) ∧ RI W ⟨some ⟨b1, o1, none⟩, ks.length, bl⟩ (ks.map fun k => (k.2 : Int)) ∧ RK W ps qs (low) ∧ IC W b2 (o2 + k) (wt : Int) ∧ IC W b1 (o1 + k) (cp : Int) ∧ RK W py qy (rat cp wt) ∧ Below w.heap.size w W) (by kernel_rfl) (by kernel_rfl) (by kernel_rfl) ⟨PL, PR, P7, P9⟩ ?tree ?next
          case tree =>
            generalize W25.drew = w38 at PL PR P7 P9 hx ha hc hs iw ic hy hB ⊢
            refine Rd.tr_float (.agg #[.slice py.a py.n py.c, .slice qy.a qy.n qy.c]) (by simp only [List.getElem?_toArray, List.getElem?_cons_zero]; rfl) rfl (by rfl) (fun X hX => by have h0 := hX.2.2.2.c0; have h1 := hX.2.2.2.c1; go_simp) ?_
            simp only [Act.put, List.setIfInBounds_toArray, List.set_cons_succ, List.set_cons_zero]
            refine Rd.tr_float (.slice (some ⟨b2, o2, none⟩) ks.length al) (by simp only [List.getElem?_toArray, List.getElem?_cons_succ, List.getElem?_cons_zero]; rfl) rfl (by rfl) (fun X _ => by go_simp) ?_
            simp only [Act.put, List.setIfInBounds_toArray, List.set_cons_succ, List.set_cons_zero]
            refine Rd.tr_float (.slice (some ⟨b1, o1, none⟩) ks.length bl) (by simp only [List.getElem?_toArray, List.getElem?_cons_succ, List.getElem?_cons_zero]; rfl) rfl (by rfl) (fun X _ => by go_simp) ?_
            simp only [Act.put, List.setIfInBounds_toArray, List.set_cons_succ, List.set_cons_zero]
            refine Rd.tr_float (.agg #[.slice p.a p.n p.c, .slice q.a q.n q.c]) (by simp only [List.getElem?_toArray, List.getElem?_cons_succ, List.getElem?_cons_zero]; rfl) rfl (by rfl) (fun X hX => by have h0 := hX.1.c0; have h1 := hX.1.c1; go_simp) ?_
            simp only [Act.put, List.setIfInBounds_toArray, List.set_cons_succ, List.set_cons_zero]
            refine Rd.tr_move (by simp only [List.getElem?_toArray, List.getElem?_cons_succ, List.getElem?_cons_zero]; rfl) rfl (by rfl) (fun K hK => ?_)
            have H41 := Lib.hid (Sum_any py qy ⟨some ⟨b2, o2, none⟩, ks.length, al⟩ ⟨some ⟨b1, o1, none⟩, ks.length, bl⟩ (rat cp wt) ks w38 hy ha hc (by omega) HKK (Lib.hid (fun n hn => HTV.out.mul n hn)) (Lib.hid (fun js hj hl => HTV.out.sum js (by omega) (fun k hk => (HKK.out k (hj k hk)).2.2))))
            go_simp
            refine H41.out.mono ?_
            rintro e w42 ⟨x39, y40, rfl, rx39, hb⟩
            clear H41
            replace PL := PL.below hb
            replace PR := PR.below hb
            replace P7 := P7.below hb
            replace P9 := P9.below hb
            replace hx := hx.below hb
            replace ha := ha.below hb
            replace hc := hc.below hb
            replace hs := hs.below hb
            replace iw := iw.below hb
            replace ic := ic.below hb
            replace hy := hy.below hb
            replace hB := hB.trans (hb.mono hB.size)
            clear hb
            refine hK _ _ ⟨PL, PR, P7, P9⟩ ?_
            clear hK K
            refine Rd.tr_move (by simp only [List.getElem?_toArray, List.getElem?_cons_succ, List.getElem?_cons_zero]; rfl) rfl (by rfl) (fun K hK => ?_)
            have H43 := Lib.hid (Kcmp x39 y40 p q (sum (rat cp wt) ks) (x) w42 rx39 hx)
            go_simp
            refine H43.out.mono ?_
            rintro e w44 ⟨rfl, hb⟩
            clear H43
            replace PL := PL.below hb
            replace PR := PR.below hb
            replace P7 := P7.below hb
            replace P9 := P9.below hb
            replace hx := hx.below hb
            replace ha := ha.below hb
            replace hc := hc.below hb
            replace hs := hs.below hb
            replace iw := iw.below hb
            replace ic := ic.below hb
            replace hy := hy.below hb
            replace rx39 := rx39.below hb
            replace hB := hB.trans (hb.mono hB.size)
            clear hb
            refine hK _ _ ⟨PL, PR, P7, P9⟩ ?_
            clear hK K
            refine Rd.tr_float (.bool false) (by simp only [List.getElem?_toArray, List.getElem?_cons_succ, List.getElem?_cons_zero]; rfl) rfl (by rfl) (fun X _ => by have hO := Int.not_lt.1 (fun h => HO.out (cmpQ_lt.1 h)); go_simp) ?_
            simp only [Act.put, List.setIfInBounds_toArray, List.set_cons_succ, List.set_cons_zero]
            refine Rd.tr_float (.bool false) (by simp only [List.getElem?_toArray, List.getElem?_cons_succ, List.getElem?_cons_zero]; rfl) rfl (by rfl) (fun X _ => by go_simp) ?_
            simp only [Act.put, List.setIfInBounds_toArray, List.set_cons_succ, List.set_cons_zero]
            refine Rd.tr_skip (by simp only [List.getElem?_toArray, List.getElem?_cons_succ, List.getElem?_cons_zero]; rfl) rfl (by rfl) ?_
            simp only [Act.put, List.setIfInBounds_toArray, List.set_cons_succ, List.set_cons_zero]
            refine Rd.tr_skip (by simp only [List.getElem?_toArray, List.getElem?_cons_succ, List.getElem?_cons_zero]; rfl) rfl (by rfl) ?_
            simp only [Act.put, List.setIfInBounds_toArray, List.set_cons_succ, List.set_cons_zero]
            refine Rd.tr_mskip (by simp only [List.getElem?_toArray, List.getElem?_cons_succ, List.getElem?_cons_zero]; rfl) rfl (by rfl) ⟨PL, PR, P7, P9⟩ ?_
            simp only [Act.put, List.setIfInBounds_toArray, List.set_cons_succ, List.set_cons_zero]
            refine Rd.tr_skip (by simp only [List.getElem?_toArray, List.getElem?_cons_succ, List.getElem?_cons_zero]; rfl) rfl (by rfl) ?_
            simp only [Act.put, List.setIfInBounds_toArray, List.set_cons_succ, List.set_cons_zero]
            refine Rd.tr_float (.bool false) (by simp only [List.getElem?_toArray, List.getElem?_cons_succ, List.getElem?_cons_zero]; rfl) rfl (by rfl) (fun X _ => by go_simp) ?_
            simp only [Act.put, List.setIfInBounds_toArray, List.set_cons_succ, List.set_cons_zero]
            exact Rd.tr_end (⟨_, _, _, _, _, _, _, _, _, _, _, _, rfl, PL, PR, P7, P9, hx, ha, hc, hs, iw, ic, hy, hB⟩)
          case next =>
            rintro a46 W45 ⟨y28, y29, y30, y31, y32, y33, y34, y35, y36, y37, y38, y39, rfl, PL, PR, P7, P9, hx, ha, hc, hs, iw, ic, hy, hB⟩
            go_wp2_with fail
            go_round
            case rel => exact ⟨k + 1, ps, qs, low, by omega, by go_num, HLV, Lib.hid (by rw [HSN.out, ← HLO.out, if_neg (fun h => HO.out h.1)]), Lib.hid PL, Lib.hid PR, Lib.hid hx, Lib.hid ha, Lib.hid hc, Lib.hid P7, Lib.hid hs, Lib.hid hB⟩
            case measure => simp [intOf]; omega
    · skip
      have ek : k = ks.length := by omega
      have HLW : Hid (lowOf x ks ks 0 = low) := Lib.hid (by rw [HLO.out, ek, List.take_length])
      clear HLO ek
      have HSL : Hid (sum low ks ≤ x) := Lib.hid (by rw [← HLW.out]; exact low_sum (fun k hk => (HKK.out k hk).1) HX0.out)
      have HSR : Hid (Sz (x - sum low ks)) := Lib.hid (HLV.out.rest HF.out HX2.out ks HSL.out)
      have hsz := hB.size
      have hs7 := P7.lt
      have hsr := PR.lt
      have hsl := PL.lt
      have c0PL := PL.c0
      have c1PL := PL.c1
      have c0PR := PR.c0
      have c1PR := PR.c1
      have c0P7 := P7.c0
      have c1P7 := P7.c1
      go_wp2_with fail
      clear c0PL c1PL c0PR c1PR c0P7 c1P7
      have hb : Below wr.heap.size wr wr.drew := (Below.refl _ _).drew
      replace PL := PL.below hb
      replace PR := PR.below hb
      replace P7 := P7.below hb
      replace hx := hx.below hb
      replace ha := ha.below hb
      replace hc := hc.below hb
      replace hs := hs.below hb
      replace hB := hB.trans (hb.mono hB.size)
      clear hb
      refine Rd.regionT (fun X => Pair X (w.heap.size) 32 (.slice p.a p.n p.c) (.slice q.a q.n q.c) ∧ Pair X (w.heap.size + 1) 32 (.slice none 0 0) (.slice none 0 0) ∧ Pair X (B7) 32 (.slice ps.a ps.n ps.c) (.slice qs.a qs.n qs.c)) [0, 1, 2, 3] (.one 0 (.one 1 (.one 2 (.one 3 (.two 4 (.two 5 (.one 6 (.one 7 .done)) 6 (.one 5 (.one 7 .done))) 6 (.one 4 (.one 5 (.one 7 .done)))))))) (fun ac W => ∃ (pr : Sl) (qr : Sl) (B10 : Nat) (y43 y44 y45 y46 y47 y48 : Value), ac = { tmps := List.toArray (z0 :: .slice aa ks.length al :: .slice ba ks.length bl :: .pointer (some ⟨w.heap.size, 0, none⟩) :: z4 :: z5 :: .pointer (some ⟨w.heap.size + 1, 0, none⟩) :: .pointer (some ⟨B7, 0, none⟩) :: u8 :: u9 :: .pointer (some ⟨B10, 0, none⟩) :: z11 :: z12 :: z13 :: z14 :: .int .i64 (ks.length : Int) :: .int .i64 (k : Int) :: .bool false :: u18 :: u19 :: u20 :: u21 :: u22 :: u23 :: u24 :: u25 :: u26 :: u27 :: u28 :: u29 :: u30 :: u31 :: u32 :: u33 :: u34 :: u35 :: u36 :: u37 :: u38 :: u39 :: u40 :: u41 :: u42 :: y43 :: y44 :: y45 :: y46 :: y47 :: y48 :: z49 :: z50 :: z51 :: z52 :: z53 :: z54 :: z55 :: z56 :: z57 :: z58 :: z59 :: z60 :: z61 :: z62 :: z63 :: z64 :: z65 :: z66 :: z67 :: z68 :: z69 :: z70 :: z71 :: z72 :: z73 :: z74 :: z75 :: z76 :: z77 :: z78 :: z79 :: z80 :: z81 :: z82 :: z83 :: z84 :: z85 :: z86 :: z87 :: []), defers := [] } ∧ Pair W (w.heap.size) 32 (.slice p.a p.n p.c) (.slice q.a q.n q.c) ∧ Pair W (w.heap.size + 1) 32 (.slice none 0 0) (.slice none 0 0) ∧ Pair W (B7) 32 (.slice ps.a ps.n ps.c) (.slice qs.a qs.n qs.c) ∧ RK W p q (x) ∧ RI W ⟨aa, ks.length, al⟩ (ks.map fun k => (k.1 : Int)) ∧ RI W ⟨ba, ks.length, bl⟩ (ks.map fun k => (k.2 : Int)) ∧ RK W ps qs (low) ∧ Pair W B10 32 (.slice pr.a pr.n pr.c) (.slice qr.a qr.n qr.c) ∧ RK W pr qr (x - sum low ks) ∧ w.heap.size + 1 < B10 ∧ Below w.heap.size w W) (by kernel_rfl) (by kernel_rfl) (by kernel_rfl) ⟨PL, PR, P7⟩ ?tree ?next
      case tree =>
        generalize wr.drew = w47 at PL PR P7 hx ha hc hs hB ⊢
        refine Rd.tr_float (.agg #[.slice p.a p.n p.c, .slice q.a q.n q.c]) (by simp only [List.getElem?_toArray, List.getElem?_cons_zero]; rfl) rfl (by rfl) (fun X hX => by have h0 := hX.1.c0; have h1 := hX.1.c1; go_simp) ?_
        simp only [Act.put, List.setIfInBounds_toArray, List.set_cons_succ, List.set_cons_zero]
        refine Rd.tr_float (.agg #[.slice ps.a ps.n ps.c, .slice qs.a qs.n qs.c]) (by simp only [List.getElem?_toArray, List.getElem?_cons_succ, List.getElem?_cons_zero]; rfl) rfl (by rfl) (fun X hX => by have h0 := hX.2.2.c0; have h1 := hX.2.2.c1; go_simp) ?_
        simp only [Act.put, List.setIfInBounds_toArray, List.set_cons_succ, List.set_cons_zero]
        refine Rd.tr_float (.slice aa ks.length al) (by simp only [List.getElem?_toArray, List.getElem?_cons_succ, List.getElem?_cons_zero]; rfl) rfl (by rfl) (fun X _ => by go_simp) ?_
        simp only [Act.put, List.setIfInBounds_toArray, List.set_cons_succ, List.set_cons_zero]
        refine Rd.tr_float (.slice ba ks.length bl) (by simp only [List.getElem?_toArray, List.getElem?_cons_succ, List.getElem?_cons_zero]; rfl) rfl (by rfl) (fun X _ => by go_simp) ?_
        simp only [Act.put, List.setIfInBounds_toArray, List.set_cons_succ, List.set_cons_zero]
        refine Rd.tr_two (by simp only [List.getElem?_toArray, List.getElem?_cons_succ, List.getElem?_cons_zero]; rfl) (by rfl) (by simp only [List.getElem?_toArray, List.getElem?_cons_succ, List.getElem?_cons_zero]; rfl) (by rfl) (fun K hK => ?_) (fun K hK => ?_)
        · skip
          have H50 := Lib.hid (Sum_any ps qs ⟨aa, ks.length, al⟩ ⟨ba, ks.length, bl⟩ (low) ks w47 hs ha hc (by omega) HKK (Lib.hid (fun n hn => HLV.out.mul n hn)) (Lib.hid (fun js hj hl => HLV.out.sum js (by omega) (fun k hk => (HKK.out k (hj k hk)).2.2))))
          go_simp
          refine H50.out.mono ?_
          rintro e w51 ⟨x48, y49, rfl, rx48, hb⟩
          clear H50
          replace PL := PL.below hb
          replace PR := PR.below hb
          replace P7 := P7.below hb
          replace hx := hx.below hb
          replace ha := ha.below hb
          replace hc := hc.below hb
          replace hs := hs.below hb
          replace hB := hB.trans (hb.mono hB.size)
          clear hb
          refine hK _ _ ⟨PL, PR, P7⟩ ?_
          clear hK K
          refine Rd.tr_two (by simp only [List.getElem?_toArray, List.getElem?_cons_succ, List.getElem?_cons_zero]; rfl) (by rfl) (by simp only [List.getElem?_toArray, List.getElem?_cons_succ, List.getElem?_cons_zero]; rfl) (by rfl) (fun K hK => ?_) (fun K hK => ?_)
          · skip
            have H54 := Lib.hid (Ksub p q x48 y49 (x) (sum (low) ks) w51 hx rx48 HSR.out HSL.out)
            go_simp
            refine H54.out.mono ?_
            rintro e w55 ⟨x52, y53, rfl, rx52, hb⟩
            clear H54
            replace PL := PL.below hb
            replace PR := PR.below hb
            replace P7 := P7.below hb
            replace hx := hx.below hb
            replace ha := ha.below hb
            replace hc := hc.below hb
            replace hs := hs.below hb
            replace rx48 := rx48.below hb
            replace hB := hB.trans (hb.mono hB.size)
            clear hb
            refine hK _ _ ⟨PL, PR, P7⟩ ?_
            clear hK K
            refine Rd.tr_move (by simp only [List.getElem?_toArray, List.getElem?_cons_succ, List.getElem?_cons_zero]; rfl) rfl (by rfl) (fun K hK => ?_)
            go_simp
            have P56 := Pair.new w55 32 (.slice none 0 0) (.slice none 0 0)
            have nPLP56 := PL.lt
            have nPRP56 := PR.lt
            have nP7P56 := P7.lt
            have gP56 := hB.size
            have hb : Below w55.heap.size w55 (w55.alloc (.cells #[.slice none 0 0, .slice none 0 0] 32)) := (Below.refl _ _).alloc (Nat.le_refl _) _
            replace PL := PL.below hb
            replace PR := PR.below hb
            replace P7 := P7.below hb
            replace hx := hx.below hb
            replace ha := ha.below hb
            replace hc := hc.below hb
            replace hs := hs.below hb
            replace rx48 := rx48.below hb
            replace rx52 := rx52.below hb
            replace hB := hB.trans (hb.mono hB.size)
            clear hb
            generalize w55.alloc (.cells #[.slice none 0 0, .slice none 0 0] 32) = w58 at PL PR P7 hx ha hc hs rx48 rx52 P56 hB ⊢
            generalize w55.heap.size = B57 at nPLP56 nPRP56 nP7P56 P56 gP56 ⊢
            refine hK _ _ ⟨PL, PR, P7⟩ ?_
            clear hK K
            refine Rd.tr_move (by simp only [List.getElem?_toArray, List.getElem?_cons_succ, List.getElem?_cons_zero]; rfl) rfl (by rfl) (fun K hK => ?_)
            have c0P56 := P56.c0
            have c1P56 := P56.c1
            have z0P56 := P56.z0
            have z1P56 := P56.z1
            go_simp
            clear c0P56 c1P56 z0P56 z1P56
            replace hx := hx.pset P56 (.slice x52.a x52.n x52.c) (.slice y53.a y53.n y53.c)
            replace ha := ha.pset P56 (.slice x52.a x52.n x52.c) (.slice y53.a y53.n y53.c)
            replace hc := hc.pset P56 (.slice x52.a x52.n x52.c) (.slice y53.a y53.n y53.c)
            replace hs := hs.pset P56 (.slice x52.a x52.n x52.c) (.slice y53.a y53.n y53.c)
            replace rx48 := rx48.pset P56 (.slice x52.a x52.n x52.c) (.slice y53.a y53.n y53.c)
            replace rx52 := rx52.pset P56 (.slice x52.a x52.n x52.c) (.slice y53.a y53.n y53.c)
            replace PL := PL.other (B := B57) (by omega) (.slice x52.a x52.n x52.c) (.slice y53.a y53.n y53.c)
            replace PR := PR.other (B := B57) (by omega) (.slice x52.a x52.n x52.c) (.slice y53.a y53.n y53.c)
            replace P7 := P7.other (B := B57) (by omega) (.slice x52.a x52.n x52.c) (.slice y53.a y53.n y53.c)
            replace hB := Below.pset (B := B57) hB (by omega) (.slice x52.a x52.n x52.c) (.slice y53.a y53.n y53.c)
            replace P56 := P56.set (.slice x52.a x52.n x52.c) (.slice y53.a y53.n y53.c)
            generalize (w58.setCell ⟨B57, 0, none⟩ (.slice x52.a x52.n x52.c)).setCell ⟨B57, 1, none⟩ (.slice y53.a y53.n y53.c) = w59 at PL PR P7 P56 hx ha hc hs rx48 rx52 hB ⊢
            refine hK _ _ ⟨PL, PR, P7⟩ ?_
            clear hK K
            exact Rd.tr_end (⟨x52, y53, B57, _, _, _, _, _, _, rfl, PL, PR, P7, hx, ha, hc, hs, P56, rx52, nPRP56, hB⟩)
          · skip
            go_simp
            have P60 := Pair.new w51 32 (.slice none 0 0) (.slice none 0 0)
            have nPLP60 := PL.lt
            have nPRP60 := PR.lt
            have nP7P60 := P7.lt
            have gP60 := hB.size
            have hb : Below w51.heap.size w51 (w51.alloc (.cells #[.slice none 0 0, .slice none 0 0] 32)) := (Below.refl _ _).alloc (Nat.le_refl _) _
            replace PL := PL.below hb
            replace PR := PR.below hb
            replace P7 := P7.below hb
            replace hx := hx.below hb
            replace ha := ha.below hb
            replace hc := hc.below hb
            replace hs := hs.below hb
            replace rx48 := rx48.below hb
            replace hB := hB.trans (hb.mono hB.size)
            clear hb
            generalize w51.alloc (.cells #[.slice none 0 0, .slice none 0 0] 32) = w62 at PL PR P7 hx ha hc hs rx48 P60 hB ⊢
            generalize w51.heap.size = B61 at nPLP60 nPRP60 nP7P60 P60 gP60 ⊢
            refine hK _ _ ⟨PL, PR, P7⟩ ?_
            clear hK K
            refine Rd.tr_move (by simp only [List.getElem?_toArray, List.getElem?_cons_succ, List.getElem?_cons_zero]; rfl) rfl (by rfl) (fun K hK => ?_)
            have H65 := Lib.hid (Ksub p q x48 y49 (x) (sum (low) ks) w62 hx rx48 HSR.out HSL.out)
            go_simp
            refine H65.out.mono ?_
            rintro e w66 ⟨x63, y64, rfl, rx63, hb⟩
            clear H65
            replace PL := PL.below hb
            replace PR := PR.below hb
            replace P7 := P7.below hb
            replace P60 := P60.below hb
            replace hx := hx.below hb
            replace ha := ha.below hb
            replace hc := hc.below hb
            replace hs := hs.below hb
            replace rx48 := rx48.below hb
            replace hB := hB.trans (hb.mono hB.size)
            clear hb
            refine hK _ _ ⟨PL, PR, P7⟩ ?_
            clear hK K
            refine Rd.tr_move (by simp only [List.getElem?_toArray, List.getElem?_cons_succ, List.getElem?_cons_zero]; rfl) rfl (by rfl) (fun K hK => ?_)
            have c0P60 := P60.c0
            have c1P60 := P60.c1
            have z0P60 := P60.z0
            have z1P60 := P60.z1
            go_simp
            clear c0P60 c1P60 z0P60 z1P60
            replace hx := hx.pset P60 (.slice x63.a x63.n x63.c) (.slice y64.a y64.n y64.c)
            replace ha := ha.pset P60 (.slice x63.a x63.n x63.c) (.slice y64.a y64.n y64.c)
            replace hc := hc.pset P60 (.slice x63.a x63.n x63.c) (.slice y64.a y64.n y64.c)
            replace hs := hs.pset P60 (.slice x63.a x63.n x63.c) (.slice y64.a y64.n y64.c)
            replace rx48 := rx48.pset P60 (.slice x63.a x63.n x63.c) (.slice y64.a y64.n y64.c)
            replace rx63 := rx63.pset P60 (.slice x63.a x63.n x63.c) (.slice y64.a y64.n y64.c)
            replace PL := PL.other (B := B61) (by omega) (.slice x63.a x63.n x63.c) (.slice y64.a y64.n y64.c)
            replace PR := PR.other (B := B61) (by omega) (.slice x63.a x63.n x63.c) (.slice y64.a y64.n y64.c)
            replace P7 := P7.other (B := B61) (by omega) (.slice x63.a x63.n x63.c) (.slice y64.a y64.n y64.c)
            replace hB := Below.pset (B := B61) hB (by omega) (.slice x63.a x63.n x63.c) (.slice y64.a y64.n y64.c)
            replace P60 := P60.set (.slice x63.a x63.n x63.c) (.slice y64.a y64.n y64.c)
            generalize (w66.setCell ⟨B61, 0, none⟩ (.slice x63.a x63.n x63.c)).setCell ⟨B61, 1, none⟩ (.slice y64.a y64.n y64.c) = w67 at PL PR P7 P60 hx ha hc hs rx48 rx63 hB ⊢
            refine hK _ _ ⟨PL, PR, P7⟩ ?_
            clear hK K
            exact Rd.tr_end (⟨x63, y64, B61, _, _, _, _, _, _, rfl, PL, PR, P7, hx, ha, hc, hs, P60, rx63, nPRP60, hB⟩)
        · skip
          go_simp
          have P68 := Pair.new w47 32 (.slice none 0 0) (.slice none 0 0)
          have nPLP68 := PL.lt
          have nPRP68 := PR.lt
          have nP7P68 := P7.lt
          have gP68 := hB.size
          have hb : Below w47.heap.size w47 (w47.alloc (.cells #[.slice none 0 0, .slice none 0 0] 32)) := (Below.refl _ _).alloc (Nat.le_refl _) _
          replace PL := PL.below hb
          replace PR := PR.below hb
          replace P7 := P7.below hb
          replace hx := hx.below hb
          replace ha := ha.below hb
          replace hc := hc.below hb
          replace hs := hs.below hb
          replace hB := hB.trans (hb.mono hB.size)
          clear hb
          generalize w47.alloc (.cells #[.slice none 0 0, .slice none 0 0] 32) = w70 at PL PR P7 hx ha hc hs P68 hB ⊢
          generalize w47.heap.size = B69 at nPLP68 nPRP68 nP7P68 P68 gP68 ⊢
          refine hK _ _ ⟨PL, PR, P7⟩ ?_
          clear hK K
          refine Rd.tr_move (by simp only [List.getElem?_toArray, List.getElem?_cons_succ, List.getElem?_cons_zero]; rfl) rfl (by rfl) (fun K hK => ?_)
          have H73 := Lib.hid (Sum_any ps qs ⟨aa, ks.length, al⟩ ⟨ba, ks.length, bl⟩ (low) ks w70 hs ha hc (by omega) HKK (Lib.hid (fun n hn => HLV.out.mul n hn)) (Lib.hid (fun js hj hl => HLV.out.sum js (by omega) (fun k hk => (HKK.out k (hj k hk)).2.2))))
          go_simp
          refine H73.out.mono ?_
          rintro e w74 ⟨x71, y72, rfl, rx71, hb⟩
          clear H73
          replace PL := PL.below hb
          replace PR := PR.below hb
          replace P7 := P7.below hb
          replace P68 := P68.below hb
          replace hx := hx.below hb
          replace ha := ha.below hb
          replace hc := hc.below hb
          replace hs := hs.below hb
          replace hB := hB.trans (hb.mono hB.size)
          clear hb
          refine hK _ _ ⟨PL, PR, P7⟩ ?_
          clear hK K
          refine Rd.tr_move (by simp only [List.getElem?_toArray, List.getElem?_cons_succ, List.getElem?_cons_zero]; rfl) rfl (by rfl) (fun K hK => ?_)
          have H77 := Lib.hid (Ksub p q x71 y72 (x) (sum (low) ks) w74 hx rx71 HSR.out HSL.out)
          go_simp
          refine H77.out.mono ?_
          rintro e w78 ⟨x75, y76, rfl, rx75, hb⟩
          clear H77
          replace PL := PL.below hb
          replace PR := PR.below hb
          replace P7 := P7.below hb
          replace P68 := P68.below hb
          replace hx := hx.below hb
          replace ha := ha.below hb
          replace hc := hc.below hb
          replace hs := hs.below hb
          replace rx71 := rx71.below hb
          replace hB := hB.trans (hb.mono hB.size)
          clear hb
          refine hK _ _ ⟨PL, PR, P7⟩ ?_
          clear hK K
          refine Rd.tr_move (by simp only [List.getElem?_toArray, List.getElem?_cons_succ, List.getElem?_cons_zero]; rfl) rfl (by rfl) (fun K hK => ?_)
          have c0P68 := P68.c0
          have c1P68 := P68.c1
          have z0P68 := P68.z0
          have z1P68 := P68.z1
          go_simp
          clear c0P68 c1P68 z0P68 z1P68
          replace hx := hx.pset P68 (.slice x75.a x75.n x75.c) (.slice y76.a y76.n y76.c)
          replace ha := ha.pset P68 (.slice x75.a x75.n x75.c) (.slice y76.a y76.n y76.c)
          replace hc := hc.pset P68 (.slice x75.a x75.n x75.c) (.slice y76.a y76.n y76.c)
          replace hs := hs.pset P68 (.slice x75.a x75.n x75.c) (.slice y76.a y76.n y76.c)
          replace rx71 := rx71.pset P68 (.slice x75.a x75.n x75.c) (.slice y76.a y76.n y76.c)
          replace rx75 := rx75.pset P68 (.slice x75.a x75.n x75.c) (.slice y76.a y76.n y76.c)
          replace PL := PL.other (B := B69) (by omega) (.slice x75.a x75.n x75.c) (.slice y76.a y76.n y76.c)
          replace PR := PR.other (B := B69) (by omega) (.slice x75.a x75.n x75.c) (.slice y76.a y76.n y76.c)
          replace P7 := P7.other (B := B69) (by omega) (.slice x75.a x75.n x75.c) (.slice y76.a y76.n y76.c)
          replace hB := Below.pset (B := B69) hB (by omega) (.slice x75.a x75.n x75.c) (.slice y76.a y76.n y76.c)
          replace P68 := P68.set (.slice x75.a x75.n x75.c) (.slice y76.a y76.n y76.c)
          generalize (w78.setCell ⟨B69, 0, none⟩ (.slice x75.a x75.n x75.c)).setCell ⟨B69, 1, none⟩ (.slice y76.a y76.n y76.c) = w79 at PL PR P7 P68 hx ha hc hs rx71 rx75 hB ⊢
          refine hK _ _ ⟨PL, PR, P7⟩ ?_
          clear hK K
          exact Rd.tr_end (⟨x75, y76, B69, _, _, _, _, _, _, rfl, PL, PR, P7, hx, ha, hc, hs, P68, rx75, nPRP68, hB⟩)
      case next =>
        rintro a81 W80 ⟨pr, qr, B10, y43, y44, y45, y46, y47, y48, rfl, PL, PR, P7, hx, ha, hc, hs, PT, hr, h10, hB⟩
        go_wp2_with fail
        refine (?_ : ∀ (z0 z4 z5 z8 z9 z12 z13 z14 z15 z16 z17 z18 z19 z20 z21 z22 z23 z24 z25 z26 z27 z28 z29 z30 z31 z32 z33 z34 z35 z36 z37 z38 z39 z40 z41 z42 z43 z44 z45 z46 z47 z48 z49 z52 z53 z54 z55 z56 z57 z58 z59 z60 z61 z62 z63 z64 z65 z66 z67 z68 z69 z70 z71 z72 z73 z74 z75 z76 z77 z78 z79 z80 z81 z82 z83 z84 z85 z86 z87 : Value), Code.wp _ _ _ { tmps := List.toArray (z0 :: .slice aa ks.length al :: .slice ba ks.length bl :: .pointer (some ⟨w.heap.size, 0, none⟩) :: z4 :: z5 :: .pointer (some ⟨w.heap.size + 1, 0, none⟩) :: .pointer (some ⟨B7, 0, none⟩) :: z8 :: z9 :: .pointer (some ⟨B10, 0, none⟩) :: .int .i64 0 :: z12 :: z13 :: z14 :: z15 :: z16 :: z17 :: z18 :: z19 :: z20 :: z21 :: z22 :: z23 :: z24 :: z25 :: z26 :: z27 :: z28 :: z29 :: z30 :: z31 :: z32 :: z33 :: z34 :: z35 :: z36 :: z37 :: z38 :: z39 :: z40 :: z41 :: z42 :: z43 :: z44 :: z45 :: z46 :: z47 :: z48 :: z49 :: .int .i64 (ks.length : Int) :: .int .i64 0 :: z52 :: z53 :: z54 :: z55 :: z56 :: z57 :: z58 :: z59 :: z60 :: z61 :: z62 :: z63 :: z64 :: z65 :: z66 :: z67 :: z68 :: z69 :: z70 :: z71 :: z72 :: z73 :: z74 :: z75 :: z76 :: z77 :: z78 :: z79 :: z80 :: z81 :: z82 :: z83 :: z84 :: z85 :: z86 :: z87 :: []), defers := [] } _) _ _ _ _ _ _ _ _ _ _ _ _ _ _ _ _ _ _ _ _ _ _ _ _ _ _ _ _ _ _ _ _ _ _ _ _ _ _ _ _ _ _ _ _ _ _ _ _ _ _ _ _ _ _ _ _ _ _ _ _ _ _ _ _ _ _ _ _ _ _ _ _ _ _ _ _ _ _ _
        intro z0 z4 z5 z8 z9 z12 z13 z14 z15 z16 z17 z18 z19 z20 z21 z22 z23 z24 z25 z26 z27 z28 z29 z30 z31 z32 z33 z34 z35 z36 z37 z38 z39 z40 z41 z42 z43 z44 z45 z46 z47 z48 z49 z52 z53 z54 z55 z56 z57 z58 z59 z60 z61 z62 z63 z64 z65 z66 z67 z68 z69 z70 z71 z72 z73 z74 z75 z76 z77 z78 z79 z80 z81 z82 z83 z84 z85 z86 z87
        go_loopw [11, 51] (fun o i wr => ∃ (k op : Nat), k ≤ ks.length ∧ i = .int .i64 (k : Int) ∧ o = .int .i64 (op : Int) ∧ op ≤ k * 10000 ∧ Hid (op = openW low (ks.take k)) ∧ Hid (Pair wr (w.heap.size) 32 (.slice p.a p.n p.c) (.slice q.a q.n q.c)) ∧ Hid (Pair wr (w.heap.size + 1) 32 (.slice none 0 0) (.slice none 0 0)) ∧ Hid (RK wr p q x) ∧ Hid (RI wr ⟨aa, ks.length, al⟩ (ks.map fun k => (k.1 : Int))) ∧ Hid (RI wr ⟨ba, ks.length, bl⟩ (ks.map fun k => (k.2 : Int))) ∧ Hid (Pair wr B7 32 (.slice ps.a ps.n ps.c) (.slice qs.a qs.n qs.c)) ∧ Hid (RK wr ps qs low) ∧ Hid (Pair wr B10 32 (.slice pr.a pr.n pr.c) (.slice qr.a qr.n qr.c)) ∧ Hid (RK wr pr qr (x - sum low ks)) ∧ Hid (Below w.heap.size w wr)) (fun _ mi _ => ks.length - (intOf mi).toNat)
        case atStart => exact ⟨0, 0, Nat.zero_le _, rfl, rfl, Nat.zero_le _, Lib.hid (by rw [List.take_zero]; rfl), Lib.hid PL, Lib.hid PR, Lib.hid hx, Lib.hid ha, Lib.hid hc, Lib.hid P7, Lib.hid hs, Lib.hid PT, Lib.hid hr, Lib.hid hB⟩
        case round =>
          clear hlt hk
          clear PL PR hx ha hc P7 hs PT hr hB
          obtain ⟨k, op, hk, rfl, rfl, hop, HOP, HPL, HPR, Hhx, Hha, Hhc, HP7, Hhs, HPT, Hhr, HBB⟩ := hrel
          have PL := HPL.out
          have PR := HPR.out
          have hx := Hhx.out
          have ha := Hha.out
          have hc := Hhc.out
          have P7 := HP7.out
          have hs := Hhs.out
          have PT := HPT.out
          have hr := Hhr.out
          have hB := HBB.out
          clear HPL HPR Hhx Hha Hhc HP7 Hhs HPT Hhr HBB
          by_cases hlt : k < ks.length
          · skip
            obtain ⟨b1, o1, ec, ic⟩ := hc.at hlt
            obtain ⟨b2, o2, ea, iw⟩ := ha.at hlt
            subst ea ec
            have hkk := HKK.out _ (kget_mem hlt)
            have HSN := Lib.hid (openW_snoc low hlt)
            generalize ks.getD k (0, 0) = kid at ic iw hkk HSN
            obtain ⟨wt, cp⟩ := kid
            dsimp only at ic iw
            have hwt := hkk.2.1
            have hcp := hkk.2.2
            have HW0 : Hid (wt ≠ 0) := Lib.hid hkk.1
            have HTV : Hid (Lv (rat cp wt)) := Lib.hid (Lv.top hkk)
            dsimp only at hwt hcp
            clear hkk
            have c0PL := PL.c0
            have c1PL := PL.c1
            have c0PR := PR.c0
            have c1PR := PR.c1
            have c0P7 := P7.c0
            have c1P7 := P7.c1
            have c0PT := PT.c0
            have c1PT := PT.c1
            go_wp2_with fail
            clear c0PL c1PL c0PR c1PR c0P7 c1P7 c0PT c1PT
            have hb : Below wr.heap.size wr wr.drew := (Below.refl _ _).drew
            replace PL := PL.below hb
            replace PR := PR.below hb
            replace P7 := P7.below hb
            replace PT := PT.below hb
            replace hx := hx.below hb
            replace ha := ha.below hb
            replace hc := hc.below hb
            replace hs := hs.below hb
            replace hr := hr.below hb
            replace iw := iw.below hb
            replace ic := ic.below hb
            replace hB := hB.trans (hb.mono hB.size)
            clear hb
            refine Rd.regionT (fun X => Pair X (w.heap.size) 32 (.slice p.a p.n p.c) (.slice q.a q.n q.c) ∧ Pair X (w.heap.size + 1) 32 (.slice none 0 0) (.slice none 0 0) ∧ Pair X (B7) 32 (.slice ps.a ps.n ps.c) (.slice qs.a qs.n qs.c) ∧ Pair X (B10) 32 (.slice pr.a pr.n pr.c) (.slice qr.a qr.n qr.c) ∧ IC X b2 (o2 + k) (wt : Int) ∧ IC X b1 (o1 + k) (cp : Int)) [0, 1, 2, 3, 4, 5, 6, 7, 9, 11] (.one 0 (.one 1 (.one 2 (.one 3 (.one 4 (.one 5 (.one 6 (.one 7 (.one 9 (.one 8 (.one 10 (.one 11 .done)))))))))))) (fun ac W => ∃ (T : Bool) (y54 y55 y56 y57 y58 y59 y60 y61 y62 y63 y64 : Value), ac = { tmps := List.toArray (z0 :: .slice (some ⟨b2, o2, none⟩) ks.length al :: .slice (some ⟨b1, o1, none⟩) ks.length bl :: .pointer (some ⟨w.heap.size, 0, none⟩) :: z4 :: z5 :: .pointer (some ⟨w.heap.size + 1, 0, none⟩) :: .pointer (some ⟨B7, 0, none⟩) :: z8 :: z9 :: .pointer (some ⟨B10, 0, none⟩) :: .int .i64 (op : Int) :: .int .i64 (k : Int) :: z13 :: z14 :: z15 :: z16 :: z17 :: z18 :: z19 :: z20 :: z21 :: z22 :: z23 :: z24 :: z25 :: z26 :: z27 :: z28 :: z29 :: z30 :: z31 :: z32 :: z33 :: z34 :: z35 :: z36 :: z37 :: z38 :: z39 :: z40 :: z41 :: z42 :: z43 :: z44 :: z45 :: z46 :: z47 :: z48 :: z49 :: .int .i64 (ks.length : Int) :: .int .i64 (k : Int) :: .bool true :: .int .i64 (k : Int) :: y54 :: y55 :: y56 :: y57 :: y58 :: y59 :: y60 :: y61 :: y62 :: y63 :: y64 :: .bool T :: u66 :: u67 :: u68 :: u69 :: u70 :: u71 :: u72 :: z73 :: z74 :: z75 :: z76 :: z77 :: z78 :: z79 :: z80 :: z81 :: z82 :: z83 :: z84 :: z85 :: z86 :: z87 :: []), defers := [] } ∧ Pair W (w.heap.size) 32 (.slice p.a p.n p.c) (.slice q.a q.n q.c) ∧ Pair W (w.heap.size + 1) 32 (.slice none 0 0) (.slice none 0 0) ∧ Pair W (B7) 32 (.slice ps.a ps.n ps.c) (.slice qs.a qs.n qs.c) ∧ Pair W (B10) 32 (.slice pr.a pr.n pr.c) (.slice qr.a qr.n qr.c) ∧ RK W p q (x) ∧ RI W ⟨some ⟨b2, o2, none⟩, ks.length, al⟩ (ks.map fun k => (k.1 : Int)) ∧ RI W ⟨some ⟨b1, o1, none⟩, ks.length, bl⟩ (ks.map fun k => (k.2 : Int)) ∧ RK W ps qs (low) ∧ RK W pr qr (x - sum low ks) ∧ IC W b2 (o2 + k) (wt : Int) ∧ IC W b1 (o1 + k) (cp : Int) ∧ T = decide (low < rat cp wt) ∧ Below w.heap.size w W) (by kernel_rfl) (by kernel_rfl) (by kernel_rfl) ⟨PL, PR, P7, PT, iw, ic⟩ ?tree ?next
            case tree =>
              generalize wr.drew = w82 at PL PR P7 PT hx ha hc hs hr iw ic hB ⊢
              refine Rd.tr_float (.slice (some ⟨b1, o1, none⟩) ks.length bl) (by simp only [List.getElem?_toArray, List.getElem?_cons_zero]; rfl) rfl (by rfl) (fun X _ => by go_simp) ?_
              simp only [Act.put, List.setIfInBounds_toArray, List.set_cons_succ, List.set_cons_zero]
              refine Rd.tr_float (.int .i64 (k : Int)) (by simp only [List.getElem?_toArray, List.getElem?_cons_succ, List.getElem?_cons_zero]; rfl) rfl (by rfl) (fun X _ => by go_simp) ?_
              simp only [Act.put, List.setIfInBounds_toArray, List.set_cons_succ, List.set_cons_zero]
              refine Rd.tr_float (.pointer (some ⟨b1, o1 + k, none⟩)) (by simp only [List.getElem?_toArray, List.getElem?_cons_succ, List.getElem?_cons_zero]; rfl) rfl (by rfl) (fun X _ => by go_simp) ?_
              simp only [Act.put, List.setIfInBounds_toArray, List.set_cons_succ, List.set_cons_zero]
              refine Rd.tr_float (.int .i64 (cp : Int)) (by simp only [List.getElem?_toArray, List.getElem?_cons_succ, List.getElem?_cons_zero]; rfl) rfl (by rfl) (fun X hX => by have h0 := (hX.2.2.2.2.2).2; go_simp) ?_
              simp only [Act.put, List.setIfInBounds_toArray, List.set_cons_succ, List.set_cons_zero]
              refine Rd.tr_float (.slice (some ⟨b2, o2, none⟩) ks.length al) (by simp only [List.getElem?_toArray, List.getElem?_cons_succ, List.getElem?_cons_zero]; rfl) rfl (by rfl) (fun X _ => by go_simp) ?_
              simp only [Act.put, List.setIfInBounds_toArray, List.set_cons_succ, List.set_cons_zero]
              refine Rd.tr_float (.int .i64 (k : Int)) (by simp only [List.getElem?_toArray, List.getElem?_cons_succ, List.getElem?_cons_zero]; rfl) rfl (by rfl) (fun X _ => by go_simp) ?_
              simp only [Act.put, List.setIfInBounds_toArray, List.set_cons_succ, List.set_cons_zero]
              refine Rd.tr_float (.pointer (some ⟨b2, o2 + k, none⟩)) (by simp only [List.getElem?_toArray, List.getElem?_cons_succ, List.getElem?_cons_zero]; rfl) rfl (by rfl) (fun X _ => by go_simp) ?_
              simp only [Act.put, List.setIfInBounds_toArray, List.set_cons_succ, List.set_cons_zero]
              refine Rd.tr_float (.int .i64 (wt : Int)) (by simp only [List.getElem?_toArray, List.getElem?_cons_succ, List.getElem?_cons_zero]; rfl) rfl (by rfl) (fun X hX => by have h0 := (hX.2.2.2.2.1).2; go_simp) ?_
              simp only [Act.put, List.setIfInBounds_toArray, List.set_cons_succ, List.set_cons_zero]
              refine Rd.tr_float (.agg #[.slice ps.a ps.n ps.c, .slice qs.a qs.n qs.c]) (by simp only [List.getElem?_toArray, List.getElem?_cons_succ, List.getElem?_cons_zero]; rfl) rfl (by rfl) (fun X hX => by have h0 := hX.2.2.1.c0; have h1 := hX.2.2.1.c1; go_simp) ?_
              simp only [Act.put, List.setIfInBounds_toArray, List.set_cons_succ, List.set_cons_zero]
              refine Rd.tr_move (by simp only [List.getElem?_toArray, List.getElem?_cons_succ, List.getElem?_cons_zero]; rfl) rfl (by rfl) (fun K hK => ?_)
              have H85 := Lib.hid (by_any cp wt w82 (by omega) (by omega) HW0)
              go_simp
              refine H85.out.mono ?_
              rintro e w86 ⟨x83, y84, rfl, rx83, hb⟩
              clear H85
              replace PL := PL.below hb
              replace PR := PR.below hb
              replace P7 := P7.below hb
              replace PT := PT.below hb
              replace hx := hx.below hb
              replace ha := ha.below hb
              replace hc := hc.below hb
              replace hs := hs.below hb
              replace hr := hr.below hb
              replace iw := iw.below hb
              replace ic := ic.below hb
              replace hB := hB.trans (hb.mono hB.size)
              clear hb
              refine hK _ _ ⟨PL, PR, P7, PT, iw, ic⟩ ?_
              clear hK K
              refine Rd.tr_move (by simp only [List.getElem?_toArray, List.getElem?_cons_succ, List.getElem?_cons_zero]; rfl) rfl (by rfl) (fun K hK => ?_)
              have H87 := Lib.hid (Kcmp x83 y84 ps qs (rat cp wt) (low) w86 rx83 hs)
              go_simp
              refine H87.out.mono ?_
              rintro e w88 ⟨rfl, hb⟩
              clear H87
              replace PL := PL.below hb
              replace PR := PR.below hb
              replace P7 := P7.below hb
              replace PT := PT.below hb
              replace hx := hx.below hb
              replace ha := ha.below hb
              replace hc := hc.below hb
              replace hs := hs.below hb
              replace hr := hr.below hb
              replace iw := iw.below hb
              replace ic := ic.below hb
              replace rx83 := rx83.below hb
              replace hB := hB.trans (hb.mono hB.size)
              clear hb
              refine hK _ _ ⟨PL, PR, P7, PT, iw, ic⟩ ?_
              clear hK K
              refine Rd.tr_float (.bool (decide (0 < (cmpQ (rat cp wt) (low))))) (by simp only [List.getElem?_toArray, List.getElem?_cons_succ, List.getElem?_cons_zero]; rfl) rfl (by rfl) (fun X _ => by go_simp) ?_
              simp only [Act.put, List.setIfInBounds_toArray, List.set_cons_succ, List.set_cons_zero]
              exact Rd.tr_end (⟨_, _, _, _, _, _, _, _, _, _, _, _, rfl, PL, PR, P7, PT, hx, ha, hc, hs, hr, iw, ic, (by simp only [cmpQ_gt]), hB⟩)
            case next =>
              rintro a90 W89 ⟨T, y54, y55, y56, y57, y58, y59, y60, y61, y62, y63, y64, rfl, PL, PR, P7, PT, hx, ha, hc, hs, hr, iw, ic, hT, hB⟩
              by_cases HO2 : low < rat cp wt
              · skip
                rw [decide_eq_true HO2] at hT
                subst hT
                have H22 := Lib.hid HO2
                clear HO2
                have iw2 := iw.2
                go_wp2_with fail
                go_round
                case rel => exact ⟨k + 1, op + wt, by omega, by go_num, by go_num, by omega, Lib.hid (by rw [HSN.out, HOP.out, if_pos (show low < top (wt, cp) from H22.out)]), Lib.hid PL, Lib.hid PR, Lib.hid hx, Lib.hid ha, Lib.hid hc, Lib.hid P7, Lib.hid hs, Lib.hid PT, Lib.hid hr, Lib.hid hB⟩
                case measure => simp [intOf]; omega
              · skip
                rw [decide_eq_false HO2] at hT
                subst hT
                have H22 := Lib.hid HO2
                clear HO2
                go_wp2_with fail
                go_round
                case rel => exact ⟨k + 1, op, by omega, by go_num, by go_num, by omega, Lib.hid (by rw [HSN.out, HOP.out, if_neg (show ¬ low < top (wt, cp) from H22.out)]; rfl), Lib.hid PL, Lib.hid PR, Lib.hid hx, Lib.hid ha, Lib.hid hc, Lib.hid P7, Lib.hid hs, Lib.hid PT, Lib.hid hr, Lib.hid hB⟩
                case measure => simp [intOf]; omega
          · skip
            have ek : k = ks.length := by omega
            have HOW : Hid (openW low ks = op) := Lib.hid (by rw [HOP.out, ek, List.take_length])
            have hop2 : op ≤ 1000000 := by omega
            clear HOP ek
            have HDL : Hid (docLevel x ks = if op = 0 ∨ x - sum low ks = 0 then low else low + (x - sum low ks) / ((op : Nat) : Rat)) := Lib.hid (by unfold docLevel; rw [HLW.out, HOW.out])
            have hsz := hB.size
            have hs7 := P7.lt
            have hsr := PR.lt
            have hsl := PL.lt
            by_cases h0 : op = 0
            · skip
              subst h0
              have HR : Hid (docLevel x ks = low) := Lib.hid (by rw [HDL.out, if_pos (.inl rfl)])
              have c0PL := PL.c0
              have c1PL := PL.c1
              have c0PR := PR.c0
              have c1PR := PR.c1
              have c0P7 := P7.c0
              have c1P7 := P7.c1
              have c0PT := PT.c0
              have c1PT := PT.c1
              have z0PR := PR.z0
              have z1PR := PR.z1
              have hsz := hB.size
              go_wp2_with fail
              replace hs := hs.pset PR (.slice ps.a ps.n ps.c) (.slice qs.a qs.n qs.c)
              replace hB := Below.pset (B := w.heap.size + 1) hB (by omega) (.slice ps.a ps.n ps.c) (.slice qs.a qs.n qs.c)
              have PX := PR.set (.slice ps.a ps.n ps.c) (.slice qs.a qs.n qs.c)
              generalize (wr.setCell ⟨w.heap.size + 1, 0, none⟩ (.slice ps.a ps.n ps.c)).setCell ⟨w.heap.size + 1, 1, none⟩ (.slice qs.a qs.n qs.c) = WW at hs PX hB ⊢
              rw [HR.out]
              refine bodyPost_ret (v := .agg #[.slice ps.a ps.n ps.c, .slice qs.a qs.n qs.c]) ?_ rfl ⟨ps, qs, rfl, hs, hB⟩
              simp [results, Tryz.f17, go_sem, PX.c0, PX.c1]
            · skip
              have h0b : ((op : Int) == 0) = false := by simp; omega
              have h0c : ¬ (op : Int) = 0 := by omega
              by_cases h1 : x - sum low ks = 0
              · skip
                have HR : Hid (docLevel x ks = low) := Lib.hid (by rw [HDL.out, if_pos (.inr h1)])
                have hz : pr.n = 0 := (dlen_zero hr.2.1).2 (by rw [h1]; rfl)
                have HH1 := Lib.hid h1
                clear h1
                have c0PL := PL.c0
                have c1PL := PL.c1
                have c0PR := PR.c0
                have c1PR := PR.c1
                have c0P7 := P7.c0
                have c1P7 := P7.c1
                have c0PT := PT.c0
                have c1PT := PT.c1
                have z0PR := PR.z0
                have z1PR := PR.z1
                have hsz := hB.size
                go_wp2_with fail
                replace hs := hs.pset PR (.slice ps.a ps.n ps.c) (.slice qs.a qs.n qs.c)
                replace hB := Below.pset (B := w.heap.size + 1) hB (by omega) (.slice ps.a ps.n ps.c) (.slice qs.a qs.n qs.c)
                have PX := PR.set (.slice ps.a ps.n ps.c) (.slice qs.a qs.n qs.c)
                generalize (wr.setCell ⟨w.heap.size + 1, 0, none⟩ (.slice ps.a ps.n ps.c)).setCell ⟨w.heap.size + 1, 1, none⟩ (.slice qs.a qs.n qs.c) = WW at hs PX hB ⊢
                rw [HR.out]
                refine bodyPost_ret (v := .agg #[.slice ps.a ps.n ps.c, .slice qs.a qs.n qs.c]) ?_ rfl ⟨ps, qs, rfl, hs, hB⟩
                simp [results, Tryz.f17, go_sem, PX.c0, PX.c1]
              · skip
                have HR : Hid (docLevel x ks = low + (x - sum low ks) / ((op : Nat) : Rat)) := Lib.hid (by rw [HDL.out, if_neg (fun h => h.elim h0 h1)])
                have hz : pr.n ≠ 0 := fun h => N_ne hr.1.pos h1 ((dlen_zero hr.2.1).1 h)
                have hz2 : ((pr.n : Int) == 0) = false := by simp; omega
                have hz3 : ¬ (pr.n : Int) = 0 := by omega
                have HPT : Hid (Sz ((x - sum low ks) / ((op : Nat) : Rat)) ∧ Sz (low + (x - sum low ks) / ((op : Nat) : Rat))) := Lib.hid (HLV.out.part HF.out HX2.out ks HSL.out h0 hop2)
                have HN0 : Hid (op ≠ 0) := Lib.hid h0
                clear h1 h0
                have c0PL := PL.c0
                have c1PL := PL.c1
                have c0PR := PR.c0
                have c1PR := PR.c1
                have c0P7 := P7.c0
                have c1P7 := P7.c1
                have c0PT := PT.c0
                have c1PT := PT.c1
                go_wp2_with fail
                clear c0PL c1PL c0PR c1PR c0P7 c1P7 c0PT c1PT
                refine (?_ : ∀ (z0 z1 z2 z3 z4 z5 z8 z9 z12 z13 z14 z15 z16 z17 z18 z19 z20 z21 z22 z23 z24 z25 z26 z27 z28 z29 z30 z31 z32 z33 z34 z35 z36 z37 z38 z39 z40 z41 z42 z43 z44 z45 z46 z47 z48 z49 z50 z51 z52 z53 z54 z55 z56 z57 z58 z59 z60 z61 z62 z63 z64 z65 z66 z67 z68 z69 z70 z71 z72 z73 z74 z75 z76 z77 z78 z79 z80 z81 z82 z83 z84 z85 z86 z87 : Value), Code.wp _ _ _ { tmps := List.toArray (z0 :: z1 :: z2 :: z3 :: z4 :: z5 :: .pointer (some ⟨w.heap.size + 1, 0, none⟩) :: .pointer (some ⟨B7, 0, none⟩) :: z8 :: z9 :: .pointer (some ⟨B10, 0, none⟩) :: .int .i64 (op : Int) :: z12 :: z13 :: z14 :: z15 :: z16 :: z17 :: z18 :: z19 :: z20 :: z21 :: z22 :: z23 :: z24 :: z25 :: z26 :: z27 :: z28 :: z29 :: z30 :: z31 :: z32 :: z33 :: z34 :: z35 :: z36 :: z37 :: z38 :: z39 :: z40 :: z41 :: z42 :: z43 :: z44 :: z45 :: z46 :: z47 :: z48 :: z49 :: z50 :: z51 :: z52 :: z53 :: z54 :: z55 :: z56 :: z57 :: z58 :: z59 :: z60 :: z61 :: z62 :: z63 :: z64 :: z65 :: z66 :: z67 :: z68 :: z69 :: z70 :: z71 :: z72 :: z73 :: z74 :: z75 :: z76 :: z77 :: z78 :: z79 :: z80 :: z81 :: z82 :: z83 :: z84 :: z85 :: z86 :: z87 :: []), defers := [] } _) _ _ _ _ _ _ _ _ _ _ _ _ _ _ _ _ _ _ _ _ _ _ _ _ _ _ _ _ _ _ _ _ _ _ _ _ _ _ _ _ _ _ _ _ _ _ _ _ _ _ _ _ _ _ _ _ _ _ _ _ _ _ _ _ _ _ _ _ _ _ _ _ _ _ _ _ _ _ _ _ _ _ _ _
                intro z0 z1 z2 z3 z4 z5 z8 z9 z12 z13 z14 z15 z16 z17 z18 z19 z20 z21 z22 z23 z24 z25 z26 z27 z28 z29 z30 z31 z32 z33 z34 z35 z36 z37 z38 z39 z40 z41 z42 z43 z44 z45 z46 z47 z48 z49 z50 z51 z52 z53 z54 z55 z56 z57 z58 z59 z60 z61 z62 z63 z64 z65 z66 z67 z68 z69 z70 z71 z72 z73 z74 z75 z76 z77 z78 z79 z80 z81 z82 z83 z84 z85 z86 z87
                have c0PL := PL.c0
                have c1PL := PL.c1
                have c0PR := PR.c0
                have c1PR := PR.c1
                have c0P7 := P7.c0
                have c1P7 := P7.c1
                have c0PT := PT.c0
                have c1PT := PT.c1
                go_wp2_with fail
                clear c0PL c1PL c0PR c1PR c0P7 c1P7 c0PT c1PT
                have hb : Below wr.heap.size wr wr.drew := (Below.refl _ _).drew
                replace PL := PL.below hb
                replace PR := PR.below hb
                replace P7 := P7.below hb
                replace PT := PT.below hb
                replace hx := hx.below hb
                replace ha := ha.below hb
                replace hc := hc.below hb
                replace hs := hs.below hb
                replace hr := hr.below hb
                replace hB := hB.trans (hb.mono hB.size)
                clear hb
                refine Rd.regionT (fun X => Pair X (w.heap.size) 32 (.slice p.a p.n p.c) (.slice q.a q.n q.c) ∧ Pair X (B7) 32 (.slice ps.a ps.n ps.c) (.slice qs.a qs.n qs.c) ∧ Pair X (B10) 32 (.slice pr.a pr.n pr.c) (.slice qr.a qr.n qr.c)) [0, 1, 2] (.one 0 (.one 1 (.one 2 (.one 3 (.one 4 (.one 5 (.one 6 .done))))))) (fun ac W => ∃ (pn : Sl) (qn : Sl) (y82 y83 y84 y85 y86 y87 : Value), ac = { tmps := List.toArray (z0 :: z1 :: z2 :: z3 :: z4 :: z5 :: .pointer (some ⟨w.heap.size + 1, 0, none⟩) :: .pointer (some ⟨B7, 0, none⟩) :: z8 :: z9 :: .pointer (some ⟨B10, 0, none⟩) :: .int .i64 (op : Int) :: z12 :: z13 :: z14 :: z15 :: z16 :: z17 :: z18 :: z19 :: z20 :: z21 :: z22 :: z23 :: z24 :: z25 :: z26 :: z27 :: z28 :: z29 :: z30 :: z31 :: z32 :: z33 :: z34 :: z35 :: z36 :: z37 :: z38 :: z39 :: z40 :: z41 :: z42 :: z43 :: z44 :: z45 :: z46 :: z47 :: z48 :: z49 :: z50 :: z51 :: z52 :: z53 :: z54 :: z55 :: z56 :: z57 :: z58 :: z59 :: z60 :: z61 :: z62 :: z63 :: z64 :: z65 :: z66 :: z67 :: z68 :: z69 :: z70 :: z71 :: z72 :: z73 :: z74 :: z75 :: z76 :: z77 :: z78 :: z79 :: z80 :: z81 :: y82 :: y83 :: y84 :: y85 :: y86 :: y87 :: []), defers := [] } ∧ Pair W (w.heap.size + 1) 32 (.slice pn.a pn.n pn.c) (.slice qn.a qn.n qn.c) ∧ RK W pn qn (low + (x - sum low ks) / ((op : Nat) : Rat)) ∧ Below w.heap.size w W) (by kernel_rfl) (by kernel_rfl) (by kernel_rfl) ⟨PL, P7, PT⟩ ?tree ?next
                case tree =>
                  generalize wr.drew = w91 at PL PR P7 PT hx ha hc hs hr hB ⊢
                  refine Rd.tr_float (.agg #[.slice ps.a ps.n ps.c, .slice qs.a qs.n qs.c]) (by simp only [List.getElem?_toArray, List.getElem?_cons_zero]; rfl) rfl (by rfl) (fun X hX => by have h0 := hX.2.1.c0; have h1 := hX.2.1.c1; go_simp) ?_
                  simp only [Act.put, List.setIfInBounds_toArray, List.set_cons_succ, List.set_cons_zero]
                  refine Rd.tr_float (.agg #[.slice pr.a pr.n pr.c, .slice qr.a qr.n qr.c]) (by simp only [List.getElem?_toArray, List.getElem?_cons_succ, List.getElem?_cons_zero]; rfl) rfl (by rfl) (fun X hX => by have h0 := hX.2.2.c0; have h1 := hX.2.2.c1; go_simp) ?_
                  simp only [Act.put, List.setIfInBounds_toArray, List.set_cons_succ, List.set_cons_zero]
                  refine Rd.tr_float (.int .i64 (op : Int)) (by simp only [List.getElem?_toArray, List.getElem?_cons_succ, List.getElem?_cons_zero]; rfl) rfl (by rfl) (fun X _ => by go_simp) ?_
                  simp only [Act.put, List.setIfInBounds_toArray, List.set_cons_succ, List.set_cons_zero]
                  refine Rd.tr_move (by simp only [List.getElem?_toArray, List.getElem?_cons_succ, List.getElem?_cons_zero]; rfl) rfl (by rfl) (fun K hK => ?_)
                  have H94 := Lib.hid (Kint (op) (by omega) w91)
                  go_simp
                  refine H94.out.mono ?_
                  rintro e w95 ⟨x92, y93, rfl, rx92, hb⟩
                  clear H94
                  replace PL := PL.below hb
                  replace PR := PR.below hb
                  replace P7 := P7.below hb
                  replace PT := PT.below hb
                  replace hx := hx.below hb
                  replace ha := ha.below hb
                  replace hc := hc.below hb
                  replace hs := hs.below hb
                  replace hr := hr.below hb
                  replace hB := hB.trans (hb.mono hB.size)
                  clear hb
                  refine hK _ _ ⟨PL, P7, PT⟩ ?_
                  clear hK K
                  refine Rd.tr_move (by simp only [List.getElem?_toArray, List.getElem?_cons_succ, List.getElem?_cons_zero]; rfl) rfl (by rfl) (fun K hK => ?_)
                  have H98 := Lib.hid (Kdiv pr qr x92 y93 (x - sum low ks) (((op : Nat) : Rat)) w95 hr rx92 HPT.out.1 (by have := pos_cast HN0.out; grind))
                  go_simp
                  refine H98.out.mono ?_
                  rintro e w99 ⟨x96, y97, rfl, rx96, hb⟩
                  clear H98
                  replace PL := PL.below hb
                  replace PR := PR.below hb
                  replace P7 := P7.below hb
                  replace PT := PT.below hb
                  replace hx := hx.below hb
                  replace ha := ha.below hb
                  replace hc := hc.below hb
                  replace hs := hs.below hb
                  replace hr := hr.below hb
                  replace rx92 := rx92.below hb
                  replace hB := hB.trans (hb.mono hB.size)
                  clear hb
                  refine hK _ _ ⟨PL, P7, PT⟩ ?_
                  clear hK K
                  refine Rd.tr_move (by simp only [List.getElem?_toArray, List.getElem?_cons_succ, List.getElem?_cons_zero]; rfl) rfl (by rfl) (fun K hK => ?_)
                  have H102 := Lib.hid (Kadd ps qs x96 y97 (low) ((x - sum low ks) / ((op : Nat) : Rat)) w99 hs rx96 HPT.out.2 )
                  go_simp
                  refine H102.out.mono ?_
                  rintro e w103 ⟨x100, y101, rfl, rx100, hb⟩
                  clear H102
                  replace PL := PL.below hb
                  replace PR := PR.below hb
                  replace P7 := P7.below hb
                  replace PT := PT.below hb
                  replace hx := hx.below hb
                  replace ha := ha.below hb
                  replace hc := hc.below hb
                  replace hs := hs.below hb
                  replace hr := hr.below hb
                  replace rx92 := rx92.below hb
                  replace rx96 := rx96.below hb
                  replace hB := hB.trans (hb.mono hB.size)
                  clear hb
                  refine hK _ _ ⟨PL, P7, PT⟩ ?_
                  clear hK K
                  refine Rd.tr_move (by simp only [List.getElem?_toArray, List.getElem?_cons_succ, List.getElem?_cons_zero]; rfl) rfl (by rfl) (fun K hK => ?_)
                  have c0PR := PR.c0
                  have c1PR := PR.c1
                  have z0PR := PR.z0
                  have z1PR := PR.z1
                  go_simp
                  clear c0PR c1PR z0PR z1PR
                  replace hx := hx.pset PR (.slice x100.a x100.n x100.c) (.slice y101.a y101.n y101.c)
                  replace ha := ha.pset PR (.slice x100.a x100.n x100.c) (.slice y101.a y101.n y101.c)
                  replace hc := hc.pset PR (.slice x100.a x100.n x100.c) (.slice y101.a y101.n y101.c)
                  replace hs := hs.pset PR (.slice x100.a x100.n x100.c) (.slice y101.a y101.n y101.c)
                  replace hr := hr.pset PR (.slice x100.a x100.n x100.c) (.slice y101.a y101.n y101.c)
                  replace rx92 := rx92.pset PR (.slice x100.a x100.n x100.c) (.slice y101.a y101.n y101.c)
                  replace rx96 := rx96.pset PR (.slice x100.a x100.n x100.c) (.slice y101.a y101.n y101.c)
                  replace rx100 := rx100.pset PR (.slice x100.a x100.n x100.c) (.slice y101.a y101.n y101.c)
                  replace PL := PL.other (B := w.heap.size + 1) (by omega) (.slice x100.a x100.n x100.c) (.slice y101.a y101.n y101.c)
                  replace P7 := P7.other (B := w.heap.size + 1) (by omega) (.slice x100.a x100.n x100.c) (.slice y101.a y101.n y101.c)
                  replace PT := PT.other (B := w.heap.size + 1) (by omega) (.slice x100.a x100.n x100.c) (.slice y101.a y101.n y101.c)
                  replace hB := Below.pset (B := w.heap.size + 1) hB (by omega) (.slice x100.a x100.n x100.c) (.slice y101.a y101.n y101.c)
                  replace PR := PR.set (.slice x100.a x100.n x100.c) (.slice y101.a y101.n y101.c)
                  generalize (w103.setCell ⟨w.heap.size + 1, 0, none⟩ (.slice x100.a x100.n x100.c)).setCell ⟨w.heap.size + 1, 1, none⟩ (.slice y101.a y101.n y101.c) = w104 at PL PR P7 PT hx ha hc hs hr rx92 rx96 rx100 hB ⊢
                  refine hK _ _ ⟨PL, P7, PT⟩ ?_
                  clear hK K
                  exact Rd.tr_end (⟨x100, y101, _, _, _, _, _, _, rfl, PR, rx100, hB⟩)
                case next =>
                  rintro a106 W105 ⟨pn, qn, y82, y83, y84, y85, y86, y87, rfl, PX, hN, hB⟩
                  go_wp2_with fail
                  rw [HR.out]
                  refine bodyPost_ret (v := .agg #[.slice pn.a pn.n pn.c, .slice qn.a qn.n qn.c]) ?_ rfl ⟨pn, qn, rfl, hN, hB⟩
                  simp [results, Tryz.f17, go_sem, PX.c0, PX.c1]

end Go.Proofs.YtphllajedkpcbaaGreatDoor
