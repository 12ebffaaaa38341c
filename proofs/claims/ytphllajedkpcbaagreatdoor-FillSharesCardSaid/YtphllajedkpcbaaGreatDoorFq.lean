/-
  The document's Sum, told in rationals. Condition: at most a hundred children; not more than a hundred limbs.
-/
import Derived.Test.YtphllajedkpcbaaGreatDoorFp
namespace Go.Proofs.YtphllajedkpcbaaGreatDoor
open Go.RowKit Go.Dig Go.Shelf Go.Proofs Go.Rq

theorem sum_append (l : Rat) : ∀ a b : List Kid, sum l (a ++ b) = sum l a + sum l b
  | [], b => by rw [List.nil_append]; unfold sum; grind
  | k :: a, b => by rw [List.cons_append, sum, sum, sum_append l a b]; grind
theorem sum_snoc (l : Rat) {ks : List Kid} {k : Nat} (h : k < ks.length) : sum l (ks.take (k + 1)) = sum l (ks.take k) + given l (ks.getD k (0, 0)) := by
  rw [List.take_add_one, sum_append]
  simp [List.getD_eq_getElem?_getD, List.getElem?_eq_getElem h, sum]
  grind
set_option maxRecDepth 100000 in
set_option maxHeartbeats 4000000 in
theorem Sum_any (p q a b : Sl) (l : Rat) (ks : List Kid) (w : World) (hl : RK w p q l) (ha : RI w a (ks.map fun k => (k.1 : Int))) (hc : RI w b (ks.map fun k => (k.2 : Int))) (hn : ks.length ≤ 100) (HKK : Hid (∀ k ∈ ks, okKid k)) (HZ : Hid (∀ n : Nat, n ≤ 10000 → Sz (l * (n : Rat)))) (HS : Hid (∀ js : List Kid, (∀ k ∈ js, k ∈ ks) → js.length ≤ ks.length → Sz (sum l js))) :
    Calls Tryz.prog 38 #[.agg #[.slice p.a p.n p.c, .slice q.a q.n q.c], .slice a.a a.n a.c, .slice b.a b.n b.c] w fun e w' => ∃ u v : Sl, e = .returned (.agg #[.slice u.a u.n u.c, .slice v.a v.n v.c]) ∧ RK w' u v (sum l ks) ∧ Below w.heap.size w w' := by
  obtain ⟨aa, an, al⟩ := a
  obtain ⟨ba, bn, bl⟩ := b
  have ea := ha.len
  have ec := hc.len
  rw [List.length_map] at ea ec
  dsimp only at ea ec
  subst ea ec
  dsimp only
  go_enter Tryz.func38, Tryz.ntmps38
  have hb : Below w.heap.size w ((w.alloc (.cells #[.slice p.a p.n p.c, .slice q.a q.n q.c] 32)).alloc (.cells #[.slice none 0 0, .slice none 0 0] 32)) := (((Below.refl _ _).alloc (Nat.le_refl _) _).alloc (by simp) _)
  replace hl := hl.below hb
  replace ha := ha.below hb
  replace hc := hc.below hb
  have hB := hb
  have P1 : Pair ((w.alloc (.cells #[.slice p.a p.n p.c, .slice q.a q.n q.c] 32)).alloc (.cells #[.slice none 0 0, .slice none 0 0] 32)) (w.heap.size) 32 (.slice p.a p.n p.c) (.slice q.a q.n q.c) := by
    have h := (Pair.new w 32 (.slice p.a p.n p.c) (.slice q.a q.n q.c)).alloc (.cells #[.slice none 0 0, .slice none 0 0] 32)
    simpa only [World.size_alloc] using h
  have P2 : Pair ((w.alloc (.cells #[.slice p.a p.n p.c, .slice q.a q.n q.c] 32)).alloc (.cells #[.slice none 0 0, .slice none 0 0] 32)) (w.heap.size + 1) 32 (.slice none 0 0) (.slice none 0 0) := by
    have h := Pair.new (w.alloc (.cells #[.slice p.a p.n p.c, .slice q.a q.n q.c] 32)) 32 (.slice none 0 0) (.slice none 0 0)
    simpa only [World.size_alloc] using h
  clear hb
  have c0P1 := P1.c0
  have c1P1 := P1.c1
  have c0P2 := P2.c0
  have c1P2 := P2.c1
  have H5 := Lib.hid (Kint (0) (by omega) ((w.alloc (.cells #[.slice p.a p.n p.c, .slice q.a q.n q.c] 32)).alloc (.cells #[.slice none 0 0, .slice none 0 0] 32)))
  go_wp2_with fail
  clear c0P1 c1P1 c0P2 c1P2
  refine H5.out.mono ?_
  rintro e w6 ⟨x3, y4, rfl, rx3, hb⟩
  clear H5
  replace P1 := P1.below hb
  replace P2 := P2.below hb
  replace hl := hl.below hb
  replace ha := ha.below hb
  replace hc := hc.below hb
  replace hB := hB.trans (hb.mono hB.size)
  clear hb
  have hp6 := P2.lt
  have hb : Below w6.heap.size w6 (w6.alloc (.cells #[.slice x3.a x3.n x3.c, .slice y4.a y4.n y4.c] 32)) := ((Below.refl _ _).alloc (Nat.le_refl _) _)
  replace P1 := P1.below hb
  replace P2 := P2.below hb
  replace hl := hl.below hb
  replace ha := ha.below hb
  replace hc := hc.below hb
  replace rx3 := rx3.below hb
  replace hB := hB.trans (hb.mono hB.size)
  have P7 : Pair (w6.alloc (.cells #[.slice x3.a x3.n x3.c, .slice y4.a y4.n y4.c] 32)) (w6.heap.size) 32 (.slice x3.a x3.n x3.c) (.slice y4.a y4.n y4.c) := by
    have h := Pair.new w6 32 (.slice x3.a x3.n x3.c) (.slice y4.a y4.n y4.c)
    simpa only [World.size_alloc] using h
  clear hb
  have c0P1 := P1.c0
  have c1P1 := P1.c1
  have c0P2 := P2.c0
  have c1P2 := P2.c1
  have c0P7 := P7.c0
  have c1P7 := P7.c1
  go_wp2_with fail
  clear c0P1 c1P1 c0P2 c1P2 c0P7 c1P7
  obtain ⟨B7, hB7⟩ : ∃ B, B = w6.heap.size := ⟨_, rfl⟩
  skip
  have HR0 : Hid (sum l (ks.take 0) = ((0 : Nat) : Rat)) := Lib.hid (by rw [List.take_zero]; rfl)
  have hsz := hB.size
  go_loopw [12] (fun i wr => ∃ (k : Nat) (ps qs : Sl), k ≤ ks.length ∧ i = .int .i64 (k : Int) ∧ Hid (Pair wr (w.heap.size) 32 (.slice p.a p.n p.c) (.slice q.a q.n q.c)) ∧ Hid (Pair wr (w.heap.size + 1) 32 (.slice none 0 0) (.slice none 0 0)) ∧ Hid (RK wr p q l) ∧ Hid (RI wr ⟨aa, ks.length, al⟩ (ks.map fun k => (k.1 : Int))) ∧ Hid (RI wr ⟨ba, ks.length, bl⟩ (ks.map fun k => (k.2 : Int))) ∧ Hid (Pair wr (w6.heap.size) 32 (.slice ps.a ps.n ps.c) (.slice qs.a qs.n qs.c)) ∧ Hid (RK wr ps qs (sum l (ks.take k))) ∧ Hid (Below w.heap.size w wr)) (fun i _ => ks.length - (intOf i).toNat)
  case atStart => exact ⟨0, x3, y4, Nat.zero_le _, rfl, Lib.hid P1, Lib.hid P2, Lib.hid hl, Lib.hid ha, Lib.hid hc, Lib.hid P7, Lib.hid (by rw [HR0.out]; exact rx3), Lib.hid hB⟩
  case round =>
    clear P1 P2 P7 rx3 hl ha hc hB hsz
    obtain ⟨k, ps, qs, hk, rfl, HPL, HPR, HL, HA, HC, HP7, HSM, HBB⟩ := hrel
    have PL := HPL.out
    have PR := HPR.out
    have hl := HL.out
    have ha := HA.out
    have hc := HC.out
    have P7 := HP7.out
    have hs := HSM.out
    have hB := HBB.out
    clear HPL HPR HL HA HC HP7 HSM HBB
    by_cases hlt : k < ks.length
    · skip
      obtain ⟨b1, o1, ec, ic⟩ := hc.at hlt
      obtain ⟨b2, o2, ea, iw⟩ := ha.at hlt
      subst ea ec
      have hkk := HKK.out _ (kget_mem hlt)
      have HSN := Lib.hid (sum_snoc l hlt)
      generalize ks.getD k (0, 0) = kid at ic iw hkk HSN
      obtain ⟨wt, cp⟩ := kid
      dsimp only at ic iw hkk
      have hwt := hkk.2.1
      have hcp := hkk.2.2
      dsimp only at hwt hcp
      clear hkk
      have HT : Hid (Sz (sum l (ks.take k) + given l (wt, cp))) := Lib.hid (by rw [← HSN.out]; exact HS.out _ (fun x hx => List.mem_of_mem_take hx) (by rw [List.length_take]; omega))
      have hsz := hB.size
      have hs7 := P7.lt
      have hsr := PR.lt
      have c0PL := PL.c0
      have c1PL := PL.c1
      have c0PR := PR.c0
      have c1PR := PR.c1
      have c0P7 := P7.c0
      have c1P7 := P7.c1
      go_wp2_with fail
      clear c0PL c1PL c0PR c1PR c0P7 c1P7
      have hb : Below wr.heap.size wr wr.drew := (Below.refl _ _).drew
      replace PL := PL.below hb
      replace PR := PR.below hb
      replace P7 := P7.below hb
      replace hl := hl.below hb
      replace ha := ha.below hb
      replace hc := hc.below hb
      replace hs := hs.below hb
      replace iw := iw.below hb
      replace ic := ic.below hb
      replace hB := hB.trans (hb.mono hB.size)
      clear hb
      refine Rd.regionT (fun X => Pair X (w.heap.size) 32 (.slice p.a p.n p.c) (.slice q.a q.n q.c) ∧ Pair X (w.heap.size + 1) 32 (.slice none 0 0) (.slice none 0 0) ∧ IC X b2 (o2 + k) (wt : Int) ∧ IC X b1 (o1 + k) (cp : Int)) [1, 2, 3, 4, 5, 6, 7, 8, 9] (.one 1 (.one 2 (.one 3 (.one 4 (.one 5 (.one 6 (.one 7 (.one 8 (.one 9 (.two 0 (.one 10 (.one 11 (.one 12 .done))) 10 (.one 0 (.one 11 (.one 12 .done))))))))))))) (fun ac W => ∃ (pn : Sl) (qn : Sl) (y15 y16 y17 y18 y19 y20 y21 y22 y23 y24 y25 y26 : Value), ac = { tmps := List.toArray (.agg #[.slice p.a p.n p.c, .slice q.a q.n q.c] :: .slice (some ⟨b2, o2, none⟩) ks.length al :: .slice (some ⟨b1, o1, none⟩) ks.length bl :: .pointer (some ⟨w.heap.size, 0, none⟩) :: undef :: undef :: .pointer (some ⟨w.heap.size + 1, 0, none⟩) :: .pointer (some ⟨w6.heap.size, 0, none⟩) :: .int .i64 (k : Int) :: .agg #[.slice x3.a x3.n x3.c, .slice y4.a y4.n y4.c] :: .slice (some ⟨b2, o2, none⟩) ks.length al :: .int .i64 (ks.length : Int) :: .int .i64 (k : Int) :: .bool true :: .int .i64 (k : Int) :: y15 :: y16 :: y17 :: y18 :: y19 :: y20 :: y21 :: y22 :: y23 :: y24 :: y25 :: y26 :: u27 :: undef :: []), defers := [] } ∧ Pair W (w.heap.size) 32 (.slice p.a p.n p.c) (.slice q.a q.n q.c) ∧ Pair W (w.heap.size + 1) 32 (.slice none 0 0) (.slice none 0 0) ∧ RK W p q (l) ∧ RI W ⟨some ⟨b2, o2, none⟩, ks.length, al⟩ (ks.map fun k => (k.1 : Int)) ∧ RI W ⟨some ⟨b1, o1, none⟩, ks.length, bl⟩ (ks.map fun k => (k.2 : Int)) ∧ IC W b2 (o2 + k) (wt : Int) ∧ IC W b1 (o1 + k) (cp : Int) ∧ Pair W (w6.heap.size) 32 (.slice pn.a pn.n pn.c) (.slice qn.a qn.n qn.c) ∧ RK W pn qn (sum l (ks.take k) + given l (wt, cp)) ∧ Below w.heap.size w W) (by kernel_rfl) (by kernel_rfl) (by kernel_rfl) ⟨PL, PR, iw, ic⟩ ?tree ?next
      case tree =>
        generalize wr.drew = w8 at PL PR P7 hl ha hc hs iw ic hB ⊢
        refine Rd.tr_float (.agg #[.slice p.a p.n p.c, .slice q.a q.n q.c]) (by simp only [List.getElem?_toArray, List.getElem?_cons_succ, List.getElem?_cons_zero]; rfl) rfl (by rfl) (fun X hX => by have h0 := hX.1.c0; have h1 := hX.1.c1; go_simp) ?_
        simp only [Act.put, List.setIfInBounds_toArray, List.set_cons_succ, List.set_cons_zero]
        refine Rd.tr_float (.slice (some ⟨b2, o2, none⟩) ks.length al) (by simp only [List.getElem?_toArray, List.getElem?_cons_succ, List.getElem?_cons_zero]; rfl) rfl (by rfl) (fun X _ => by go_simp) ?_
        simp only [Act.put, List.setIfInBounds_toArray, List.set_cons_succ, List.set_cons_zero]
        refine Rd.tr_float (.int .i64 (k : Int)) (by simp only [List.getElem?_toArray, List.getElem?_cons_succ, List.getElem?_cons_zero]; rfl) rfl (by rfl) (fun X _ => by go_simp) ?_
        simp only [Act.put, List.setIfInBounds_toArray, List.set_cons_succ, List.set_cons_zero]
        refine Rd.tr_float (.pointer (some ⟨b2, o2 + k, none⟩)) (by simp only [List.getElem?_toArray, List.getElem?_cons_succ, List.getElem?_cons_zero]; rfl) rfl (by rfl) (fun X _ => by go_simp) ?_
        simp only [Act.put, List.setIfInBounds_toArray, List.set_cons_succ, List.set_cons_zero]
        refine Rd.tr_float (.int .i64 (wt : Int)) (by simp only [List.getElem?_toArray, List.getElem?_cons_succ, List.getElem?_cons_zero]; rfl) rfl (by rfl) (fun X hX => by have h0 := (hX.2.2.1).2; go_simp) ?_
        simp only [Act.put, List.setIfInBounds_toArray, List.set_cons_succ, List.set_cons_zero]
        refine Rd.tr_float (.slice (some ⟨b1, o1, none⟩) ks.length bl) (by simp only [List.getElem?_toArray, List.getElem?_cons_succ, List.getElem?_cons_zero]; rfl) rfl (by rfl) (fun X _ => by go_simp) ?_
        simp only [Act.put, List.setIfInBounds_toArray, List.set_cons_succ, List.set_cons_zero]
        refine Rd.tr_float (.int .i64 (k : Int)) (by simp only [List.getElem?_toArray, List.getElem?_cons_succ, List.getElem?_cons_zero]; rfl) rfl (by rfl) (fun X _ => by go_simp) ?_
        simp only [Act.put, List.setIfInBounds_toArray, List.set_cons_succ, List.set_cons_zero]
        refine Rd.tr_float (.pointer (some ⟨b1, o1 + k, none⟩)) (by simp only [List.getElem?_toArray, List.getElem?_cons_succ, List.getElem?_cons_zero]; rfl) rfl (by rfl) (fun X _ => by go_simp) ?_
        simp only [Act.put, List.setIfInBounds_toArray, List.set_cons_succ, List.set_cons_zero]
        refine Rd.tr_float (.int .i64 (cp : Int)) (by simp only [List.getElem?_toArray, List.getElem?_cons_succ, List.getElem?_cons_zero]; rfl) rfl (by rfl) (fun X hX => by have h0 := (hX.2.2.2).2; go_simp) ?_
        simp only [Act.put, List.setIfInBounds_toArray, List.set_cons_succ, List.set_cons_zero]
        refine Rd.tr_two (by simp only [List.getElem?_toArray, List.getElem?_cons_zero]; rfl) (by rfl) (by simp only [List.getElem?_toArray, List.getElem?_cons_succ, List.getElem?_cons_zero]; rfl) (by rfl) (fun K hK => ?_) (fun K hK => ?_)
        · skip
          have c0P7 := P7.c0
          have c1P7 := P7.c1
          go_simp
          clear c0P7 c1P7
          refine hK _ _ ⟨PL, PR, iw, ic⟩ ?_
          clear hK K
          refine Rd.tr_move (by simp only [List.getElem?_toArray, List.getElem?_cons_succ, List.getElem?_cons_zero]; rfl) rfl (by rfl) (fun K hK => ?_)
          have H11 := Lib.hid (given_any p q l wt cp w8 hl (by omega) (by omega) (Lib.hid (HZ.out wt hwt)))
          go_simp
          refine H11.out.mono ?_
          rintro e w12 ⟨x9, y10, rfl, rx9, hb⟩
          clear H11
          replace PL := PL.below hb
          replace PR := PR.below hb
          replace P7 := P7.below hb
          replace hl := hl.below hb
          replace ha := ha.below hb
          replace hc := hc.below hb
          replace hs := hs.below hb
          replace iw := iw.below hb
          replace ic := ic.below hb
          replace hB := hB.trans (hb.mono hB.size)
          clear hb
          refine hK _ _ ⟨PL, PR, iw, ic⟩ ?_
          clear hK K
          refine Rd.tr_move (by simp only [List.getElem?_toArray, List.getElem?_cons_succ, List.getElem?_cons_zero]; rfl) rfl (by rfl) (fun K hK => ?_)
          have H15 := Lib.hid (Kadd ps qs x9 y10 (sum l (ks.take k)) (given l (wt, cp)) w12 hs rx9 HT.out )
          go_simp
          refine H15.out.mono ?_
          rintro e w16 ⟨x13, y14, rfl, rx13, hb⟩
          clear H15
          replace PL := PL.below hb
          replace PR := PR.below hb
          replace P7 := P7.below hb
          replace hl := hl.below hb
          replace ha := ha.below hb
          replace hc := hc.below hb
          replace hs := hs.below hb
          replace iw := iw.below hb
          replace ic := ic.below hb
          replace rx9 := rx9.below hb
          replace hB := hB.trans (hb.mono hB.size)
          clear hb
          refine hK _ _ ⟨PL, PR, iw, ic⟩ ?_
          clear hK K
          refine Rd.tr_move (by simp only [List.getElem?_toArray, List.getElem?_cons_succ, List.getElem?_cons_zero]; rfl) rfl (by rfl) (fun K hK => ?_)
          have c0P7 := P7.c0
          have c1P7 := P7.c1
          have z0P7 := P7.z0
          have z1P7 := P7.z1
          go_simp
          clear c0P7 c1P7 z0P7 z1P7
          replace hl := hl.pset P7 (.slice x13.a x13.n x13.c) (.slice y14.a y14.n y14.c)
          replace ha := ha.pset P7 (.slice x13.a x13.n x13.c) (.slice y14.a y14.n y14.c)
          replace hc := hc.pset P7 (.slice x13.a x13.n x13.c) (.slice y14.a y14.n y14.c)
          replace hs := hs.pset P7 (.slice x13.a x13.n x13.c) (.slice y14.a y14.n y14.c)
          replace iw := iw.pset P7 (.slice x13.a x13.n x13.c) (.slice y14.a y14.n y14.c)
          replace ic := ic.pset P7 (.slice x13.a x13.n x13.c) (.slice y14.a y14.n y14.c)
          replace rx9 := rx9.pset P7 (.slice x13.a x13.n x13.c) (.slice y14.a y14.n y14.c)
          replace rx13 := rx13.pset P7 (.slice x13.a x13.n x13.c) (.slice y14.a y14.n y14.c)
          replace PL := PL.other (B := w6.heap.size) (by omega) (.slice x13.a x13.n x13.c) (.slice y14.a y14.n y14.c)
          replace PR := PR.other (B := w6.heap.size) (by omega) (.slice x13.a x13.n x13.c) (.slice y14.a y14.n y14.c)
          replace hB := Below.pset (B := w6.heap.size) hB (by omega) (.slice x13.a x13.n x13.c) (.slice y14.a y14.n y14.c)
          replace P7 := P7.set (.slice x13.a x13.n x13.c) (.slice y14.a y14.n y14.c)
          generalize (w16.setCell ⟨w6.heap.size, 0, none⟩ (.slice x13.a x13.n x13.c)).setCell ⟨w6.heap.size, 1, none⟩ (.slice y14.a y14.n y14.c) = w17 at PL PR P7 hl ha hc hs iw ic rx9 rx13 hB ⊢
          refine hK _ _ ⟨PL, PR, iw, ic⟩ ?_
          clear hK K
          exact Rd.tr_end (⟨x13, y14, _, _, _, _, _, _, _, _, _, _, _, _, rfl, PL, PR, hl, ha, hc, iw, ic, P7, rx13, hB⟩)
        · skip
          have H20 := Lib.hid (given_any p q l wt cp w8 hl (by omega) (by omega) (Lib.hid (HZ.out wt hwt)))
          go_simp
          refine H20.out.mono ?_
          rintro e w21 ⟨x18, y19, rfl, rx18, hb⟩
          clear H20
          replace PL := PL.below hb
          replace PR := PR.below hb
          replace P7 := P7.below hb
          replace hl := hl.below hb
          replace ha := ha.below hb
          replace hc := hc.below hb
          replace hs := hs.below hb
          replace iw := iw.below hb
          replace ic := ic.below hb
          replace hB := hB.trans (hb.mono hB.size)
          clear hb
          refine hK _ _ ⟨PL, PR, iw, ic⟩ ?_
          clear hK K
          refine Rd.tr_move (by simp only [List.getElem?_toArray, List.getElem?_cons_zero]; rfl) rfl (by rfl) (fun K hK => ?_)
          have c0P7 := P7.c0
          have c1P7 := P7.c1
          go_simp
          clear c0P7 c1P7
          refine hK _ _ ⟨PL, PR, iw, ic⟩ ?_
          clear hK K
          refine Rd.tr_move (by simp only [List.getElem?_toArray, List.getElem?_cons_succ, List.getElem?_cons_zero]; rfl) rfl (by rfl) (fun K hK => ?_)
          have H24 := Lib.hid (Kadd ps qs x18 y19 (sum l (ks.take k)) (given l (wt, cp)) w21 hs rx18 HT.out )
          go_simp
          refine H24.out.mono ?_
          rintro e w25 ⟨x22, y23, rfl, rx22, hb⟩
          clear H24
          replace PL := PL.below hb
          replace PR := PR.below hb
          replace P7 := P7.below hb
          replace hl := hl.below hb
          replace ha := ha.below hb
          replace hc := hc.below hb
          replace hs := hs.below hb
          replace iw := iw.below hb
          replace ic := ic.below hb
          replace rx18 := rx18.below hb
          replace hB := hB.trans (hb.mono hB.size)
          clear hb
          refine hK _ _ ⟨PL, PR, iw, ic⟩ ?_
          clear hK K
          refine Rd.tr_move (by simp only [List.getElem?_toArray, List.getElem?_cons_succ, List.getElem?_cons_zero]; rfl) rfl (by rfl) (fun K hK => ?_)
          have c0P7 := P7.c0
          have c1P7 := P7.c1
          have z0P7 := P7.z0
          have z1P7 := P7.z1
          go_simp
          clear c0P7 c1P7 z0P7 z1P7
          replace hl := hl.pset P7 (.slice x22.a x22.n x22.c) (.slice y23.a y23.n y23.c)
          replace ha := ha.pset P7 (.slice x22.a x22.n x22.c) (.slice y23.a y23.n y23.c)
          replace hc := hc.pset P7 (.slice x22.a x22.n x22.c) (.slice y23.a y23.n y23.c)
          replace hs := hs.pset P7 (.slice x22.a x22.n x22.c) (.slice y23.a y23.n y23.c)
          replace iw := iw.pset P7 (.slice x22.a x22.n x22.c) (.slice y23.a y23.n y23.c)
          replace ic := ic.pset P7 (.slice x22.a x22.n x22.c) (.slice y23.a y23.n y23.c)
          replace rx18 := rx18.pset P7 (.slice x22.a x22.n x22.c) (.slice y23.a y23.n y23.c)
          replace rx22 := rx22.pset P7 (.slice x22.a x22.n x22.c) (.slice y23.a y23.n y23.c)
          replace PL := PL.other (B := w6.heap.size) (by omega) (.slice x22.a x22.n x22.c) (.slice y23.a y23.n y23.c)
          replace PR := PR.other (B := w6.heap.size) (by omega) (.slice x22.a x22.n x22.c) (.slice y23.a y23.n y23.c)
          replace hB := Below.pset (B := w6.heap.size) hB (by omega) (.slice x22.a x22.n x22.c) (.slice y23.a y23.n y23.c)
          replace P7 := P7.set (.slice x22.a x22.n x22.c) (.slice y23.a y23.n y23.c)
          generalize (w25.setCell ⟨w6.heap.size, 0, none⟩ (.slice x22.a x22.n x22.c)).setCell ⟨w6.heap.size, 1, none⟩ (.slice y23.a y23.n y23.c) = w26 at PL PR P7 hl ha hc hs iw ic rx18 rx22 hB ⊢
          refine hK _ _ ⟨PL, PR, iw, ic⟩ ?_
          clear hK K
          exact Rd.tr_end (⟨x22, y23, _, _, _, _, _, _, _, _, _, _, _, _, rfl, PL, PR, hl, ha, hc, iw, ic, P7, rx22, hB⟩)
      case next =>
        rintro a28 W27 ⟨pn, qn, y15, y16, y17, y18, y19, y20, y21, y22, y23, y24, y25, y26, rfl, PL, PR, hl, ha, hc, iw, ic, P7, hN, hB⟩
        go_wp2_with fail
        go_round
        case rel => exact ⟨k + 1, pn, qn, by omega, by go_num, Lib.hid PL, Lib.hid PR, Lib.hid hl, Lib.hid ha, Lib.hid hc, Lib.hid P7, Lib.hid (by rw [HSN.out]; exact hN), Lib.hid hB⟩
        case measure => simp [intOf]; omega
    · skip
      have ek : k = ks.length := by omega
      rw [ek, List.take_length] at hs
      have hs7 := P7.lt
      have hsr := PR.lt
      have c0PL := PL.c0
      have c1PL := PL.c1
      have c0PR := PR.c0
      have c1PR := PR.c1
      have c0P7 := P7.c0
      have c1P7 := P7.c1
      have z0PR := PR.z0
      have z1PR := PR.z1
      have hsz := hB.size
      go_wp2_with fail
      replace hs := hs.pset PR (.slice ps.a ps.n ps.c) (.slice qs.a qs.n qs.c)
      replace hB := Below.pset (B := w.heap.size + 1) hB (by omega) (.slice ps.a ps.n ps.c) (.slice qs.a qs.n qs.c)
      have PX := PR.set (.slice ps.a ps.n ps.c) (.slice qs.a qs.n qs.c)
      generalize (wr.setCell ⟨w.heap.size + 1, 0, none⟩ (.slice ps.a ps.n ps.c)).setCell ⟨w.heap.size + 1, 1, none⟩ (.slice qs.a qs.n qs.c) = WW at hs PX hB ⊢
      refine bodyPost_ret (v := .agg #[.slice ps.a ps.n ps.c, .slice qs.a qs.n qs.c]) ?_ rfl ⟨ps, qs, rfl, hs, hB⟩
      simp [results, Tryz.f38, go_sem, PX.c0, PX.c1]

end Go.Proofs.YtphllajedkpcbaaGreatDoor
