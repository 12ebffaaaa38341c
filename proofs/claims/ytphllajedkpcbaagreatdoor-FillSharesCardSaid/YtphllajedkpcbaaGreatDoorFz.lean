/-
  The document's Fill, told in rationals. Condition: at most a hundred weights and caps; a denominator below 2 to the 600th.
-/
import Derived.Test.YtphllajedkpcbaaGreatDoorFw
namespace Go.Proofs.YtphllajedkpcbaaGreatDoor
open Go.RowKit Go.Dig Go.Shelf Go.Proofs Go.Rq

theorem wp_append_at {o : Oper} {a : Act} {Q : Exit → Act → World → Prop} {K : Act → World → Prop} {w : World} (s x : Operand) (t t' : TypeId)
    (ho : o.op = .call { callee := .builtin .append, args := #[s, x], argTypes := #[t, t'] }) (v u v' : Value) (w' : World) (hs : a.eval s = v) (hx : a.eval x = u)
    (hr : (Builtin.append_ #[t, t'] o.type #[v, u]).run Tryz.prog w = .ok v' w') (h : K (a.put o.dst v') w') : o.wp Tryz.prog a w K Q := by
  unfold Oper.wp execOp
  simp only [ho, resolve, invoke, builtin, Sem.run_bind, Sem.run_pure, Result.andThen_ok, List.map_toArray, List.map_cons, List.map_nil, hs, hx, hr]
  exact h
section
variable {w w' : World} {base : Nat} {e : TypeId} {v : Value} {n : Nat} {xs : List Value}
theorem OwnS.ne_int (ho : OwnS w base e v n xs) {b j : Nat} {z : Int} (hc : w.cell? ⟨b, j, none⟩ = some (.int .i64 z)) : some b ≠ v.ownBlock := by
  intro eb
  rcases ho.2 with ⟨rfl, _⟩ | ⟨g, cap2, cur, rfl, _, hgr, _, _, _, _, hall⟩
  · cases eb
  · cases eb
    simp only [World.cell?, hgr] at hc
    obtain ⟨h4, h5⟩ := Array.getElem?_eq_some_iff.1 hc
    obtain ⟨_, _, _, h6⟩ := hall _ (Array.getElem_mem_toList h4)
    rw [h5] at h6
    cases h6
theorem RowI.grownS {u : Value} {l : List Int} (h : RowI w u l) (ho : OwnS w base e v n xs) (hg : w.grownBy w' v.ownBlock) : RowI w' u l := by
  obtain ⟨ad, cap, e1, h1, h2⟩ := h
  refine ⟨ad, cap, e1, h1, fun hne => ?_⟩
  obtain ⟨b, off, rfl, hb, hc⟩ := h2 hne
  have hne2 := ho.ne_int (hc 0 (List.length_pos_iff.2 hne))
  exact ⟨b, off, rfl, Nat.lt_of_lt_of_le hb hg.size, fun j hj => (World.cell?_of_block (w := w) (a := ⟨b, off + j, none⟩) (hg.block b hb hne2)).trans (hc j hj)⟩
theorem IC.grownS {b j : Nat} {z : Int} (h : IC w b j z) (ho : OwnS w base e v n xs) (hg : w.grownBy w' v.ownBlock) : IC w' b j z :=
  ⟨Nat.lt_of_lt_of_le h.1 hg.size, (World.cell?_of_block (w := w) (a := ⟨b, j, none⟩) (hg.block b h.1 (ho.ne_int h.2))).trans h.2⟩
theorem Gets.below {rs : List Rat} {ys : List Value} (h : Gets RK w ys rs) (hb : Below w.heap.size w w') : Gets RK w' ys rs := h.move (fun _ _ _ k => k.below hb)
theorem Gets.grownS {rs : List Rat} {ys : List Value} (h : Gets RK w ys rs) (ho : OwnS w base e v n xs) (hg : w.grownBy w' v.ownBlock) : Gets RK w' ys rs := h.move (fun _ _ _ k => k.grownS ho hg)
end
theorem Tryz.info32 : (Tryz.prog.info? 32).map (fun i => (i.zero, i.size, i.bytes)) = some (some (.agg #[.slice none 0 0, .slice none 0 0]), 2, 48) := by kernel_rfl
set_option maxRecDepth 100000 in
set_option maxHeartbeats 4000000 in
theorem Fill_doc_bad (p q a b : Sl) (x : Rat) (ws cs : List Int) (w : World) (hx : RK w p q x) (ha : RI w a ws) (hc : RI w b cs) (cd : Int) (_hcd : cd ≠ 0) (hcb : (cd == 0) = false) (HC : Hid (errOf x ws cs = cd)) :
    Calls Tryz.prog 12 #[.agg #[.slice p.a p.n p.c, .slice q.a q.n q.c], .slice a.a a.n a.c, .slice b.a b.n b.c] w fun e w' => e = .returned (.tuple #[.slice none 0 0, .int .i64 cd]) ∧ Below w.heap.size w w' := by
  go_enter Tryz.func12, Tryz.ntmps12
  have hb : Below w.heap.size w (w.alloc (.cells #[.slice p.a p.n p.c, .slice q.a q.n q.c] 32)) := ((Below.refl _ _).alloc (Nat.le_refl _) _)
  replace hx := hx.below hb
  replace ha := ha.below hb
  replace hc := hc.below hb
  have hB := hb
  have P1 : Pair (w.alloc (.cells #[.slice p.a p.n p.c, .slice q.a q.n q.c] 32)) (w.heap.size) 32 (.slice p.a p.n p.c) (.slice q.a q.n q.c) := by
    have h := Pair.new w 32 (.slice p.a p.n p.c) (.slice q.a q.n q.c)
    simpa only [World.size_alloc] using h
  clear hb
  have c0P1 := P1.c0
  have c1P1 := P1.c1
  have H2 := Lib.hid (Wrong_any p q a b x ws cs (w.alloc (.cells #[.slice p.a p.n p.c, .slice q.a q.n q.c] 32)) hx ha hc)
  rw [HC.out] at H2
  go_wp2_with fail
  clear c0P1 c1P1
  refine H2.out.mono ?_
  rintro e w3 ⟨rfl, hb⟩
  clear H2
  replace P1 := P1.below hb
  replace hx := hx.below hb
  replace ha := ha.below hb
  replace hc := hc.below hb
  replace hB := hB.trans (hb.mono hB.size)
  clear hb
  have c0P1 := P1.c0
  have c1P1 := P1.c1
  go_wp2_with fail
  go_ret2
  exact ⟨rfl, hB⟩

set_option maxRecDepth 100000 in
set_option maxHeartbeats 4000000 in
theorem Fill_doc (p q a b : Sl) (x : Rat) (ks : List Kid) (D : Nat) (w : World) (hx : RK w p q x) (ha : RI w a (ks.map fun k => (k.1 : Int))) (hc : RI w b (ks.map fun k => (k.2 : Int))) (hl : ks.length ≤ 32) (HKK : Hid (∀ k ∈ ks, okKid k)) (HF : Hid (Fine D x)) (HX : Hid (x ≤ ((caps ks : Nat) : Rat))) (HE : Hid (errOf x (ks.map fun k => (k.1 : Int)) (ks.map fun k => (k.2 : Int)) = 0)) :
    Calls Tryz.prog 12 #[.agg #[.slice p.a p.n p.c, .slice q.a q.n q.c], .slice a.a a.n a.c, .slice b.a b.n b.c] w fun e w' => ∃ v, e = .returned (.tuple #[v, .int .i64 0]) ∧ RowK w' v (ks.map (given (docLevel x ks))) ∧ Below w.heap.size w w' := by
  obtain ⟨aa, an, al⟩ := a
  obtain ⟨ba, bn, bl⟩ := b
  have ea := ha.len
  have ec := hc.len
  rw [List.length_map] at ea ec
  dsimp only at ea ec
  subst ea ec
  dsimp only
  have HX0 : Hid (0 ≤ x) := Lib.hid hx.1.pos
  obtain ⟨i0, hi0, hz0, hz1, hz2⟩ := info_parts Tryz.info32
  go_enter Tryz.func12, Tryz.ntmps12
  have hb : Below w.heap.size w (w.alloc (.cells #[.slice p.a p.n p.c, .slice q.a q.n q.c] 32)) := ((Below.refl _ _).alloc (Nat.le_refl _) _)
  replace hx := hx.below hb
  replace ha := ha.below hb
  replace hc := hc.below hb
  have hB := hb
  have P1 : Pair (w.alloc (.cells #[.slice p.a p.n p.c, .slice q.a q.n q.c] 32)) (w.heap.size) 32 (.slice p.a p.n p.c) (.slice q.a q.n q.c) := by
    have h := Pair.new w 32 (.slice p.a p.n p.c) (.slice q.a q.n q.c)
    simpa only [World.size_alloc] using h
  clear hb
  have c0P1 := P1.c0
  have c1P1 := P1.c1
  have H2 := Lib.hid (Wrong_any p q ⟨aa, ks.length, al⟩ ⟨ba, ks.length, bl⟩ x (ks.map fun k => (k.1 : Int)) (ks.map fun k => (k.2 : Int)) (w.alloc (.cells #[.slice p.a p.n p.c, .slice q.a q.n q.c] 32)) hx ha hc)
  rw [HE.out] at H2
  go_wp2_with fail
  clear c0P1 c1P1
  refine H2.out.mono ?_
  rintro e w3 ⟨rfl, hb⟩
  clear H2
  replace P1 := P1.below hb
  replace hx := hx.below hb
  replace ha := ha.below hb
  replace hc := hc.below hb
  replace hB := hB.trans (hb.mono hB.size)
  clear hb
  have c0P1 := P1.c0
  have c1P1 := P1.c1
  have H6 := Lib.hid (Level_doc p q ⟨aa, ks.length, al⟩ ⟨ba, ks.length, bl⟩ x ks D w3 hx ha hc hl HKK HF HX)
  go_wp2_with fail
  clear c0P1 c1P1
  refine H6.out.mono ?_
  rintro e w7 ⟨x4, y5, rfl, rx4, hb⟩
  clear H6
  replace P1 := P1.below hb
  replace hx := hx.below hb
  replace ha := ha.below hb
  replace hc := hc.below hb
  replace hB := hB.trans (hb.mono hB.size)
  clear hb
  have HSZ9 := Lib.hid hB.size
  have hb : Below w7.heap.size w7 (w7.alloc (.cells #[.slice x4.a x4.n x4.c, .slice y5.a y5.n y5.c] 32)) := ((Below.refl _ _).alloc (Nat.le_refl _) _)
  replace P1 := P1.below hb
  replace hx := hx.below hb
  replace ha := ha.below hb
  replace hc := hc.below hb
  replace rx4 := rx4.below hb
  replace hB := hB.trans (hb.mono hB.size)
  have P8 : Pair (w7.alloc (.cells #[.slice x4.a x4.n x4.c, .slice y5.a y5.n y5.c] 32)) (w7.heap.size) 32 (.slice x4.a x4.n x4.c) (.slice y5.a y5.n y5.c) := by
    have h := Pair.new w7 32 (.slice x4.a x4.n x4.c) (.slice y5.a y5.n y5.c)
    simpa only [World.size_alloc] using h
  clear hb
  have c0P1 := P1.c0
  have c1P1 := P1.c1
  have c0P8 := P8.c0
  have c1P8 := P8.c1
  go_wp2_with fail
  clear c0P1 c1P1 c0P8 c1P8
  have hp9 := P1.lt
  have hsz := hB.size
  obtain ⟨B9, hB9⟩ : ∃ B, B = w7.heap.size := ⟨_, rfl⟩
  rw [← hB9] at P8 ⊢
  have hb9 : w.heap.size ≤ B9 := by rw [hB9]; exact HSZ9.out
  have HLV : Hid (∀ n : Nat, n ≤ 10000 → Sz (docLevel x ks * n)) := Lib.hid (doc_sz HF.out HX0.out hl HKK.out HX.out)
  have HR0 : Hid ((ks.take 0).map (given (docLevel x ks)) = []) := Lib.hid (by simp)
  obtain ⟨lvl, hlvl⟩ : ∃ l, l = docLevel x ks := ⟨_, rfl⟩
  rw [← hlvl] at rx4 HLV HR0
  have HLL := Lib.hid hlvl
  clear hlvl hB9
  refine (?_ : ∀ (z0 z3 z4 z5 z8 z11 z12 z13 z14 z15 z16 z17 z18 z19 z20 z21 z22 z23 z26 z27 z28 z29 z30 z31 z32 z33 z34 z35 z36 z37 z38 z39 z40 z41 z42 : Value), Code.wp _ _ _ { tmps := List.toArray (z0 :: .slice aa ks.length al :: .slice ba ks.length bl :: z3 :: z4 :: z5 :: .slice none 0 0 :: .int .i64 0 :: z8 :: .pointer (some ⟨B9, 0, none⟩) :: .slice none 0 0 :: z11 :: z12 :: z13 :: z14 :: z15 :: z16 :: z17 :: z18 :: z19 :: z20 :: z21 :: z22 :: z23 :: .int .i64 (ks.length : Int) :: .int .i64 0 :: z26 :: z27 :: z28 :: z29 :: z30 :: z31 :: z32 :: z33 :: z34 :: z35 :: z36 :: z37 :: z38 :: z39 :: z40 :: z41 :: z42 :: []), defers := [] } _) _ _ _ _ _ _ _ _ _ _ _ _ _ _ _ _ _ _ _ _ _ _ _ _ _ _ _ _ _ _ _ _ _ _ _
  intro z0 z3 z4 z5 z8 z11 z12 z13 z14 z15 z16 z17 z18 z19 z20 z21 z22 z23 z26 z27 z28 z29 z30 z31 z32 z33 z34 z35 z36 z37 z38 z39 z40 z41 z42
  go_loopw [10, 25] (fun vv i wr => ∃ (k : Nat) (v : Value) (xs : List Value), k ≤ ks.length ∧ vv = v ∧ i = .int .i64 (k : Int) ∧ Hid (Pair wr B9 32 (.slice x4.a x4.n x4.c) (.slice y5.a y5.n y5.c)) ∧ Hid (RK wr x4 y5 lvl) ∧ Hid (RI wr ⟨aa, ks.length, al⟩ (ks.map fun k => (k.1 : Int))) ∧ Hid (RI wr ⟨ba, ks.length, bl⟩ (ks.map fun k => (k.2 : Int))) ∧ Hid (OwnS wr (B9 + 1) 32 v k xs) ∧ Hid (Gets RK wr xs ((ks.take k).map (given lvl))) ∧ Hid (Below w.heap.size w wr)) (fun _ mi _ => ks.length - (intOf mi).toNat)
  case atStart => exact ⟨0, _, [], Nat.zero_le _, rfl, rfl, Lib.hid P8, Lib.hid rx4, Lib.hid ha, Lib.hid hc, Lib.hid (OwnS.nil _ _ _), Lib.hid (by rw [HR0.out]; exact Gets.nil _ _), Lib.hid hB⟩
  case round =>
    clear P1 P8 rx4 hx ha hc hB hp9 hsz
    obtain ⟨k, v, xs, hk, rfl, rfl, HP9, Hhv, Hha, Hhc, Hhown, Hhg, HBB⟩ := hrel
    have P9 := HP9.out
    have hv := Hhv.out
    have ha := Hha.out
    have hc := Hhc.out
    have hown := Hhown.out
    have hg := Hhg.out
    have hB := HBB.out
    clear HP9 Hhv Hha Hhc Hhown Hhg HBB
    by_cases hlt : k < ks.length
    · skip
      obtain ⟨b1, o1, ec, ic⟩ := hc.at hlt
      obtain ⟨b2, o2, ea, iw⟩ := ha.at hlt
      subst ea ec
      have hkk := HKK.out _ (kget_mem hlt)
      have HTS := Lib.hid (take_snoc (given lvl) hlt)
      generalize ks.getD k (0, 0) = kid at ic iw hkk HTS
      obtain ⟨wt, cp⟩ := kid
      dsimp only at ic iw
      have hwt := hkk.2.1
      have hcp := hkk.2.2
      dsimp only at hwt hcp
      clear hkk
      have hs9 := P9.lt
      have hsz := hB.size
      have c0P9 := P9.c0
      have c1P9 := P9.c1
      go_wp2_with fail
      clear c0P9 c1P9
      have hb : Below wr.heap.size wr wr.drew := (Below.refl _ _).drew
      replace P9 := P9.below hb
      replace hv := hv.below hb
      replace ha := ha.below hb
      replace hc := hc.below hb
      replace hown := hown.below hb
      replace hg := hg.below hb
      replace iw := iw.below hb
      replace ic := ic.below hb
      replace hB := hB.trans (hb.mono hB.size)
      clear hb
      refine Rd.regionT (fun X => Pair X (B9) 32 (.slice x4.a x4.n x4.c) (.slice y5.a y5.n y5.c) ∧ IC X b2 (o2 + k) (wt : Int) ∧ IC X b1 (o1 + k) (cp : Int)) [0, 1, 2, 3, 4, 5, 6, 7, 8, 9, 13] (.one 0 (.one 1 (.one 2 (.one 3 (.one 4 (.one 5 (.one 6 (.one 7 (.one 8 (.one 9 (.one 10 (.one 11 (.one 12 (.one 13 .done)))))))))))))) (fun ac W => ∃ (vn : Value) (ys : List Value) (y28 y29 y30 y31 y32 y33 y34 y35 y36 y37 y38 y39 y40 : Value), ac = { tmps := List.toArray (z0 :: .slice (some ⟨b2, o2, none⟩) ks.length al :: .slice (some ⟨b1, o1, none⟩) ks.length bl :: z3 :: z4 :: z5 :: .slice none 0 0 :: .int .i64 0 :: z8 :: .pointer (some ⟨B9, 0, none⟩) :: vn :: .int .i64 (k : Int) :: z12 :: z13 :: z14 :: z15 :: z16 :: z17 :: z18 :: z19 :: z20 :: z21 :: z22 :: z23 :: .int .i64 (ks.length : Int) :: .int .i64 (k : Int) :: .bool true :: .int .i64 (k : Int) :: y28 :: y29 :: y30 :: y31 :: y32 :: y33 :: y34 :: y35 :: y36 :: y37 :: y38 :: y39 :: y40 :: u41 :: z42 :: []), defers := [] } ∧ Pair W (B9) 32 (.slice x4.a x4.n x4.c) (.slice y5.a y5.n y5.c) ∧ RK W x4 y5 (lvl) ∧ RI W ⟨some ⟨b2, o2, none⟩, ks.length, al⟩ (ks.map fun k => (k.1 : Int)) ∧ RI W ⟨some ⟨b1, o1, none⟩, ks.length, bl⟩ (ks.map fun k => (k.2 : Int)) ∧ IC W b2 (o2 + k) (wt : Int) ∧ IC W b1 (o1 + k) (cp : Int) ∧ OwnS W (B9 + 1) 32 vn (k + 1) ys ∧ Gets RK W ys ((ks.take k).map (given lvl) ++ [given lvl (wt, cp)]) ∧ Below w.heap.size w W) (by kernel_rfl) (by kernel_rfl) (by kernel_rfl) ⟨P9, iw, ic⟩ ?tree ?next
      case tree =>
        generalize wr.drew = w9 at P9 hv ha hc hown hg iw ic hB ⊢
        refine Rd.tr_float (u10) (by simp only [List.getElem?_toArray, List.getElem?_cons_zero]; rfl) rfl (by rfl) (fun X _ => by go_simp) ?_
        simp only [Act.put, List.setIfInBounds_toArray, List.set_cons_succ, List.set_cons_zero]
        refine Rd.tr_float (.agg #[.slice x4.a x4.n x4.c, .slice y5.a y5.n y5.c]) (by simp only [List.getElem?_toArray, List.getElem?_cons_succ, List.getElem?_cons_zero]; rfl) rfl (by rfl) (fun X hX => by have h0 := hX.1.c0; have h1 := hX.1.c1; go_simp) ?_
        simp only [Act.put, List.setIfInBounds_toArray, List.set_cons_succ, List.set_cons_zero]
        refine Rd.tr_float (.slice (some ⟨b2, o2, none⟩) ks.length al) (by simp only [List.getElem?_toArray, List.getElem?_cons_succ, List.getElem?_cons_zero]; rfl) rfl (by rfl) (fun X _ => by go_simp) ?_
        simp only [Act.put, List.setIfInBounds_toArray, List.set_cons_succ, List.set_cons_zero]
        refine Rd.tr_float (.int .i64 (k : Int)) (by simp only [List.getElem?_toArray, List.getElem?_cons_succ, List.getElem?_cons_zero]; rfl) rfl (by rfl) (fun X _ => by go_simp) ?_
        simp only [Act.put, List.setIfInBounds_toArray, List.set_cons_succ, List.set_cons_zero]
        refine Rd.tr_float (.pointer (some ⟨b2, o2 + k, none⟩)) (by simp only [List.getElem?_toArray, List.getElem?_cons_succ, List.getElem?_cons_zero]; rfl) rfl (by rfl) (fun X _ => by go_simp) ?_
        simp only [Act.put, List.setIfInBounds_toArray, List.set_cons_succ, List.set_cons_zero]
        refine Rd.tr_float (.int .i64 (wt : Int)) (by simp only [List.getElem?_toArray, List.getElem?_cons_succ, List.getElem?_cons_zero]; rfl) rfl (by rfl) (fun X hX => by have h0 := (hX.2.1).2; go_simp) ?_
        simp only [Act.put, List.setIfInBounds_toArray, List.set_cons_succ, List.set_cons_zero]
        refine Rd.tr_float (.slice (some ⟨b1, o1, none⟩) ks.length bl) (by simp only [List.getElem?_toArray, List.getElem?_cons_succ, List.getElem?_cons_zero]; rfl) rfl (by rfl) (fun X _ => by go_simp) ?_
        simp only [Act.put, List.setIfInBounds_toArray, List.set_cons_succ, List.set_cons_zero]
        refine Rd.tr_float (.int .i64 (k : Int)) (by simp only [List.getElem?_toArray, List.getElem?_cons_succ, List.getElem?_cons_zero]; rfl) rfl (by rfl) (fun X _ => by go_simp) ?_
        simp only [Act.put, List.setIfInBounds_toArray, List.set_cons_succ, List.set_cons_zero]
        refine Rd.tr_float (.pointer (some ⟨b1, o1 + k, none⟩)) (by simp only [List.getElem?_toArray, List.getElem?_cons_succ, List.getElem?_cons_zero]; rfl) rfl (by rfl) (fun X _ => by go_simp) ?_
        simp only [Act.put, List.setIfInBounds_toArray, List.set_cons_succ, List.set_cons_zero]
        refine Rd.tr_float (.int .i64 (cp : Int)) (by simp only [List.getElem?_toArray, List.getElem?_cons_succ, List.getElem?_cons_zero]; rfl) rfl (by rfl) (fun X hX => by have h0 := (hX.2.2).2; go_simp) ?_
        simp only [Act.put, List.setIfInBounds_toArray, List.set_cons_succ, List.set_cons_zero]
        refine Rd.tr_move (by simp only [List.getElem?_toArray, List.getElem?_cons_succ, List.getElem?_cons_zero]; rfl) rfl (by rfl) (fun K hK => ?_)
        have H12 := Lib.hid (given_any x4 y5 lvl wt cp w9 hv (by omega) (by omega) (Lib.hid (HLV.out wt hwt)))
        go_simp
        refine H12.out.mono ?_
        rintro e w13 ⟨x10, y11, rfl, rx10, hb⟩
        clear H12
        replace P9 := P9.below hb
        replace hv := hv.below hb
        replace ha := ha.below hb
        replace hc := hc.below hb
        replace hown := hown.below hb
        replace hg := hg.below hb
        replace iw := iw.below hb
        replace ic := ic.below hb
        replace hB := hB.trans (hb.mono hB.size)
        clear hb
        refine hK _ _ ⟨P9, iw, ic⟩ ?_
        clear hK K
        refine Rd.tr_move (by simp only [List.getElem?_toArray, List.getElem?_cons_succ, List.getElem?_cons_zero]; rfl) rfl (by rfl) (fun K hK => ?_)
        go_simp
        have P14 := Pair.new w13 32 (.slice x10.a x10.n x10.c) (.slice y11.a y11.n y11.c)
        have nP9P14 := P9.lt
        have hb : Below w13.heap.size w13 (w13.alloc (.cells #[.slice x10.a x10.n x10.c, .slice y11.a y11.n y11.c] 32)) := (Below.refl _ _).alloc (Nat.le_refl _) _
        replace P9 := P9.below hb
        replace hv := hv.below hb
        replace ha := ha.below hb
        replace hc := hc.below hb
        replace hown := hown.below hb
        replace hg := hg.below hb
        replace iw := iw.below hb
        replace ic := ic.below hb
        replace rx10 := rx10.below hb
        replace hB := hB.trans (hb.mono hB.size)
        clear hb
        generalize w13.alloc (.cells #[.slice x10.a x10.n x10.c, .slice y11.a y11.n y11.c] 32) = w16 at P9 hv ha hc hown hg iw ic rx10 P14 hB ⊢
        generalize w13.heap.size = B15 at P14 nP9P14 ⊢
        refine hK _ _ ⟨P9, iw, ic⟩ ?_
        clear hK K
        refine Rd.tr_move (by simp only [List.getElem?_toArray, List.getElem?_cons_succ, List.getElem?_cons_zero]; rfl) rfl (by rfl) (fun K hK => ?_)
        have HNW : Hid (∀ (j : Nat) (u : Value), [Value.slice x10.a x10.n x10.c, Value.slice y11.a y11.n y11.c][j]? = some u → w16.cell? ((⟨B15, 0, none⟩ : Addr).add j) = some u) := Lib.hid (by
          intro j u hj
          match j, hj with
          | 0, hj => rw [Addr.add_lit]; exact P14.c0.trans hj
          | 1, hj => rw [Addr.add_lit]; exact P14.c1.trans hj
          | j + 2, hj => simp at hj)
        obtain ⟨vn, w17, HRN, hon, hgr⟩ := run_append_S (P := Tryz.prog) 41 41 i0 Tryz.underlying41 hi0 hz0 hz1 hz2 hown ⟨B15, 0, none⟩ 1 _ _ ⟨_, _, _, rfl⟩ ⟨_, _, _, rfl⟩ HNW.out (by omega) (by have := P9.lt; omega)
        refine wp_append_at _ _ 41 41 rfl (u10) (.slice (some ⟨B15, 0, none⟩) 1 1) vn w17 (by rfl) (by rfl) HRN ?_
        clear HRN HNW
        simp only [Act.put, List.setIfInBounds_toArray, List.set_cons_succ, List.set_cons_zero]
        replace P9 := P9.grownS hown (Nat.lt_succ_self _) hgr
        replace hv := hv.grownS hown hgr
        replace ha := ha.grownS hown hgr
        replace hc := hc.grownS hown hgr
        replace hg := hg.grownS hown hgr
        replace iw := iw.grownS hown hgr
        replace ic := ic.grownS hown hgr
        replace rx10 := rx10.grownS hown hgr
        replace hB := hB.grown hgr hB.size (fun j ej => by have := (hown.lt j ej).1; omega)
        replace hg := hg.snoc rx10
        clear hown hgr
        have hown := hon
        clear hon
        refine hK _ _ ⟨P9, iw, ic⟩ ?_
        clear hK K
        refine Rd.tr_float (vn) (by simp only [List.getElem?_toArray, List.getElem?_cons_succ, List.getElem?_cons_zero]; rfl) rfl (by rfl) (fun X _ => by go_simp) ?_
        simp only [Act.put, List.setIfInBounds_toArray, List.set_cons_succ, List.set_cons_zero]
        exact Rd.tr_end (⟨_, _, _, _, _, _, _, _, _, _, _, _, _, _, _, rfl, P9, hv, ha, hc, iw, ic, hown, hg, hB⟩)
      case next =>
        rintro a19 W18 ⟨vn, ys, y28, y29, y30, y31, y32, y33, y34, y35, y36, y37, y38, y39, y40, rfl, P9, hv, ha, hc, iw, ic, hown, hg, hB⟩
        rw [← HTS.out] at hg
        go_wp2_with fail
        go_round
        case rel => exact ⟨k + 1, vn, ys, by omega, rfl, by go_num, Lib.hid P9, Lib.hid hv, Lib.hid ha, Lib.hid hc, Lib.hid hown, Lib.hid hg, Lib.hid hB⟩
        case measure => simp [intOf]; omega
    · skip
      have ek : k = ks.length := by omega
      subst ek
      rw [List.take_length] at hg
      have ho2 : OwnS wr (B9 + 1) 32 u10 (ks.map (given lvl)).length xs := by rw [List.length_map]; exact hown
      have HH := Lib.hid (And.intro (RowX.of_own ho2 hg) hB)
      clear hg hown ho2 hB P9 hv ha hc
      go_wp2_with fail
      go_ret2
      exact ⟨u10, rfl, by rw [← HLL.out]; exact HH.out.1, HH.out.2⟩

end Go.Proofs.YtphllajedkpcbaaGreatDoor
