/-
  Rows of groups put behind one another; the document's set and more. No condition.
-/
import Derived.Test.YthndfhkkaichiaaXp
namespace Go.Proofs.Ythndfhkkaichiaa
open Go.RowKit Go.Maps

theorem Try.info70f : (Try.prog.info? 70).map (fun i => (i.zero, i.size, i.bytes)) = some (some (.agg #[.int .i64 0, .int .i64 0, .int .i64 0, .int .i64 0, .int .i64 0]), 5, 40) := by kernel_rfl
/-- a row of groups from B on. -/
def RowH (w : World) (B : Nat) (v : Value) (L : List Gr) : Prop := w.ownsRow B 70 5 v L.length (encG L)
/-- groups, wherever. -/
def SrcG (w : World) (u : Value) (L : List Gr) : Prop := ∃ ad c, u = .slice ad L.length c ∧ (L ≠ [] → ∃ b off, ad = some ⟨b, off, none⟩ ∧ Cl w b off L)
section
variable {w w' : World} {B : Nat} {v u : Value} {L M : List Gr}
theorem RowH.row (h : RowH w B v L) : RowG w v L := by
  refine ⟨h.1, ?_⟩
  rcases h.2 with h0 | ⟨g, cap, cur, e, hbg, h3⟩
  · exact .inl h0
  · exact .inr ⟨g, cap, cur, e, Nat.zero_le _, h3⟩
theorem RowH.below (h : RowH w B v L) (hb : Below w.heap.size w w') : RowH w' B v L := by
  refine ⟨h.1, ?_⟩
  rcases h.2 with h0 | ⟨g, cap, cur, e, hbg, hg, h3⟩
  · exact .inl h0
  · exact .inr ⟨g, cap, cur, e, hbg, (hb.block g (Array.getElem?_eq_some_iff.1 hg).1).trans hg, h3⟩
theorem RowH.sl (h : RowH w B v L) : ∃ a c, v = .slice a L.length c := h.row.sl
theorem RowH.grown (h : RowH w B v L) (hB : B ≤ w.heap.size) (hg : w.grownBy w' v.ownBlock) : Below B w w' := (Below.refl B w).grown hg hB (fun j e => by
  rcases h.2 with ⟨rfl, _⟩ | ⟨g, cap, cur, rfl, hbg, _⟩
  · simp [Value.ownBlock] at e
  · have : g = j := by simpa [Value.ownBlock] using e
    omega)
theorem RowH.stay {g n c : Nat} {ob : Option Nat} (h : RowH w B (.slice (some ⟨g, 0, none⟩) n c) L) (hg : w.grownBy w' ob) (hne : ¬ some g = ob) : RowH w' B (.slice (some ⟨g, 0, none⟩) n c) L := by
  refine ⟨h.1, ?_⟩
  rcases h.2 with h0 | ⟨g', cap, cur, e, hbg, hb, h3⟩
  · exact .inl h0
  · cases e
    exact .inr ⟨g, c, cur, rfl, hbg, (hg.block g (Array.getElem?_eq_some_iff.1 hb).1 hne).trans hb, h3⟩
theorem SrcG.below (h : SrcG w u L) (hb : Below w.heap.size w w') : SrcG w' u L := by
  obtain ⟨ad, c, e, h2⟩ := h
  refine ⟨ad, c, e, fun hl => ?_⟩
  obtain ⟨b, off, e2, h3⟩ := h2 hl
  exact ⟨b, off, e2, h3.below hb⟩
theorem RowG.src (h : RowG w v L) : SrcG w v L := by
  obtain ⟨a, c, rfl⟩ := h.sl
  refine ⟨a, c, rfl, fun hl => ?_⟩
  obtain ⟨b, rfl, hc⟩ := h.at (j := 0) (List.length_pos_iff.2 hl)
  exact ⟨b, 0, rfl, hc⟩
theorem RowH.empty (w : World) (B : Nat) (hB : B ≤ w.heap.size) : RowH (w.alloc (.cells #[] 70)) B (.slice (some ⟨w.heap.size, 0, none⟩) 0 0) [] := World.ownsRow_made w #[] 0 hB (by omega) rfl
theorem RowH.lit (w : World) (B : Nat) (g : Gr) (hB : B ≤ w.heap.size) : RowH (w.alloc (.cells (cellsE g) 70)) B (.slice (some ⟨w.heap.size, 0, none⟩) 1 1) [g] := World.ownsRow_lit w (cellsE g) 1 hB (by unfold maxLen; omega) rfl
theorem appendG (ty : TypeId) (hB : B ≤ w.heap.size) (h : RowH w B v L) (hs : SrcG w u M) (hl : L.length + M.length ≤ 1000) :
    ∃ v' w', (Builtin.append_ #[28, 28] ty #[v, u]).run Try.prog w = .ok v' w' ∧ RowH w' B v' (L ++ M) ∧ w.grownBy w' v.ownBlock := by
  obtain ⟨i0, hi, hz0, hz1, hz2⟩ := info_parts Try.info70f
  obtain ⟨ad, c, rfl, h2⟩ := hs
  cases had : ad with
  | none =>
    have : M = [] := by
      by_cases hne : M = []
      · exact hne
      · obtain ⟨b, off, e, _⟩ := h2 hne
        rw [had] at e; cases e
    subst this
    by_cases hc : c = 0
    · subst hc
      exact ⟨v, w, run_append_owned_none w B 28 ty 70 i0 5 Try.underlying28 hi v L.length _ h, by rw [List.append_nil]; exact h, World.grownBy.refl _ _⟩
    · refine ⟨v, w, ?_, by rw [List.append_nil]; exact h, World.grownBy.refl _ _⟩
      rcases h.2 with ⟨rfl, h1⟩ | ⟨g, cap, cur, rfl, _, _, hnc, _⟩
      · simp [Builtin.append_, run_underlying Try.underlying28, sizeOf, typeInfo, hi, Builtin.lenOf, Builtin.firstCells]
      · simp [Builtin.append_, run_underlying Try.underlying28, sizeOf, typeInfo, hi, Builtin.lenOf, Builtin.firstCells, hnc, storeCells]
  | some p =>
    have hnews : ∀ j x, (encG M)[j]? = some x → w.cell? (p.add j) = some x := by
      intro j x hx
      obtain ⟨b, off, e, hc⟩ := h2 (by rintro rfl; simp [encG] at hx)
      rw [had] at e
      cases e
      rw [Addr.add_lit]
      exact hc.2 j x hx
    obtain ⟨v', w', hr, ho, hg, _⟩ := run_append_own (P := Try.prog) w B 28 ty 70 i0 (.agg #[.int .i64 0, .int .i64 0, .int .i64 0, .int .i64 0, .int .i64 0]) 5 40 Try.underlying28 hi hz0 hz1 hz2 rfl (by decide) v L.length _ h p M.length c (encG M) (encG_len M) hnews (encG_one M) (by unfold maxLen; omega) (by omega) hB
    refine ⟨v', w', hr, ?_, hg⟩
    unfold RowH
    rw [List.length_append, encG_app]
    exact ho
end
section
variable {ops : Array Oper} {rest : List Oper} {o : Oper} {a : Act} {w : World} {Q : Exit → Act → World → Prop} {K : Act → World → Prop}
theorem wp_appendG (s x : Operand) (ho : o.op = .call { callee := .builtin .append, args := #[s, x], argTypes := #[28, 28] }) (B : Nat) (v u : Value) (L M : List Gr) (hs : a.eval s = v) (hx : a.eval x = u)
    (hB : B ≤ w.heap.size) (h1 : RowH w B v L) (h2 : SrcG w u M) (hl : L.length + M.length ≤ 1000) (h : ∀ v' w', RowH w' B v' (L ++ M) → w.grownBy w' v.ownBlock → K (a.put o.dst v') w') : o.wp Try.prog a w K Q := by
  obtain ⟨v', w', hr, ho', hg⟩ := appendG o.type hB h1 h2 hl
  unfold Oper.wp execOp
  simp only [ho, resolve, invoke, builtin, Sem.run_bind, Sem.run_pure, Result.andThen_ok, List.map_toArray, List.map_cons, List.map_nil, hs, hx, hr]
  exact h v' w' ho' hg
theorem wpList_appendG (hg : o.guard = none) (s x : Operand) (ho : o.op = .call { callee := .builtin .append, args := #[s, x], argTypes := #[28, 28] }) (B : Nat) (v u : Value) (L M : List Gr) (hs : a.eval s = v) (hx : a.eval x = u)
    (hB : B ≤ w.heap.size) (h1 : RowH w B v L) (h2 : SrcG w u M) (hl : L.length + M.length ≤ 1000) (h : ∀ v' w', RowH w' B v' (L ++ M) → w.grownBy w' v.ownBlock → wpList Try.prog ops Q rest (a.put o.dst v') w') : wpList Try.prog ops Q (o :: rest) a w :=
  wpList_plain hg fun _ hK => wp_appendG s x ho B v u L M hs hx hB h1 h2 hl fun v' w' h3 h4 => hK _ _ (h v' w' h3 h4)
end
set_option maxRecDepth 100000 in
set_option maxHeartbeats 4000000 in
theorem more_any (r m p wt : Int) (a : Option Addr) (c : Nat) (L : List Gr) (w : World) (h : RowG w (.slice a L.length c) L) (hl : L.length ≤ 64) (hm : 0 ≤ m ∧ m ≤ 1000) :
    Calls Try.prog 49 #[.agg (cellsF r m (.slice a L.length c)), .int .i64 p, .int .i64 wt] w fun e w' => (∃ v, e = .returned (.tuple #[v, .int .i64 (m + 1)]) ∧ DocF w' v r (m + 1) (addG L m p wt)) ∧ Below w.heap.size w w' := by
  have hx0 : Blk ((w.alloc (.cells #[.int .i64 r, .int .i64 m, .slice a L.length c] 30)).alloc (.cells #[.int .i64 0, .int .i64 0, .slice none 0 0] 30)) w.heap.size 30 (cellsF r m (.slice a L.length c)) := (Blk.new w 30 _).alloc _
  have hZ0 : Blk ((w.alloc (.cells #[.int .i64 r, .int .i64 m, .slice a L.length c] 30)).alloc (.cells #[.int .i64 0, .int .i64 0, .slice none 0 0] 30)) (w.heap.size + 1) 30 (cellsF 0 0 (.slice none 0 0)) := by
    have := Blk.new (w.alloc (.cells #[.int .i64 r, .int .i64 m, .slice a L.length c] 30)) 30 (cellsF 0 0 (.slice none 0 0))
    have e : (w.alloc (.cells #[.int .i64 r, .int .i64 m, .slice a L.length c] 30)).heap.size = w.heap.size + 1 := by simp
    rw [e] at this
    exact this
  have hb : Below w.heap.size w ((w.alloc (.cells #[.int .i64 r, .int .i64 m, .slice a L.length c] 30)).alloc (.cells #[.int .i64 0, .int .i64 0, .slice none 0 0] 30)) := ((Below.refl _ w).alloc (Nat.le_refl _) _).alloc (by simp) _
  have hsz : ((w.alloc (.cells #[.int .i64 r, .int .i64 m, .slice a L.length c] 30)).alloc (.cells #[.int .i64 0, .int .i64 0, .slice none 0 0] 30)).heap.size = w.heap.size + 2 := by simp
  have HS := Lib.hid (h.src.below hb)
  have e1 := cF1 hx0
  unfold addG
  clear h
  obtain ⟨hm0, hm1⟩ := hm
  unfold cellsF
  go_enter Try.func49, Try.ntmps49
  go_wp2_with (first | (refine wpList_alloc30 rfl rfl ?_))
  generalize ((w.alloc (.cells #[.int .i64 r, .int .i64 m, .slice a L.length c] 30)).alloc (.cells #[.int .i64 0, .int .i64 0, .slice none 0 0] 30)) = w3 at *
  have s3 := Same.drew w3
  have hx := hx0.drew
  have hZ := hZ0.drew
  replace hb := hb.trans (s3.below _)
  have hs4 : w.heap.size + 2 ≤ w3.drew.heap.size := by rw [s3.heap, hsz]; exact Nat.le_refl _
  have HS4 := Lib.hid (HS.out.below (s3.below _))
  refine Rd.regionT (fun X => Blk X w.heap.size 30 (cellsF r m (.slice a L.length c))) [0, 1, 2, 4, 5, 7, 8, 9, 10, 14, 13, 16] ((.one 0 (.one 1 (.one 2 (.one 4 (.one 5 (.one 7 (.one 8 (.one 9 (.one 10 (.one 14 (.two 3 (.two 6 (.one 11 (.one 12 (.one 13 (.one 15 (.one 16 .done))))) 11 (.one 6 (.one 12 (.one 13 (.one 15 (.one 16 .done)))))) 11 (.one 3 (.one 6 (.one 12 (.one 13 (.one 15 (.one 16 .done)))))))))))))))))) _ (by kernel_rfl) (by kernel_rfl) (by kernel_rfl) hx ?_ (fun _ _ h => h)
  clear hx0 hZ0 HS s3 hsz e1
  generalize w3.drew = w4 at *
  have HS := HS4
  clear HS4
  have hB := Below.refl w4.heap.size w4
  refine Rd.tr_float (.pointer (some ⟨w.heap.size, 0, none⟩)) (by simp only [List.getElem?_toArray, List.getElem?_cons_zero]; rfl) rfl (by rfl) (fun X _ => by go_simp) ?_
  simp only [Act.put, List.setIfInBounds_toArray, List.set_cons_succ, List.set_cons_zero]
  refine Rd.tr_float (.int .i64 r) (by simp only [List.getElem?_toArray, List.getElem?_cons_succ, List.getElem?_cons_zero]; rfl) rfl (by rfl) (fun X hX => by have e0 := cF0 hX; have e1 := cF1 hX; have e2 := cF2 hX; go_simp) ?_
  simp only [Act.put, List.setIfInBounds_toArray, List.set_cons_succ, List.set_cons_zero]
  refine Rd.tr_float (.int .i64 (m + 1)) (by simp only [List.getElem?_toArray, List.getElem?_cons_succ, List.getElem?_cons_zero]; rfl) rfl (by rfl) (fun X _ => by go_simp) ?_
  simp only [Act.put, List.setIfInBounds_toArray, List.set_cons_succ, List.set_cons_zero]
  refine Rd.tr_float (.pointer (some ⟨w.heap.size, 2, none⟩)) (by simp only [List.getElem?_toArray, List.getElem?_cons_succ, List.getElem?_cons_zero]; rfl) rfl (by rfl) (fun X _ => by go_simp) ?_
  simp only [Act.put, List.setIfInBounds_toArray, List.set_cons_succ, List.set_cons_zero]
  refine Rd.tr_float (.slice a L.length c) (by simp only [List.getElem?_toArray, List.getElem?_cons_succ, List.getElem?_cons_zero]; rfl) rfl (by rfl) (fun X hX => by have e0 := cF0 hX; have e1 := cF1 hX; have e2 := cF2 hX; go_simp) ?_
  simp only [Act.put, List.setIfInBounds_toArray, List.set_cons_succ, List.set_cons_zero]
  refine Rd.tr_float (.int .i64 (m + 1)) (by simp only [List.getElem?_toArray, List.getElem?_cons_succ, List.getElem?_cons_zero]; rfl) rfl (by rfl) (fun X _ => by go_simp) ?_
  simp only [Act.put, List.setIfInBounds_toArray, List.set_cons_succ, List.set_cons_zero]
  refine Rd.tr_float (.int .i64 p) (by simp only [List.getElem?_toArray, List.getElem?_cons_succ, List.getElem?_cons_zero]; rfl) rfl (by rfl) (fun X _ => by go_simp) ?_
  simp only [Act.put, List.setIfInBounds_toArray, List.set_cons_succ, List.set_cons_zero]
  refine Rd.tr_float (.int .i64 wt) (by simp only [List.getElem?_toArray, List.getElem?_cons_succ, List.getElem?_cons_zero]; rfl) rfl (by rfl) (fun X _ => by go_simp) ?_
  simp only [Act.put, List.setIfInBounds_toArray, List.set_cons_succ, List.set_cons_zero]
  refine Rd.tr_float (.agg #[.int .i64 (m + 1), .int .i64 p, .int .i64 wt, .int .i64 0, .int .i64 0]) (by simp only [List.getElem?_toArray, List.getElem?_cons_succ, List.getElem?_cons_zero]; rfl) rfl (by rfl) (fun X _ => by kernel_rfl) ?_
  simp only [Act.put, List.setIfInBounds_toArray, List.set_cons_succ, List.set_cons_zero]
  refine Rd.tr_float (.int .i64 (m + 1)) (by simp only [List.getElem?_toArray, List.getElem?_cons_succ, List.getElem?_cons_zero]; rfl) rfl (by rfl) (fun X _ => by go_simp) ?_
  simp only [Act.put, List.setIfInBounds_toArray, List.set_cons_succ, List.set_cons_zero]
  refine Rd.tr_two (by simp only [List.getElem?_toArray, List.getElem?_cons_succ, List.getElem?_cons_zero]; rfl) (by rfl) (by simp only [List.getElem?_toArray, List.getElem?_cons_succ, List.getElem?_cons_zero]; rfl) (by rfl) (fun K hK => ?_) (fun K hK => ?_)
  · go_simp
    have hE := RowH.empty w4 w4.heap.size hB.size
    have hbn : Below w4.heap.size w4 (w4.alloc (.cells #[] 70)) := (Below.refl _ _).alloc (Nat.le_refl _) _
    have hltz1 : w4.heap.size < (w4.alloc (.cells #[] 70)).heap.size := by simp
    replace hB := hB.trans (hbn.mono hB.size)
    clear hbn
    generalize w4.alloc (.cells #[] 70) = z1 at *
    refine hK _ _ (hx.below hB) ?_
    clear hK K
    refine Rd.tr_two (by simp only [List.getElem?_toArray, List.getElem?_cons_succ, List.getElem?_cons_zero]; rfl) (by rfl) (by simp only [List.getElem?_toArray, List.getElem?_cons_succ, List.getElem?_cons_zero]; rfl) (by rfl) (fun K hK => ?_) (fun K hK => ?_)
    · refine wp_appendG _ _ rfl w4.heap.size _ _ [] L rfl rfl hB.size hE (HS.out.below hB) (by simp; omega) ?_
      intro v6 z2 h6 gr
      rw [List.nil_append] at h6
      have hbn := hE.grown hB.size gr
      clear gr
      replace hB := hB.trans hbn
      clear hbn
      refine hK _ _ (hx.below hB) ?_
      clear hK K
      refine Rd.tr_move (by simp only [List.getElem?_toArray, List.getElem?_cons_succ, List.getElem?_cons_zero]; rfl) rfl (by rfl) (fun K hK => ?_)
      go_simp
      have hO := (show RowH (z2.alloc (.cells #[.int .i64 (m + 1), .int .i64 p, .int .i64 wt, .int .i64 0, .int .i64 0] 70)) w4.heap.size (.slice (some ⟨z2.heap.size, 0, none⟩) 1 1) [⟨m + 1, p, wt, 0, 0⟩] from RowH.lit z2 w4.heap.size ⟨m + 1, p, wt, 0, 0⟩ hB.size)
      have hbn : Below z2.heap.size z2 (z2.alloc (.cells #[.int .i64 (m + 1), .int .i64 p, .int .i64 wt, .int .i64 0, .int .i64 0] 70)) := (Below.refl _ _).alloc (Nat.le_refl _) _
      have hltz3 : z2.heap.size < (z2.alloc (.cells #[.int .i64 (m + 1), .int .i64 p, .int .i64 wt, .int .i64 0, .int .i64 0] 70)).heap.size := by simp
      replace h6 := h6.below hbn
      replace hB := hB.trans (hbn.mono hB.size)
      clear hbn
      generalize z2.alloc (.cells #[.int .i64 (m + 1), .int .i64 p, .int .i64 wt, .int .i64 0, .int .i64 0] 70) = z3 at *
      refine hK _ _ (hx.below hB) ?_
      clear hK K
      refine Rd.tr_move (by simp only [List.getElem?_toArray, List.getElem?_cons_succ, List.getElem?_cons_zero]; rfl) rfl (by rfl) (fun K hK => ?_)
      refine wp_appendG _ _ rfl w4.heap.size _ _ L [⟨m + 1, p, wt, 0, 0⟩] rfl rfl hB.size h6 hO.row.src (by simp; omega) ?_
      intro v9 z4 h9 gr
      have hbn := h6.grown hB.size gr
      clear gr
      replace hB := hB.trans hbn
      clear hbn
      refine hK _ _ (hx.below hB) ?_
      clear hK K
      obtain ⟨a9, c9, rfl⟩ := h9.sl
      refine Rd.tr_float (.agg #[.int .i64 r, .int .i64 (m + 1), .slice a9 (L ++ [(⟨m + 1, p, wt, 0, 0⟩ : Gr)]).length c9]) (by simp only [List.getElem?_toArray, List.getElem?_cons_succ, List.getElem?_cons_zero]; rfl) rfl (by rfl) (fun X _ => by kernel_rfl) ?_
      simp only [Act.put, List.setIfInBounds_toArray, List.set_cons_succ, List.set_cons_zero]
      refine Rd.tr_move (by simp only [List.getElem?_toArray, List.getElem?_cons_succ, List.getElem?_cons_zero]; rfl) rfl (by rfl) (fun K hK => ?_)
      refine wp_store30 _ _ rfl (w.heap.size + 1) r (m + 1) (.slice a9 (L ++ [(⟨m + 1, p, wt, 0, 0⟩ : Gr)]).length c9) rfl rfl (hZ.below hB) rfl rfl ?_
      intro z5 hZ9 t9
      refine hK _ _ ((hx.below hB).turn t9 (by omega)) ?_
      clear hK K
      refine Rd.tr_float (.int .i64 (m + 1)) (by simp only [List.getElem?_toArray, List.getElem?_cons_succ, List.getElem?_cons_zero]; rfl) rfl (by rfl) (fun X _ => by go_simp) ?_
      simp only [Act.put, List.setIfInBounds_toArray, List.set_cons_succ, List.set_cons_zero]
      refine Rd.tr_end ?_
      go_wp2_with fail
      refine bodyPost_ret (resultsF_ct rfl _ z5 (w.heap.size + 1) r (m + 1) _ _ rfl rfl hZ9) rfl ?_
      have h10 := h9.row.turn t9 (hZ.below hB) (by decide)
      exact ⟨⟨_, rfl, a9, c9, rfl, h10⟩, (hb.trans (hB.mono (by omega))).trans (t9.below (by omega))⟩
    · go_simp
      have hO := (show RowH (z1.alloc (.cells #[.int .i64 (m + 1), .int .i64 p, .int .i64 wt, .int .i64 0, .int .i64 0] 70)) w4.heap.size (.slice (some ⟨z1.heap.size, 0, none⟩) 1 1) [⟨m + 1, p, wt, 0, 0⟩] from RowH.lit z1 w4.heap.size ⟨m + 1, p, wt, 0, 0⟩ hB.size)
      have hbn : Below z1.heap.size z1 (z1.alloc (.cells #[.int .i64 (m + 1), .int .i64 p, .int .i64 wt, .int .i64 0, .int .i64 0] 70)) := (Below.refl _ _).alloc (Nat.le_refl _) _
      have hltz6 : z1.heap.size < (z1.alloc (.cells #[.int .i64 (m + 1), .int .i64 p, .int .i64 wt, .int .i64 0, .int .i64 0] 70)).heap.size := by simp
      replace hE := hE.below hbn
      replace hB := hB.trans (hbn.mono hB.size)
      clear hbn
      generalize z1.alloc (.cells #[.int .i64 (m + 1), .int .i64 p, .int .i64 wt, .int .i64 0, .int .i64 0] 70) = z6 at *
      refine hK _ _ (hx.below hB) ?_
      clear hK K
      refine Rd.tr_move (by simp only [List.getElem?_toArray, List.getElem?_cons_succ, List.getElem?_cons_zero]; rfl) rfl (by rfl) (fun K hK => ?_)
      refine wp_appendG _ _ rfl w4.heap.size _ _ [] L rfl rfl hB.size hE (HS.out.below hB) (by simp; omega) ?_
      intro v6 z7 h6 gr
      rw [List.nil_append] at h6
      have hbn := hE.grown hB.size gr
      replace hO := hO.stay gr (by intro e; have e2 := Option.some.inj e; (try dsimp only at e2); omega)
      clear gr
      replace hB := hB.trans hbn
      clear hbn
      refine hK _ _ (hx.below hB) ?_
      clear hK K
      refine Rd.tr_move (by simp only [List.getElem?_toArray, List.getElem?_cons_succ, List.getElem?_cons_zero]; rfl) rfl (by rfl) (fun K hK => ?_)
      refine wp_appendG _ _ rfl w4.heap.size _ _ L [⟨m + 1, p, wt, 0, 0⟩] rfl rfl hB.size h6 hO.row.src (by simp; omega) ?_
      intro v9 z8 h9 gr
      have hbn := h6.grown hB.size gr
      clear gr
      replace hB := hB.trans hbn
      clear hbn
      refine hK _ _ (hx.below hB) ?_
      clear hK K
      obtain ⟨a9, c9, rfl⟩ := h9.sl
      refine Rd.tr_float (.agg #[.int .i64 r, .int .i64 (m + 1), .slice a9 (L ++ [(⟨m + 1, p, wt, 0, 0⟩ : Gr)]).length c9]) (by simp only [List.getElem?_toArray, List.getElem?_cons_succ, List.getElem?_cons_zero]; rfl) rfl (by rfl) (fun X _ => by kernel_rfl) ?_
      simp only [Act.put, List.setIfInBounds_toArray, List.set_cons_succ, List.set_cons_zero]
      refine Rd.tr_move (by simp only [List.getElem?_toArray, List.getElem?_cons_succ, List.getElem?_cons_zero]; rfl) rfl (by rfl) (fun K hK => ?_)
      refine wp_store30 _ _ rfl (w.heap.size + 1) r (m + 1) (.slice a9 (L ++ [(⟨m + 1, p, wt, 0, 0⟩ : Gr)]).length c9) rfl rfl (hZ.below hB) rfl rfl ?_
      intro z9 hZ9 t9
      refine hK _ _ ((hx.below hB).turn t9 (by omega)) ?_
      clear hK K
      refine Rd.tr_float (.int .i64 (m + 1)) (by simp only [List.getElem?_toArray, List.getElem?_cons_succ, List.getElem?_cons_zero]; rfl) rfl (by rfl) (fun X _ => by go_simp) ?_
      simp only [Act.put, List.setIfInBounds_toArray, List.set_cons_succ, List.set_cons_zero]
      refine Rd.tr_end ?_
      go_wp2_with fail
      refine bodyPost_ret (resultsF_ct rfl _ z9 (w.heap.size + 1) r (m + 1) _ _ rfl rfl hZ9) rfl ?_
      have h10 := h9.row.turn t9 (hZ.below hB) (by decide)
      exact ⟨⟨_, rfl, a9, c9, rfl, h10⟩, (hb.trans (hB.mono (by omega))).trans (t9.below (by omega))⟩
  · go_simp
    have hO := (show RowH (w4.alloc (.cells #[.int .i64 (m + 1), .int .i64 p, .int .i64 wt, .int .i64 0, .int .i64 0] 70)) w4.heap.size (.slice (some ⟨w4.heap.size, 0, none⟩) 1 1) [⟨m + 1, p, wt, 0, 0⟩] from RowH.lit w4 w4.heap.size ⟨m + 1, p, wt, 0, 0⟩ hB.size)
    have hbn : Below w4.heap.size w4 (w4.alloc (.cells #[.int .i64 (m + 1), .int .i64 p, .int .i64 wt, .int .i64 0, .int .i64 0] 70)) := (Below.refl _ _).alloc (Nat.le_refl _) _
    have hltz10 : w4.heap.size < (w4.alloc (.cells #[.int .i64 (m + 1), .int .i64 p, .int .i64 wt, .int .i64 0, .int .i64 0] 70)).heap.size := by simp
    replace hB := hB.trans (hbn.mono hB.size)
    clear hbn
    generalize w4.alloc (.cells #[.int .i64 (m + 1), .int .i64 p, .int .i64 wt, .int .i64 0, .int .i64 0] 70) = z10 at *
    refine hK _ _ (hx.below hB) ?_
    clear hK K
    refine Rd.tr_move (by simp only [List.getElem?_toArray, List.getElem?_cons_succ, List.getElem?_cons_zero]; rfl) rfl (by rfl) (fun K hK => ?_)
    go_simp
    have hE := RowH.empty z10 w4.heap.size hB.size
    have hbn : Below z10.heap.size z10 (z10.alloc (.cells #[] 70)) := (Below.refl _ _).alloc (Nat.le_refl _) _
    have hltz11 : z10.heap.size < (z10.alloc (.cells #[] 70)).heap.size := by simp
    replace hO := hO.below hbn
    replace hB := hB.trans (hbn.mono hB.size)
    clear hbn
    generalize z10.alloc (.cells #[] 70) = z11 at *
    refine hK _ _ (hx.below hB) ?_
    clear hK K
    refine Rd.tr_move (by simp only [List.getElem?_toArray, List.getElem?_cons_succ, List.getElem?_cons_zero]; rfl) rfl (by rfl) (fun K hK => ?_)
    refine wp_appendG _ _ rfl w4.heap.size _ _ [] L rfl rfl hB.size hE (HS.out.below hB) (by simp; omega) ?_
    intro v6 z12 h6 gr
    rw [List.nil_append] at h6
    have hbn := hE.grown hB.size gr
    replace hO := hO.stay gr (by intro e; have e2 := Option.some.inj e; (try dsimp only at e2); omega)
    clear gr
    replace hB := hB.trans hbn
    clear hbn
    refine hK _ _ (hx.below hB) ?_
    clear hK K
    refine Rd.tr_move (by simp only [List.getElem?_toArray, List.getElem?_cons_succ, List.getElem?_cons_zero]; rfl) rfl (by rfl) (fun K hK => ?_)
    refine wp_appendG _ _ rfl w4.heap.size _ _ L [⟨m + 1, p, wt, 0, 0⟩] rfl rfl hB.size h6 hO.row.src (by simp; omega) ?_
    intro v9 z13 h9 gr
    have hbn := h6.grown hB.size gr
    clear gr
    replace hB := hB.trans hbn
    clear hbn
    refine hK _ _ (hx.below hB) ?_
    clear hK K
    obtain ⟨a9, c9, rfl⟩ := h9.sl
    refine Rd.tr_float (.agg #[.int .i64 r, .int .i64 (m + 1), .slice a9 (L ++ [(⟨m + 1, p, wt, 0, 0⟩ : Gr)]).length c9]) (by simp only [List.getElem?_toArray, List.getElem?_cons_succ, List.getElem?_cons_zero]; rfl) rfl (by rfl) (fun X _ => by kernel_rfl) ?_
    simp only [Act.put, List.setIfInBounds_toArray, List.set_cons_succ, List.set_cons_zero]
    refine Rd.tr_move (by simp only [List.getElem?_toArray, List.getElem?_cons_succ, List.getElem?_cons_zero]; rfl) rfl (by rfl) (fun K hK => ?_)
    refine wp_store30 _ _ rfl (w.heap.size + 1) r (m + 1) (.slice a9 (L ++ [(⟨m + 1, p, wt, 0, 0⟩ : Gr)]).length c9) rfl rfl (hZ.below hB) rfl rfl ?_
    intro z14 hZ9 t9
    refine hK _ _ ((hx.below hB).turn t9 (by omega)) ?_
    clear hK K
    refine Rd.tr_float (.int .i64 (m + 1)) (by simp only [List.getElem?_toArray, List.getElem?_cons_succ, List.getElem?_cons_zero]; rfl) rfl (by rfl) (fun X _ => by go_simp) ?_
    simp only [Act.put, List.setIfInBounds_toArray, List.set_cons_succ, List.set_cons_zero]
    refine Rd.tr_end ?_
    go_wp2_with fail
    refine bodyPost_ret (resultsF_ct rfl _ z14 (w.heap.size + 1) r (m + 1) _ _ rfl rfl hZ9) rfl ?_
    have h10 := h9.row.turn t9 (hZ.below hB) (by decide)
    exact ⟨⟨_, rfl, a9, c9, rfl, h10⟩, (hb.trans (hB.mono (by omega))).trans (t9.below (by omega))⟩
end Go.Proofs.Ythndfhkkaichiaa
