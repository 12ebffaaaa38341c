/-
  The document's Add. Condition: the table is one.
-/
import Derived.Test.YthopmkgbhfkeoaaUf
namespace Go.Proofs.Ythopmkgbhfkeoaa
open Go.RowKit

theorem wp_store30 {o : Oper} {a : Act} {w : World} {Q : Exit → Act → World → Prop} {K : Act → World → Prop} (x y : Operand) (ho : o.op = .store 30 x y) (b : Nat) (v v' : Value) (m m' : Int) (hx : a.eval x = .pointer (some ⟨b, 0, none⟩)) (hy : a.eval y = .agg #[v, .int .i64 m]) (hw : IsT w b v' m') (hv : v.oneCell' = true)
    (h : ∀ w', IsT w' b v m → Turn b w w' → K (a.put o.dst undef) w') : o.wp Try.prog a w K Q :=
  wp_store_row 30 x y ho b _ hx hy 30 _ hw Try.info30 rfl (by simp [hv]; rfl) (h _ (setRow_heap w b _ _ 30 _ hw) (Turn.setRow w b _))
set_option maxRecDepth 100000 in
set_option maxHeartbeats 4000000 in
theorem rAdd_any (B : Nat) (v : Value) (l : List Int) (m : Int) (w : World) (h : RT w B v l m) (hB : B ≤ w.heap.size) (ok : TabOk l m) :
    Calls Try.prog 12 #[v] w fun e w' => (∃ v', e = .returned (.tuple #[v', .int .i64 (addI l m), .int .i64 (addS l m), .int .i64 (addE l m)]) ∧ RT w' B v' (addL l m) (addM l m)) ∧ Below w.heap.size w w' := by
  have HT := Lib.hid h
  obtain ⟨a, c, rfl, -⟩ := h
  have hx := (IsT.new w (.slice a l.length c) m).alloc (.cells #[.slice none 0 0, .int .i64 0] 30)
  have hZ : IsT ((w.alloc (.cells #[.slice a l.length c, .int .i64 m] 30)).alloc (.cells #[.slice none 0 0, .int .i64 0] 30)) (w.heap.size + 1) (.slice none 0 0) 0 := by
    have := IsT.new (w.alloc (.cells #[.slice a l.length c, .int .i64 m] 30)) (.slice none 0 0) 0
    simpa using this
  have hb : Below w.heap.size w ((w.alloc (.cells #[.slice a l.length c, .int .i64 m] 30)).alloc (.cells #[.slice none 0 0, .int .i64 0] 30)) := ((Below.refl _ w).alloc (Nat.le_refl _) _).alloc (by simp) _
  have hsz : ((w.alloc (.cells #[.slice a l.length c, .int .i64 m] 30)).alloc (.cells #[.slice none 0 0, .int .i64 0] 30)).heap.size = w.heap.size + 2 := by simp
  have HT2 := Lib.hid (HT.out.below hb)
  have HA : Hid (∀ k, k < l.length → ∃ b, a = some ⟨b, 0, none⟩ ∧ ((w.alloc (.cells #[.slice a l.length c, .int .i64 m] 30)).alloc (.cells #[.slice none 0 0, .int .i64 0] 30)).cell? ⟨b, k, none⟩ = some (.int .i64 (l.getD k 0))) := Lib.hid (fun k hk => by
    obtain ⟨a', c', e, h⟩ := HT2.out
    simp only [Value.agg.injEq, Array.mk.injEq, List.cons.injEq, Value.slice.injEq] at e
    obtain ⟨⟨rfl, -, rfl⟩, -⟩ := e
    obtain ⟨b, e, _, _, hc, _⟩ := h.at hk
    exact ⟨b, e, hc⟩)
  clear HT
  have hm0 := ok.m0
  have hm1 := ok.mM
  have hl := ok.n64
  have h0 := hx.c0
  have h1 := hx.c1
  have HR1 : Hid (∀ k, k < l.length → l.getD k 0 = 0 → (∀ j, j < k → l.getD j 0 ≠ 0) → m < 2147483648 → addI l m = m + 1 ∧ addS l m = (k : Int) ∧ addE l m = 0 ∧ addL l m = l.set k (m + 1) ∧ addM l m = m + 1) := Lib.hid (fun k hk he hb hm => by
    have hf := find_hit hk he hb
    simp [addI, addS, addE, addL, addM, addB, hf, hk, hm])
  have HR2 : Hid ((m < 2147483648 → ∀ j, j < l.length → l.getD j 0 ≠ 0) → addI l m = 0 ∧ addS l m = 0 ∧ addE l m = 6 ∧ addL l m = l ∧ addM l m = m) := Lib.hid (fun hb => by
    have : addB l m = false := by
      by_cases hm : m < 2147483648
      · have hf := find_none (hb hm)
        simp [addB, hf]
      · simp [addB, hm]
    simp [addI, addS, addE, addL, addM, this])
  go_enter Try.func12, Try.ntmps12
  go_wp2_with (first | (refine wpList_alloc30 rfl rfl ?_))
  generalize (w.alloc (.cells #[.slice a l.length c, .int .i64 m] 30)).alloc (.cells #[.slice none 0 0, .int .i64 0] 30) = w2 at *
  clear ok
  go_loop [6, 10] (fun _ i => ∃ k : Nat, k ≤ l.length ∧ i = .int .i64 k ∧ Hid (m < 2147483648 → ∀ j, j < k → l.getD j 0 ≠ 0)) (fun _ i => l.length - (intOf i).toNat)
  case atStart => exact ⟨0, by omega, rfl, Lib.hid (fun _ j hj => absurd hj (Nat.not_lt_zero _))⟩
  case round =>
    obtain ⟨k, hk, rfl, HN⟩ := hrel
    by_cases hlt : k < l.length
    · obtain ⟨b, rfl, hx9⟩ := HA.out k hlt
      by_cases hm : m < 2147483648
      · by_cases hy : l.getD k 0 = 0
        · have HE := Lib.hid (HR1.out k hlt hy (HN.out hm) hm)
          rw [hy] at hx9
          clear HN HR1 HR2 hy
          go_wp2_with (first | (refine wpList_load30 rfl _ rfl w.heap.size _ m rfl hx ?_))
          refine (rset B _ l m (m + 1) k _ HT2.out (by omega) hl hlt).mono ?_
          rintro e w4 ⟨⟨v4, rfl, h4⟩, hb4⟩
          obtain ⟨a4, c4, rfl, h4⟩ := h4
          rw [List.length_set] at h4
          have hs4 := hb4.size
          replace hx := hx.belowS hb4
          replace hZ := hZ.belowS hb4
          replace hb := hb.trans (hb4.mono (by omega))
          clear hb4 hx9 h0 h1
          go_wp2_with (first | (refine wpList_store30 rfl _ _ rfl w.heap.size _ _ m m rfl rfl hx rfl ?_; intro w5 hx5 t5; replace hZ := hZ.turn t5 (by omega); replace h4 := h4.turn t5 hx (by decide); have h51 := hx5.c1; have h5f := hx5.f1; clear hx))
          have hx6 := hx5.setM (m + 1)
          have t6 := Turn.setCell w5 w.heap.size 1 (.int .i64 (m + 1))
          have hZ6 := hZ.turn t6 (by omega)
          have h6 := h4.turn t6 hx5 (by decide)
          have hb6 := (hb.trans (t5.below (Nat.le_refl _))).trans (t6.below (Nat.le_refl _))
          have hb6d : Below w.heap.size w (w5.setCell ⟨w.heap.size, 1, none⟩ (.int .i64 (m + 1))).drew := ⟨hb6.os, hb6.tape, hb6.output, hb6.size, hb6.block⟩
          replace hx6 : IsT (w5.setCell ⟨w.heap.size, 1, none⟩ (.int .i64 (m + 1))).drew _ _ _ := hx6
          replace hZ6 : IsT (w5.setCell ⟨w.heap.size, 1, none⟩ (.int .i64 (m + 1))).drew _ _ _ := hZ6
          replace h6 : RowO (w5.setCell ⟨w.heap.size, 1, none⟩ (.int .i64 (m + 1))).drew _ _ _ := h6
          refine Rd.region (fun X => IsT X w.heap.size (.slice a4 l.length c4) (m + 1)) 8 [1, 2, 3, 5, 6, 7] [1, 2, 3, 0, 4, 5, 6, 7] (by kernel_rfl) (by kernel_rfl) (by kernel_rfl) (by kernel_rfl) rfl hx6 ?_
          clear t5 t6 hb6 hZ h4 hx5 h51 h5f hb HT2 HA
          generalize (w5.setCell ⟨w.heap.size, 1, none⟩ (.int .i64 (m + 1))).drew = w6 at *
          refine Rd.seq_float (.pointer (some ⟨w.heap.size, 1, none⟩)) (by simp only [List.getElem?_toArray, List.getElem?_cons_succ, List.getElem?_cons_zero]; rfl) rfl (by rfl) (fun X _ => by go_simp) ?_
          simp only [Act.put, List.setIfInBounds_toArray, List.set_cons_succ, List.set_cons_zero]
          refine Rd.seq_float (.int .i64 (m + 1)) (by simp only [List.getElem?_toArray, List.getElem?_cons_succ, List.getElem?_cons_zero]; rfl) rfl (by rfl) (fun X hX => by have hX1 := IsT.c1 hX; go_simp) ?_
          simp only [Act.put, List.setIfInBounds_toArray, List.set_cons_succ, List.set_cons_zero]
          refine Rd.seq_float (.int .i64 (k : Int)) (by simp only [List.getElem?_toArray, List.getElem?_cons_succ, List.getElem?_cons_zero]; rfl) rfl (by rfl) (fun X _ => by go_simp) ?_
          simp only [Act.put, List.setIfInBounds_toArray, List.set_cons_succ, List.set_cons_zero]
          refine Rd.seq_move (by simp only [List.getElem?_toArray, List.getElem?_cons_zero]; rfl) rfl (by rfl) (fun K hK => ?_)
          refine wp_load30 _ rfl w.heap.size _ (m + 1) rfl hx6 ?_
          refine hK _ _ (fun _ => hx6) ?_
          clear hK K
          refine Rd.seq_move (by simp only [List.getElem?_toArray, List.getElem?_cons_succ, List.getElem?_cons_zero]; rfl) rfl (by rfl) (fun K hK => ?_)
          refine wp_store30 _ _ rfl (w.heap.size + 1) _ (.slice none 0 0) (m + 1) 0 rfl rfl hZ6 rfl ?_
          intro w7 hZ7 t7
          refine hK _ _ (fun _ => hx6.turn t7 (by omega)) ?_
          clear hK K
          refine Rd.seq_float (.int .i64 (m + 1)) (by simp only [List.getElem?_toArray, List.getElem?_cons_succ, List.getElem?_cons_zero]; rfl) rfl (by rfl) (fun X _ => by go_simp) ?_
          simp only [Act.put, List.setIfInBounds_toArray, List.set_cons_succ, List.set_cons_zero]
          refine Rd.seq_float (.int .i64 (k : Int)) (by simp only [List.getElem?_toArray, List.getElem?_cons_succ, List.getElem?_cons_zero]; rfl) rfl (by rfl) (fun X _ => by go_simp) ?_
          simp only [Act.put, List.setIfInBounds_toArray, List.set_cons_succ, List.set_cons_zero]
          refine Rd.seq_float (.int .i64 0) (by simp only [List.getElem?_toArray, List.getElem?_cons_succ, List.getElem?_cons_zero]; rfl) rfl (by rfl) (fun X _ => by go_simp) ?_
          simp only [Act.put, List.setIfInBounds_toArray, List.set_cons_succ, List.set_cons_zero]
          refine Rd.seq_end ?_
          go_wp2_with fail
          refine bodyPost_ret (results_cttt rfl _ w7 (w.heap.size + 1) _ (.int .i64 (m + 1)) (.int .i64 (k : Int)) (.int .i64 0) (m + 1) rfl rfl rfl rfl hZ7) rfl ?_
          rw [HE.out.1, HE.out.2.1, HE.out.2.2.1, HE.out.2.2.2.1, HE.out.2.2.2.2]
          exact ⟨⟨_, rfl, a4, c4, by rw [List.length_set], by rw [List.length_set]; exact h6.turn t7 hZ6 (by decide)⟩, hb6d.trans (t7.below (by omega))⟩
        · have h5 := beq_ff hy
          have HY := Lib.hid hy
          generalize l.getD k 0 = y at hx9 h5
          clear hy
          go_wp2_with fail
          refine ⟨⟨k + 1, by omega, by go_num, Lib.hid (fun hm j hj => ?_)⟩, by simp [intOf]; omega⟩
          by_cases e : j = k
          · subst e; exact HY.out
          · exact HN.out hm j (by omega)
      · generalize l.getD k 0 = y at hx9
        cases h5 : (y == 0)
        · go_wp2_with fail
          exact ⟨⟨k + 1, by omega, by go_num, Lib.hid (fun hm' => absurd hm' hm)⟩, by simp [intOf]; omega⟩
        · go_wp2_with fail
          exact ⟨⟨k + 1, by omega, by go_num, Lib.hid (fun hm' => absurd hm' hm)⟩, by simp [intOf]; omega⟩
    · obtain rfl : k = l.length := by omega
      have HE := Lib.hid (HR2.out HN.out)
      clear HN HR1 HR2
      go_wp2_with (first | (refine wpList_load30 rfl _ rfl w.heap.size _ m rfl hx ?_) | (refine wpList_store30 rfl _ _ rfl (w.heap.size + 1) _ (.slice none 0 0) m 0 rfl rfl hZ rfl ?_; intro w7 hZ7 t7))
      refine bodyPost_ret (results_cttt rfl _ w7 (w.heap.size + 1) _ (.int .i64 0) (.int .i64 0) (.int .i64 6) m rfl rfl rfl rfl hZ7) rfl ?_
      rw [HE.out.1, HE.out.2.1, HE.out.2.2.1, HE.out.2.2.2.1, HE.out.2.2.2.2]
      obtain ⟨a4, c4, e4, h4⟩ := HT2.out
      exact ⟨⟨_, rfl, a4, c4, e4, h4.turn t7 hZ (by decide)⟩, hb.trans (t7.below (by omega))⟩
end Go.Proofs.Ythopmkgbhfkeoaa
