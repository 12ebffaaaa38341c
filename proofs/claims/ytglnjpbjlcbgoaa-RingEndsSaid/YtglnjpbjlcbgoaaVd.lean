/-
  Contracts of the program's questions: First, Last, Next, Prev, List; and of loose. Condition: the ring set is one.
-/
import Derived.Test.YtglnjpbjlcbgoaaVc
namespace Go.Proofs.Ytglnjpbjlcbgoaa
open Go.RowKit

section
variable {p g c N M : Nat} {S : Ln} {w : World}
set_option maxRecDepth 100000 in
set_option maxHeartbeats 4000000 in
theorem Next_S (h : IsR w p g c N M S) (n : Nat) (hn : n < N) : Calls Try.prog 15 #[.pointer (some ⟨p, 0, none⟩), .int .i64 (n : Int)] w fun e w' => e = .returned (.int .i64 (nodeI N (S.nx n))) ∧ Same w w' := by
  have h0 := h.c1
  have h1 := h.gn (j := n) (by omega)
  generalize S.nx n = y at *
  go_enter Try.func15, Try.ntmps15
  go_wp2_with (first | (go_at_call 35; refine (isNode_any h (n : Int) true (by simp; omega)).mono ?_; rintro e w1 ⟨rfl, rfl⟩) | (go_at_call 33; refine (node_any h _).mono ?_; rintro e w1 ⟨rfl, rfl⟩))
  go_ret
  exact ⟨rfl, Same.refl _⟩
set_option maxRecDepth 100000 in
set_option maxHeartbeats 4000000 in
theorem Next_no (h : IsR w p g c N M S) (n : Int) (hn : ¬ (0 ≤ n ∧ n < N)) : Calls Try.prog 15 #[.pointer (some ⟨p, 0, none⟩), .int .i64 n] w fun e w' => e = .returned (.int .i64 (-1)) ∧ Same w w' := by
  have HN := Lib.hid hn
  clear hn
  go_enter Try.func15, Try.ntmps15
  go_wp2_with (first | (go_at_call 35; refine (isNode_any h n false (by have := HN.out; simp only [decide_eq_false_iff_not]; exact this)).mono ?_; rintro e w1 ⟨rfl, rfl⟩))
  go_ret
  exact ⟨rfl, Same.refl _⟩
set_option maxRecDepth 100000 in
set_option maxHeartbeats 4000000 in
theorem Prev_S (h : IsR w p g c N M S) (n : Nat) (hn : n < N) : Calls Try.prog 17 #[.pointer (some ⟨p, 0, none⟩), .int .i64 (n : Int)] w fun e w' => e = .returned (.int .i64 (nodeI N (S.pv n))) ∧ Same w w' := by
  have h0 := h.c1
  have h1 := h.gp (j := n) (by omega)
  generalize S.pv n = y at *
  go_enter Try.func17, Try.ntmps17
  go_wp2_with (first | (go_at_call 35; refine (isNode_any h (n : Int) true (by simp; omega)).mono ?_; rintro e w1 ⟨rfl, rfl⟩) | (go_at_call 33; refine (node_any h _).mono ?_; rintro e w1 ⟨rfl, rfl⟩))
  go_ret
  exact ⟨rfl, Same.refl _⟩
set_option maxRecDepth 100000 in
set_option maxHeartbeats 4000000 in
theorem Prev_no (h : IsR w p g c N M S) (n : Int) (hn : ¬ (0 ≤ n ∧ n < N)) : Calls Try.prog 17 #[.pointer (some ⟨p, 0, none⟩), .int .i64 n] w fun e w' => e = .returned (.int .i64 (-1)) ∧ Same w w' := by
  have HN := Lib.hid hn
  clear hn
  go_enter Try.func17, Try.ntmps17
  go_wp2_with (first | (go_at_call 35; refine (isNode_any h n false (by have := HN.out; simp only [decide_eq_false_iff_not]; exact this)).mono ?_; rintro e w1 ⟨rfl, rfl⟩))
  go_ret
  exact ⟨rfl, Same.refl _⟩
set_option maxRecDepth 100000 in
set_option maxHeartbeats 4000000 in
theorem List_S (h : IsR w p g c N M S) (n : Nat) (hn : n < N) : Calls Try.prog 16 #[.pointer (some ⟨p, 0, none⟩), .int .i64 (n : Int)] w fun e w' => e = .returned (.int .i64 (S.li n)) ∧ Same w w' := by
  have h0 := h.c1
  have h1 := h.gl (j := n) (by omega)
  generalize S.li n = y at *
  go_enter Try.func16, Try.ntmps16
  go_wp2_with (first | (go_at_call 35; refine (isNode_any h (n : Int) true (by simp; omega)).mono ?_; rintro e w1 ⟨rfl, rfl⟩) | (go_at_call 33; refine (node_any h _).mono ?_; rintro e w1 ⟨rfl, rfl⟩))
  go_ret
  exact ⟨rfl, Same.refl _⟩
set_option maxRecDepth 100000 in
set_option maxHeartbeats 4000000 in
theorem List_no (h : IsR w p g c N M S) (n : Int) (hn : ¬ (0 ≤ n ∧ n < N)) : Calls Try.prog 16 #[.pointer (some ⟨p, 0, none⟩), .int .i64 n] w fun e w' => e = .returned (.int .i64 (-1)) ∧ Same w w' := by
  have HN := Lib.hid hn
  clear hn
  go_enter Try.func16, Try.ntmps16
  go_wp2_with (first | (go_at_call 35; refine (isNode_any h n false (by have := HN.out; simp only [decide_eq_false_iff_not]; exact this)).mono ?_; rintro e w1 ⟨rfl, rfl⟩))
  go_ret
  exact ⟨rfl, Same.refl _⟩
set_option maxRecDepth 100000 in
set_option maxHeartbeats 4000000 in
theorem First_S (h : IsR w p g c N M S) (k j : Nat) (y : Int) (hjk : N + k = j) (hy : S.nx j = y) (hk : k < M) (hN : N ≤ 64) (hM : M ≤ 64) : Calls Try.prog 14 #[.pointer (some ⟨p, 0, none⟩), .int .i64 (k : Int)] w fun e w' => e = .returned (.int .i64 (nodeI N y)) ∧ Same w w' := by
  have hj : j < N + M := by omega
  have hs : Same w w := Same.refl w
  go_enter Try.func14, Try.ntmps14
  go_wp2_with (first | (go_at_call 32; refine (isList_any h (k : Int) hM true (by simp; omega)).mono ?_; rintro e w1 ⟨rfl, s1⟩; replace h := h.sm s1; replace hs := hs.trans s1))
  have h2 := h.drew
  have hs2 := hs.trans (Same.drew w1)
  have h0 := h2.c1
  have h1 := h2.gn hj
  clear h hs s1
  have h := h2
  have hs := hs2
  clear h2 hs2
  rw [hy] at h1
  have HO : Hid (N + k = j) := Lib.hid hjk
  clear hjk hy
  refine Rd.region (fun X => X.cell? ⟨p, 1, none⟩ = some (.slice (some ⟨g, 0, none⟩) (N + M) c) ∧ X.cell? ⟨g, j * 3 + 1, none⟩ = some (.int .i64 y)) 13 [0, 1, 2, 3, 4, 5, 6, 8, 9, 10, 12] [0, 1, 2, 3, 4, 5, 6, 7, 8, 9, 10, 11, 12] (by kernel_rfl) (by kernel_rfl) (by kernel_rfl) (by kernel_rfl) rfl ⟨h0, h1⟩ ?_
  generalize w1.drew = w2 at *
  refine Rd.seq_float (.pointer (some ⟨p, 0, none⟩)) (by simp only [List.getElem?_toArray, List.getElem?_cons_zero]; rfl) rfl (by rfl) (fun X _ => by go_simp) ?_
  simp only [Act.put, List.setIfInBounds_toArray, List.set_cons_succ, List.set_cons_zero]
  refine Rd.seq_float (.pointer (some ⟨p, 0, none⟩)) (by simp only [List.getElem?_toArray, List.getElem?_cons_succ, List.getElem?_cons_zero]; rfl) rfl (by rfl) (fun X _ => by go_simp) ?_
  simp only [Act.put, List.setIfInBounds_toArray, List.set_cons_succ, List.set_cons_zero]
  refine Rd.seq_float (.pointer (some ⟨p, 0, none⟩)) (by simp only [List.getElem?_toArray, List.getElem?_cons_succ, List.getElem?_cons_zero]; rfl) rfl (by rfl) (fun X _ => by go_simp) ?_
  simp only [Act.put, List.setIfInBounds_toArray, List.set_cons_succ, List.set_cons_zero]
  refine Rd.seq_float (.pointer (some ⟨p, 1, none⟩)) (by simp only [List.getElem?_toArray, List.getElem?_cons_succ, List.getElem?_cons_zero]; rfl) rfl (by rfl) (fun X _ => by go_simp) ?_
  simp only [Act.put, List.setIfInBounds_toArray, List.set_cons_succ, List.set_cons_zero]
  refine Rd.seq_float (.slice (some ⟨g, 0, none⟩) (N + M) c) (by simp only [List.getElem?_toArray, List.getElem?_cons_succ, List.getElem?_cons_zero]; rfl) rfl (by rfl) (fun X hX => by obtain ⟨e1, e2⟩ := hX; go_simp) ?_
  simp only [Act.put, List.setIfInBounds_toArray, List.set_cons_succ, List.set_cons_zero]
  refine Rd.seq_float (.pointer (some ⟨p, 0, none⟩)) (by simp only [List.getElem?_toArray, List.getElem?_cons_succ, List.getElem?_cons_zero]; rfl) rfl (by rfl) (fun X _ => by go_simp) ?_
  simp only [Act.put, List.setIfInBounds_toArray, List.set_cons_succ, List.set_cons_zero]
  refine Rd.seq_float (.int .i64 (k : Int)) (by simp only [List.getElem?_toArray, List.getElem?_cons_succ, List.getElem?_cons_zero]; rfl) rfl (by rfl) (fun X _ => by go_simp) ?_
  simp only [Act.put, List.setIfInBounds_toArray, List.set_cons_succ, List.set_cons_zero]
  refine Rd.seq_move (by simp only [List.getElem?_toArray, List.getElem?_cons_succ, List.getElem?_cons_zero]; rfl) rfl (by rfl) (fun K hK => ?_)
  go_simp
  refine (own_any h k j HO.out hN (by omega)).mono ?_
  rintro e w' ⟨rfl, rfl⟩
  refine hK _ _ (fun _ => ⟨h0, h1⟩) ?_
  clear hK K
  refine Rd.seq_float (.pointer (some ⟨g, j * 3, none⟩)) (by simp only [List.getElem?_toArray, List.getElem?_cons_succ, List.getElem?_cons_zero]; rfl) rfl (by rfl) (fun X _ => by go_simp; intro hx; omega) ?_
  simp only [Act.put, List.setIfInBounds_toArray, List.set_cons_succ, List.set_cons_zero]
  refine Rd.seq_float (.pointer (some ⟨g, j * 3 + 1, none⟩)) (by simp only [List.getElem?_toArray, List.getElem?_cons_succ, List.getElem?_cons_zero]; rfl) rfl (by rfl) (fun X _ => by go_simp) ?_
  simp only [Act.put, List.setIfInBounds_toArray, List.set_cons_succ, List.set_cons_zero]
  refine Rd.seq_float (.int .i64 y) (by simp only [List.getElem?_toArray, List.getElem?_cons_succ, List.getElem?_cons_zero]; rfl) rfl (by rfl) (fun X hX => by obtain ⟨e1, e2⟩ := hX; go_simp) ?_
  simp only [Act.put, List.setIfInBounds_toArray, List.set_cons_succ, List.set_cons_zero]
  refine Rd.seq_move (by simp only [List.getElem?_toArray, List.getElem?_cons_succ, List.getElem?_cons_zero]; rfl) rfl (by rfl) (fun K hK => ?_)
  go_simp
  refine (node_any h y).mono ?_
  rintro e w' ⟨rfl, rfl⟩
  refine hK _ _ (fun _ => ⟨h0, h1⟩) ?_
  clear hK K
  refine Rd.seq_float (.int .i64 (nodeI N y)) (by simp only [List.getElem?_toArray, List.getElem?_cons_succ, List.getElem?_cons_zero]; rfl) rfl (by rfl) (fun X _ => by go_simp) ?_
  simp only [Act.put, List.setIfInBounds_toArray, List.set_cons_succ, List.set_cons_zero]
  refine Rd.seq_end ?_
  go_wp2_with fail
  go_ret
  exact ⟨rfl, hs⟩
set_option maxRecDepth 100000 in
set_option maxHeartbeats 4000000 in
theorem First_no (h : IsR w p g c N M S) (k : Int) (hk : ¬ (0 ≤ k ∧ k < M)) (hM : M ≤ 64) : Calls Try.prog 14 #[.pointer (some ⟨p, 0, none⟩), .int .i64 k] w fun e w' => e = .returned (.int .i64 (-1)) ∧ Same w w' := by
  have HN := Lib.hid hk
  clear hk
  go_enter Try.func14, Try.ntmps14
  go_wp2_with (first | (go_at_call 32; refine (isList_any h k hM false (by have := HN.out; simp only [decide_eq_false_iff_not]; exact this)).mono ?_; rintro e w1 ⟨rfl, s1⟩))
  go_ret
  exact ⟨rfl, s1⟩
set_option maxRecDepth 100000 in
set_option maxHeartbeats 4000000 in
theorem Last_S (h : IsR w p g c N M S) (k j : Nat) (y : Int) (hjk : N + k = j) (hy : S.pv j = y) (hk : k < M) (hN : N ≤ 64) (hM : M ≤ 64) : Calls Try.prog 18 #[.pointer (some ⟨p, 0, none⟩), .int .i64 (k : Int)] w fun e w' => e = .returned (.int .i64 (nodeI N y)) ∧ Same w w' := by
  have hj : j < N + M := by omega
  have hs : Same w w := Same.refl w
  go_enter Try.func18, Try.ntmps18
  go_wp2_with (first | (go_at_call 32; refine (isList_any h (k : Int) hM true (by simp; omega)).mono ?_; rintro e w1 ⟨rfl, s1⟩; replace h := h.sm s1; replace hs := hs.trans s1))
  have h2 := h.drew
  have hs2 := hs.trans (Same.drew w1)
  have h0 := h2.c1
  have h1 := h2.gp hj
  clear h hs s1
  have h := h2
  have hs := hs2
  clear h2 hs2
  rw [hy] at h1
  have HO : Hid (N + k = j) := Lib.hid hjk
  clear hjk hy
  refine Rd.region (fun X => X.cell? ⟨p, 1, none⟩ = some (.slice (some ⟨g, 0, none⟩) (N + M) c) ∧ X.cell? ⟨g, j * 3, none⟩ = some (.int .i64 y)) 13 [0, 1, 2, 3, 4, 5, 6, 8, 9, 10, 12] [0, 1, 2, 3, 4, 5, 6, 7, 8, 9, 10, 11, 12] (by kernel_rfl) (by kernel_rfl) (by kernel_rfl) (by kernel_rfl) rfl ⟨h0, h1⟩ ?_
  generalize w1.drew = w2 at *
  refine Rd.seq_float (.pointer (some ⟨p, 0, none⟩)) (by simp only [List.getElem?_toArray, List.getElem?_cons_zero]; rfl) rfl (by rfl) (fun X _ => by go_simp) ?_
  simp only [Act.put, List.setIfInBounds_toArray, List.set_cons_succ, List.set_cons_zero]
  refine Rd.seq_float (.pointer (some ⟨p, 0, none⟩)) (by simp only [List.getElem?_toArray, List.getElem?_cons_succ, List.getElem?_cons_zero]; rfl) rfl (by rfl) (fun X _ => by go_simp) ?_
  simp only [Act.put, List.setIfInBounds_toArray, List.set_cons_succ, List.set_cons_zero]
  refine Rd.seq_float (.pointer (some ⟨p, 0, none⟩)) (by simp only [List.getElem?_toArray, List.getElem?_cons_succ, List.getElem?_cons_zero]; rfl) rfl (by rfl) (fun X _ => by go_simp) ?_
  simp only [Act.put, List.setIfInBounds_toArray, List.set_cons_succ, List.set_cons_zero]
  refine Rd.seq_float (.pointer (some ⟨p, 1, none⟩)) (by simp only [List.getElem?_toArray, List.getElem?_cons_succ, List.getElem?_cons_zero]; rfl) rfl (by rfl) (fun X _ => by go_simp) ?_
  simp only [Act.put, List.setIfInBounds_toArray, List.set_cons_succ, List.set_cons_zero]
  refine Rd.seq_float (.slice (some ⟨g, 0, none⟩) (N + M) c) (by simp only [List.getElem?_toArray, List.getElem?_cons_succ, List.getElem?_cons_zero]; rfl) rfl (by rfl) (fun X hX => by obtain ⟨e1, e2⟩ := hX; go_simp) ?_
  simp only [Act.put, List.setIfInBounds_toArray, List.set_cons_succ, List.set_cons_zero]
  refine Rd.seq_float (.pointer (some ⟨p, 0, none⟩)) (by simp only [List.getElem?_toArray, List.getElem?_cons_succ, List.getElem?_cons_zero]; rfl) rfl (by rfl) (fun X _ => by go_simp) ?_
  simp only [Act.put, List.setIfInBounds_toArray, List.set_cons_succ, List.set_cons_zero]
  refine Rd.seq_float (.int .i64 (k : Int)) (by simp only [List.getElem?_toArray, List.getElem?_cons_succ, List.getElem?_cons_zero]; rfl) rfl (by rfl) (fun X _ => by go_simp) ?_
  simp only [Act.put, List.setIfInBounds_toArray, List.set_cons_succ, List.set_cons_zero]
  refine Rd.seq_move (by simp only [List.getElem?_toArray, List.getElem?_cons_succ, List.getElem?_cons_zero]; rfl) rfl (by rfl) (fun K hK => ?_)
  go_simp
  refine (own_any h k j HO.out hN (by omega)).mono ?_
  rintro e w' ⟨rfl, rfl⟩
  refine hK _ _ (fun _ => ⟨h0, h1⟩) ?_
  clear hK K
  refine Rd.seq_float (.pointer (some ⟨g, j * 3, none⟩)) (by simp only [List.getElem?_toArray, List.getElem?_cons_succ, List.getElem?_cons_zero]; rfl) rfl (by rfl) (fun X _ => by go_simp; intro hx; omega) ?_
  simp only [Act.put, List.setIfInBounds_toArray, List.set_cons_succ, List.set_cons_zero]
  refine Rd.seq_float (.pointer (some ⟨g, j * 3, none⟩)) (by simp only [List.getElem?_toArray, List.getElem?_cons_succ, List.getElem?_cons_zero]; rfl) rfl (by rfl) (fun X _ => by go_simp) ?_
  simp only [Act.put, List.setIfInBounds_toArray, List.set_cons_succ, List.set_cons_zero]
  refine Rd.seq_float (.int .i64 y) (by simp only [List.getElem?_toArray, List.getElem?_cons_succ, List.getElem?_cons_zero]; rfl) rfl (by rfl) (fun X hX => by obtain ⟨e1, e2⟩ := hX; go_simp) ?_
  simp only [Act.put, List.setIfInBounds_toArray, List.set_cons_succ, List.set_cons_zero]
  refine Rd.seq_move (by simp only [List.getElem?_toArray, List.getElem?_cons_succ, List.getElem?_cons_zero]; rfl) rfl (by rfl) (fun K hK => ?_)
  go_simp
  refine (node_any h y).mono ?_
  rintro e w' ⟨rfl, rfl⟩
  refine hK _ _ (fun _ => ⟨h0, h1⟩) ?_
  clear hK K
  refine Rd.seq_float (.int .i64 (nodeI N y)) (by simp only [List.getElem?_toArray, List.getElem?_cons_succ, List.getElem?_cons_zero]; rfl) rfl (by rfl) (fun X _ => by go_simp) ?_
  simp only [Act.put, List.setIfInBounds_toArray, List.set_cons_succ, List.set_cons_zero]
  refine Rd.seq_end ?_
  go_wp2_with fail
  go_ret
  exact ⟨rfl, hs⟩
set_option maxRecDepth 100000 in
set_option maxHeartbeats 4000000 in
theorem Last_no (h : IsR w p g c N M S) (k : Int) (hk : ¬ (0 ≤ k ∧ k < M)) (hM : M ≤ 64) : Calls Try.prog 18 #[.pointer (some ⟨p, 0, none⟩), .int .i64 k] w fun e w' => e = .returned (.int .i64 (-1)) ∧ Same w w' := by
  have HN := Lib.hid hk
  clear hk
  go_enter Try.func18, Try.ntmps18
  go_wp2_with (first | (go_at_call 32; refine (isList_any h k hM false (by have := HN.out; simp only [decide_eq_false_iff_not]; exact this)).mono ?_; rintro e w1 ⟨rfl, s1⟩))
  go_ret
  exact ⟨rfl, s1⟩
set_option maxRecDepth 100000 in
set_option maxHeartbeats 4000000 in
theorem loose_any (w : World) : Calls Try.prog 25 #[] w fun e w' => e = .returned (.agg #[.int .i64 (-1), .int .i64 (-1), .int .i64 (-1)]) ∧ Below w.heap.size w w' := by
  have hb := (Below.refl w.heap.size w).alloc (Nat.le_refl _) (.cells #[.int .i64 0, .int .i64 0, .int .i64 0] 55)
  have hZ := IsK.new w 0 0 0
  go_enter Try.func25, Try.ntmps25
  go_wp2_with (first | (refine wpList_alloc55 rfl rfl ?_) | (refine wpList_store55 rfl _ _ rfl w.heap.size (-1) (-1) (-1) 0 0 0 rfl rfl hZ ?_; intro w2 hZ2 t2))
  refine bodyPost_ret (results_cell_row rfl _ w2 w.heap.size 55 _ (0, 0) _ rfl hZ2 Try.underlying55 rfl Try.size55) rfl ?_
  exact ⟨rfl, hb.trans (t2.below (Nat.le_refl _))⟩
end
end Go.Proofs.Ytglnjpbjlcbgoaa
