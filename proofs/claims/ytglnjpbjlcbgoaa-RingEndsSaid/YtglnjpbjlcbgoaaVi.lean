/-
  Push, Lead, Behind, told by lists. Condition: the ring set is one.
-/
import Derived.Test.YtglnjpbjlcbgoaaVh
namespace Go.Proofs.Ytglnjpbjlcbgoaa
open Go.RowKit

section
variable {p g c N M : Nat} {S : Ln} {w : World}
set_option maxRecDepth 100000 in
set_option maxHeartbeats 4000000 in
theorem Push_S (h : IsR w p g c N M S) (k j x y : Nat) (z : Int) (hjk : N + k = j) (hy : S.pv j = (y : Int)) (hk : k < M) (hx : x < N) (hN : N ≤ 64) (hM : M ≤ 64) (R : World → Prop)
    (hput : ∀ w1, Same w w1 → Calls Try.prog 36 #[.pointer (some ⟨p, 0, none⟩), .int .i64 (y : Int), .int .i64 (x : Int)] w1 fun e w' => e = .returned (.int .i64 z) ∧ Only g w1 w' ∧ R w') :
    Calls Try.prog 21 #[.pointer (some ⟨p, 0, none⟩), .int .i64 (k : Int), .int .i64 (x : Int)] w fun e w' => e = .returned (.int .i64 z) ∧ R w' := by
  have hj : j < N + M := by omega
  have HY := Lib.hid hy
  have HP := Lib.hid hput
  have HO : Hid (N + k = j) := Lib.hid hjk
  clear hy hput hjk
  go_enter Try.func21, Try.ntmps21
  go_wp2_with (first | (go_at_call 32; refine (isList_any h (k : Int) hM true (by simp; omega)).mono ?_; rintro e w1 ⟨rfl, s1⟩; replace h := h.sm s1) | (go_at_call 35; refine (isNode_any h (x : Int) true (by simp; omega)).mono ?_; rintro e w0 ⟨rfl, rfl⟩))
  replace h := h.drew
  have hc1 := h.c1
  have hg1 := h.gp hj
  rw [HY.out] at hg1
  have s2 := s1.trans (Same.drew w1)
  refine Rd.region (fun X => X.cell? ⟨p, 1, none⟩ = some (.slice (some ⟨g, 0, none⟩) (N + M) c)) 14 [0, 1, 2, 3, 4, 5, 6, 8, 9, 11, 13] [0, 1, 2, 3, 4, 5, 6, 11, 7, 8, 9, 10, 12, 13] (by kernel_rfl) (by kernel_rfl) (by kernel_rfl) (by kernel_rfl) rfl hc1 ?_
  clear s1
  generalize w1.drew = w2 at *
  refine Rd.seq_float (.pointer (some ⟨p, 0, none⟩)) (by simp only [List.getElem?_toArray, List.getElem?_cons_zero]; rfl) rfl (by rfl) (fun X _ => by go_simp) ?_
  simp only [Act.put, List.setIfInBounds_toArray, List.set_cons_succ, List.set_cons_zero]
  refine Rd.seq_float (.pointer (some ⟨p, 0, none⟩)) (by simp only [List.getElem?_toArray, List.getElem?_cons_succ, List.getElem?_cons_zero]; rfl) rfl (by rfl) (fun X _ => by go_simp) ?_
  simp only [Act.put, List.setIfInBounds_toArray, List.set_cons_succ, List.set_cons_zero]
  refine Rd.seq_float (.pointer (some ⟨p, 0, none⟩)) (by simp only [List.getElem?_toArray, List.getElem?_cons_succ, List.getElem?_cons_zero]; rfl) rfl (by rfl) (fun X _ => by go_simp) ?_
  simp only [Act.put, List.setIfInBounds_toArray, List.set_cons_succ, List.set_cons_zero]
  refine Rd.seq_float (.pointer (some ⟨p, 1, none⟩)) (by simp only [List.getElem?_toArray, List.getElem?_cons_succ, List.getElem?_cons_zero]; rfl) rfl (by rfl) (fun X _ => by go_simp) ?_
  simp only [Act.put, List.setIfInBounds_toArray, List.set_cons_succ, List.set_cons_zero]
  refine Rd.seq_float (.slice (some ⟨g, 0, none⟩) (N + M) c) (by simp only [List.getElem?_toArray, List.getElem?_cons_succ, List.getElem?_cons_zero]; rfl) rfl (by rfl) (fun X hX => by have e1 := hX; go_simp) ?_
  simp only [Act.put, List.setIfInBounds_toArray, List.set_cons_succ, List.set_cons_zero]
  refine Rd.seq_float (.pointer (some ⟨p, 0, none⟩)) (by simp only [List.getElem?_toArray, List.getElem?_cons_succ, List.getElem?_cons_zero]; rfl) rfl (by rfl) (fun X _ => by go_simp) ?_
  simp only [Act.put, List.setIfInBounds_toArray, List.set_cons_succ, List.set_cons_zero]
  refine Rd.seq_float (.int .i64 (k : Int)) (by simp only [List.getElem?_toArray, List.getElem?_cons_succ, List.getElem?_cons_zero]; rfl) rfl (by rfl) (fun X _ => by go_simp) ?_
  simp only [Act.put, List.setIfInBounds_toArray, List.set_cons_succ, List.set_cons_zero]
  refine Rd.seq_float (.int .i64 (x : Int)) (by simp only [List.getElem?_toArray, List.getElem?_cons_succ, List.getElem?_cons_zero]; rfl) rfl (by rfl) (fun X _ => by go_simp) ?_
  simp only [Act.put, List.setIfInBounds_toArray, List.set_cons_succ, List.set_cons_zero]
  refine Rd.seq_move (by simp only [List.getElem?_toArray, List.getElem?_cons_succ, List.getElem?_cons_zero]; rfl) rfl (by rfl) (fun K hK => ?_)
  go_simp
  refine (own_any h k j HO.out hN (by omega)).mono ?_
  rintro e w' ⟨rfl, rfl⟩
  refine hK _ _ (fun _ => hc1) ?_
  clear hK K
  refine Rd.seq_float (.pointer (some ⟨g, j * 3, none⟩)) (by simp only [List.getElem?_toArray, List.getElem?_cons_succ, List.getElem?_cons_zero]; rfl) rfl (by rfl) (fun X _ => by first | (go_simp; done) | (go_simp; intro hx; omega)) ?_
  simp only [Act.put, List.setIfInBounds_toArray, List.set_cons_succ, List.set_cons_zero]
  refine Rd.seq_float (.pointer (some ⟨g, j * 3, none⟩)) (by simp only [List.getElem?_toArray, List.getElem?_cons_succ, List.getElem?_cons_zero]; rfl) rfl (by rfl) (fun X _ => by go_simp) ?_
  simp only [Act.put, List.setIfInBounds_toArray, List.set_cons_succ, List.set_cons_zero]
  refine Rd.seq_move (by simp only [List.getElem?_toArray, List.getElem?_cons_succ, List.getElem?_cons_zero]; rfl) rfl (by rfl) (fun K hK => ?_)
  go_simp
  refine hK _ _ (fun _ => hc1) ?_
  clear hK K
  refine Rd.seq_move (by simp only [List.getElem?_toArray, List.getElem?_cons_succ, List.getElem?_cons_zero]; rfl) rfl (by rfl) (fun K hK => ?_)
  go_simp
  refine (HP.out _ s2).mono ?_
  rintro e w3 ⟨rfl, ho3, hR3⟩
  refine hK _ _ (fun _ => (by unfold World.cell?; rw [ho3.block p h.ltp h.ne]; exact hc1)) ?_
  clear hK K
  refine Rd.seq_float (.int .i64 z) (by simp only [List.getElem?_toArray, List.getElem?_cons_succ, List.getElem?_cons_zero]; rfl) rfl (by rfl) (fun X _ => by go_simp) ?_
  simp only [Act.put, List.setIfInBounds_toArray, List.set_cons_succ, List.set_cons_zero]
  refine Rd.seq_end ?_
  go_wp2_with fail
  go_ret
  exact ⟨rfl, hR3⟩
set_option maxRecDepth 100000 in
set_option maxHeartbeats 4000000 in
theorem Lead_S (h : IsR w p g c N M S) (k j x : Nat) (z : Int) (hjk : N + k = j) (hk : k < M) (hx : x < N) (hN : N ≤ 64) (hM : M ≤ 64) (R : World → Prop)
    (hput : ∀ w1, Same w w1 → Calls Try.prog 36 #[.pointer (some ⟨p, 0, none⟩), .int .i64 (j : Int), .int .i64 (x : Int)] w1 fun e w' => e = .returned (.int .i64 z) ∧ R w') :
    Calls Try.prog 20 #[.pointer (some ⟨p, 0, none⟩), .int .i64 (k : Int), .int .i64 (x : Int)] w fun e w' => e = .returned (.int .i64 z) ∧ R w' := by
  have HP := Lib.hid hput
  have HO : Hid (N + k = j) := Lib.hid hjk
  clear hput hjk
  go_enter Try.func20, Try.ntmps20
  go_wp2_with (first | (go_at_call 32; refine (isList_any h (k : Int) hM true (by simp; omega)).mono ?_; rintro e w1 ⟨rfl, s1⟩; replace h := h.sm s1) | (go_at_call 35; refine (isNode_any h (x : Int) true (by simp; omega)).mono ?_; rintro e w0 ⟨rfl, rfl⟩) | (go_at_call 34; refine (own_any h k j HO.out hN (by omega)).mono ?_; rintro e w0 ⟨rfl, rfl⟩) | (go_at_call 36; refine (HP.out _ s1).mono ?_; rintro e w3 ⟨rfl, hR3⟩))
  go_ret
  exact ⟨rfl, hR3⟩
set_option maxRecDepth 100000 in
set_option maxHeartbeats 4000000 in
theorem Push_no1 (h : IsR w p g c N M S) (k n : Int) (hk : ¬ (0 ≤ k ∧ k < M)) (hM : M ≤ 64) :
    Calls Try.prog 21 #[.pointer (some ⟨p, 0, none⟩), .int .i64 k, .int .i64 n] w fun e w' => e = .returned (.int .i64 14) ∧ Same w w' := by
  have HN := Lib.hid hk
  clear hk
  go_enter Try.func21, Try.ntmps21
  go_wp2_with (first | (go_at_call 32; refine (isList_any h k hM false (by have := HN.out; simp only [decide_eq_false_iff_not]; exact this)).mono ?_; rintro e w1 ⟨rfl, s1⟩))
  go_ret
  exact ⟨rfl, s1⟩
set_option maxRecDepth 100000 in
set_option maxHeartbeats 4000000 in
theorem Push_no2 (h : IsR w p g c N M S) (k : Nat) (n : Int) (hk : k < M) (hn : ¬ (0 ≤ n ∧ n < N)) (hM : M ≤ 64) :
    Calls Try.prog 21 #[.pointer (some ⟨p, 0, none⟩), .int .i64 (k : Int), .int .i64 n] w fun e w' => e = .returned (.int .i64 14) ∧ Same w w' := by
  have HN := Lib.hid hn
  clear hn
  go_enter Try.func21, Try.ntmps21
  go_wp2_with (first | (go_at_call 32; refine (isList_any h (k : Int) hM true (by simp; omega)).mono ?_; rintro e w1 ⟨rfl, s1⟩; replace h := h.sm s1) | (go_at_call 35; refine (isNode_any h n false (by have := HN.out; simp only [decide_eq_false_iff_not]; exact this)).mono ?_; rintro e w0 ⟨rfl, rfl⟩))
  go_ret
  exact ⟨rfl, s1⟩
set_option maxRecDepth 100000 in
set_option maxHeartbeats 4000000 in
theorem Lead_no1 (h : IsR w p g c N M S) (k n : Int) (hk : ¬ (0 ≤ k ∧ k < M)) (hM : M ≤ 64) :
    Calls Try.prog 20 #[.pointer (some ⟨p, 0, none⟩), .int .i64 k, .int .i64 n] w fun e w' => e = .returned (.int .i64 14) ∧ Same w w' := by
  have HN := Lib.hid hk
  clear hk
  go_enter Try.func20, Try.ntmps20
  go_wp2_with (first | (go_at_call 32; refine (isList_any h k hM false (by have := HN.out; simp only [decide_eq_false_iff_not]; exact this)).mono ?_; rintro e w1 ⟨rfl, s1⟩))
  go_ret
  exact ⟨rfl, s1⟩
set_option maxRecDepth 100000 in
set_option maxHeartbeats 4000000 in
theorem Lead_no2 (h : IsR w p g c N M S) (k : Nat) (n : Int) (hk : k < M) (hn : ¬ (0 ≤ n ∧ n < N)) (hM : M ≤ 64) :
    Calls Try.prog 20 #[.pointer (some ⟨p, 0, none⟩), .int .i64 (k : Int), .int .i64 n] w fun e w' => e = .returned (.int .i64 14) ∧ Same w w' := by
  have HN := Lib.hid hn
  clear hn
  go_enter Try.func20, Try.ntmps20
  go_wp2_with (first | (go_at_call 32; refine (isList_any h (k : Int) hM true (by simp; omega)).mono ?_; rintro e w1 ⟨rfl, s1⟩; replace h := h.sm s1) | (go_at_call 35; refine (isNode_any h n false (by have := HN.out; simp only [decide_eq_false_iff_not]; exact this)).mono ?_; rintro e w0 ⟨rfl, rfl⟩))
  go_ret
  exact ⟨rfl, s1⟩
set_option maxRecDepth 100000 in
set_option maxHeartbeats 4000000 in
theorem Behind_S (h : IsR w p g c N M S) (a x : Nat) (z : Int) (ha : a < N) (hx : x < N) (R : World → Prop)
    (hput : Calls Try.prog 36 #[.pointer (some ⟨p, 0, none⟩), .int .i64 (a : Int), .int .i64 (x : Int)] w fun e w' => e = .returned (.int .i64 z) ∧ R w') :
    Calls Try.prog 24 #[.pointer (some ⟨p, 0, none⟩), .int .i64 (a : Int), .int .i64 (x : Int)] w fun e w' => e = .returned (.int .i64 z) ∧ R w' := by
  have HP := Lib.hid hput
  clear hput
  go_enter Try.func24, Try.ntmps24
  go_wp2_with (first | (go_at_call 35; refine (isNode_any h _ true (by simp; omega)).mono ?_; rintro e w0 ⟨rfl, rfl⟩) | (go_at_call 36; refine HP.out.mono ?_; rintro e w3 ⟨rfl, hR3⟩))
  go_ret
  exact ⟨rfl, hR3⟩
set_option maxRecDepth 100000 in
set_option maxHeartbeats 4000000 in
theorem Behind_no1 (h : IsR w p g c N M S) (a n : Int) (ha : ¬ (0 ≤ a ∧ a < N)) :
    Calls Try.prog 24 #[.pointer (some ⟨p, 0, none⟩), .int .i64 a, .int .i64 n] w fun e w' => e = .returned (.int .i64 14) ∧ Same w w' := by
  have HN := Lib.hid ha
  clear ha
  go_enter Try.func24, Try.ntmps24
  go_wp2_with (first | (go_at_call 35; refine (isNode_any h a false (by have := HN.out; simp only [decide_eq_false_iff_not]; exact this)).mono ?_; rintro e w0 ⟨rfl, rfl⟩))
  go_ret
  exact ⟨rfl, Same.refl _⟩
set_option maxRecDepth 100000 in
set_option maxHeartbeats 4000000 in
theorem Behind_no2 (h : IsR w p g c N M S) (a : Nat) (n : Int) (ha : a < N) (hn : ¬ (0 ≤ n ∧ n < N)) :
    Calls Try.prog 24 #[.pointer (some ⟨p, 0, none⟩), .int .i64 (a : Int), .int .i64 n] w fun e w' => e = .returned (.int .i64 14) ∧ Same w w' := by
  have HN := Lib.hid hn
  clear hn
  go_enter Try.func24, Try.ntmps24
  go_wp2_with (first | (go_at_call 35; refine (isNode_any h _ true (by simp; omega)).mono ?_; rintro e w0 ⟨rfl, rfl⟩) | (go_at_call 35; refine (isNode_any h _ false (by have := HN.out; simp only [decide_eq_false_iff_not]; exact this)).mono ?_; rintro e w0 ⟨rfl, rfl⟩))
  go_ret
  exact ⟨rfl, Same.refl _⟩
end
section
variable {w : World} {p g c N : Nat} {ls : List (List Nat)}
theorem Push_any (h : Ring w p g c N ls) (k n : Int) : Calls Try.prog 21 #[.pointer (some ⟨p, 0, none⟩), .int .i64 k, .int .i64 n] w fun e w' => e = .returned (.int .i64 (pushI N ls k n)) ∧ Ring w' p g c N (pushL N ls k n false) ∧ Only g w w' := by
  obtain ⟨S, hr, lk⟩ := h.mem
  by_cases hk : 0 ≤ k ∧ k < ls.length
  · obtain ⟨i, rfl⟩ : ∃ i : Nat, k = i := ⟨k.toNat, by omega⟩
    have hik : inN ls.length (i : Int) = true := by rw [inN_iff]; exact hk
    by_cases hn : 0 ≤ n ∧ n < N
    · obtain ⟨x, rfl⟩ : ∃ x : Nat, n = x := ⟨n.toNat, by omega⟩
      have hin : inN N (x : Int) = true := by rw [inN_iff]; exact hn
      have e1 : pushI N ls i x = if hasB ls x = false then 0 else 10 := by simp [pushI, wrongI, hik, hin]
      have e2 : pushL N ls i x false = if hasB ls x = false then insL ls i (Proofs.Ytglnjpbjlcbgoaa.row ls i).length x else ls := by
        unfold pushL
        rw [e1]
        cases hasB ls x <;> simp
      rw [e1, e2]
      have h1 := lk.pv i (Proofs.Ytglnjpbjlcbgoaa.row ls i).length (by omega) (Nat.le_refl _)
      rw [wk_end (Nat.le_refl _)] at h1
      refine Push_S hr i _ x _ _ rfl h1 (by omega) (by omega) h.ok.n64 h.ok.m64 _ fun w1 s1 => ?_
      refine (put_at (h.sm s1) i _ x (by omega) (Nat.le_refl _) (by omega)).mono ?_
      rintro e w2 ⟨rfl, h2, h3⟩
      exact ⟨rfl, h3, h2, (s1.only g).trans h3⟩
    · have hin : inN N n = false := by simp [inN]; omega
      have e1 : pushI N ls i n = 14 := by simp [pushI, wrongI, hik, hin]
      have e2 : pushL N ls i n false = ls := by unfold pushL; rw [if_neg (by omega)]
      rw [e1, e2]
      refine (Push_no2 hr i n (by omega) hn h.ok.m64).mono ?_
      rintro e w1 ⟨rfl, s1⟩
      exact ⟨rfl, h.sm s1, s1.only g⟩
  · have hik : inN ls.length k = false := by simp [inN]; omega
    have e1 : pushI N ls k n = 14 := by simp [pushI, hik]
    have e2 : pushL N ls k n false = ls := by unfold pushL; rw [if_neg (by omega)]
    rw [e1, e2]
    refine (Push_no1 hr k n hk h.ok.m64).mono ?_
    rintro e w1 ⟨rfl, s1⟩
    exact ⟨rfl, h.sm s1, s1.only g⟩
theorem Lead_any (h : Ring w p g c N ls) (k n : Int) : Calls Try.prog 20 #[.pointer (some ⟨p, 0, none⟩), .int .i64 k, .int .i64 n] w fun e w' => e = .returned (.int .i64 (pushI N ls k n)) ∧ Ring w' p g c N (pushL N ls k n true) ∧ Only g w w' := by
  obtain ⟨S, hr, lk⟩ := h.mem
  by_cases hk : 0 ≤ k ∧ k < ls.length
  · obtain ⟨i, rfl⟩ : ∃ i : Nat, k = i := ⟨k.toNat, by omega⟩
    have hik : inN ls.length (i : Int) = true := by rw [inN_iff]; exact hk
    by_cases hn : 0 ≤ n ∧ n < N
    · obtain ⟨x, rfl⟩ : ∃ x : Nat, n = x := ⟨n.toNat, by omega⟩
      have hin : inN N (x : Int) = true := by rw [inN_iff]; exact hn
      have e1 : pushI N ls i x = if hasB ls x = false then 0 else 10 := by simp [pushI, wrongI, hik, hin]
      have e2 : pushL N ls i x true = if hasB ls x = false then insL ls i 0 x else ls := by
        unfold pushL
        rw [e1]
        cases hasB ls x <;> simp
      rw [e1, e2]
      refine Lead_S hr i _ x _ rfl (by omega) (by omega) h.ok.n64 h.ok.m64 _ fun w1 s1 => ?_
      refine (put_at (h.sm s1) i 0 x (by omega) (Nat.zero_le _) (by omega)).mono ?_
      rintro e w2 ⟨rfl, h2, h3⟩
      exact ⟨rfl, h2, (s1.only g).trans h3⟩
    · have hin : inN N n = false := by simp [inN]; omega
      have e1 : pushI N ls i n = 14 := by simp [pushI, wrongI, hik, hin]
      have e2 : pushL N ls i n true = ls := by unfold pushL; rw [if_neg (by omega)]
      rw [e1, e2]
      refine (Lead_no2 hr i n (by omega) hn h.ok.m64).mono ?_
      rintro e w1 ⟨rfl, s1⟩
      exact ⟨rfl, h.sm s1, s1.only g⟩
  · have hik : inN ls.length k = false := by simp [inN]; omega
    have e1 : pushI N ls k n = 14 := by simp [pushI, hik]
    have e2 : pushL N ls k n true = ls := by unfold pushL; rw [if_neg (by omega)]
    rw [e1, e2]
    refine (Lead_no1 hr k n hk h.ok.m64).mono ?_
    rintro e w1 ⟨rfl, s1⟩
    exact ⟨rfl, h.sm s1, s1.only g⟩
theorem Behind_any (h : Ring w p g c N ls) (a n : Int) : Calls Try.prog 24 #[.pointer (some ⟨p, 0, none⟩), .int .i64 a, .int .i64 n] w fun e w' => e = .returned (.int .i64 (behI N ls a n)) ∧ Ring w' p g c N (behL N ls a n) ∧ Only g w w' := by
  obtain ⟨S, hr, lk⟩ := h.mem
  by_cases ha : 0 ≤ a ∧ a < N
  · obtain ⟨i, rfl⟩ : ∃ i : Nat, a = i := ⟨a.toNat, by omega⟩
    have hia : inN N (i : Int) = true := by rw [inN_iff]; exact ha
    by_cases hn : 0 ≤ n ∧ n < N
    · obtain ⟨x, rfl⟩ : ∃ x : Nat, n = x := ⟨n.toNat, by omega⟩
      have hin : inN N (x : Int) = true := by rw [inN_iff]; exact hn
      cases hb : hasB ls i with
      | true =>
        obtain ⟨y, e, hy⟩ := hasB_at hb
        obtain rfl : i = y := by omega
        have e1 : behI N ls i x = if hasB ls x = false then 0 else 10 := by simp [behI, hia, hin, hb]
        have e2 : behL N ls i x = if hasB ls x = false then insL ls (fk ls i) (fi ls i + 1) x else ls := by
          unfold behL
          rw [e1]
          cases hasB ls x <;> simp
        rw [e1, e2]
        refine Behind_S hr i x _ (by omega) (by omega) _ ?_
        have := put_at h (fk ls i) (fi ls i + 1) x hy.lists hy.len (by omega)
        rw [wk_at hy] at this
        exact this
      | false =>
        have e1 : behI N ls i x = 10 := by simp [behI, hia, hin, hb]
        have e2 : behL N ls i x = ls := by unfold behL; rw [if_neg (by omega)]
        rw [e1, e2]
        exact Behind_S hr i x _ (by omega) (by omega) _ (put_free h i x (by omega) hb)
    · have hin : inN N n = false := by simp [inN]; omega
      have e1 : behI N ls i n = 14 := by simp [behI, hin]
      have e2 : behL N ls i n = ls := by unfold behL; rw [if_neg (by omega)]
      rw [e1, e2]
      refine (Behind_no2 hr i n (by omega) hn).mono ?_
      rintro e w1 ⟨rfl, s1⟩
      exact ⟨rfl, h.sm s1, s1.only g⟩
  · have hia : inN N a = false := by simp [inN]; omega
    have e1 : behI N ls a n = 14 := by simp [behI, hia]
    have e2 : behL N ls a n = ls := by unfold behL; rw [if_neg (by omega)]
    rw [e1, e2]
    refine (Behind_no1 hr a n ha).mono ?_
    rintro e w1 ⟨rfl, s1⟩
    exact ⟨rfl, h.sm s1, s1.only g⟩
end
end Go.Proofs.Ytglnjpbjlcbgoaa
