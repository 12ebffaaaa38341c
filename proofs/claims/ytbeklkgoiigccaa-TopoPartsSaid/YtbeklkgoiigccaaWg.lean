/-
  Contracts of the document's answers for layer 1 that are made of 64 bools: Both, Put. No condition but that numbers fit their types.
-/
import Derived.Test.YtbeklkgoiigccaaWf
namespace Go.Proofs.Ytbeklkgoiigccaa
open Go.RowKit

/-- what both have, up to k. -/
def bothTo (A B k : Nat) : Nat → Bool := fun j => A.testBit j && (!decide (j < k) || B.testBit j)
theorem bothTo_at (A B k : Nat) : bothTo A B k k = A.testBit k := by simp [bothTo]
theorem bothTo_step (A B k : Nat) : upd (bothTo A B k) k (A.testBit k && B.testBit k) = bothTo A B (k + 1) := by
  funext j
  unfold upd bothTo
  by_cases h : j = k
  · subst h; simp
  · by_cases h2 : j < k
    · have h3 : j < k + 1 := by omega
      simp [h, h2, h3]
    · have h3 : ¬ j < k + 1 := by omega
      simp [h, h2, h3]
theorem bothTo_zero (A B : Nat) : bothTo A B 0 = A.testBit := by funext j; simp [bothTo]
theorem bothTo_all (A B : Nat) : arrB (bothTo A B 64) = arrB (A &&& B).testBit := arrB_ext fun i h => by simp [bothTo, h]

set_option maxRecDepth 100000 in
set_option maxHeartbeats 1000000 in
theorem Both_any (A B : Nat) (w : World) :
    Calls Try.prog 37 #[.agg (arrB A.testBit), .agg (arrB B.testBit)] w fun e w' => e = .returned (.agg (arrB (A &&& B).testBit)) ∧ Below w.heap.size w w' := by
  have iA := ((IsArr.new w A.testBit).alloc (.cells (arrB B.testBit) 27)).alloc (.cells (arrB fun _ => false) 27)
  have iB := (IsArr.new (w.alloc (.cells (arrB A.testBit) 27)) B.testBit).alloc (.cells (arrB fun _ => false) 27)
  have iR := IsArr.new ((w.alloc (.cells (arrB A.testBit) 27)).alloc (.cells (arrB B.testBit) 27)) (fun _ => false)
  have hB : Below w.heap.size w (((w.alloc (.cells (arrB A.testBit) 27)).alloc (.cells (arrB B.testBit) 27)).alloc (.cells (arrB fun _ => false) 27)) := (((Below.refl _ w).alloc (Nat.le_refl _) _).alloc (by simp) _).alloc (by simp; omega) _
  rw [World.size_alloc] at iB
  rw [World.size_alloc, World.size_alloc] at iR
  go_enter Try.func37, Try.ntmps37
  go_wp2_with (first | (refine wpList_box30 rfl _ rfl A.testBit rfl ?_) | (refine wpList_box30 rfl _ rfl B.testBit rfl ?_; try simp only [World.size_alloc]) | (refine wpList_alloc30 rfl rfl ?_; try simp only [World.size_alloc]))
  generalize (((w.alloc (.cells (arrB A.testBit) 27)).alloc (.cells (arrB B.testBit) 27)).alloc (.cells (arrB fun _ => false) 27)) = w1 at iA iB iR hB ⊢
  go_loopw [6] (fun i wr => ∃ k : Nat, k ≤ 64 ∧ i = .int .i64 k ∧ IsArr wr w.heap.size (bothTo A B k) ∧ IsArr wr (w.heap.size + 1) B.testBit ∧ IsArr wr (w.heap.size + 1 + 1) (fun _ => false) ∧ Below w.heap.size w wr) (fun i _ => 64 - (intOf i).toNat)
  case atStart => exact ⟨0, by omega, rfl, by rw [bothTo_zero]; exact iA, iB, iR, hB⟩
  case round =>
    obtain ⟨k, hk, rfl, hi, hj, hr, hb⟩ := hrel
    by_cases hlt : k < 64
    · have hc := hi.cell hlt
      rw [bothTo_at] at hc
      have hf := hi.frozen k
      have hc2 := hj.cell hlt
      have HS := Lib.hid (bothTo_step A B k)
      cases ha : A.testBit k <;> rw [ha] at hc
      · have HS2 : Hid (upd (bothTo A B k) k false = bothTo A B (k + 1)) := Lib.hid (by rw [← HS.out, ha]; rfl)
        clear ha HS
        go_wp2_with fail
        refine ⟨⟨k + 1, by omega, by go_num, ?_, hj.turn (Turn.setCell _ _ _ _) (by omega), hr.turn (Turn.setCell _ _ _ _) (by omega), hb.trans ((Turn.setCell _ _ _ _).below (Nat.le_refl _))⟩, by simp [intOf]; omega⟩
        rw [← HS2.out]
        exact hi.set k _
      · have HS2 : Hid (upd (bothTo A B k) k (B.testBit k) = bothTo A B (k + 1)) := Lib.hid (by rw [← HS.out, ha]; rfl)
        clear ha HS
        generalize B.testBit k = t at *
        go_wp2_with fail
        refine ⟨⟨k + 1, by omega, by go_num, ?_, hj.turn (Turn.setCell _ _ _ _) (by omega), hr.turn (Turn.setCell _ _ _ _) (by omega), hb.trans ((Turn.setCell _ _ _ _).below (Nat.le_refl _))⟩, by simp [intOf]; omega⟩
        rw [← HS2.out]
        exact hi.set k _
    · obtain rfl : k = 64 := by omega
      have HA := Lib.hid (bothTo_all A B)
      go_wp2_with (first | (refine wpList_load30 rfl _ rfl w.heap.size (bothTo A B 64) rfl hi ?_) | (refine wpList_store30 rfl _ _ rfl (w.heap.size + 1 + 1) (bothTo A B 64) (fun _ => false) rfl rfl hr ?_; intro w2 i2 t2))
      refine bodyPost_ret (results_cell_row rfl _ w2 (w.heap.size + 1 + 1) 27 (arrB (bothTo A B 64)) (0, 0) _ rfl i2 Try.underlying27 rfl (size30 _)) rfl ?_
      exact ⟨by rw [HA.out], hb.trans (t2.below (by omega))⟩
end Go.Proofs.Ytbeklkgoiigccaa
