/-
  Contracts of the document's answers for layer 1 that are made of 64 bools: Bits, Number, Is, Both, Put. No condition but that numbers fit their types.
-/
import Derived.Test.YtbeklkgoiigccaaArr
import Derived.Test.YtbeklkgoiigccaaMathb
namespace Go.Proofs.Ytbeklkgoiigccaa
open Go.RowKit

/-- the first k bits. -/
def bitsTo (n k : Nat) : Nat → Bool := fun j => decide (j < k) && n.testBit j
theorem bitsTo_step (n k : Nat) : upd (bitsTo n k) k (n.testBit k) = bitsTo n (k + 1) := by
  funext j
  unfold upd bitsTo
  by_cases h : j = k
  · subst h; simp
  · by_cases h2 : j < k
    · have h3 : j < k + 1 := by omega
      simp [h, h2, h3]
    · have h3 : ¬ j < k + 1 := by omega
      simp [h, h2, h3]
theorem bitsTo_zero (n : Nat) : bitsTo n 0 = fun _ => false := by funext j; simp [bitsTo]
theorem bitsTo_all (n : Nat) : arrB (bitsTo n 64) = arrB n.testBit := arrB_ext fun i h => by simp [bitsTo, h]

set_option maxRecDepth 100000 in
set_option maxHeartbeats 1000000 in
theorem Bits_any (n : Nat) (w : World) (hn : n < 18446744073709551616) :
    Calls Try.prog 16 #[.int .u64 n] w fun e w' => e = .returned (.agg (arrB n.testBit)) ∧ Below w.heap.size w w' := by
  have hz1 : IsArr ((w.alloc (.cells (arrB fun _ => false) 27)).alloc (.cells (arrB fun _ => false) 27)) (w.heap.size + 1) (fun _ => false) := by
    have h := IsArr.new (w.alloc (.cells (arrB fun _ => false) 27)) (fun _ => false)
    rw [World.size_alloc] at h
    exact h
  have hz0 : IsArr ((w.alloc (.cells (arrB fun _ => false) 27)).alloc (.cells (arrB fun _ => false) 27)) w.heap.size (fun _ => false) := (IsArr.new w _).alloc _
  have hB : Below w.heap.size w ((w.alloc (.cells (arrB fun _ => false) 27)).alloc (.cells (arrB fun _ => false) 27)) := ((Below.refl _ w).alloc (Nat.le_refl _) _).alloc (by simp) _
  go_enter Try.func16, Try.ntmps16
  go_wp2_with (first | (refine wpList_alloc30 rfl rfl ?_; try simp only [World.size_alloc]) | (refine wpList_build30 rfl rfl ?_) | (refine wpList_store30 rfl _ _ rfl (w.heap.size + 1) (fun _ => false) (fun _ => false) rfl rfl hz1 ?_; intro w1 i1 t1))
  have hi0 := hz0.turn t1 (by omega)
  have hb1 := hB.trans (t1.below (Nat.le_succ _))
  clear hz1 hz0 hB t1
  rw [← bitsTo_zero n] at i1
  go_loopw [0, 6] (fun x i wr => ∃ k : Nat, k ≤ 64 ∧ i = .int .i64 k ∧ x = .int .u64 ((n / 2 ^ k : Nat) : Int) ∧ IsArr wr (w.heap.size + 1) (bitsTo n k) ∧ IsArr wr w.heap.size (fun _ => false) ∧ Below w.heap.size w wr) (fun _ i _ => 64 - (intOf i).toNat)
  case atStart => exact ⟨0, by omega, rfl, by simp, i1, hi0, hb1⟩
  case round =>
    obtain ⟨k, hk, rfl, rfl, hi, hj, hb⟩ := hrel
    have hlt2 : n / 2 ^ k < 18446744073709551616 := Nat.lt_of_le_of_lt (Nat.div_le_self _ _) hn
    by_cases hlt : k < 64
    · have hc := hi.cell hlt
      have hf := hi.frozen k
      have hbit : (((n / 2 ^ k : Nat) : Int) % 2 == 1) = n.testBit k := by
        rw [Nat.testBit_eq_decide_div_mod_eq]; generalize n / 2 ^ k = m; rw [Bool.eq_iff_iff, beq_iff_eq, decide_eq_true_eq]; omega
      have hdiv : ((n / 2 ^ k : Nat) : Int) / 2 = ((n / 2 ^ (k + 1) : Nat) : Int) := by
        rw [Nat.pow_succ, ← Nat.div_div_eq_div_mul]; generalize n / 2 ^ k = m; omega
      have HD := Lib.hid hdiv
      have HB := Lib.hid hbit
      clear hdiv hbit
      generalize n / 2 ^ k = m at *
      go_wp2_with fail
      refine ⟨⟨k + 1, by omega, by go_num, by rw [HD.out], ?_, hj.turn (Turn.setCell _ _ _ _) (by omega), hb.trans ((Turn.setCell _ _ _ _).below (Nat.le_succ _))⟩, by simp [intOf]; omega⟩
      rw [HB.out, ← bitsTo_step]
      exact hi.set k _
    · obtain rfl : k = 64 := by omega
      have HA := Lib.hid (bitsTo_all n)
      go_wp2_with (first | (refine wpList_load30 rfl _ rfl (w.heap.size + 1) (bitsTo n 64) rfl hi ?_) | (refine wpList_store30 rfl _ _ rfl w.heap.size (bitsTo n 64) (fun _ => false) rfl rfl hj ?_; intro w2 i2 t2))
      refine bodyPost_ret (results_cell_row rfl _ w2 w.heap.size 27 (arrB (bitsTo n 64)) (0, 0) _ rfl i2 Try.underlying27 rfl (size30 _)) rfl ?_
      exact ⟨by rw [HA.out], hb.trans (t2.below (Nat.le_refl _))⟩

theorem half_yes {N j : Nat} (h : N.testBit j = true) : N / 2 ^ j = N / 2 ^ (j + 1) * 2 + 1 := by
  rw [Nat.testBit_eq_decide_div_mod_eq, decide_eq_true_eq] at h
  rw [Nat.pow_succ, ← Nat.div_div_eq_div_mul]
  omega
theorem half_no {N j : Nat} (h : N.testBit j = false) : N / 2 ^ j = N / 2 ^ (j + 1) * 2 := by
  rw [Nat.testBit_eq_decide_div_mod_eq, decide_eq_false_iff_not] at h
  rw [Nat.pow_succ, ← Nat.div_div_eq_div_mul]
  omega

set_option maxRecDepth 100000 in
set_option maxHeartbeats 1000000 in
theorem Number_any (N : Nat) (w : World) (hN : N < 18446744073709551616) :
    Calls Try.prog 38 #[.agg (arrB N.testBit)] w fun e w' => e = .returned (.int .u64 N) ∧ Below w.heap.size w w' := by
  have hI := IsArr.new w N.testBit
  have hB : Below w.heap.size w (w.alloc (.cells (arrB N.testBit) 27)) := (Below.refl _ w).alloc (Nat.le_refl _) _
  go_enter Try.func38, Try.ntmps38
  go_wp2_with (refine wpList_box30 rfl _ rfl N.testBit rfl ?_)
  generalize w.alloc (.cells (arrB N.testBit) 27) = w1 at hI hB ⊢
  go_loop [3, 4] (fun x i => ∃ k : Nat, k ≤ 64 ∧ i = .int .i64 ((k : Int) - 1) ∧ x = .int .u64 ((N / 2 ^ k : Nat) : Int)) (fun _ i => (intOf i + 1).toNat)
  case atStart =>
    refine ⟨64, by omega, rfl, ?_⟩
    rw [Nat.div_eq_of_lt (by omega)]; rfl
  case round =>
    obtain ⟨k, hk, rfl, rfl⟩ := hrel
    match k, hk with
    | 0, _ =>
      go_wp2_with fail
      go_ret
      exact ⟨ret_int (by simp), hB⟩
    | j + 1, hk =>
      have e0 : ((j + 1 : Nat) : Int) - 1 = (j : Int) := by omega
      rw [e0]
      have hlt2 : N / 2 ^ (j + 1) < 9223372036854775808 := by
        have h1 : N / 2 ^ (j + 1) ≤ N / 2 := Nat.div_le_div_left (Nat.le_self_pow (by omega) 2) (by omega)
        omega
      have hc := hI.cell (i := j) (by omega)
      cases hb : N.testBit j
      · have HD := Lib.hid (half_no hb)
        rw [hb] at hc
        clear hb
        generalize N / 2 ^ (j + 1) = m at *
        go_wp2_with fail
        go_round
        case rel => exact ⟨j, by omega, by go_num, by rw [HD.out]; go_num⟩
        case measure => simp [intOf]
      · have HD := Lib.hid (half_yes hb)
        rw [hb] at hc
        clear hb
        generalize N / 2 ^ (j + 1) = m at *
        go_wp2_with fail
        go_round
        case rel => exact ⟨j, by omega, by go_num, by rw [HD.out]; go_num⟩
        case measure => simp [intOf]

set_option maxRecDepth 100000 in
set_option maxHeartbeats 1000000 in
theorem Is_any (s N : Nat) (w : World) (hN : N < 18446744073709551616) :
    Calls Try.prog 21 #[.int .u64 s, .agg (arrB N.testBit)] w fun e w' => e = .returned (.bool ((s : Int) == (N : Int))) ∧ Below w.heap.size w w' := by
  have hI := IsArr.new w N.testBit
  have hB : Below w.heap.size w (w.alloc (.cells (arrB N.testBit) 27)) := (Below.refl _ w).alloc (Nat.le_refl _) _
  go_enter Try.func21, Try.ntmps21
  go_wp2_with (first | (refine wpList_box30 rfl _ rfl N.testBit rfl ?_) | (refine wpList_load30 rfl _ rfl w.heap.size N.testBit rfl hI ?_) | (go_at_call 38; refine (Number_any N _ hN).mono ?_; rintro e w1 ⟨rfl, hb1⟩))
  go_ret
  exact ⟨rfl, hB.trans (hb1.mono (by simp))⟩
end Go.Proofs.Ytbeklkgoiigccaa
