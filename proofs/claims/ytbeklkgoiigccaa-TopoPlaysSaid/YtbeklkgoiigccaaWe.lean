/-
  The walk of the statement MaskChanges. Condition: the table of math/bits lies as its initialiser lays it.
-/
import Derived.Test.YtbeklkgoiigccaaWl
import Derived.Test.YtbeklkgoiigccaaMathb
namespace Go.Proofs.Ytbeklkgoiigccaa
open Go.RowKit

theorem Has_is (n : Nat) (c : Int) (t : Bool) (w : World) (hn : n < 18446744073709551616) (h : Hid (hasB n c = t)) :
    Calls Try.prog 27 #[.int .u64 n, .int .i64 c] w fun e w' => e = .returned (.bool t) ∧ w = w' := by rw [← h.out]; exact Has_any n c w hn
theorem With_is (n : Nat) (c : Int) (a : Nat) (w : World) (hn : n < 18446744073709551616) (h : Hid (withN n c = a)) :
    Calls Try.prog 46 #[.int .u64 n, .int .i64 c] w fun e w' => e = .returned (.int .u64 a) ∧ w = w' := by rw [← h.out]; exact With_any n c w hn
theorem Without_is (n : Nat) (c : Int) (a : Nat) (w : World) (hn : n < 18446744073709551616) (h : Hid (withoutN n c = a)) :
    Calls Try.prog 44 #[.int .u64 n, .int .i64 c] w fun e w' => e = .returned (.int .u64 a) ∧ w = w' := by rw [← h.out]; exact Without_any n c w hn
theorem In_is (n m : Nat) (t : Bool) (w : World) (hn : n < 18446744073709551616) (hm : m < 18446744073709551616) (h : Hid (inB n m = t)) :
    Calls Try.prog 22 #[.int .u64 n, .int .u64 m] w fun e w' => e = .returned (.bool t) ∧ w = w' := by rw [← h.out]; exact In_any n m w hn hm
theorem Meets_is (n m : Nat) (t : Bool) (w : World) (hn : n < 18446744073709551616) (hm : m < 18446744073709551616) (h : Hid (meetsB n m = t)) :
    Calls Try.prog 30 #[.int .u64 n, .int .u64 m] w fun e w' => e = .returned (.bool t) ∧ w = w' := by rw [← h.out]; exact Meets_any n m w hn hm
theorem Len_is (n k : Nat) (w : World) (hn : n < 18446744073709551616) (h : Hid (popN 64 n = k)) :
    Calls Try.prog 43 #[.int .u64 n] w fun e w' => e = .returned (.int .i64 k) ∧ w = w' := by rw [← h.out]; exact Len_any n w hn

set_option maxHeartbeats 400000 in
theorem Core_any (c : Int) (w : World) :
    Calls Try.prog 45 #[.int .i64 c] w fun e w' => e = .returned (.bool (coreB c)) ∧ w = w' := by
  by_cases h0 : 0 ≤ c
  · by_cases h1 : c < 64
    · rw [coreB_yes h0 h1]
      go_enter Try.func45, Try.ntmps45
      go_wp2
      go_ret
      exact ⟨rfl, rfl⟩
    · have h2 : 64 ≤ c := by omega
      rw [coreB_big h2]
      go_enter Try.func45, Try.ntmps45
      go_wp2
      go_ret
      exact ⟨rfl, rfl⟩
  · have h2 : c < 0 := by omega
    rw [coreB_neg h2]
    go_enter Try.func45, Try.ntmps45
    go_wp2
    go_ret
    exact ⟨rfl, rfl⟩
theorem Core_is (c : Int) (t : Bool) (w : World) (h : Hid (coreB c = t)) :
    Calls Try.prog 45 #[.int .i64 c] w fun e w' => e = .returned (.bool t) ∧ w = w' := by rw [← h.out]; exact Core_any c w

/-! ### the facts -/
theorem inB_bits {n m : Nat} (hm : m < 18446744073709551616) (h : ∀ j, n.testBit j = true → m.testBit j = true) : inB n m = true := by
  unfold inB
  rw [beq_iff_eq]
  apply Nat.eq_of_testBit_eq
  intro j
  rw [Nat.zero_testBit, Nat.testBit_and, show 18446744073709551615 - m = 2 ^ 64 - (m + 1) by omega, Nat.testBit_two_pow_sub_succ (by omega)]
  cases hb : n.testBit j
  · rfl
  · rw [h j hb]; simp
theorem in_with {n : Nat} (c : Int) (hn : n < 18446744073709551616) : inB n (withN n c) = true :=
  inB_bits (withN_lt c hn) (fun j h => by unfold withN; rw [Nat.testBit_or, h]; rfl)
theorem in_without {n : Nat} (c : Int) (hn : n < 18446744073709551616) : inB (withoutN n c) n = true :=
  inB_bits hn (fun j h => by unfold withoutN at h; rw [Nat.testBit_and] at h; simp at h; exact h.1)
theorem pop_cores (n : Nat) : popN 64 n = (coresOf n).length := (popN_filter 64 n).symm
theorem core_nat {c : Int} (h : coreB c = true) : ∃ k : Nat, k < 64 ∧ c = (k : Int) := by
  have := coreB_true h
  exact ⟨c.toNat, by omega, by omega⟩
/-- the bits of a number but one, counted. -/
theorem filter_one (p q : Nat → Bool) (k m : Nat) (hk : k < m) (hp : p k = true) (hq : q k = false) (h : ∀ j, j ≠ k → p j = q j) :
    ((List.range m).filter p).length = ((List.range m).filter q).length + 1 := by
  obtain ⟨d, rfl⟩ : ∃ d, m = k + (d + 1) := ⟨m - k - 1, by omega⟩
  rw [List.range_add, List.filter_append, List.filter_append, List.range_succ_eq_map, List.map_cons, List.filter_cons, List.filter_cons]
  rw [show k + 0 = k by omega, hp, hq]
  have h1 : (List.range k).filter p = (List.range k).filter q := List.filter_congr fun j hj => h j (Nat.ne_of_lt (by simpa using hj))
  have h2 : (((List.range d).map Nat.succ).map (k + ·)).filter p = (((List.range d).map Nat.succ).map (k + ·)).filter q := List.filter_congr fun j hj => h j (by
    simp only [List.mem_map] at hj
    obtain ⟨a, ⟨b, _, rfl⟩, rfl⟩ := hj
    omega)
  rw [h1, h2]
  simp
  omega
theorem pop_with_without {n : Nat} {c : Int} (hn : n < 18446744073709551616) (h : coreB c = true) : popN 64 (withN n c) = popN 64 (withoutN n c) + 1 := by
  obtain ⟨k, hk, rfl⟩ := core_nat h
  rw [← popN_filter, ← popN_filter]
  apply filter_one _ _ k 64 hk
  · rw [withN_bit hk]; simp
  · rw [withoutN_bit hn hk]; simp
  · intro j hj
    have : ¬ k = j := fun e => hj e.symm
    rw [withN_bit hk, withoutN_bit hn hk]; simp [this]
theorem has_with {n : Nat} {c : Int} : hasB (withN n c) c = coreB c := by
  cases h : coreB c
  · exact hasB_no h
  · obtain ⟨k, hk, rfl⟩ := core_nat h
    rw [hasB_nat hk, withN_bit hk]; simp
theorem has_without {n : Nat} {c : Int} (hn : n < 18446744073709551616) : hasB (withoutN n c) c = false := by
  cases h : coreB c
  · exact hasB_no h
  · obtain ⟨k, hk, rfl⟩ := core_nat h
    rw [hasB_nat hk, withoutN_bit hn hk]; simp
theorem with_without {n : Nat} {c : Int} (hn : n < 18446744073709551616) : withoutN (withN n c) c = withoutN n c := by
  cases h : coreB c
  · rw [withN_no h]
  · obtain ⟨k, hk, rfl⟩ := core_nat h
    apply Nat.eq_of_testBit_eq
    intro j
    rw [withoutN_bit (withN_lt _ hn) hk, withoutN_bit hn hk, withN_bit hk]
    by_cases e : k = j <;> simp [e]
theorem without_with {n : Nat} {c : Int} (hn : n < 18446744073709551616) : withN (withoutN n c) c = withN n c := by
  cases h : coreB c
  · rw [withoutN_no hn h]
  · obtain ⟨k, hk, rfl⟩ := core_nat h
    apply Nat.eq_of_testBit_eq
    intro j
    rw [withN_bit hk, withoutN_bit hn hk, withN_bit hk]
    by_cases e : k = j <;> simp [e]

end Go.Proofs.Ytbeklkgoiigccaa
