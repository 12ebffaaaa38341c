/-
  The arithmetic behind math/bits.OnesCount64: how many bits of a number are 1, by pairs, fours, bytes, and the bytes' sum. No condition.
-/
import Derived.Laws.BitsAllLaws
import Derived.WalkKit
namespace Go.Proofs.Ytbeklkgoiigccaa

/-- how many of the lowest k bits are 1. -/
def popN : Nat → Nat → Nat
  | 0, _ => 0
  | k + 1, n => n % 2 + popN k (n / 2)
theorem popN_le : ∀ (k n : Nat), popN k n ≤ k
  | 0, _ => Nat.le_refl 0
  | k + 1, n => by
    have := popN_le k (n / 2)
    unfold popN
    omega
theorem popN_add : ∀ (a b n : Nat), popN (a + b) n = popN a n + popN b (n / 2 ^ a)
  | 0, b, n => by simp [popN]
  | a + 1, b, n => by
    rw [show a + 1 + b = (a + b) + 1 by omega, popN, popN, popN_add a b, Nat.div_div_eq_div_mul, Nat.pow_succ, Nat.mul_comm 2]
    omega
theorem popN_filter : ∀ (k n : Nat), ((List.range k).filter n.testBit).length = popN k n
  | 0, _ => rfl
  | k + 1, n => by
    rw [List.range_succ_eq_map, List.filter_cons, popN, ← popN_filter k (n / 2)]
    have h : ((List.range k).map Nat.succ).filter n.testBit = ((List.range k).filter (n / 2).testBit).map Nat.succ := by
      rw [List.filter_map]
      congr 1
      apply List.filter_congr
      intro i _
      simp [Nat.testBit_succ]
    rw [h, Nat.testBit_zero]
    by_cases h1 : n % 2 = 1
    · simp [h1]; omega
    · have h2 : n % 2 = 0 := by omega
      simp [h2]

theorem and_pow (k n b m : Nat) (hb : b < 2 ^ k) : n &&& (2 ^ k * m + b) = 2 ^ k * (n / 2 ^ k &&& m) + (n % 2 ^ k &&& b) := by
  have hlt : n % 2 ^ k &&& b < 2 ^ k := Nat.and_lt_two_pow _ hb
  apply Nat.eq_of_testBit_eq
  intro j
  rw [Nat.testBit_and, Nat.testBit_two_pow_mul_add _ hb, Nat.testBit_two_pow_mul_add _ hlt, Nat.testBit_and, Nat.testBit_and, Nat.testBit_mod_two_pow, Nat.testBit_div_two_pow]
  by_cases h : j < k
  · simp [h]
  · simp only [h, if_false]
    rw [show j - k + k = j by omega]
theorem and_4 (n m : Nat) : n &&& (1 + 4 * m) = n % 2 + 4 * (n / 4 &&& m) := by
  have h := and_pow 2 n 1 m (by omega)
  have h2 : n % 2 ^ 2 &&& 1 = n % 2 := by rw [show (1 : Nat) = 2 ^ 1 - 1 by rfl, Nat.and_two_pow_sub_one_eq_mod]; omega
  rw [h2] at h
  rw [Nat.add_comm 1, Nat.add_comm (n % 2)]; exact h
theorem and_16 (n m : Nat) : n &&& (3 + 16 * m) = n % 4 + 16 * (n / 16 &&& m) := by
  have h := and_pow 4 n 3 m (by omega)
  have h2 : n % 2 ^ 4 &&& 3 = n % 4 := by rw [show (3 : Nat) = 2 ^ 2 - 1 by rfl, Nat.and_two_pow_sub_one_eq_mod]; omega
  rw [h2] at h
  rw [Nat.add_comm 3, Nat.add_comm (n % 4)]; exact h
theorem and_256 (n m : Nat) : n &&& (15 + 256 * m) = n % 16 + 256 * (n / 256 &&& m) := by
  have h := and_pow 8 n 15 m (by omega)
  have h2 : n % 2 ^ 8 &&& 15 = n % 16 := by rw [show (15 : Nat) = 2 ^ 4 - 1 by rfl, Nat.and_two_pow_sub_one_eq_mod]; omega
  rw [h2] at h
  rw [Nat.add_comm 15, Nat.add_comm (n % 16)]; exact h

def m1 : Nat → Nat
  | 0 => 0
  | k + 1 => 1 + 4 * m1 k
def m2 : Nat → Nat
  | 0 => 0
  | k + 1 => 3 + 16 * m2 k
def m3 : Nat → Nat
  | 0 => 0
  | k + 1 => 15 + 256 * m3 k
/-- pairs, fours, bytes. -/
def f1 : Nat → Nat → Nat
  | 0, _ => 0
  | k + 1, n => popN 2 n + 4 * f1 k (n / 4)
def f2 : Nat → Nat → Nat
  | 0, _ => 0
  | k + 1, n => popN 4 n + 16 * f2 k (n / 16)
def f3 : Nat → Nat → Nat
  | 0, _ => 0
  | k + 1, n => popN 8 n + 256 * f3 k (n / 256)

theorem pop2 (n : Nat) : popN 2 n = n % 2 + n / 2 % 2 := by simp [popN]
theorem L1 : ∀ (k n : Nat), (n / 2 &&& m1 k) + (n &&& m1 k) = f1 k n
  | 0, n => by simp [m1, f1]
  | k + 1, n => by
    rw [m1, f1, and_4, and_4, ← L1 k (n / 4), pop2, show n / 2 / 4 = n / 4 / 2 by omega]
    omega
theorem L2 : ∀ (k n : Nat), (f1 (2 * k) n / 4 &&& m2 k) + (f1 (2 * k) n &&& m2 k) = f2 k n
  | 0, n => by simp [m2, f2]
  | k + 1, n => by
    have h1 := popN_le 2 n
    have h2 := popN_le 2 (n / 4)
    have h4 : popN 4 n = popN 2 n + popN 2 (n / 4) := popN_add 2 2 n
    have e : f1 (2 * (k + 1)) n = popN 2 n + 4 * (popN 2 (n / 4) + 4 * f1 (2 * k) (n / 16)) := by
      rw [show 2 * (k + 1) = 2 * k + 1 + 1 by omega, f1, f1, show n / 4 / 4 = n / 16 by omega]
    rw [m2, f2, and_16, and_16, ← L2 k (n / 16), h4, e]
    generalize f1 (2 * k) (n / 16) = X at *
    generalize popN 2 n = a at *
    generalize popN 2 (n / 4) = b at *
    rw [show (a + 4 * (b + 4 * X)) / 4 % 4 = b by omega, show (a + 4 * (b + 4 * X)) / 4 / 16 = X / 4 by omega, show (a + 4 * (b + 4 * X)) % 4 = a by omega, show (a + 4 * (b + 4 * X)) / 16 = X by omega]
    omega
theorem f2_low : ∀ (k n : Nat), f2 k n % 16 ≤ 4
  | 0, _ => by simp [f2]
  | k + 1, n => by
    have := popN_le 4 n
    rw [f2]
    omega
theorem L3 : ∀ (k n : Nat), (f2 (2 * k) n / 16 + f2 (2 * k) n) &&& m3 k = f3 k n
  | 0, n => by simp [m3, f3]
  | k + 1, n => by
    have h1 := popN_le 4 n
    have h2 := popN_le 4 (n / 16)
    have h4 : popN 8 n = popN 4 n + popN 4 (n / 16) := popN_add 4 4 n
    have e : f2 (2 * (k + 1)) n = popN 4 n + 16 * (popN 4 (n / 16) + 16 * f2 (2 * k) (n / 256)) := by
      rw [show 2 * (k + 1) = 2 * k + 1 + 1 by omega, f2, f2, show n / 16 / 16 = n / 256 by omega]
    have hl := f2_low (2 * k) (n / 256)
    rw [m3, f3, and_256, ← L3 k (n / 256), h4, e]
    generalize f2 (2 * k) (n / 256) = X at *
    generalize popN 4 n = a at *
    generalize popN 4 (n / 16) = b at *
    rw [show ((a + 16 * (b + 16 * X)) / 16 + (a + 16 * (b + 16 * X))) % 16 = a + b by omega, show ((a + 16 * (b + 16 * X)) / 16 + (a + 16 * (b + 16 * X))) / 256 = X / 16 + X by omega]
/-- the bytes' sum. -/
theorem f3_sum (n : Nat) : ∃ c0 c1 c2 c3 c4 c5 c6 c7 : Nat, c0 ≤ 8 ∧ c1 ≤ 8 ∧ c2 ≤ 8 ∧ c3 ≤ 8 ∧ c4 ≤ 8 ∧ c5 ≤ 8 ∧ c6 ≤ 8 ∧ c7 ≤ 8 ∧
    f3 8 n = c0 + 256 * (c1 + 256 * (c2 + 256 * (c3 + 256 * (c4 + 256 * (c5 + 256 * (c6 + 256 * c7)))))) ∧ popN 64 n = c0 + c1 + c2 + c3 + c4 + c5 + c6 + c7 := by
  refine ⟨popN 8 n, popN 8 (n / 256), popN 8 (n / 256 / 256), popN 8 (n / 256 / 256 / 256), popN 8 (n / 256 / 256 / 256 / 256), popN 8 (n / 256 / 256 / 256 / 256 / 256), popN 8 (n / 256 / 256 / 256 / 256 / 256 / 256), popN 8 (n / 256 / 256 / 256 / 256 / 256 / 256 / 256), popN_le _ _, popN_le _ _, popN_le _ _, popN_le _ _, popN_le _ _, popN_le _ _, popN_le _ _, popN_le _ _, ?_, ?_⟩
  · simp only [f3]; omega
  · rw [show 64 = 8 + (8 + (8 + (8 + (8 + (8 + (8 + 8)))))) by omega, popN_add 8, popN_add 8, popN_add 8, popN_add 8, popN_add 8, popN_add 8, popN_add 8]
    simp only [show 2 ^ 8 = 256 by omega]
    omega
end Go.Proofs.Ytbeklkgoiigccaa
