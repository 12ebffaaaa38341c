/-
  Plain facts on fractions in lowest terms. No program, no condition.
-/
import Derived.Test.YtnfoblmfjldheaaDoorQh
namespace Go.Proofs.YtnfoblmfjldheaaDoor
open Go.RowKit Go.Dig Go.Shelf Go.Proofs

theorem gcd_ne (m : Nat) {n : Nat} (h : n ≠ 0) : Nat.gcd m n ≠ 0 := fun e => h (Nat.eq_zero_of_gcd_eq_zero_right e)
theorem low_ne (m : Nat) {n : Nat} (h : n ≠ 0) : n / Nat.gcd m n ≠ 0 := by
  have hp : 0 < Nat.gcd m n := Nat.pos_of_ne_zero (gcd_ne m h)
  have h1 : Nat.gcd m n ≤ n := gcd_le_r m h
  have := Nat.div_pos h1 hp
  omega
theorem low_gcd (m : Nat) {n : Nat} (h : n ≠ 0) : Nat.gcd (m / Nat.gcd m n) (n / Nat.gcd m n) = 1 := by
  have hp : 0 < Nat.gcd m n := Nat.pos_of_ne_zero (gcd_ne m h)
  rw [Nat.gcd_div (Nat.gcd_dvd_left m n) (Nat.gcd_dvd_right m n)]
  exact Nat.div_self hp
theorem low_good (m : Nat) {n : Nat} (h : n ≠ 0) : true = decide (Nat.gcd (m / Nat.gcd m n) (n / Nat.gcd m n) = 1) := by simp [low_gcd m h]
/-- a fraction in lowest terms is the fraction. -/
theorem low_cross (m n : Nat) : (m / Nat.gcd m n) * n = m * (n / Nat.gcd m n) := by
  obtain ⟨c, hc⟩ := Nat.gcd_dvd_left m n
  obtain ⟨d, hd⟩ := Nat.gcd_dvd_right m n
  by_cases h0 : Nat.gcd m n = 0
  · have h1 := Nat.eq_zero_of_gcd_eq_zero_left h0
    have h2 := Nat.eq_zero_of_gcd_eq_zero_right h0
    rw [h1, h2]; simp
  · have hp := Nat.pos_of_ne_zero h0
    generalize Nat.gcd m n = g at *
    subst hc hd
    rw [Nat.mul_div_cancel_left _ hp, Nat.mul_div_cancel_left _ hp, Nat.mul_comm c, Nat.mul_assoc, Nat.mul_assoc, Nat.mul_comm d c]
theorem mul_ne {m n : Nat} (h1 : m ≠ 0) (h2 : n ≠ 0) : m * n ≠ 0 := Nat.mul_ne_zero h1 h2
theorem cancel {a b m : Nat} (h : m ≠ 0) (e : a * m = b * m) : a = b := Nat.eq_of_mul_eq_mul_right (Nat.pos_of_ne_zero h) e
/-- one in lowest terms stays. -/
theorem low_self {x y : Nat} (h : Nat.gcd x y = 1) : x / Nat.gcd x y = x ∧ y / Nat.gcd x y = y := by rw [h]; simp
/-! ### added, and taken away -/
section
variable {x y u v N M p q : Nat}
theorem back_le (hM : M = y * v) (hN : N = x * v + u * y) (h : p * M = N * q) (hy : y ≠ 0) (hv : v ≠ 0) : u * q ≤ p * v := by
  have hm : 0 < M := by rw [hM]; exact Nat.pos_of_ne_zero (mul_ne hy hv)
  refine Nat.le_of_mul_le_mul_right (c := M) ?_ hm
  have e1 : p * v * M = (p * M) * v := by rw [Nat.mul_assoc, Nat.mul_comm v M, ← Nat.mul_assoc]
  have e2 : u * q * M = (u * y * v) * q := by rw [hM, Nat.mul_assoc, Nat.mul_comm q, ← Nat.mul_assoc, Nat.mul_assoc u y v]
  rw [e1, e2, h, hN, show u * y * v * q = u * y * q * v by rw [Nat.mul_assoc, Nat.mul_comm v q, ← Nat.mul_assoc]]
  exact Nat.mul_le_mul_right _ (Nat.mul_le_mul_right _ (Nat.le_add_left _ _))
theorem back_sub (hM : M = y * v) (hN : N = x * v + u * y) (h : p * M = N * q) (hy : y ≠ 0) (hv : v ≠ 0) : (p * v - u * q) * y = x * (q * v) := by
  have hm : M ≠ 0 := by rw [hM]; exact mul_ne hy hv
  refine cancel hm ?_
  have e1 : p * v * M = N * q * v := by rw [Nat.mul_assoc, Nat.mul_comm v M, ← Nat.mul_assoc, h]
  have e2 : (p * v - u * q) * M = x * v * q * v := by
    rw [Nat.sub_mul, e1, hN, hM]
    have e3 : (x * v + u * y) * q * v = x * v * q * v + u * q * (y * v) := by
      rw [Nat.add_mul, Nat.add_mul]
      congr 1
      rw [Nat.mul_assoc u y q, Nat.mul_comm y q, ← Nat.mul_assoc, Nat.mul_assoc]
    rw [e3, Nat.add_sub_cancel]
  calc (p * v - u * q) * y * M = (p * v - u * q) * M * y := by rw [Nat.mul_assoc, Nat.mul_comm y M, ← Nat.mul_assoc]
    _ = x * v * q * v * y := by rw [e2]
    _ = x * (q * v) * M := by
      rw [hM]
      simp only [Nat.mul_comm, Nat.mul_left_comm]
/-- two fractions that are one are one in lowest terms. -/
theorem same_cross {m n : Nat} (hn : n ≠ 0) (e : m * y = x * n) : (m / Nat.gcd m n) * y = x * (n / Nat.gcd m n) := by
  refine cancel hn ?_
  have h := low_cross m n
  calc (m / Nat.gcd m n) * y * n = (m / Nat.gcd m n) * n * y := by rw [Nat.mul_assoc, Nat.mul_comm y n, ← Nat.mul_assoc]
    _ = m * (n / Nat.gcd m n) * y := by rw [h]
    _ = m * y * (n / Nat.gcd m n) := by rw [Nat.mul_assoc, Nat.mul_comm (n / _) y, ← Nat.mul_assoc]
    _ = x * n * (n / Nat.gcd m n) := by rw [e]
    _ = x * (n / Nat.gcd m n) * n := by rw [Nat.mul_assoc, Nat.mul_comm n, ← Nat.mul_assoc]
theorem back_mul (h : p * (y * v) = x * u * q) : (p * v) * y = x * (u * q) := by
  have e : p * (y * v) = (p * v) * y := by rw [Nat.mul_comm y v, ← Nat.mul_assoc]
  rw [← e, h, Nat.mul_assoc]
end
/-- the floor isn't above. -/
theorem floor_low (x y : Nat) : cmpZ ((x / y) / Nat.gcd (x / y) 1 * y) (x * (1 / Nat.gcd (x / y) 1)) ≤ 0 := by
  rw [Nat.gcd_one_right, Nat.div_one, Nat.div_one, Nat.mul_one]
  exact cmpZ_le (Nat.div_mul_le_self x y)
theorem floor_high {x y : Nat} (hy : y ≠ 0) (m n : Nat) (hm : m = (x / y) / Nat.gcd (x / y) 1) (hn : n = 1 / Nat.gcd (x / y) 1) :
    cmpZ (x * ((n * 1) / Nat.gcd ((m * 1) + (1 * n)) (n * 1))) (((m * 1) + (1 * n)) / Nat.gcd ((m * 1) + (1 * n)) (n * 1) * y) = -1 := by
  rw [Nat.gcd_one_right, Nat.div_one] at hm
  rw [Nat.gcd_one_right] at hn
  subst hm hn
  rw [show 1 / 1 * 1 = 1 by decide, Nat.gcd_one_right, Nat.div_one, Nat.div_one, Nat.mul_one, Nat.mul_one]
  refine cmpZ_lt ?_
  have h1 := Nat.div_add_mod x y
  have h2 := Nat.mod_lt x (Nat.pos_of_ne_zero hy)
  rw [Nat.add_mul, Nat.one_mul, Nat.mul_comm (x / y) y]
  omega
theorem cmp_eq {m n : Nat} (h : m = n) : cmpZ m n = 0 := by rw [h]; exact cmpZ_eq n
end Go.Proofs.YtnfoblmfjldheaaDoor
