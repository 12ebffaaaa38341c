/-
  The contracts of nat and of the document once more, over naturals: limbs and digits are those of a number. Condition: not more than a thousand limbs.
-/
import Derived.Test.YtphllajedkpcbaaGreatDoorLa
import Derived.Test.YtphllajedkpcbaaGreatDoorNh
namespace Go.Proofs.YtphllajedkpcbaaGreatDoor
open Go.RowKit Go.Dig Go.Shelf Go.Proofs

/-! ### lengths -/
theorem len_add (a b : Nat) : (L (a + b)).length ≤ (L a).length + (L b).length + 1 := by
  rw [dig_len (by omega)]
  have h1 : a < 18446744073709551616 ^ (L a).length := dig_lt (B := 18446744073709551616) (by omega) a
  have h2 : b < 18446744073709551616 ^ (L b).length := dig_lt (B := 18446744073709551616) (by omega) b
  have h3 : 18446744073709551616 ^ (L a).length ≤ 18446744073709551616 ^ ((L a).length + (L b).length) := Nat.pow_le_pow_right (by omega) (by omega)
  have h4 : 18446744073709551616 ^ (L b).length ≤ 18446744073709551616 ^ ((L a).length + (L b).length) := Nat.pow_le_pow_right (by omega) (by omega)
  rw [Nat.pow_succ]
  omega
theorem len_mul (a b : Nat) : (L (a * b)).length ≤ (L a).length + (L b).length := by
  rw [dig_len (by omega), Nat.pow_add]
  have h1 : a < 18446744073709551616 ^ (L a).length := dig_lt (B := 18446744073709551616) (by omega) a
  have h2 : b < 18446744073709551616 ^ (L b).length := dig_lt (B := 18446744073709551616) (by omega) b
  exact Nat.mul_lt_mul'' h1 h2
theorem len_mono {a b : Nat} (h : a ≤ b) : (L a).length ≤ (L b).length := dig_mono (by omega) h
theorem len_D (a : Nat) : (D a).length ≤ 5 * (L a).length := by
  have h := D_len (small_L a)
  rw [V_L] at h
  exact h
theorem nat_of_good {l : List Nat} (h : goodB l = true) (s : SmallU l) : ∃ a, l = L a := ⟨V l, L_of_good h s⟩

/-! ### contracts -/
section
variable (v1 v2 : Value) (a b : Nat) (w : World)
theorem add_nat (h1 : RowU w v1 (L a)) (h2 : RowU w v2 (L b)) (l1 : (L a).length ≤ 1000) (l2 : (L b).length ≤ 1000) :
    Calls Tryz.prog 32 #[v1, v2] w fun e w' => ∃ v, e = .returned v ∧ RowU w' v (L (a + b)) ∧ Below w.heap.size w w' := by
  have h := nAdd_any v1 v2 (L a) (L b) w h1 h2 (small_L a) (small_L b) (by omega) (by omega)
  rw [V_L, V_L] at h
  exact h
theorem mul_nat (h1 : RowU w v1 (L a)) (h2 : RowU w v2 (L b)) (l1 : (L a).length ≤ 1000) (l2 : (L b).length ≤ 1000) :
    Calls Tryz.prog 33 #[v1, v2] w fun e w' => ∃ v, e = .returned v ∧ RowU w' v (L (a * b)) ∧ Below w.heap.size w w' := by
  have h := nMul_any v1 v2 (L a) (L b) w h1 h2 (small_L a) (small_L b) (by omega) (by omega)
  rw [V_L, V_L] at h
  exact h
theorem cmp_nat (h1 : RowU w v1 (L a)) (h2 : RowU w v2 (L b)) (l1 : (L a).length ≤ 1000) (l2 : (L b).length ≤ 1000) :
    Calls Tryz.prog 34 #[v1, v2] w fun e w' => e = .returned (.int .i64 (cmpZ a b)) ∧ Below w.heap.size w w' := by
  have h := nCmp_any v1 v2 (L a) (L b) w h1 h2 (small_L a) (small_L b) (by omega) (by omega)
  rw [V_L, V_L] at h
  exact h
theorem cmp_same (h1 : RowU w v1 (L a)) (h2 : RowU w v2 (L b)) (l1 : (L a).length ≤ 1000) (hab : a = b) :
    Calls Tryz.prog 34 #[v1, v2] w fun e w' => e = .returned (.int .i64 0) ∧ Below w.heap.size w w' := by
  subst hab
  have h := cmp_nat v1 v2 a a w h1 h2 l1 l1
  rw [cmpZ_eq] at h
  exact h
theorem sub_nat (h1 : RowU w v1 (L a)) (h2 : RowU w v2 (L b)) (l1 : (L a).length ≤ 1000) (hab : b ≤ a) :
    Calls Tryz.prog 85 #[v1, v2] w fun e w' => ∃ v, e = .returned (.tuple #[v, .int .i64 0]) ∧ RowU w' v (L (a - b)) ∧ Below w.heap.size w w' := nSub_any v1 v2 a b w h1 h2 (by omega) hab
theorem limbs_nat (h1 : RowU w v1 (L a)) (l1 : (L a).length ≤ 1000) :
    Calls Tryz.prog 64 #[v1] w fun e w' => ∃ v', e = .returned v' ∧ Row w' v' (D a) ∧ Below w.heap.size w w' := by
  have h := Limbs_any v1 (L a) w h1 (small_L a) l1
  rw [V_L] at h
  exact h
theorem rmul_nat (h1 : Row w v1 (D a)) (h2 : Row w v2 (D b)) (l1 : (L a).length ≤ 1000) (l2 : (L b).length ≤ 1000) :
    Calls Tryz.prog 71 #[v1, v2] w fun e w' => ∃ v, e = .returned v ∧ Row w' v (D (a * b)) ∧ Below w.heap.size w w' := Mul_any v1 v2 a b w h1 h2 (by have := len_D a; omega) (by have := len_D b; omega)
theorem radd_nat (h1 : Row w v1 (D a)) (h2 : Row w v2 (D b)) (l1 : (L a).length ≤ 1000) (l2 : (L b).length ≤ 1000) :
    Calls Tryz.prog 73 #[v1, v2] w fun e w' => ∃ v, e = .returned v ∧ Row w' v (D (a + b)) ∧ Below w.heap.size w w' := Add_any v1 v2 a b w h1 h2 (by have := len_D a; omega) (by have := len_D b; omega)
end
end Go.Proofs.YtphllajedkpcbaaGreatDoor
