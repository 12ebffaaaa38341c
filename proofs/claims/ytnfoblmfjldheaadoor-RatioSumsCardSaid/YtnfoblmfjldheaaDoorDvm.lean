/-
  Plain facts on dividing two limbs by one, half a limb at a time: what the guess of a half keeps, where it ends, what both halves are together; what scaling by a power of 2 does. No program, no condition.
-/
import Derived.Lib.IndexMore
import Derived.Lib.BitFns
namespace Go.Dv

/-! ### one half -/
/-- what is known ahead: the divisor y1 2^32 + y0 has its highest bit, u is below it, d is a half. -/
structure Ahead (u d y1 y0 : Nat) : Prop where
  hy1 : 2147483648 ≤ y1
  hy1' : y1 < 4294967296
  hy0 : y0 < 4294967296
  hd : d < 4294967296
  hu : u < y1 * 4294967296 + y0
/-- the guess q with its rest r, never too small. -/
structure Half (u d y1 y0 q r : Nat) : Prop where
  eq : q * y1 + r = u
  lo : (u * 4294967296 + d) / (y1 * 4294967296 + y0) ≤ q

variable {u d y1 y0 q r : Nat}
theorem Ahead.pos (h : Ahead u d y1 y0) : 0 < y1 * 4294967296 + y0 := by have := h.hy1; omega
theorem Ahead.lim (h : Ahead u d y1 y0) : y1 * 4294967296 + y0 < 18446744073709551616 := by have := h.hy1'; have := h.hy0; omega
/-- the true half is one. -/
theorem Ahead.small (h : Ahead u d y1 y0) : (u * 4294967296 + d) / (y1 * 4294967296 + y0) < 4294967296 := by
  rw [Nat.div_lt_iff_lt_mul h.pos]
  have := h.hu; have := h.hd
  omega
theorem Ahead.start (h : Ahead u d y1 y0) : Half u d y1 y0 (u / y1) (u - u / y1 * y1) ∧ u - u / y1 * y1 < y1 ∧ u / y1 ≤ 4294967298 ∧ u / y1 * y1 ≤ u := by
  have h1 := h.hy1; have h2 := h.hd
  have e := Nat.div_add_mod u y1
  rw [Nat.mul_comm] at e
  have em := Nat.mod_lt u (show 0 < y1 by omega)
  refine ⟨⟨by omega, ?_⟩, by omega, ?_, by omega⟩
  · have h3 : (u * 4294967296 + d) / (y1 * 4294967296 + y0) < u / y1 + 1 := by
      rw [Nat.div_lt_iff_lt_mul h.pos, Nat.mul_add (u / y1 + 1), ← Nat.mul_assoc, Nat.add_mul (u / y1) 1 y1, Nat.one_mul]
      have h4 : (u + 1) * 4294967296 ≤ (u / y1 * y1 + y1) * 4294967296 := Nat.mul_le_mul_right _ (by omega)
      omega
    omega
  · have h3 := h.hu; have h4 := h.hy0
    have h5 : u / y1 < 4294967299 := by
      rw [Nat.div_lt_iff_lt_mul (by omega)]; omega
    omega
/-- a guess that is no half is too great. -/
theorem Half.big (h : Half u d y1 y0 q r) (a : Ahead u d y1 y0) (hq : 4294967296 ≤ q) : Half u d y1 y0 (q - 1) (r + y1) := by
  have h1 := a.small
  refine ⟨?_, by omega⟩
  have e := h.eq
  have : (q - 1) * y1 + y1 = q * y1 := by
    have : (q - 1 + 1) * y1 = q * y1 := by congr 1; omega
    rw [Nat.add_mul, Nat.one_mul] at this; exact this
  omega
/-- the product of the guess, by its rest. -/
theorem Half.prod (h : Half u d y1 y0 q r) : q * (y1 * 4294967296 + y0) + r * 4294967296 = u * 4294967296 + q * y0 := by
  have e := h.eq
  rw [Nat.mul_add, ← Nat.mul_assoc, ← e, Nat.add_mul]
  omega
theorem Half.more (h : Half u d y1 y0 q r) (a : Ahead u d y1 y0) (hq : 4294967296 * r + d < q * y0) : Half u d y1 y0 (q - 1) (r + y1) := by
  have h0 : q ≠ 0 := by rintro rfl; omega
  have hp := h.prod
  have h1 : (u * 4294967296 + d) / (y1 * 4294967296 + y0) < q := by
    rw [Nat.div_lt_iff_lt_mul a.pos]
    omega
  refine ⟨?_, by omega⟩
  have e := h.eq
  have : (q - 1) * y1 + y1 = q * y1 := by
    have : (q - 1 + 1) * y1 = q * y1 := by congr 1; omega
    rw [Nat.add_mul, Nat.one_mul] at this; exact this
  omega
/-- the test fails: it is the half. -/
theorem Half.done (h : Half u d y1 y0 q r) (a : Ahead u d y1 y0) (hq : q * y0 ≤ 4294967296 * r + d) : q = (u * 4294967296 + d) / (y1 * 4294967296 + y0) := by
  have hp := h.prod
  have h1 : q ≤ (u * 4294967296 + d) / (y1 * 4294967296 + y0) := by
    rw [Nat.le_div_iff_mul_le a.pos]
    omega
  have := h.lo
  omega
/-- the rest is no half any more: it is the half. -/
theorem Half.brk (h : Half u d y1 y0 q r) (a : Ahead u d y1 y0) (hr : 4294967296 ≤ r) : q = (u * 4294967296 + d) / (y1 * 4294967296 + y0) := by
  refine h.done a ?_
  have e := h.eq
  have h1 := a.hu; have h2 := a.hy0; have h3 := a.hy1
  have hq : q < 4294967296 := by
    apply Nat.lt_of_not_le
    intro hc
    have : 4294967296 * y1 ≤ q * y1 := Nat.mul_le_mul_right _ hc
    omega
  have h4 : q * y0 ≤ 4294967295 * 4294967295 := Nat.mul_le_mul (by omega) (by omega)
  omega
/-- what is left behind a half, and that nothing wraps. -/
theorem Ahead.rest (a : Ahead u d y1 y0) : u * 4294967296 + d - (u * 4294967296 + d) / (y1 * 4294967296 + y0) * (y1 * 4294967296 + y0) = (u * 4294967296 + d) % (y1 * 4294967296 + y0) ∧
    (u * 4294967296 + d) / (y1 * 4294967296 + y0) * (y1 * 4294967296 + y0) ≤ u * 4294967296 + d ∧ (u * 4294967296 + d) % (y1 * 4294967296 + y0) < y1 * 4294967296 + y0 := by
  have e := Nat.div_add_mod (u * 4294967296 + d) (y1 * 4294967296 + y0)
  have hm := Nat.mod_lt (u * 4294967296 + d) a.pos
  rw [Nat.mul_comm] at e
  omega

/-! ### both halves -/
theorem two_div {X d Y : Nat} (hY : 0 < Y) : (X * 4294967296 + d) / Y = X / Y * 4294967296 + (X % Y * 4294967296 + d) / Y ∧ (X * 4294967296 + d) % Y = (X % Y * 4294967296 + d) % Y := by
  have e := Nat.div_add_mod X Y
  have h : X * 4294967296 + d = Y * (X / Y * 4294967296) + (X % Y * 4294967296 + d) := by
    rw [← Nat.mul_assoc, ← Nat.add_assoc, ← Nat.add_mul, e]
  rw [h]
  constructor
  · rw [Nat.mul_add_div hY]
  · rw [Nat.mul_add_mod]

/-! ### scaling -/
theorem scale_div {N y t : Nat} (ht : 0 < t) : N * t / (y * t) = N / y ∧ N * t % (y * t) / t = N % y := by
  refine ⟨Nat.mul_div_mul_right _ _ ht, ?_⟩
  rw [Nat.mul_mod_mul_right, Nat.mul_div_cancel _ ht]
theorem bitLen_bounds : ∀ (f x : Nat), x ≠ 0 → x < 2 ^ f → 2 ^ (Lib.bitLenAux f x - 1) ≤ x ∧ x < 2 ^ Lib.bitLenAux f x ∧ 1 ≤ Lib.bitLenAux f x ∧ Lib.bitLenAux f x ≤ f
  | 0, x, h0, h => by simp at h; omega
  | f + 1, x, h0, h => by
    unfold Lib.bitLenAux
    rw [if_neg h0]
    by_cases h1 : x / 2 = 0
    · have hx : x = 1 := by omega
      subst hx
      have e : Lib.bitLenAux f 0 = 0 := by cases f <;> simp [Lib.bitLenAux]
      rw [show 1 / 2 = 0 from rfl, e]
      simp
    · have hlt : x / 2 < 2 ^ f := by rw [Nat.pow_succ] at h; omega
      obtain ⟨a, b, c, d⟩ := bitLen_bounds f (x / 2) h1 hlt
      generalize Lib.bitLenAux f (x / 2) = k at *
      refine ⟨?_, ?_, by omega, by omega⟩
      · rw [show 1 + k - 1 = (k - 1) + 1 by omega, Nat.pow_succ]; omega
      · rw [Nat.add_comm 1 k, Nat.pow_succ]; omega
/-- scaled so, the highest bit is 1. -/
theorem scale_high {y s : Nat} (h0 : y ≠ 0) (hy : y < 18446744073709551616) (hs : s + Lib.bitLen y = 64) : 9223372036854775808 ≤ y * 2 ^ s ∧ y * 2 ^ s < 18446744073709551616 ∧ s ≤ 63 := by
  obtain ⟨a, b, c, d⟩ := bitLen_bounds 64 y h0 hy
  unfold Lib.bitLen at hs
  generalize Lib.bitLenAux 64 y = k at *
  refine ⟨?_, ?_, by omega⟩
  · have h1 : 2 ^ (k - 1) * 2 ^ s ≤ y * 2 ^ s := Nat.mul_le_mul_right _ a
    rw [← Nat.pow_add, show k - 1 + s = 63 by omega] at h1
    exact h1
  · have h1 : y * 2 ^ s < 2 ^ k * 2 ^ s := Nat.mul_lt_mul_of_pos_right b (Nat.pow_pos (by omega))
    rw [← Nat.pow_add, show k + s = 64 by omega] at h1
    exact h1
theorem bitLen_le {y : Nat} (hy : y < 18446744073709551616) : Lib.bitLen y ≤ 64 := by
  by_cases h0 : y = 0
  · subst h0; decide
  · exact (bitLen_bounds 64 y h0 hy).2.2.2
/-- two limbs, scaled. -/
theorem scale_two {hi lo s : Nat} (hs : s ≤ 64) :
    (hi * 18446744073709551616 + lo) * 2 ^ s = (hi * 2 ^ s + lo / 2 ^ (64 - s)) * 18446744073709551616 + lo * 2 ^ s % 18446744073709551616 := by
  have e1 : lo * 2 ^ s / 18446744073709551616 = lo / 2 ^ (64 - s) := by
    rw [show 18446744073709551616 = 2 ^ (64 - s) * 2 ^ s by rw [← Nat.pow_add, show 64 - s + s = 64 by omega], Nat.mul_div_mul_right _ _ (Nat.pow_pos (by omega))]
  have e2 := Nat.div_add_mod (lo * 2 ^ s) 18446744073709551616
  rw [e1] at e2
  rw [Nat.add_mul, Nat.add_mul, Nat.mul_right_comm hi, Nat.add_assoc, Nat.mul_comm (lo / 2 ^ (64 - s)), e2]
theorem scale_or {hi lo s : Nat} (hs : s ≤ 64) (hlo : lo < 18446744073709551616) : hi * 2 ^ s ||| lo / 2 ^ (64 - s) = hi * 2 ^ s + lo / 2 ^ (64 - s) := by
  have h : lo / 2 ^ (64 - s) < 2 ^ s := by
    rw [Nat.div_lt_iff_lt_mul (Nat.pow_pos (by omega)), ← Nat.pow_add, show s + (64 - s) = 64 by omega]
    exact hlo
  rw [Nat.mul_comm hi, Nat.two_pow_add_eq_or_of_lt h]
end Go.Dv
