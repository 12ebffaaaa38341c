/-
  Plain facts on naturals below 2^64 taken as sets of bits, for the walks of package mask. No condition.
-/
import Derived.Laws.BitsAllLaws
namespace Go.Proofs.Ytbeklkgoiigccaa

/-- is a number a core? -/
def coreB (c : Int) : Bool := decide (0 ≤ c) && decide (c < 64)
/-- the set of one core, empty of what is none. -/
def onlyN (c : Int) : Nat := if coreB c then 2 ^ c.toNat else 0

/-- the five questions and answers of a set, on naturals. -/
def hasB (n : Nat) (c : Int) : Bool := (n &&& onlyN c) != 0
def withN (n : Nat) (c : Int) : Nat := n ||| onlyN c
def withoutN (n : Nat) (c : Int) : Nat := n &&& (18446744073709551615 - onlyN c)
def inB (n m : Nat) : Bool := (n &&& (18446744073709551615 - m)) == 0
def meetsB (n m : Nat) : Bool := (n &&& m) != 0

theorem coreB_yes {c : Int} (h0 : 0 ≤ c) (h1 : c < 64) : coreB c = true := by simp [coreB, h0, h1]
theorem coreB_neg {c : Int} (h : c < 0) : coreB c = false := by
  have : ¬ 0 ≤ c := by omega
  simp [coreB, this]
theorem coreB_big {c : Int} (h : 64 ≤ c) : coreB c = false := by
  have : ¬ c < 64 := by omega
  simp [coreB, this]
theorem coreB_true {c : Int} (h : coreB c = true) : 0 ≤ c ∧ c < 64 := by simpa [coreB] using h
theorem onlyN_yes {c : Int} (h : coreB c = true) : onlyN c = 2 ^ c.toNat := by simp [onlyN, h]
theorem onlyN_no {c : Int} (h : coreB c = false) : onlyN c = 0 := by simp [onlyN, h]
theorem pow_lt64 {k : Nat} (h : k < 64) : 2 ^ k < 18446744073709551616 := by
  have : 2 ^ k < 2 ^ 64 := Nat.pow_lt_pow_right (by omega) h
  simpa using this
theorem onlyN_lt (c : Int) : onlyN c < 18446744073709551616 := by
  unfold onlyN
  split
  · rename_i h
    have := coreB_true h
    exact pow_lt64 (by omega)
  · omega

theorem pow_emod {k : Nat} (h : k < 64) : ((2 : Int) ^ k) % 18446744073709551616 = ((2 ^ k : Nat) : Int) := by
  have h1 := pow_lt64 h
  have h2 : ((2 ^ k : Nat) : Int) = (2 : Int) ^ k := Int.natCast_pow 2 k
  rw [← h2]
  generalize 2 ^ k = m at h1 ⊢
  omega
theorem withN_lt {n : Nat} (c : Int) (hn : n < 18446744073709551616) : withN n c < 18446744073709551616 := by
  have h := onlyN_lt c
  have : n ||| onlyN c < 2 ^ 64 := Nat.or_lt_two_pow (by omega) (by omega)
  unfold withN
  omega
theorem withoutN_le (n : Nat) (c : Int) : withoutN n c ≤ n := Nat.and_le_left
theorem has_eq (n : Nat) (c : Int) (hn : n < 18446744073709551616) : (bits .and .u64 (n : Int) (onlyN c : Nat) != 0) = hasB n c := by
  rw [u64_and_nat _ _ hn (onlyN_lt c)]; unfold hasB; rw [Bool.eq_iff_iff]; simp only [bne_iff_ne, ne_eq]; omega
theorem with_eq (n : Nat) (c : Int) (hn : n < 18446744073709551616) : bits .or .u64 (n : Int) (onlyN c : Nat) = (withN n c : Nat) := u64_or_nat _ _ hn (onlyN_lt c)
theorem without_eq (n : Nat) (c : Int) (hn : n < 18446744073709551616) : bits .andNot .u64 (n : Int) (onlyN c : Nat) = (withoutN n c : Nat) := u64_andNot_nat _ _ hn (onlyN_lt c)
theorem in_eq (n m : Nat) (hn : n < 18446744073709551616) (hm : m < 18446744073709551616) : (bits .andNot .u64 (n : Int) (m : Int) == 0) = inB n m := by
  rw [u64_andNot_nat _ _ hn hm]; unfold inB; rw [Bool.eq_iff_iff]; simp only [beq_iff_eq]; omega
theorem meets_eq (n m : Nat) (hn : n < 18446744073709551616) (hm : m < 18446744073709551616) : (bits .and .u64 (n : Int) (m : Int) != 0) = meetsB n m := by
  rw [u64_and_nat _ _ hn hm]; unfold meetsB; rw [Bool.eq_iff_iff]; simp only [bne_iff_ne, ne_eq]; omega

end Go.Proofs.Ytbeklkgoiigccaa
