/-
  Plain facts on the cores of a set: its bits rising, the runs, the text. No condition.
-/
import Derived.Test.YtbeklkgoiigccaaMath
import Derived.Lib.TrailingZeros
import Derived.Lib.ItoaNum
import Derived.Lib.Join
namespace Go.Proofs.Ytbeklkgoiigccaa

theorem onlyN_nat {c : Nat} (h : c < 64) : onlyN (c : Int) = 2 ^ c := by
  rw [onlyN_yes (coreB_yes (by omega) (by omega))]; rfl
theorem bit_far {n j : Nat} (hn : n < 18446744073709551616) (hj : 64 ≤ j) : n.testBit j = false := by
  apply Nat.testBit_lt_two_pow
  have : 2 ^ 64 ≤ 2 ^ j := Nat.pow_le_pow_right (by omega) hj
  omega
theorem hasB_nat {n c : Nat} (h : c < 64) : hasB n (c : Int) = n.testBit c := by
  unfold hasB
  rw [onlyN_nat h, Bool.eq_iff_iff, bne_iff_ne]
  constructor
  · intro hne
    cases hb : n.testBit c with
    | true => rfl
    | false =>
      exfalso
      apply hne
      apply Nat.eq_of_testBit_eq
      intro j
      rw [Nat.testBit_and, Nat.testBit_two_pow, Nat.zero_testBit]
      by_cases hj : c = j
      · subst hj; simp [hb]
      · simp [hj]
  · intro hb he
    have h1 : (n &&& 2 ^ c).testBit c = true := by rw [Nat.testBit_and, Nat.testBit_two_pow]; simp [hb]
    rw [he, Nat.zero_testBit] at h1
    cases h1
theorem hasB_no {n : Nat} {c : Int} (h : coreB c = false) : hasB n c = false := by
  unfold hasB; rw [onlyN_no h]; simp
theorem hasB_any {n : Nat} (hn : n < 18446744073709551616) (c : Nat) : hasB n (c : Int) = n.testBit c := by
  by_cases h : c < 64
  · exact hasB_nat h
  · rw [hasB_no (coreB_big (by omega)), bit_far hn (by omega)]
theorem withN_bit {n c : Nat} (h : c < 64) (j : Nat) : (withN n (c : Int)).testBit j = (n.testBit j || decide (c = j)) := by
  unfold withN; rw [onlyN_nat h, Nat.testBit_or, Nat.testBit_two_pow]
theorem withoutN_bit {n c : Nat} (hn : n < 18446744073709551616) (h : c < 64) (j : Nat) : (withoutN n (c : Int)).testBit j = (n.testBit j && !decide (c = j)) := by
  unfold withoutN
  rw [onlyN_nat h, Nat.testBit_and]
  have hp : 2 ^ c < 2 ^ 64 := Nat.pow_lt_pow_right (by omega) h
  rw [show 18446744073709551615 - 2 ^ c = 2 ^ 64 - (2 ^ c + 1) by omega, Nat.testBit_two_pow_sub_succ hp, Nat.testBit_two_pow]
  by_cases hj : j < 64
  · simp [hj]
  · rw [bit_far hn (by omega)]; simp
theorem withN_no {n : Nat} {c : Int} (h : coreB c = false) : withN n c = n := by unfold withN; rw [onlyN_no h]; simp
theorem withoutN_no {n : Nat} {c : Int} (hn : n < 18446744073709551616) (h : coreB c = false) : withoutN n c = n := by
  unfold withoutN; rw [onlyN_no h]
  rw [show 18446744073709551615 - 0 = 2 ^ 64 - 1 by omega, Nat.and_two_pow_sub_one_eq_mod]
  omega

/-- the cores of a set, rising. -/
def coresOf (n : Nat) : List Nat := (List.range 64).filter n.testBit

theorem filter_first (p q : Nat → Bool) (k m : Nat) (hk : k < m) (hp : p k = true) (hlow : ∀ j, j < k → p j = false) (hq : ∀ j, q j = (p j && !decide (k = j))) :
    (List.range m).filter p = k :: (List.range m).filter q := by
  obtain ⟨d, rfl⟩ : ∃ d, m = k + (d + 1) := ⟨m - k - 1, by omega⟩
  rw [List.range_add, List.filter_append, List.filter_append]
  have h1 : (List.range k).filter p = [] := by
    rw [List.filter_eq_nil_iff]; intro j hj; rw [hlow j (by simpa using hj)]; simp
  have h2 : (List.range k).filter q = [] := by
    rw [List.filter_eq_nil_iff]; intro j hj; rw [hq, hlow j (by simpa using hj)]; simp
  rw [h1, h2, List.nil_append, List.nil_append, List.range_succ_eq_map, List.map_cons, List.filter_cons, List.filter_cons]
  have h3 : q (k + 0) = false := by rw [hq]; simp
  rw [h3, show p (k + 0) = true from hp]
  simp only [if_true, Bool.false_eq_true, if_false, Nat.add_zero]
  congr 1
  apply List.filter_congr
  intro j hj
  rw [hq]
  simp only [List.mem_map] at hj
  obtain ⟨a, ⟨b, _, rfl⟩, rfl⟩ := hj
  simp

theorem ctz_facts {n : Nat} (h0 : n ≠ 0) (hn : n < 18446744073709551616) :
    Lib.ctz 64 n < 64 ∧ n.testBit (Lib.ctz 64 n) = true ∧ ∀ j, j < Lib.ctz 64 n → n.testBit j = false := by
  obtain ⟨m, hm, hk⟩ := Lib.ctzFrom_spec 64 n (by omega) (by omega)
  have e : Lib.ctz 64 n = Lib.ctzFrom 64 n := by unfold Lib.ctz; simp [h0]
  rw [e]
  generalize Lib.ctzFrom 64 n = k at *
  refine ⟨hk, ?_, ?_⟩
  · rw [hm, Nat.mul_comm, Nat.testBit_mul_two_pow]; simp [Nat.testBit_zero]
  · intro j hj; rw [hm, Nat.mul_comm, Nat.testBit_mul_two_pow]; simp; omega

theorem cores_zero : coresOf 0 = [] := by unfold coresOf; simp
theorem cores_step {n : Nat} (h0 : n ≠ 0) (hn : n < 18446744073709551616) : coresOf n = Lib.ctz 64 n :: coresOf (withoutN n ((Lib.ctz 64 n : Nat) : Int)) := by
  obtain ⟨h1, h2, h3⟩ := ctz_facts h0 hn
  exact filter_first _ _ _ 64 h1 h2 h3 (fun j => withoutN_bit hn h1 j)
theorem cores_lt {n c : Nat} (h : c ∈ coresOf n) : c < 64 := by
  unfold coresOf at h; simp at h; exact h.1
theorem cores_bit {n c : Nat} (h : c ∈ coresOf n) : n.testBit c = true := by
  unfold coresOf at h; simp at h; exact h.2

/-- the last core of the run that has c. -/
def runGo (n : Nat) : Nat → Nat → Nat
  | 0, c => c
  | f + 1, c => if n.testBit (c + 1) then runGo n f (c + 1) else c
def runEndN (n c : Nat) : Nat := runGo n (64 - c) c
theorem run_go_on {n c : Nat} (hn : n < 18446744073709551616) (h : n.testBit (c + 1) = true) : c + 1 < 64 ∧ runEndN n c = runEndN n (c + 1) := by
  have hc : c + 1 < 64 := by
    apply Nat.lt_of_not_le
    intro hle
    rw [bit_far hn hle] at h
    cases h
  refine ⟨hc, ?_⟩
  unfold runEndN
  rw [show 64 - c = (64 - (c + 1)) + 1 by omega, runGo, if_pos h]
theorem run_ends {n c : Nat} (h : n.testBit (c + 1) = false) : runEndN n c = c := by
  unfold runEndN
  cases 64 - c with
  | zero => rfl
  | succ f => rw [runGo, if_neg (by simp [h])]
theorem runGo_lt {n : Nat} (hn : n < 18446744073709551616) : ∀ (f c : Nat), c < 64 → runGo n f c < 64
  | 0, c, h => h
  | f + 1, c, h => by
    unfold runGo
    split
    · rename_i hb; exact runGo_lt hn f (c + 1) (run_go_on hn hb).1
    · exact h
theorem runEndN_lt {n c : Nat} (hn : n < 18446744073709551616) (h : c < 64) : runEndN n c < 64 := runGo_lt hn _ _ h

theorem dec_small {i : Nat} (h : i < 100) : Lib.decDigits i = if i < 10 then [UInt8.ofNat (48 + i)] else [UInt8.ofNat (48 + i / 10), UInt8.ofNat (48 + i % 10)] := by
  rw [Lib.decDigits]
  split
  · rfl
  · rw [Lib.decDigits, dif_pos (by omega)]; rfl
theorem dec_len {i : Nat} (h : i < 100) : (Lib.decDigits i).length ≤ 2 := by
  rw [dec_small h]; split <;> simp

/-- the text of one run. -/
def runTextL (a b : Nat) : List UInt8 := if a = b then Lib.decDigits a else Lib.decDigits a ++ [45] ++ Lib.decDigits b
theorem runText_len {a b : Nat} (ha : a < 64) (hb : b < 64) : (runTextL a b).length ≤ 5 := by
  have h1 := dec_len (i := a) (by omega)
  have h2 := dec_len (i := b) (by omega)
  unfold runTextL
  split
  · omega
  · simp; omega

/-- the runs that some cores of a set begin. -/
def runsOf (n : Nat) (cs : List Nat) : List (List UInt8) := (cs.filter fun c : Nat => !hasB n ((c : Int) - 1)).map fun c => runTextL c (runEndN n c)
def textOf (n : Nat) : List UInt8 := if n = 0 then [110, 111, 110, 101] else Lib.join (runsOf n (coresOf n)) [44]

theorem runs_hit {n c : Nat} {pre : List Nat} (h : hasB n ((c : Int) - 1) = false) : runsOf n (pre ++ [c]) = runsOf n pre ++ [runTextL c (runEndN n c)] := by
  simp [runsOf, h]
theorem runs_miss {n c : Nat} {pre : List Nat} (h : hasB n ((c : Int) - 1) = true) : runsOf n (pre ++ [c]) = runsOf n pre := by
  simp [runsOf, h]
theorem runs_len (n : Nat) (cs : List Nat) : (runsOf n cs).length ≤ cs.length := by
  unfold runsOf; rw [List.length_map]; exact List.length_filter_le _ _
theorem cores_len (n : Nat) : (coresOf n).length ≤ 64 := by
  unfold coresOf; have := List.length_filter_le n.testBit (List.range 64); simpa using this
theorem joinTail_len : ∀ (r : List (List UInt8)), (∀ x ∈ r, x.length ≤ 5) → (Lib.joinTail [44] r).length ≤ 6 * r.length
  | [], _ => by simp [Lib.joinTail]
  | x :: r, h => by
    have h1 := h x (by simp)
    have h2 := joinTail_len r (fun y hy => h y (by simp [hy]))
    unfold Lib.joinTail at h2 ⊢
    simp only [List.map_cons, List.flatten_cons, List.length_append, List.length_cons, List.length_nil] at h2 ⊢
    omega
theorem join_len (r : List (List UInt8)) (h : ∀ x ∈ r, x.length ≤ 5) : (Lib.join r [44]).length ≤ 6 * r.length := by
  cases r with
  | nil => simp [Lib.join_nil]
  | cons x r =>
    rw [Lib.join_cons]
    have h1 := h x (by simp)
    have h2 := joinTail_len r (fun y hy => h y (by simp [hy]))
    simp only [List.length_append, List.length_cons]
    omega
theorem runs_small {n : Nat} (hn : n < 18446744073709551616) {cs : List Nat} (h : ∀ c ∈ cs, c < 64) : ∀ x ∈ runsOf n cs, x.length ≤ 5 := by
  intro x hx
  unfold runsOf at hx
  simp only [List.mem_map, List.mem_filter] at hx
  obtain ⟨c, ⟨hc, _⟩, rfl⟩ := hx
  exact runText_len (h c hc) (runEndN_lt hn (h c hc))
theorem runs_ne {n : Nat} (h0 : n ≠ 0) (hn : n < 18446744073709551616) : runsOf n (coresOf n) ≠ [] := by
  obtain ⟨h1, h2, h3⟩ := ctz_facts h0 hn
  rw [cores_step h0 hn]
  have hb : hasB n (((Lib.ctz 64 n : Nat) : Int) - 1) = false := by
    generalize Lib.ctz 64 n = k at *
    cases k with
    | zero => exact hasB_no (coreB_neg (by omega))
    | succ k => rw [show ((k + 1 : Nat) : Int) - 1 = (k : Int) by omega, hasB_nat (by omega)]; exact h3 k (by omega)
  simp [runsOf, hb]

end Go.Proofs.Ytbeklkgoiigccaa
