/-
  Plain facts on naturals as lists of digits of a base, the least first: the value, the one list without noughts at its end, sums, differences and products digit by digit. No program, no condition.
-/
import Derived.Lib.IndexMore
namespace Go.Dig

/-- the value of digits. -/
def val (B : Nat) : List Nat → Nat
  | [] => 0
  | d :: l => d + B * val B l
/-- the digits of a number, with fuel. -/
def dg (B : Nat) : Nat → Nat → List Nat
  | 0, _ => []
  | f + 1, n => if n = 0 then [] else n % B :: dg B f (n / B)
def dig (B n : Nat) : List Nat := dg B n n
/-- every digit is below the base. -/
def Small (B : Nat) (l : List Nat) : Prop := ∀ d ∈ l, d < B

variable {B : Nat}

theorem Small.nil : Small B [] := fun _ h => by cases h
theorem Small.cons {d : Nat} {l : List Nat} (h : d < B) (hl : Small B l) : Small B (d :: l) := fun x hx => by
  rcases List.mem_cons.1 hx with rfl | hx
  · exact h
  · exact hl x hx
theorem Small.head {d : Nat} {l : List Nat} (h : Small B (d :: l)) : d < B := h d (by simp)
theorem Small.tail {d : Nat} {l : List Nat} (h : Small B (d :: l)) : Small B l := fun x hx => h x (by simp [hx])
theorem Small.snoc {d : Nat} {l : List Nat} (hl : Small B l) (h : d < B) : Small B (l ++ [d]) := fun x hx => by
  rcases List.mem_append.1 hx with hx | hx
  · exact hl x hx
  · simp at hx; omega
theorem Small.take {l : List Nat} (h : Small B l) (i : Nat) : Small B (l.take i) := fun x hx => h x (List.mem_of_mem_take hx)
theorem Small.drop {l : List Nat} (h : Small B l) (i : Nat) : Small B (l.drop i) := fun x hx => h x (List.mem_of_mem_drop hx)
theorem Small.getD {l : List Nat} (h : Small B l) (hB : 0 < B) (i : Nat) : l.getD i 0 < B := by
  rcases Nat.lt_or_ge i l.length with hi | hi
  · have : l.getD i 0 = l[i] := by simp [List.getD, hi]
    rw [this]; exact h _ (List.getElem_mem hi)
  · have : l.getD i 0 = 0 := by simp [List.getD, hi]
    omega
theorem Small.set {l : List Nat} (h : Small B l) (i : Nat) {d : Nat} (hd : d < B) : Small B (l.set i d) := fun x hx => by
  rcases List.mem_or_eq_of_mem_set hx with hx | rfl
  · exact h x hx
  · exact hd
theorem Small.zeros (hB : 0 < B) (n : Nat) : Small B (List.replicate n 0) := fun x hx => by
  rw [List.eq_of_mem_replicate hx]; exact hB

/-! ### the value -/
theorem val_append (a b : List Nat) : val B (a ++ b) = val B a + B ^ a.length * val B b := by
  induction a with
  | nil => simp [val]
  | cons d a ih =>
    rw [List.cons_append, val, ih, val, List.length_cons, Nat.pow_succ, Nat.mul_add, Nat.mul_comm (B ^ a.length) B, Nat.mul_assoc, Nat.add_assoc]
theorem val_snoc (a : List Nat) (d : Nat) : val B (a ++ [d]) = val B a + B ^ a.length * d := by rw [val_append]; simp [val]
theorem val_zeros (n : Nat) : val B (List.replicate n 0) = 0 := by
  induction n with
  | zero => rfl
  | succ n ih => rw [List.replicate_succ, val, ih]; simp
theorem val_lt (hB : 0 < B) : ∀ (l : List Nat), Small B l → val B l < B ^ l.length
  | [], _ => by simp [val]
  | d :: l, h => by
    have ih := val_lt hB l h.tail
    have hd := h.head
    rw [val, List.length_cons, Nat.pow_succ, Nat.mul_comm (B ^ l.length) B]
    have : B * (val B l + 1) ≤ B * B ^ l.length := Nat.mul_le_mul_left B ih
    rw [Nat.mul_add] at this
    omega
theorem val_take_drop (l : List Nat) (i : Nat) (h : i ≤ l.length) : val B l = val B (l.take i) + B ^ i * val B (l.drop i) := by
  have e := val_append (B := B) (l.take i) (l.drop i)
  rw [List.take_append_drop, List.length_take, Nat.min_eq_left h] at e
  exact e
/-- one digit more, a nought behind the last one. -/
theorem val_take (l : List Nat) (i : Nat) : val B (l.take (i + 1)) = val B (l.take i) + B ^ i * l.getD i 0 := by
  rcases Nat.lt_or_ge i l.length with hi | hi
  · have e : l.take (i + 1) = l.take i ++ [l.getD i 0] := by
      rw [List.take_add_one]; simp [List.getD, hi]
    rw [e, val_snoc, List.length_take, Nat.min_eq_left (Nat.le_of_lt hi)]
  · have e1 : l.take (i + 1) = l := List.take_of_length_le (by omega)
    have e2 : l.take i = l := List.take_of_length_le hi
    have e3 : l.getD i 0 = 0 := by simp [List.getD, hi]
    rw [e1, e2, e3]; simp
theorem val_take_all (l : List Nat) {i : Nat} (h : l.length ≤ i) : val B (l.take i) = val B l := by rw [List.take_of_length_le h]
/-- the digits from i on. -/
theorem val_drop (l : List Nat) (i : Nat) (h : i < l.length) : val B (l.drop i) = l.getD i 0 + B * val B (l.drop (i + 1)) := by
  have e : l.drop i = l.getD i 0 :: l.drop (i + 1) := by
    rw [List.drop_eq_getElem_cons h]; simp [List.getD, h]
  rw [e, val]
/-- a digit turned. -/
theorem val_set : ∀ (l : List Nat) (i d : Nat), i < l.length → val B (l.set i d) + B ^ i * l.getD i 0 = val B l + B ^ i * d
  | [], _, _, h => by simp at h
  | x :: l, 0, d, _ => by simp [val]; omega
  | x :: l, i + 1, d, h => by
    have ih := val_set l i d (by simpa using h)
    have e1 : (x :: l).getD (i + 1) 0 = l.getD i 0 := by simp [List.getD]
    have e2 := congrArg (B * ·) ih
    simp only [Nat.mul_add] at e2
    rw [List.set_cons_succ, val, val, e1, Nat.pow_succ, Nat.mul_comm (B ^ i) B, Nat.mul_assoc, Nat.mul_assoc]
    omega

/-! ### the one list of a number -/
theorem dg_zero (f : Nat) : dg B f 0 = [] := by cases f <;> simp [dg]
theorem dig_zero : dig B 0 = [] := rfl
theorem dg_val (hB : 2 ≤ B) : ∀ (f n : Nat), n ≤ f → val B (dg B f n) = n
  | 0, n, h => by have : n = 0 := by omega
                  subst this; rfl
  | f + 1, n, h => by
    unfold dg
    by_cases h0 : n = 0
    · subst h0; rfl
    · rw [if_neg h0, val, dg_val hB f (n / B) (by have := Nat.div_lt_self (Nat.pos_of_ne_zero h0) hB; omega)]
      exact Nat.mod_add_div n B
theorem dig_val (hB : 2 ≤ B) (n : Nat) : val B (dig B n) = n := dg_val hB n n (Nat.le_refl n)
theorem dg_small (hB : 0 < B) : ∀ (f n : Nat), Small B (dg B f n)
  | 0, _ => Small.nil
  | f + 1, n => by
    unfold dg
    split
    · exact Small.nil
    · exact Small.cons (Nat.mod_lt n hB) (dg_small hB f _)
theorem dig_small (hB : 0 < B) (n : Nat) : Small B (dig B n) := dg_small hB n n
/-- more fuel changes nothing. -/
theorem dg_fuel (hB : 2 ≤ B) : ∀ (f g n : Nat), n ≤ f → n ≤ g → dg B f n = dg B g n
  | 0, g, n, h, _ => by have : n = 0 := by omega
                        subst this; rw [dg_zero, dg_zero]
  | f + 1, 0, n, _, h => by have : n = 0 := by omega
                            subst this; rw [dg_zero, dg_zero]
  | f + 1, g + 1, n, hf, hg => by
    unfold dg
    by_cases h0 : n = 0
    · simp [h0]
    · have := Nat.div_lt_self (Nat.pos_of_ne_zero h0) hB
      rw [if_neg h0, if_neg h0, dg_fuel hB f g (n / B) (by omega) (by omega)]
theorem dig_step (hB : 2 ≤ B) {n : Nat} (h : n ≠ 0) : dig B n = n % B :: dig B (n / B) := by
  have hd := Nat.div_lt_self (Nat.pos_of_ne_zero h) hB
  unfold dig
  cases n with
  | zero => exact absurd rfl h
  | succ n => rw [dg, if_neg h, dg_fuel hB n ((n + 1) / B) ((n + 1) / B) (by omega) (Nat.le_refl _)]
theorem dig_cons (hB : 2 ≤ B) {d n : Nat} (hd : d < B) (h : d + B * n ≠ 0) : dig B (d + B * n) = d :: dig B n := by
  rw [dig_step hB h]
  have e1 : (d + B * n) % B = d := by rw [Nat.add_mul_mod_self_left, Nat.mod_eq_of_lt hd]
  have e2 : (d + B * n) / B = n := by rw [Nat.add_mul_div_left _ _ (by omega), Nat.div_eq_of_lt hd, Nat.zero_add]
  rw [e1, e2]
/-- digits whose value is as great as their number says are the number's. -/
theorem dig_of_big (hB : 2 ≤ B) : ∀ (l : List Nat), Small B l → (l = [] ∨ B ^ (l.length - 1) ≤ val B l) → l = dig B (val B l)
  | [], _, _ => rfl
  | d :: l, hs, h => by
    have h1 : B ^ l.length ≤ d + B * val B l := by
      rcases h with h | h
      · cases h
      · simpa [val] using h
    have hpos : 0 < B ^ l.length := Nat.pow_pos (by omega)
    rw [val, dig_cons hB hs.head (by omega)]
    congr 1
    apply dig_of_big hB l hs.tail
    by_cases hl : l = []
    · exact .inl hl
    · right
      have hlen := List.length_pos_iff.2 hl
      apply Nat.le_of_not_lt
      intro hlt
      have e : B ^ l.length = B ^ (l.length - 1) * B := by rw [← Nat.pow_succ]; congr 1; omega
      have h2 : B * (val B l + 1) ≤ B * B ^ (l.length - 1) := Nat.mul_le_mul_left B hlt
      rw [Nat.mul_add, Nat.mul_comm B (B ^ (l.length - 1)), ← e] at h2
      have := hs.head
      omega
theorem dig_big (hB : 2 ≤ B) {n : Nat} (h : n ≠ 0) : B ^ ((dig B n).length - 1) ≤ n := by
  have key : ∀ f n, n ≤ f → n ≠ 0 → B ^ ((dig B n).length - 1) ≤ n := by
    intro f
    induction f with
    | zero => intro n h1 h2; omega
    | succ f ih =>
      intro n h1 h2
      have hd := Nat.div_lt_self (Nat.pos_of_ne_zero h2) hB
      rw [dig_step hB h2, List.length_cons, Nat.add_sub_cancel]
      by_cases h0 : n / B = 0
      · rw [h0, dig_zero]; simp; omega
      · have h3 := ih (n / B) (by omega) h0
        have hlen : 1 ≤ (dig B (n / B)).length := by rw [dig_step hB h0]; simp
        have e : B ^ (dig B (n / B)).length = B * B ^ ((dig B (n / B)).length - 1) := by
          rw [Nat.mul_comm, ← Nat.pow_succ]; congr 1; omega
        rw [e]
        exact Nat.le_trans (Nat.mul_le_mul_left B h3) (Nat.mul_div_le n B)
  exact key n n (Nat.le_refl n) h
theorem dig_lt (hB : 2 ≤ B) (n : Nat) : n < B ^ (dig B n).length := by
  have h := val_lt (by omega) (dig B n) (dig_small (by omega) n)
  rwa [dig_val hB] at h
/-- how many digits. -/
theorem dig_len (hB : 2 ≤ B) (n k : Nat) : (dig B n).length ≤ k ↔ n < B ^ k := by
  constructor
  · intro h; exact Nat.lt_of_lt_of_le (dig_lt hB n) (Nat.pow_le_pow_right (by omega) h)
  · intro h
    by_cases h0 : n = 0
    · subst h0; rw [dig_zero]; exact Nat.zero_le _
    · apply Nat.le_of_not_lt
      intro hlt
      have h1 := dig_big hB h0
      have h2 : B ^ k ≤ B ^ ((dig B n).length - 1) := Nat.pow_le_pow_right (by omega) (by omega)
      omega
theorem dig_nil (hB : 2 ≤ B) (n : Nat) : dig B n = [] ↔ n = 0 := by
  constructor
  · intro h; have := dig_val hB n; rw [h] at this; exact this.symm
  · rintro rfl; rfl
theorem dig_inj (hB : 2 ≤ B) {m n : Nat} (h : dig B m = dig B n) : m = n := by rw [← dig_val hB m, h, dig_val hB]
theorem dig_mono (hB : 2 ≤ B) {m n : Nat} (h : m ≤ n) : (dig B m).length ≤ (dig B n).length := by
  rw [dig_len hB]; exact Nat.lt_of_le_of_lt h (dig_lt hB n)

/-! ### noughts at the end -/
def trim : List Nat → List Nat
  | [] => []
  | d :: l => if trim l = [] ∧ d = 0 then [] else d :: trim l
theorem trim_val : ∀ (l : List Nat), val B (trim l) = val B l
  | [] => rfl
  | d :: l => by
    unfold trim
    have ih := trim_val l
    split
    · rename_i h
      rw [h.1] at ih
      show 0 = d + B * val B l
      rw [← ih, h.2]; rfl
    · rw [val, val, ih]
theorem trim_dig (hB : 2 ≤ B) : ∀ (l : List Nat), Small B l → trim l = dig B (val B l)
  | [], _ => rfl
  | d :: l, h => by
    have ih := trim_dig hB l h.tail
    unfold trim
    rw [val]
    by_cases hz : d + B * val B l = 0
    · have hd : d = 0 := by omega
      have hv : val B l = 0 := by
        apply Nat.eq_zero_of_not_pos
        intro hp
        have : 0 < B * val B l := Nat.mul_pos (by omega) hp
        omega
      rw [ih, hv, dig_zero, if_pos ⟨rfl, hd⟩, hd]; rfl
    · rw [dig_cons hB h.head hz, ih]
      rw [if_neg]
      rintro ⟨h1, h2⟩
      rw [dig_nil hB] at h1
      rw [h1, h2] at hz
      exact hz rfl
/-- cut where a nought ends it, from the end. -/
theorem trim_snoc_zero (l : List Nat) : trim (l ++ [0]) = trim l := by
  induction l with
  | nil => rfl
  | cons d l ih => rw [List.cons_append, trim, trim, ih]
theorem trim_snoc (l : List Nat) {d : Nat} (h : d ≠ 0) : trim (l ++ [d]) = l ++ [d] := by
  induction l with
  | nil => simp [trim, h]
  | cons x l ih => rw [List.cons_append, trim, ih, if_neg (by simp)]
end Go.Dig
