/-
  Plain facts on reckoning digit by digit: what a loop keeps that compares, adds, takes away, multiplies, or divides digits of a base, and what it ends with. No program, no condition.
-/
import Derived.Test.YtnfoblmfjldheaaDoorDig
namespace Go.Dig
variable {B : Nat}

/-! ### order -/
/-- more digits, more. -/
theorem lt_of_len (hB : 2 ≤ B) {m n : Nat} (h : (dig B m).length < (dig B n).length) : m < n := by
  have h1 := dig_lt hB m
  have hn : n ≠ 0 := by rintro rfl; rw [dig_zero] at h; simp at h
  have h2 := dig_big hB hn
  have h3 : B ^ (dig B m).length ≤ B ^ ((dig B n).length - 1) := Nat.pow_le_pow_right (by omega) (by omega)
  omega
/-- the first digit that differs, from the top, decides. -/
theorem lt_of_digit (hB : 0 < B) {a b : List Nat} (ha : Small B a) {i : Nat} (hia : i < a.length) (hib : i < b.length)
    (htop : val B (a.drop (i + 1)) = val B (b.drop (i + 1))) (h : a.getD i 0 < b.getD i 0) : val B a < val B b := by
  rw [val_take_drop a i (by omega), val_take_drop b i (by omega), val_drop a i hia, val_drop b i hib, htop]
  have h1 := val_lt hB (a.take i) (ha.take i)
  rw [List.length_take, Nat.min_eq_left (by omega)] at h1
  have h2 : B ^ i * (a.getD i 0 + B * val B (b.drop (i + 1)) + 1) ≤ B ^ i * (b.getD i 0 + B * val B (b.drop (i + 1))) := Nat.mul_le_mul_left _ (by omega)
  rw [Nat.mul_add] at h2
  omega

/-! ### sums: what the loop keeps at i -/
structure AddI (B : Nat) (a b out : List Nat) (carry i : Nat) : Prop where
  small : Small B out
  len : out.length = i
  low : carry ≤ 1
  eq : val B out + B ^ i * carry = val B (a.take i) + val B (b.take i)
theorem AddI.zero (a b : List Nat) : AddI B a b [] 0 0 := ⟨Small.nil, rfl, Nat.zero_le _, by simp [val]⟩
theorem AddI.step (hB : 2 ≤ B) {a b out : List Nat} {carry i : Nat} (ha : Small B a) (hb : Small B b) (h : AddI B a b out carry i) :
    AddI B a b (out ++ [(a.getD i 0 + b.getD i 0 + carry) % B]) ((a.getD i 0 + b.getD i 0 + carry) / B) (i + 1) := by
  have h1 := ha.getD (by omega) i
  have h2 := hb.getD (by omega) i
  have h3 := h.low
  refine ⟨h.small.snoc (Nat.mod_lt _ (by omega)), by rw [List.length_append, h.len]; rfl, ?_, ?_⟩
  · have : (a.getD i 0 + b.getD i 0 + carry) / B < 2 := by rw [Nat.div_lt_iff_lt_mul (by omega)]; omega
    omega
  · rw [val_snoc, h.len, val_take, val_take, Nat.pow_succ, Nat.mul_assoc, Nat.add_assoc, ← Nat.mul_add, Nat.mod_add_div]
    have := h.eq
    rw [Nat.mul_add, Nat.mul_add]
    omega
/-- the sum's digits, where the loop ends: behind both, with nothing to carry; at the one's end, or one behind that, if something was carried there. -/
theorem AddI.done (hB : 2 ≤ B) {m n : Nat} {out : List Nat} {i : Nat} (h : AddI B (dig B m) (dig B n) out 0 i)
    (hm : (dig B m).length ≤ i) (hn : (dig B n).length ≤ i) (hend : i = 0 ∨ (dig B m).length = i ∨ (dig B n).length = i ∨ B ^ (i - 1) ≤ m + n) : out = dig B (m + n) := by
  have e := h.eq
  rw [val_take_all _ hm, val_take_all _ hn, dig_val hB, dig_val hB, Nat.mul_zero, Nat.add_zero] at e
  rw [← e]
  apply dig_of_big hB out h.small
  rw [h.len, e]
  by_cases h0 : i = 0
  · left; have := h.len; exact List.eq_nil_of_length_eq_zero (by omega)
  · right
    rcases hend with h1 | h1 | h1 | h1
    · exact absurd h1 h0
    · have hmz : m ≠ 0 := by rintro rfl; rw [dig_zero] at h1; simp at h1; omega
      have := dig_big hB hmz
      rw [h1] at this; omega
    · have hnz : n ≠ 0 := by rintro rfl; rw [dig_zero] at h1; simp at h1; omega
      have := dig_big hB hnz
      rw [h1] at this; omega
    · exact h1
/-- what is carried behind both is as much as the base's power there. -/
theorem AddI.carried {a b out : List Nat} {i : Nat} (h : AddI B a b out 1 i) (ha : a.length ≤ i) (hb : b.length ≤ i) : B ^ i ≤ val B a + val B b := by
  have e := h.eq
  rw [val_take_all _ ha, val_take_all _ hb] at e
  omega

/-! ### differences: what the loop keeps at i -/
structure SubI (B : Nat) (a b out : List Nat) (borrow i : Nat) : Prop where
  small : Small B out
  len : out.length = i
  low : borrow ≤ 1
  eq : val B (a.take i) + B ^ i * borrow = val B out + val B (b.take i)
theorem SubI.zero (a b : List Nat) : SubI B a b [] 0 0 := ⟨Small.nil, rfl, Nat.zero_le _, by simp [val]⟩
/-- no borrowing. -/
theorem SubI.plain {a b out : List Nat} {borrow i : Nat} (ha : Small B a) (hB : 0 < B) (h : SubI B a b out borrow i) (hle : b.getD i 0 + borrow ≤ a.getD i 0) :
    SubI B a b (out ++ [a.getD i 0 - b.getD i 0 - borrow]) 0 (i + 1) := by
  have h1 := ha.getD hB i
  refine ⟨h.small.snoc (by omega), by rw [List.length_append, h.len]; rfl, Nat.zero_le _, ?_⟩
  rw [val_snoc, h.len, val_take, val_take, Nat.mul_zero, Nat.add_zero]
  have e := h.eq
  have e2 : B ^ i * a.getD i 0 = B ^ i * (a.getD i 0 - b.getD i 0 - borrow) + B ^ i * b.getD i 0 + B ^ i * borrow := by
    rw [← Nat.mul_add, ← Nat.mul_add]; congr 1; omega
  omega
/-- borrowing. -/
theorem SubI.borrowed {a b out : List Nat} {borrow i : Nat} (hb : Small B b) (hB : 0 < B) (h : SubI B a b out borrow i) (hlt : a.getD i 0 < b.getD i 0 + borrow) :
    SubI B a b (out ++ [a.getD i 0 + B - b.getD i 0 - borrow]) 1 (i + 1) := by
  have h1 := hb.getD hB i
  have h2 := h.low
  refine ⟨h.small.snoc (by omega), by rw [List.length_append, h.len]; rfl, Nat.le_refl _, ?_⟩
  rw [val_snoc, h.len, val_take, val_take, Nat.mul_one, Nat.pow_succ]
  have e := h.eq
  have e2 : B ^ i * a.getD i 0 + B ^ i * B = B ^ i * (a.getD i 0 + B - b.getD i 0 - borrow) + B ^ i * b.getD i 0 + B ^ i * borrow := by
    rw [← Nat.mul_add, ← Nat.mul_add, ← Nat.mul_add]; congr 1; omega
  omega
/-- the difference, where the loop ends. -/
theorem SubI.done (hB : 2 ≤ B) {a b out : List Nat} {borrow : Nat} (h : SubI B a b out borrow a.length) (hlb : b.length ≤ a.length) (hle : val B b ≤ val B a) : borrow = 0 ∧ val B out = val B a - val B b := by
  have e := h.eq
  rw [val_take_all _ (Nat.le_refl _), val_take_all _ hlb] at e
  have h1 := val_lt (by omega) out h.small
  rw [h.len] at h1
  have h2 := h.low
  have hb0 : borrow = 0 := by
    rcases Nat.lt_or_ge 0 borrow with h3 | h3
    · have : borrow = 1 := by omega
      subst this; omega
    · omega
  subst hb0
  exact ⟨rfl, by omega⟩

/-! ### products: what the inner loop keeps at k -/
/-- the digits' value, with what is carried, is what stood there and so much of the other one; the digits behind are as they were. -/
structure MulI (B : Nat) (b o out : List Nat) (x carry i k : Nat) : Prop where
  small : Small B out
  len : out.length = o.length
  low : carry < B
  eq : val B out + B ^ (i + k) * carry = val B o + B ^ i * (x * val B (b.take k))
  rest : ∀ j, i + k ≤ j → out.getD j 0 = o.getD j 0
theorem MulI.zero (hB : 0 < B) {b o : List Nat} {x i : Nat} (ho : Small B o) : MulI B b o o x 0 i 0 :=
  ⟨ho, rfl, hB, by simp [val], fun _ _ => rfl⟩
theorem getD_set_ne {l : List Nat} {i j d : Nat} (h : i ≠ j) : (l.set i d).getD j 0 = l.getD j 0 := by simp [List.getD, List.getElem?_set_ne h]
theorem MulI.step (hB : 2 ≤ B) {b o out : List Nat} {x carry i k : Nat} (hb : Small B b) (hx : x < B) (h : MulI B b o out x carry i k) (hlen : i + k < o.length) :
    MulI B b o (out.set (i + k) ((out.getD (i + k) 0 + x * b.getD k 0 + carry) % B)) x ((out.getD (i + k) 0 + x * b.getD k 0 + carry) / B) i (k + 1) := by
  have h1 := h.small.getD (by omega) (i + k)
  have h2 := hb.getD (by omega) k
  have h3 := h.low
  refine ⟨h.small.set _ (Nat.mod_lt _ (by omega)), by rw [List.length_set, h.len], ?_, ?_, fun j hj => ?_⟩
  · rw [Nat.div_lt_iff_lt_mul (by omega)]
    have e : x * b.getD k 0 ≤ (B - 1) * (B - 1) := Nat.mul_le_mul (by omega) (by omega)
    have e2 : B * B = (B - 1) * (B - 1) + 2 * (B - 1) + 1 := by
      obtain ⟨c, rfl⟩ : ∃ c, B = c + 1 := ⟨B - 1, by omega⟩
      simp only [Nat.add_sub_cancel, Nat.mul_add, Nat.add_mul]
      omega
    omega
  · have hs := val_set (B := B) out (i + k) ((out.getD (i + k) 0 + x * b.getD k 0 + carry) % B) (by rw [h.len]; exact hlen)
    have e := h.eq
    have hd : B ^ (i + k) * ((out.getD (i + k) 0 + x * b.getD k 0 + carry) % B) + B ^ (i + k) * (B * ((out.getD (i + k) 0 + x * b.getD k 0 + carry) / B)) = B ^ (i + k) * out.getD (i + k) 0 + B ^ (i + k) * (x * b.getD k 0) + B ^ (i + k) * carry := by
      rw [← Nat.mul_add, Nat.mod_add_div, Nat.mul_add, Nat.mul_add]
    have e3 : B ^ (i + (k + 1)) * ((out.getD (i + k) 0 + x * b.getD k 0 + carry) / B) = B ^ (i + k) * (B * ((out.getD (i + k) 0 + x * b.getD k 0 + carry) / B)) := by
      rw [← Nat.add_assoc, Nat.pow_succ, Nat.mul_assoc]
    have e4 : B ^ i * (x * val B (b.take (k + 1))) = B ^ i * (x * val B (b.take k)) + B ^ (i + k) * (x * b.getD k 0) := by
      rw [val_take, Nat.mul_add, Nat.mul_add, Nat.pow_add]
      congr 1
      rw [Nat.mul_assoc, Nat.mul_left_comm x]
    rw [e3, e4]
    omega
  · rw [getD_set_ne (by omega)]; exact h.rest j (by omega)
/-- behind the inner loop the carry is laid where nothing lay. -/
theorem MulI.done {b o out : List Nat} {x carry i : Nat} (h : MulI B b o out x carry i b.length) (hlen : i + b.length < o.length) (h0 : o.getD (i + b.length) 0 = 0) :
    Small B (out.set (i + b.length) (out.getD (i + b.length) 0 + carry)) ∧ val B (out.set (i + b.length) (out.getD (i + b.length) 0 + carry)) = val B o + B ^ i * (x * val B b) ∧
      ∀ j, i + 1 + b.length ≤ j → (out.set (i + b.length) (out.getD (i + b.length) 0 + carry)).getD j 0 = o.getD j 0 := by
  have hr := h.rest (i + b.length) (Nat.le_refl _)
  rw [h0] at hr
  refine ⟨?_, ?_, fun j hj => ?_⟩
  · rw [hr, Nat.zero_add]; exact h.small.set _ h.low
  · have hs := val_set (B := B) out (i + b.length) (out.getD (i + b.length) 0 + carry) (by rw [h.len]; exact hlen)
    have e := h.eq
    rw [val_take_all b (Nat.le_refl _)] at e
    rw [Nat.mul_add] at hs
    omega
  · rw [getD_set_ne (by omega)]; exact h.rest j (by omega)
end Go.Dig
