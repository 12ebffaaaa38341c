/-
  Plain facts on dividing digits by digits, by hand: taking a multiple away, giving it back, a digit of the quotient that is guessed and put right, and the whole division. No program, no condition.
-/
import Derived.Test.YtnfoblmfjldheaaDoorDiv
namespace Go.Dig
variable {B : Nat}

/-! ### a piece of a row -/
theorem app_set (pre s post : List Nat) {j : Nat} (x : Nat) (h : j < s.length) : (pre ++ s ++ post).set (pre.length + j) x = pre ++ s.set j x ++ post := by
  rw [List.append_assoc, List.set_append_right _ _ (by omega), Nat.add_sub_cancel_left, List.set_append_left _ _ h, List.append_assoc]
theorem app_getD (pre s post : List Nat) {j : Nat} (h : j < s.length) : (pre ++ s ++ post).getD (pre.length + j) 0 = s.getD j 0 := by
  simp only [List.getD]
  rw [List.append_assoc, List.getElem?_append_right (by omega), Nat.add_sub_cancel_left, List.getElem?_append_left h]
theorem getD_set_self {l : List Nat} {i d : Nat} (h : i < l.length) : (l.set i d).getD i 0 = d := by simp [List.getD, h]
theorem take_set_ge (l : List Nat) {i j : Nat} (d : Nat) (h : j ≤ i) : (l.set i d).take j = l.take j := by
  rw [List.take_set_of_le h]
theorem take_succ_set (l : List Nat) {j : Nat} (x : Nat) (h : j < l.length) : val B ((l.set j x).take (j + 1)) = val B (l.take j) + B ^ j * x := by
  rw [val_take, take_set_ge l x (Nat.le_refl _), getD_set_self h]

/-! ### so many times away -/
structure SubTI (B t : Nat) (d s s' : List Nat) (carry borrow j : Nat) : Prop where
  small : Small B s'
  len : s'.length = s.length
  low : borrow ≤ 1
  car : carry < B
  eq : val B (s'.take j) + t * val B (d.take j) = val B (s.take j) + B ^ j * (borrow + carry)
  rest : ∀ k, j ≤ k → s'.getD k 0 = s.getD k 0
theorem SubTI.zero (hB : 0 < B) {t : Nat} {d s : List Nat} (hs : Small B s) : SubTI B t d s s 0 0 0 := ⟨hs, rfl, by omega, hB, by simp [val], fun _ _ => rfl⟩
/-- one limb less, and a borrow. -/
theorem sub_one {x y b r b' : Nat} (hx : x < B) (hy : y < B) (hb : b ≤ 1) (hr : r = (x + B - y - b) % B) (hb' : b' = if x < y + b then 1 else 0) : r + y + b = x + B * b' ∧ r < B ∧ b' ≤ 1 := by
  by_cases h : x < y + b
  · rw [if_pos h] at hb'
    subst hb'
    rw [Nat.mod_eq_of_lt (by omega)] at hr
    omega
  · rw [if_neg h] at hb'
    subst hb'
    rw [show x + B - y - b = (x - y - b) + B by omega, Nat.add_mod_right, Nat.mod_eq_of_lt (by omega)] at hr
    omega
theorem SubTI.step (hB : 2 ≤ B) {t : Nat} {d s s' : List Nat} {carry borrow j lo hi r b' : Nat} (h : SubTI B t d s s' carry borrow j) (hs : Small B s) (hd : Small B d) (ht : t < B) (hj : j < s.length)
    (hlo : lo = (carry + d.getD j 0 * t + 0) % B) (hhi : hi = (carry + d.getD j 0 * t + 0) / B) (hr : r = (s.getD j 0 + B - lo - borrow) % B) (hb' : b' = if s.getD j 0 < lo + borrow then 1 else 0) :
    SubTI B t d s (s'.set j r) hi b' (j + 1) := by
  have hx := hs.getD (by omega) j
  have hy := hd.getD (by omega) j
  have hlB : lo < B := by rw [hlo]; exact Nat.mod_lt _ (by omega)
  obtain ⟨e1, e2, e3⟩ := sub_one hx hlB h.low hr hb'
  have e4 : lo + B * hi = carry + d.getD j 0 * t := by rw [hlo, hhi, Nat.mod_add_div]; omega
  refine ⟨h.small.set j e2, by rw [List.length_set, h.len], e3, ?_, ?_, fun k hk => by rw [getD_set_ne (by omega)]; exact h.rest k (by omega)⟩
  · rw [hhi, Nat.div_lt_iff_lt_mul (by omega)]
    have h1 : d.getD j 0 * t ≤ (B - 1) * (B - 1) := Nat.mul_le_mul (by omega) (by omega)
    have h2 : B * B = (B - 1) * (B - 1) + 2 * (B - 1) + 1 := by
      obtain ⟨c, rfl⟩ : ∃ c, B = c + 1 := ⟨B - 1, by omega⟩
      simp only [Nat.add_sub_cancel, Nat.mul_add, Nat.add_mul]
      omega
    have := h.car
    omega
  · have e := h.eq
    rw [take_succ_set s' r (by rw [h.len]; exact hj), val_take d, val_take s, Nat.pow_succ, Nat.mul_add t, Nat.mul_assoc]
    have e5 : B ^ j * (r + t * d.getD j 0 + borrow + carry) = B ^ j * (s.getD j 0 + B * (b' + hi)) := by
      congr 1
      rw [Nat.mul_comm t, Nat.mul_add]
      omega
    have e6 : t * (B ^ j * d.getD j 0) = B ^ j * (t * d.getD j 0) := by rw [Nat.mul_left_comm]
    simp only [Nat.mul_add] at e5 e ⊢
    rw [e6]
    omega
theorem SubTI.done (hB : 2 ≤ B) {t : Nat} {d s s' : List Nat} {carry borrow r b' : Nat} (h : SubTI B t d s s' carry borrow d.length) (hs : Small B s) (hl : s.length = d.length + 1)
    (hr : r = (s.getD d.length 0 + B - carry - borrow) % B) (hb' : b' = if s.getD d.length 0 < carry + borrow then 1 else 0) :
    Small B (s'.set d.length r) ∧ (s'.set d.length r).length = s.length ∧ b' ≤ 1 ∧ val B (s'.set d.length r) + t * val B d = val B s + B ^ s.length * b' := by
  have hx := hs.getD (by omega) d.length
  obtain ⟨e1, e2, e3⟩ := sub_one hx h.car h.low hr hb'
  refine ⟨h.small.set _ e2, by rw [List.length_set, h.len], e3, ?_⟩
  have e := h.eq
  have e4 := take_succ_set (B := B) (j := d.length) s' r (by rw [h.len, hl]; omega)
  rw [val_take_all _ (by rw [List.length_set, h.len, hl]; omega)] at e4
  have e5 := val_take (B := B) s d.length
  rw [val_take_all _ (by omega)] at e5
  rw [val_take_all d (Nat.le_refl _)] at e
  rw [e4, e5, hl, Nat.pow_succ, Nat.mul_assoc]
  have e6 : B ^ d.length * (r + borrow + carry) = B ^ d.length * (s.getD d.length 0 + B * b') := by congr 1; omega
  simp only [Nat.mul_add] at e6 e ⊢
  omega

/-! ### once given back -/
structure AddBI (B : Nat) (d s s' : List Nat) (carry j : Nat) : Prop where
  small : Small B s'
  len : s'.length = s.length
  low : carry ≤ 1
  eq : val B (s'.take j) + B ^ j * carry = val B (s.take j) + val B (d.take j)
  rest : ∀ k, j ≤ k → s'.getD k 0 = s.getD k 0
theorem AddBI.zero {d s : List Nat} (hs : Small B s) : AddBI B d s s 0 0 := ⟨hs, rfl, by omega, by simp [val], fun _ _ => rfl⟩
theorem AddBI.step (hB : 2 ≤ B) {d s s' : List Nat} {carry j r c' : Nat} (h : AddBI B d s s' carry j) (hs : Small B s) (hd : Small B d) (hj : j < s.length)
    (hr : r = (s.getD j 0 + d.getD j 0 + carry) % B) (hc' : c' = (s.getD j 0 + d.getD j 0 + carry) / B) : AddBI B d s (s'.set j r) c' (j + 1) := by
  have hx := hs.getD (by omega) j
  have hy := hd.getD (by omega) j
  have hl := h.low
  have e4 : r + B * c' = s.getD j 0 + d.getD j 0 + carry := by rw [hr, hc', Nat.mod_add_div]
  refine ⟨h.small.set j (by rw [hr]; exact Nat.mod_lt _ (by omega)), by rw [List.length_set, h.len], ?_, ?_, fun k hk => by rw [getD_set_ne (by omega)]; exact h.rest k (by omega)⟩
  · have : c' < 2 := by rw [hc', Nat.div_lt_iff_lt_mul (by omega)]; omega
    omega
  · have e := h.eq
    rw [take_succ_set s' r (by rw [h.len]; exact hj), val_take d, val_take s, Nat.pow_succ, Nat.mul_assoc, Nat.add_assoc, ← Nat.mul_add, e4]
    simp only [Nat.mul_add]
    omega
theorem AddBI.done (hB : 2 ≤ B) {d s s' : List Nat} {carry r c' : Nat} (h : AddBI B d s s' carry d.length) (hs : Small B s) (hl : s.length = d.length + 1)
    (hr : r = (s.getD d.length 0 + 0 + carry) % B) (hc' : c' = (s.getD d.length 0 + 0 + carry) / B) :
    Small B (s'.set d.length r) ∧ (s'.set d.length r).length = s.length ∧ c' ≤ 1 ∧ val B (s'.set d.length r) + B ^ s.length * c' = val B s + val B d := by
  have hx := hs.getD (by omega) d.length
  have hlo := h.low
  have e4 : r + B * c' = s.getD d.length 0 + carry := by rw [hr, hc', Nat.mod_add_div]; omega
  refine ⟨h.small.set _ (by rw [hr]; exact Nat.mod_lt _ (by omega)), by rw [List.length_set, h.len], ?_, ?_⟩
  · have : c' < 2 := by rw [hc', Nat.div_lt_iff_lt_mul (by omega)]; omega
    omega
  · have e := h.eq
    have e5 := take_succ_set (B := B) (j := d.length) s' r (by rw [h.len, hl]; omega)
    rw [val_take_all _ (by rw [List.length_set, h.len, hl]; omega)] at e5
    have e6 := val_take (B := B) s d.length
    rw [val_take_all _ (by omega)] at e6
    rw [val_take_all d (Nat.le_refl _)] at e
    rw [e5, e6, hl, Nat.pow_succ, Nat.mul_assoc, Nat.add_assoc, ← Nat.mul_add, e4]
    simp only [Nat.mul_add]
    omega

/-! ### a digit of the quotient -/
/-- the highest limbs alone never tell too little. -/
theorem guess_top (hB : 2 ≤ B) {s d : List Nat} (hs : Small B s) (hl : s.length = d.length + 1) (hn : 1 ≤ d.length) (hd : 0 < d.getD (d.length - 1) 0) :
    val B s / val B d ≤ (s.getD (d.length - 1) 0 + B * s.getD d.length 0) / d.getD (d.length - 1) 0 := by
  rw [Nat.le_div_iff_mul_le hd]
  have e1 := val_take_drop (B := B) d (d.length - 1) (by omega)
  rw [val_drop d (d.length - 1) (by omega), show d.length - 1 + 1 = d.length by omega, List.drop_length] at e1
  have e2 := val_take_drop (B := B) s (d.length - 1) (by omega)
  rw [val_drop s (d.length - 1) (by omega), show d.length - 1 + 1 = d.length by omega, val_drop s d.length (by omega)] at e2
  have e3 : s.drop (d.length + 1) = [] := by rw [← hl]; exact List.drop_length
  rw [e3] at e2
  simp only [val, Nat.mul_zero, Nat.add_zero] at e1 e2
  have h1 := val_lt (B := B) (by omega) (s.take (d.length - 1)) (hs.take _)
  rw [List.length_take, Nat.min_eq_left (by omega)] at h1
  have h2 : val B s / val B d * val B d ≤ val B s := Nat.div_mul_le_self _ _
  obtain ⟨p, hp⟩ : ∃ p, p = B ^ (d.length - 1) := ⟨_, rfl⟩
  obtain ⟨q, hq⟩ : ∃ q, q = val B s / val B d := ⟨_, rfl⟩
  rw [← hq] at h2 ⊢
  rw [← hp] at h1 e1 e2
  have hpp : 0 < p := by rw [hp]; exact Nat.pow_pos (by omega)
  have h3 : q * (p * d.getD (d.length - 1) 0) ≤ q * val B d := Nat.mul_le_mul_left _ (by omega)
  rw [Nat.mul_left_comm] at h3
  have h4 : p * (q * d.getD (d.length - 1) 0) < p * (s.getD (d.length - 1) 0 + B * s.getD d.length 0 + 1) := by
    rw [Nat.mul_add p _ 1]
    omega
  have := Nat.lt_of_mul_lt_mul_left h4
  omega
/-- what the loop that puts it right keeps. -/
structure FixI (M vs vd t vp b : Nat) : Prop where
  low : b ≤ 1
  ge : vs / vd ≤ t
  eq : vp + t * vd = vs + M * b
  lt : vp < M
/-- too much was taken: one less. -/
theorem FixI.less {M vs vd t vp b vp' c : Nat} (h : FixI M vs vd t vp b) (hb : b = 1) (hd : 0 < vd) (hc : c ≤ 1) (e : vp' + M * c = vp + vd) (hlt : vp' < M) : 0 < t ∧ c ≤ b ∧ FixI M vs vd (t - 1) vp' (b - c) := by
  subst hb
  have h1 := h.eq
  have h2 := h.lt
  have h3 : vs < t * vd := by omega
  have h4 : vs / vd < t := by rw [Nat.div_lt_iff_lt_mul hd]; exact h3
  have ht : 0 < t := Nat.lt_of_le_of_lt (Nat.zero_le _) h4
  have h5 : (t - 1) * vd + vd = t * vd := by
    have : (t - 1 + 1) * vd = t * vd := by rw [Nat.sub_add_cancel ht]
    rwa [Nat.add_mul, Nat.one_mul] at this
  refine ⟨ht, hc, ⟨by omega, Nat.le_sub_one_of_lt h4, ?_, hlt⟩⟩
  rcases Nat.lt_or_ge 0 c with h6 | h6
  · have : c = 1 := by omega
    subst this
    omega
  · have : c = 0 := by omega
    subst this
    omega
theorem FixI.done {M vs vd t vp : Nat} (h : FixI M vs vd t vp 0) (hd : 0 < vd) : t = vs / vd ∧ vp = vs % vd := by
  have h1 := h.eq
  have h2 : t ≤ vs / vd := by rw [Nat.le_div_iff_mul_le hd]; omega
  have h3 := h.ge
  have h4 : t = vs / vd := by omega
  refine ⟨h4, ?_⟩
  have e := Nat.div_add_mod vs vd
  rw [Nat.mul_comm, ← h4] at e
  omega

/-! ### the whole -/
structure LongI (B d a : Nat) (Q R : List Nat) (m : Nat) : Prop where
  small : Small B R
  smallQ : Small B Q
  eq : B ^ m * (d * val B (Q.drop m)) + val B R = a
  high : val B (R.drop m) < d
/-- what is divided next: a piece of so many limbs, below the base times the divisor; behind it there is nothing. -/
theorem LongI.part (hB : 2 ≤ B) {d a n k : Nat} {Q R : List Nat} (h : LongI B d a Q R (k + 1)) (hd : d ≤ B ^ n) (hk : k < R.length) :
    val B ((R.drop k).take (n + 1)) = val B (R.drop k) ∧ val B (R.drop k) < B * d ∧ val B (R.drop (k + (n + 1))) = 0 := by
  have h1 := h.high
  have h2 := val_drop (B := B) R k hk
  have h3 := h.small.getD (by omega) k
  have h4 : B * (val B (R.drop (k + 1)) + 1) ≤ B * d := Nat.mul_le_mul_left _ h1
  rw [Nat.mul_add] at h4
  have h6 : val B (R.drop (k + (n + 1))) = 0 := by
    by_cases hle : n ≤ (R.drop (k + 1)).length
    · have e := val_take_drop (B := B) (R.drop (k + 1)) n hle
      rw [List.drop_drop, show k + 1 + n = k + (n + 1) by omega] at e
      apply Nat.eq_zero_of_not_pos
      intro hp
      have : B ^ n * 1 ≤ B ^ n * val B (R.drop (k + (n + 1))) := Nat.mul_le_mul_left _ hp
      omega
    · rw [List.length_drop] at hle
      rw [List.drop_eq_nil_of_le (by omega)]; rfl
  refine ⟨?_, by omega, h6⟩
  by_cases hle : n + 1 ≤ (R.drop k).length
  · have e := val_take_drop (B := B) (R.drop k) (n + 1) hle
    rw [List.drop_drop, h6, Nat.mul_zero, Nat.add_zero] at e
    exact e.symm
  · rw [List.take_of_length_le (by omega)]
theorem LongI.step (hB : 2 ≤ B) {d a n k q : Nat} {Q R s' : List Nat} (h : LongI B d a Q R (k + 1)) (hd : d ≤ B ^ n) (hd0 : 0 < d) (hk : k + (n + 1) ≤ R.length) (hkQ : k < Q.length) (hs : Small B s') (hl : s'.length = n + 1)
    (hq : q = val B ((R.drop k).take (n + 1)) / d) (hs' : val B s' = val B ((R.drop k).take (n + 1)) % d) : LongI B d a (Q.set k q) (R.take k ++ s' ++ R.drop (k + (n + 1))) k := by
  obtain ⟨e1, e2, e3⟩ := h.part hB hd (by omega)
  rw [e1] at hq hs'
  have hqB : q < B := by rw [hq, Nat.div_lt_iff_lt_mul hd0]; exact e2
  have hlen : (R.take k).length = k := by rw [List.length_take]; omega
  have e4 : val B (R.take k ++ s' ++ R.drop (k + (n + 1))) = val B (R.take k) + B ^ k * val B s' := by
    rw [val_append, e3, Nat.mul_zero, Nat.add_zero, val_append, hlen]
  have e5 : (R.take k ++ s' ++ R.drop (k + (n + 1))).drop k = s' ++ R.drop (k + (n + 1)) := by
    rw [List.append_assoc, List.drop_append_of_le_length (by omega), List.drop_eq_nil_of_le (by omega), List.nil_append]
  refine ⟨fun x hx => ?_, h.smallQ.set k hqB, ?_, ?_⟩
  · rcases List.mem_append.1 hx with hx | hx
    · rcases List.mem_append.1 hx with hx | hx
      · exact h.small x (List.mem_of_mem_take hx)
      · exact hs x hx
    · exact h.small x (List.mem_of_mem_drop hx)
  · have e6 := val_take_drop (B := B) R k (by omega)
    have e7 : val B ((Q.set k q).drop k) = q + B * val B (Q.drop (k + 1)) := by
      rw [val_drop _ k (by rw [List.length_set]; exact hkQ), getD_set_self hkQ, drop_set]
    have e8 := h.eq
    rw [e4, e7, hs']
    have e9 := Nat.div_add_mod (val B (R.drop k)) d
    rw [← hq] at e9
    rw [e6] at e8
    rw [Nat.pow_succ] at e8
    have e10 : B ^ k * (d * (q + B * val B (Q.drop (k + 1)))) = B ^ k * (d * q) + B ^ k * B * (d * val B (Q.drop (k + 1))) := by
      rw [Nat.mul_add d, Nat.mul_add, Nat.mul_left_comm d B, Nat.mul_assoc (B ^ k) B]
    have e11 : B ^ k * val B (R.drop k) = B ^ k * (d * q) + B ^ k * (val B (R.drop k) % d) := by rw [← Nat.mul_add, e9]
    rw [e10]
    omega
  · rw [e5, val_append, e3, Nat.mul_zero, Nat.add_zero, hs']
    exact Nat.mod_lt _ hd0
theorem LongI.done {d a : Nat} {Q R : List Nat} (h : LongI B d a Q R 0) : val B Q = a / d ∧ val B R = a % d := by
  have e := h.eq
  have hl := h.high
  rw [List.drop_zero] at e hl
  rw [Nat.pow_zero, Nat.one_mul] at e
  rw [← e]
  constructor
  · rw [Nat.mul_add_div (by omega), Nat.div_eq_of_lt hl, Nat.add_zero]
  · rw [Nat.mul_add_mod, Nat.mod_eq_of_lt hl]
theorem LongI.start (hB : 2 ≤ B) {d a m : Nat} {R : List Nat} (hs : Small B R) (ha : val B R = a) (hm : m ≤ R.length) (hlt : a < B ^ m * d) : LongI B d a (List.replicate m 0) R m := by
  refine ⟨hs, Small.zeros (by omega) _, by rw [List.drop_eq_nil_of_le (by simp)]; simp [val, ha], ?_⟩
  have e := val_take_drop (B := B) R m hm
  rw [ha] at e
  have : B ^ m * val B (R.drop m) < B ^ m * d := by omega
  exact Nat.lt_of_mul_lt_mul_left this
end Go.Dig
