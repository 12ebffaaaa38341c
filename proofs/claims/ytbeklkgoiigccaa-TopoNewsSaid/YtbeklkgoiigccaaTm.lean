/-
  The document's sets of numbers' bits as a row of 64 bools each; the law's own function Sets; and plain facts behind the document's New. Condition: not more than twenty sets, numbers of 64 bits.
-/
import Derived.Test.YtbeklkgoiigccaaTl
namespace Go.Proofs.Ytbeklkgoiigccaa
open Go.RowKit

theorem ofI_snoc (l : List Nat) (a k : Nat) (hk : k < 64) : ofI (l ++ [a]) (k : Int) = if ofI l (k : Int) = -1 then (if a.testBit k then (l.length : Int) else -1) else ofI l (k : Int) := by
  have h1 := dom_le l (k : Int)
  have e1 : domN (l ++ [a]) (k : Int) = if domN l (k : Int) < l.length then domN l (k : Int) else (if a.testBit k then 0 else 1) + l.length := by
    unfold domN
    rw [List.findIdx_append]
    congr 1
    rw [List.findIdx_cons, hasB_nat hk]
    cases a.testBit k <;> simp
  unfold ofI
  rw [e1, List.length_append, List.length_singleton]
  by_cases h : domN l (k : Int) < l.length
  · rw [if_pos h, if_pos h, if_pos (by omega), if_neg (by omega)]
  · rw [if_neg h, if_neg h, if_pos rfl]
    cases a.testBit k
    · simp; intro h; omega
    · simp
theorem ofI_nil (c : Int) : ofI [] c = -1 := by simp [ofI, domN]
theorem ofI_take_skip {l : List Nat} {d k : Nat} (hd : d < l.length) (hk : k < 64) (h : (l.getD d 0).testBit k = false) : ofI (l.take (d + 1)) (k : Int) = ofI (l.take d) (k : Int) := by
  rw [take_snoc hd, ofI_snoc _ _ _ hk, h]
  split
  · rename_i e; rw [e]; rfl
  · rfl
theorem ofI_take_new {l : List Nat} {d k : Nat} (hd : d < l.length) (hk : k < 64) (h : (l.getD d 0).testBit k = true) (h1 : ofI (l.take d) (k : Int) = -1) : ofI (l.take (d + 1)) (k : Int) = (d : Int) := by
  rw [take_snoc hd, ofI_snoc _ _ _ hk, h, if_pos h1, if_pos rfl, List.length_take]
  omega
theorem uni_take_bit {l : List Nat} {d k : Nat} (hd : d < l.length) : (uni (l.take (d + 1))).testBit k = ((uni (l.take d)).testBit k || (l.getD d 0).testBit k) := by
  rw [uni_take hd, Nat.testBit_or]
theorem ofI_uni {l : List Nat} {k : Nat} (hk : k < 64) (h : ofI l (k : Int) = -1) : (uni l).testBit k = false := by
  have hn : ¬ domN l (k : Int) < l.length := by
    intro hl
    rw [ofI_yes hl] at h
    omega
  cases hb : (uni l).testBit k
  · rfl
  · exfalso
    rw [uni_bit, List.any_eq_true] at hb
    obtain ⟨a, ha, hb⟩ := hb
    apply hn
    unfold domN
    rw [List.findIdx_lt_length]
    exact ⟨a, ha, by rw [hasB_nat hk]; exact hb⟩
theorem ofI_uni_yes {l : List Nat} {k : Nat} (hk : k < 64) (h : ofI l (k : Int) ≠ -1) : (uni l).testBit k = true := by
  have hl : domN l (k : Int) < l.length := by
    rcases Nat.lt_or_ge (domN l (k : Int)) l.length with hl | hl
    · exact hl
    · exact absurd (ofI_no (by omega)) h
  have h1 := dom_has hl
  rw [hasB_nat hk] at h1
  rw [uni_bit, List.any_eq_true]
  exact ⟨_, by rw [List.getD_eq_getElem?_getD, List.getElem?_eq_getElem hl]; exact List.getElem_mem hl, h1⟩
/-- is one of the first k bits set? -/
def someTo (x k : Nat) : Bool := (List.range k).any x.testBit
theorem someTo_step (x k : Nat) : someTo x (k + 1) = (someTo x k || x.testBit k) := by simp [someTo, List.range_succ]
theorem someTo_all {x : Nat} (hx : x < 18446744073709551616) : someTo x 64 = (x != 0) := by
  rw [Bool.eq_iff_iff, bne_iff_ne]
  unfold someTo
  rw [List.any_eq_true]
  constructor
  · rintro ⟨i, _, h⟩ rfl
    simp at h
  · intro h
    obtain ⟨i, hi⟩ := Nat.exists_testBit_of_ne_zero h
    refine ⟨i, ?_, hi⟩
    rw [List.mem_range]
    rcases Nat.lt_or_ge i 64 with h2 | h2
    · exact h2
    · rw [bit_far hx h2] at hi; cases hi
/-- how far the document's New has come. -/
def mixI (l : List Nat) (d k : Nat) : Nat → Int := fun i => if i < k then ofI (l.take (d + 1)) (i : Int) else ofI (l.take d) (i : Int)
def mixB (l : List Nat) (d k : Nat) : Nat → Bool := fun i => if i < k then (uni (l.take (d + 1))).testBit i else (uni (l.take d)).testBit i
theorem mixI_at (l : List Nat) (d k : Nat) : mixI l d k k = ofI (l.take d) (k : Int) := by simp [mixI]
theorem mix_skip {l : List Nat} {d k : Nat} (hd : d < l.length) (hk : k < 64) (h : (l.getD d 0).testBit k = false) (i : Nat) : mixI l d k i = mixI l d (k + 1) i ∧ mixB l d k i = mixB l d (k + 1) i := by
  unfold mixI mixB
  by_cases e : i = k
  · subst e
    have a1 : ¬ i < i := by omega
    have a2 : i < i + 1 := by omega
    simp only [a1, a2, if_true, if_false]
    rw [ofI_take_skip hd hk h, uni_take_bit hd, h, Bool.or_false]
    exact ⟨rfl, rfl⟩
  · by_cases h1 : i < k
    · rw [if_pos h1, if_pos h1, if_pos (by omega), if_pos (by omega)]; exact ⟨rfl, rfl⟩
    · rw [if_neg h1, if_neg h1, if_neg (by omega), if_neg (by omega)]; exact ⟨rfl, rfl⟩
theorem mix_new {l : List Nat} {d k : Nat} (hd : d < l.length) (hk : k < 64) (h : (l.getD d 0).testBit k = true) (h1 : ofI (l.take d) (k : Int) = -1) (i : Nat) : updI (mixI l d k) k (d : Int) i = mixI l d (k + 1) i ∧ upd (mixB l d k) k true i = mixB l d (k + 1) i := by
  unfold updI upd mixI mixB
  by_cases e : i = k
  · subst e
    have a2 : i < i + 1 := by omega
    simp only [a2, if_true]
    rw [ofI_take_new hd hk h h1, uni_take_bit hd, h, Bool.or_true]
    exact ⟨rfl, rfl⟩
  · rw [if_neg e, if_neg e]
    by_cases h1 : i < k
    · rw [if_pos h1, if_pos h1, if_pos (by omega), if_pos (by omega)]; exact ⟨rfl, rfl⟩
    · rw [if_neg h1, if_neg h1, if_neg (by omega), if_neg (by omega)]; exact ⟨rfl, rfl⟩
theorem not_bad {l : List Nat} {d : Nat} (hx : l.getD d 0 < 18446744073709551616) (h0 : l.getD d 0 ≠ 0) (h : ∀ i, i < 64 → (l.getD d 0).testBit i = true → ofI (l.take d) (i : Int) = -1) : ¬ badAt l d := by
  rintro (hb | hb)
  · exact h0 hb
  · rw [meets_bits] at hb
    obtain ⟨k, h1, h2⟩ := hb
    rcases Nat.lt_or_ge k 64 with hk | hk
    · rw [ofI_uni hk (h k hk h1)] at h2; cases h2
    · rw [bit_far hx hk] at h1; cases h1
theorem bad_meet {l : List Nat} {d k : Nat} (hk : k < 64) (h : (l.getD d 0).testBit k = true) (h1 : ofI (l.take d) (k : Int) ≠ -1) : badAt l d := by
  right
  rw [meets_bits]
  exact ⟨k, h, ofI_uni_yes hk h1⟩

/-- the document's sets of numbers' bits, as cells. -/
def srow (l : List Nat) : List Value := l.flatMap fun (a : Nat) => (arrB a.testBit).toList
theorem arrB_len (f : Nat → Bool) : (arrB f).toList.length = 64 := by rw [Array.length_toList, arrB_size]
theorem srow_len (l : List Nat) : (srow l).length = l.length * 64 := by
  induction l with
  | nil => rfl
  | cons a l ih =>
    show ((arrB a.testBit).toList ++ srow l).length = _
    rw [List.length_append, arrB_len, ih, List.length_cons]; omega
theorem srow_snoc (l : List Nat) (a : Nat) : srow (l ++ [a]) = srow l ++ (arrB a.testBit).toList := by simp [srow]
theorem srow_get (l : List Nat) (d k : Nat) (hd : d < l.length) (hk : k < 64) : (srow l)[d * 64 + k]? = some (.bool ((l.getD d 0).testBit k)) := by
  induction l generalizing d with
  | nil => simp at hd
  | cons a l ih =>
    show ((arrB a.testBit).toList ++ srow l)[d * 64 + k]? = _
    cases d with
    | zero =>
      rw [List.getElem?_append_left (by rw [arrB_len]; omega), Array.getElem?_toList, Nat.zero_mul, Nat.zero_add, arrB_get _ hk]
      rfl
    | succ d =>
      rw [List.getElem?_append_right (by rw [arrB_len]; omega), arrB_len, show (d + 1) * 64 + k - 64 = d * 64 + k by omega, ih d (by simpa using hd)]
      rfl
end Go.Proofs.Ytbeklkgoiigccaa
