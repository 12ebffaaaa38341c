/-
  Tables that are filled one by one: plain facts, and what the program's functions answer of them. Conditions: at most 64 slots, ids up to MaxId.
-/
import Derived.Test.YthopmkgbhfkeoaaUk
namespace Go.Proofs.Ythopmkgbhfkeoaa
open Go.RowKit

/-- the first i slots of n have the ids behind b. -/
def fillL (b : Int) (n i : Nat) : List Int := (List.range n).map fun j => if j < i then b + (j : Int) + 1 else 0
theorem fillL_len (b : Int) (n i : Nat) : (fillL b n i).length = n := by simp [fillL]
theorem fillL_get (b : Int) {n i j : Nat} (h : j < n) : (fillL b n i).getD j 0 = if j < i then b + (j : Int) + 1 else 0 := by
  simp [fillL, List.getD, h]
theorem list_ext {a b : List Int} (hl : a.length = b.length) (h : ∀ j, j < a.length → a.getD j 0 = b.getD j 0) : a = b := by
  refine List.ext_getElem hl fun j h1 h2 => ?_
  have := h j h1
  simpa [List.getD, h1, h2] using this
theorem fillL_zero (b : Int) (n : Nat) : fillL b n 0 = List.replicate n 0 := by
  refine list_ext (by rw [fillL_len]; simp) fun j hj => ?_
  rw [fillL_len] at hj
  rw [fillL_get b hj]
  simp [List.getD, hj]
theorem fillL_ok {b : Int} {n i : Nat} (h1 : 1 ≤ n) (h64 : n ≤ 64) (hi : i ≤ n) (hb : 0 ≤ b) (hm : b + (i : Int) ≤ 2147483648) : TabOk (fillL b n i) (b + (i : Int)) where
  n1 := by rw [fillL_len]; exact h1
  n64 := by rw [fillL_len]; exact h64
  lo := of_getD (fun j hj => by rw [fillL_len] at hj; rw [fillL_get b hj]; split <;> omega)
  hi := of_getD (fun j hj => by rw [fillL_len] at hj; rw [fillL_get b hj]; split <;> omega)
  uniq := fun x y hx hy he hne => by
    rw [fillL_len] at hx hy
    rw [fillL_get b hx] at he hne
    rw [fillL_get b hy] at he
    by_cases h2 : x < i
    · rw [if_pos h2] at he
      by_cases h3 : y < i
      · rw [if_pos h3] at he; omega
      · rw [if_neg h3] at he; omega
    · rw [if_neg h2] at hne; exact absurd rfl hne
  m0 := by omega
  mM := hm
theorem fillL_free {b : Int} {n i : Nat} (hi : i < n) (hb : 0 ≤ b) : find (fillL b n i) 0 = i := by
  refine find_hit (by rw [fillL_len]; exact hi) ?_ fun j hj => ?_
  · rw [fillL_get b hi, if_neg (by omega)]
  · rw [fillL_get b (by omega), if_pos hj]; omega
theorem fillL_step {b : Int} {n i : Nat} : (fillL b n i).set i (b + (i : Int) + 1) = fillL b n (i + 1) := by
  refine list_ext (by rw [List.length_set, fillL_len, fillL_len]) fun j hj => ?_
  rw [List.length_set, fillL_len] at hj
  rw [getD_set, fillL_len, fillL_get b hj, fillL_get b hj]
  by_cases e : i = j
  · subst e
    rw [if_pos ⟨rfl, hj⟩, if_pos (by omega)]
  · rw [if_neg (fun h => e h.1)]
    by_cases h2 : j < i
    · rw [if_pos h2, if_pos (by omega)]
    · rw [if_neg h2, if_neg (by omega)]
theorem taken_append (a b : List Int) : taken (a ++ b) = taken a ++ taken b := List.filter_append ..
theorem taken_zeros (n : Nat) : taken (List.replicate n 0) = [] := by
  simp [taken]
theorem taken_all {l : List Int} (h : ∀ x ∈ l, x ≠ 0) : taken l = l := by
  unfold taken
  rw [List.filter_eq_self]
  intro x hx
  simpa using h x hx
theorem fillL_taken {b : Int} {n i : Nat} (hi : i ≤ n) (hb : 0 ≤ b) : (taken (fillL b n i)).length = i := by
  have e : fillL b n i = fillL b i i ++ List.replicate (n - i) 0 := by
    refine list_ext (by rw [List.length_append, fillL_len, fillL_len, List.length_replicate]; omega) fun j hj => ?_
    rw [fillL_len] at hj
    rw [fillL_get b hj]
    by_cases h2 : j < i
    · rw [if_pos h2, List.getD_eq_getElem?_getD, List.getElem?_append_left (by rw [fillL_len]; exact h2), ← List.getD_eq_getElem?_getD, fillL_get b h2, if_pos h2]
    · rw [if_neg h2, List.getD_eq_getElem?_getD, List.getElem?_append_right (by rw [fillL_len]; omega), fillL_len, List.getElem?_replicate]
      split <;> rfl
  rw [e, taken_append, taken_zeros, List.append_nil, taken_all, fillL_len]
  refine of_getD fun j hj => ?_
  rw [fillL_len] at hj
  rw [fillL_get b hj, if_pos hj]
  omega
section
variable {b : Int} {n i k p g : Nat} {w : World}
theorem Add_fill (h1 : 1 ≤ n) (h64 : n ≤ 64) (hi : i < n) (hb : 0 ≤ b) (hm : b + (i : Int) < 2147483648) (h : IsTab w p g (fillL b n i) (b + (i : Int))) :
    Calls Try.prog 11 #[.pointer (some ⟨p, 0, none⟩)] w fun e w' => e = .returned (.tuple #[.int .i64 (b + (i : Int) + 1), .int .i64 (i : Int), .int .i64 0]) ∧ IsTab w' p g (fillL b n (i + 1)) (b + ((i + 1 : Nat) : Int)) ∧ Only p g w w' := by
  have hf := fillL_free (b := b) hi hb
  have hB : addB (fillL b n i) (b + (i : Int)) = true := by simp [addB, hf, fillL_len, hi, hm]
  refine (Add_yes p g _ _ w h (fillL_ok h1 h64 (by omega) hb (by omega)) hB).mono ?_
  rintro e w1 ⟨rfl, hT, ho⟩
  rw [hf, fillL_step] at hT
  rw [hf]
  refine ⟨rfl, ?_, ho⟩
  rw [show b + ((i + 1 : Nat) : Int) = b + (i : Int) + 1 by omega]
  exact hT
theorem Add_over (h1 : 1 ≤ n) (h64 : n ≤ 64) (hi : i ≤ n) (hb : 0 ≤ b) (hm : b + (i : Int) ≤ 2147483648) (ho : i = n ∨ b + (i : Int) = 2147483648) (h : IsTab w p g (fillL b n i) (b + (i : Int))) :
    Calls Try.prog 11 #[.pointer (some ⟨p, 0, none⟩)] w fun e w' => e = .returned (.tuple #[.int .i64 0, .int .i64 0, .int .i64 6]) ∧ w = w' := by
  refine Add_no p g _ _ w h (fillL_ok h1 h64 hi hb hm) ?_
  rcases ho with rfl | ho
  · have : find (fillL b i i) 0 = i := by
      have := find_none (l := fillL b i i) (x := 0) (fun j hj => by
        rw [fillL_len] at hj
        rw [fillL_get b hj, if_pos hj]
        omega)
      rwa [fillL_len] at this
    simp [addB, this, fillL_len]
  · simp [addB, ho]
theorem Len_fill (h1 : 1 ≤ n) (h64 : n ≤ 64) (hi : i ≤ n) (hb : 0 ≤ b) {m : Int} (h : IsTab w p g (fillL b n i) m) :
    Calls Try.prog 22 #[.pointer (some ⟨p, 0, none⟩)] w fun e w' => e = .returned (.int .i64 (i : Int)) ∧ Below w.heap.size w w' := by
  have := Len_any p g _ m w h (by rw [fillL_len]; exact h1) (by rw [fillL_len]; exact h64)
  rwa [fillL_taken hi hb] at this
theorem Room_fill (h1 : 1 ≤ n) (h64 : n ≤ 64) (hb : 0 ≤ b) {m : Int} (h : IsTab w p g (fillL b n n) m) :
    Calls Try.prog 21 #[.pointer (some ⟨p, 0, none⟩)] w fun e w' => e = .returned (.int .i64 0) ∧ Below w.heap.size w w' := by
  have := Room_any p g _ m w h (by rw [fillL_len]; exact h1) (by rw [fillL_len]; exact h64)
  rwa [fillL_taken (Nat.le_refl _) hb, fillL_len, Int.sub_self] at this
theorem fillL_at (hk : k < n) : find (fillL 0 n n) ((k : Int) + 1) = k := by
  refine find_hit (by rw [fillL_len]; exact hk) ?_ fun j hj => ?_
  · rw [fillL_get 0 hk, if_pos hk]; omega
  · rw [fillL_get 0 (by omega), if_pos (by omega)]; omega
theorem Drop_fill (h64 : n ≤ 64) (hk : k < n) (h : IsTab w p g (fillL 0 n n) (n : Int)) :
    Calls Try.prog 14 #[.pointer (some ⟨p, 0, none⟩), .int .i64 ((k : Int) + 1)] w fun e w' => e = .returned (.int .i64 0) ∧ IsTab w' p g ((fillL 0 n n).set k 0) (n : Int) ∧ Only p g w w' := by
  have hf := fillL_at hk
  have hB : hasB (fillL 0 n n) ((k : Int) + 1) = true := by
    simp only [hasB, hf, fillL_len, decide_eq_true_eq]
    omega
  have := Drop_any p g _ _ ((k : Int) + 1) w h (by rw [fillL_len]; exact h64)
  rwa [show hasE (fillL 0 n n) ((k : Int) + 1) = 0 by simp [hasE, hB], show dropL (fillL 0 n n) ((k : Int) + 1) = (fillL 0 n n).set k 0 by simp [dropL, hB, hf]] at this
theorem gone_get {j : Nat} (hj : j < n) : ((fillL 0 n n).set k 0).getD j 0 = if k = j then 0 else (j : Int) + 1 := by
  rw [getD_set, fillL_len, fillL_get 0 hj, if_pos hj]
  by_cases e : k = j
  · rw [if_pos ⟨e, hj⟩, if_pos e]
  · rw [if_neg (fun h => e h.1), if_neg e]; omega
theorem Drop_gone (h64 : n ≤ 64) (h : IsTab w p g ((fillL 0 n n).set k 0) (n : Int)) :
    Calls Try.prog 14 #[.pointer (some ⟨p, 0, none⟩), .int .i64 ((k : Int) + 1)] w fun e w' => e = .returned (.int .i64 3) ∧ IsTab w' p g ((fillL 0 n n).set k 0) (n : Int) ∧ Only p g w w' := by
  have hf := find_none (l := (fillL 0 n n).set k 0) (x := (k : Int) + 1) (fun j hj => by
    rw [List.length_set, fillL_len] at hj
    rw [gone_get hj]
    split <;> omega)
  have hB : hasB ((fillL 0 n n).set k 0) ((k : Int) + 1) = false := by simp [hasB, hf]
  have := Drop_any p g _ _ ((k : Int) + 1) w h (by rw [List.length_set, fillL_len]; exact h64)
  rwa [show hasE ((fillL 0 n n).set k 0) ((k : Int) + 1) = 3 by simp [hasE, hB], show dropL ((fillL 0 n n).set k 0) ((k : Int) + 1) = (fillL 0 n n).set k 0 by simp [dropL, hB]] at this
theorem Add_back (h1 : 1 ≤ n) (h64 : n ≤ 64) (hk : k < n) (h : IsTab w p g ((fillL 0 n n).set k 0) (n : Int)) :
    Calls Try.prog 11 #[.pointer (some ⟨p, 0, none⟩)] w fun e w' => e = .returned (.tuple #[.int .i64 ((n : Int) + 1), .int .i64 (k : Int), .int .i64 0]) ∧ IsTab w' p g (((fillL 0 n n).set k 0).set k ((n : Int) + 1)) ((n : Int) + 1) ∧ Only p g w w' := by
  have hl : ((fillL 0 n n).set k 0).length = n := by rw [List.length_set, fillL_len]
  have hf : find ((fillL 0 n n).set k 0) 0 = k := by
    refine find_hit (by rw [hl]; exact hk) ?_ fun j hj => ?_
    · rw [gone_get hk, if_pos rfl]
    · rw [gone_get (by omega), if_neg (by omega)]; omega
  have hB : addB ((fillL 0 n n).set k 0) (n : Int) = true := by
    simp only [addB, hf, hl, decide_eq_true_eq]
    omega
  have ok0 : TabOk (fillL 0 n n) (0 + (n : Int)) := fillL_ok h1 h64 (Nat.le_refl _) (by omega) (by omega)
  have ok : TabOk ((fillL 0 n n).set k 0) (n : Int) := by
    have h2 := ok0.drop ((k : Int) + 1)
    have hf2 := fillL_at hk
    have hB2 : hasB (fillL 0 n n) ((k : Int) + 1) = true := by
      simp only [hasB, hf2, fillL_len, decide_eq_true_eq]
      omega
    rwa [show dropL (fillL 0 n n) ((k : Int) + 1) = (fillL 0 n n).set k 0 by simp [dropL, hB2, hf2], Int.zero_add] at h2
  have := Add_yes p g _ _ w h ok hB
  rwa [hf] at this
theorem Len_back (h1 : 1 ≤ n) (h64 : n ≤ 64) {m : Int} (h : IsTab w p g (((fillL 0 n n).set k 0).set k ((n : Int) + 1)) m) :
    Calls Try.prog 22 #[.pointer (some ⟨p, 0, none⟩)] w fun e w' => e = .returned (.int .i64 (n : Int)) ∧ Below w.heap.size w w' := by
  have hl : (((fillL 0 n n).set k 0).set k ((n : Int) + 1)).length = n := by rw [List.length_set, List.length_set, fillL_len]
  have := Len_any p g _ m w h (by rw [hl]; exact h1) (by rw [hl]; exact h64)
  rwa [taken_all (l := ((fillL 0 n n).set k 0).set k ((n : Int) + 1)) (of_getD fun j hj => by
    rw [hl] at hj
    rw [getD_set, gone_get hj, List.length_set, fillL_len]
    split
    · omega
    · rename_i h2
      rw [if_neg (fun e => h2 ⟨e, hj⟩)]; omega), hl] at this
end
end Go.Proofs.Ythopmkgbhfkeoaa
