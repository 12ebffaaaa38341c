/-
  What lists tell, and what calls make of them, as plain functions. Condition: no node is in two places.
-/
import Derived.Test.YtglnjpbjlcbgoaaVa
namespace Go.Proofs.Ytglnjpbjlcbgoaa

def hdI (l : List Nat) : Int := if 0 < l.length then (l.getD 0 0 : Nat) else -1
def laI (l : List Nat) : Int := if 0 < l.length then (l.getD (l.length - 1) 0 : Nat) else -1
def hasB (ls : List (List Nat)) (n : Int) : Bool := ls.any fun l => l.any fun y : Nat => (y : Int) == n
def fk (ls : List (List Nat)) (n : Int) : Nat := ls.findIdx fun l => l.any fun y : Nat => (y : Int) == n
def fi (ls : List (List Nat)) (n : Int) : Nat := (row ls (fk ls n)).findIdx fun y : Nat => (y : Int) == n
def listI (ls : List (List Nat)) (n : Int) : Int := if hasB ls n then (fk ls n : Nat) else -1
def posI (ls : List (List Nat)) (n : Int) : Int := if hasB ls n then (fi ls n : Nat) else -1
def nextI (ls : List (List Nat)) (n : Int) : Int := if hasB ls n = true ∧ fi ls n + 1 < (row ls (fk ls n)).length then ((row ls (fk ls n)).getD (fi ls n + 1) 0 : Nat) else -1
def prevI (ls : List (List Nat)) (n : Int) : Int := if hasB ls n = true ∧ 0 < fi ls n then ((row ls (fk ls n)).getD (fi ls n - 1) 0 : Nat) else -1
def inN (N : Nat) (n : Int) : Bool := decide (0 ≤ n ∧ n < N)
def wrongI (N : Nat) (ls : List (List Nat)) (n : Int) (b : Bool) : Int := if inN N n then (if hasB ls n = b then 0 else 10) else 14
def pushI (N : Nat) (ls : List (List Nat)) (k n : Int) : Int := if inN ls.length k then wrongI N ls n false else 14
def pushL (N : Nat) (ls : List (List Nat)) (k n : Int) (lead : Bool) : List (List Nat) :=
  if pushI N ls k n = 0 then insL ls k.toNat (if lead then 0 else (row ls k.toNat).length) n.toNat else ls
def behI (N : Nat) (ls : List (List Nat)) (a n : Int) : Int := if inN N a && inN N n then (if hasB ls a = true ∧ hasB ls n = false then 0 else 10) else 14
def behL (N : Nat) (ls : List (List Nat)) (a n : Int) : List (List Nat) := if behI N ls a n = 0 then insL ls (fk ls a) (fi ls a + 1) n.toNat else ls
def dropL (N : Nat) (ls : List (List Nat)) (n : Int) : List (List Nat) := if wrongI N ls n true = 0 then delL ls (fk ls n) (fi ls n) else ls
section
variable {N : Nat} {ls : List (List Nat)} {n : Int}
theorem mem_row {k : Nat} (h : k < ls.length) : row ls k = ls[k] := by simp [row, List.getD, List.getElem?_eq_getElem h]
theorem hasB_at (h : hasB ls n = true) : ∃ x : Nat, n = x ∧ At ls (fk ls n) (fi ls n) x := by
  have h1 : fk ls n < ls.length := by
    unfold fk
    rw [List.findIdx_lt_length]
    simp only [hasB, List.any_eq_true] at h
    obtain ⟨l, hl, h⟩ := h
    exact ⟨l, hl, by simpa using h⟩
  have h2 : ((row ls (fk ls n)).any fun y : Nat => (y : Int) == n) = true := by
    rw [mem_row h1]
    exact List.findIdx_getElem (w := h1)
  have h3 : fi ls n < (row ls (fk ls n)).length := by
    unfold fi
    rw [List.findIdx_lt_length]
    simpa [List.any_eq_true] using h2
  have h4 : (((row ls (fk ls n))[fi ls n] : Nat) : Int) == n := List.findIdx_getElem (w := h3)
  refine ⟨(row ls (fk ls n))[fi ls n], by simpa using (eq_of_beq h4).symm, ?_⟩
  unfold At
  exact List.getElem?_eq_getElem h3
theorem at_hasB {k i x : Nat} (h : At ls k i x) : hasB ls x = true := by
  simp only [hasB, List.any_eq_true]
  refine ⟨ls[k]'h.lists, List.getElem_mem _, x, ?_, by simp⟩
  rw [← mem_row h.lists]
  exact List.mem_of_getElem? h
theorem hasB_no (h : hasB ls n = false) (k i x : Nat) (hx : At ls k i x) : n ≠ x := by
  rintro rfl
  rw [at_hasB hx] at h
  cases h
theorem no_hasB (h : ∀ k i x : Nat, At ls k i x → n ≠ x) : hasB ls n = false := by
  cases hb : hasB ls n with
  | false => rfl
  | true =>
    obtain ⟨x, e, hx⟩ := hasB_at hb
    exact absurd e (h _ _ _ hx)
theorem at_find (ok : OkL N ls) {k i x : Nat} (h : At ls k i x) : fk ls x = k ∧ fi ls x = i := by
  obtain ⟨y, e, hy⟩ := hasB_at (at_hasB h)
  obtain rfl : x = y := by omega
  have := ok.inj _ _ _ _ _ hy h
  exact this
theorem insL_ok' (ok : OkL N ls) {k i : Nat} (hk : k < ls.length) (hi : i ≤ (row ls k).length) {x : Nat} (hx : x < N) (hf : hasB ls x = false) : OkL N (insL ls k i x) :=
  insL_ok ok hk hi hx fun k i h => hasB_no hf k i x h rfl
theorem inN_iff {k : Int} : inN N k = true ↔ 0 ≤ k ∧ k < N := by simp [inN]
theorem pushL_ok (ok : OkL N ls) (k n : Int) (lead : Bool) : OkL N (pushL N ls k n lead) := by
  unfold pushL
  split
  · rename_i h
    unfold pushI wrongI at h
    split at h
    · rename_i h1
      split at h
      · rename_i h2
        split at h
        · rename_i h3
          rw [inN_iff] at h1 h2
          refine insL_ok' ok (by omega) ?_ (by omega) ?_
          · split <;> omega
          · rw [show ((n.toNat : Nat) : Int) = n by omega]; exact h3
        · omega
      · omega
    · omega
  · exact ok
theorem behL_ok (ok : OkL N ls) (a n : Int) : OkL N (behL N ls a n) := by
  unfold behL
  split
  · rename_i h
    unfold behI at h
    split at h
    · rename_i h1
      rw [Bool.and_eq_true, inN_iff, inN_iff] at h1
      split at h
      · rename_i h2
        obtain ⟨x, _, hx⟩ := hasB_at h2.1
        refine insL_ok' ok hx.lists hx.len (by omega) ?_
        rw [show ((n.toNat : Nat) : Int) = n by omega]; exact h2.2
      · omega
    · omega
  · exact ok
theorem dropL_ok (ok : OkL N ls) (n : Int) : OkL N (dropL N ls n) := by
  unfold dropL
  split
  · rename_i h
    unfold wrongI at h
    split at h
    · split at h
      · rename_i h2
        obtain ⟨x, _, hx⟩ := hasB_at h2
        exact delL_ok ok hx.lists hx.len
      · omega
    · omega
  · exact ok
theorem pushL_len (N : Nat) (ls : List (List Nat)) (k n : Int) (lead : Bool) : (pushL N ls k n lead).length = ls.length := by
  unfold pushL; split
  · rw [insL_len]
  · rfl
theorem behL_len (N : Nat) (ls : List (List Nat)) (a n : Int) : (behL N ls a n).length = ls.length := by
  unfold behL; split
  · rw [insL_len]
  · rfl
theorem dropL_len (N : Nat) (ls : List (List Nat)) (n : Int) : (dropL N ls n).length = ls.length := by
  unfold dropL; split
  · rw [delL_len]
  · rfl
theorem row_none (M k : Nat) : row (List.replicate M []) k = [] := by
  unfold row
  simp only [List.getD, List.getElem?_replicate]
  split <;> rfl
theorem none_ok {M : Nat} (h1 : 1 ≤ N) (h2 : N ≤ 64) (h3 : 1 ≤ M) (h4 : M ≤ 64) : OkL N (List.replicate M []) := by
  have hn : ∀ k i x, ¬ At (List.replicate M ([] : List Nat)) k i x := by
    intro k i x h
    unfold At at h
    rw [row_none] at h
    simp at h
  exact ⟨h1, h2, by simpa using h3, by simpa using h4, fun k i x h => absurd h (hn k i x), fun k i _ _ x h => absurd h (hn k i x)⟩
end
end Go.Proofs.Ytglnjpbjlcbgoaa
