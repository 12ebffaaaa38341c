/-
  Plain facts on the document's reading of a text: numbers found by trying them all, runs, and that the text of a set is read as it. No condition.
-/
import Derived.Test.YtgmdbgdbjmlolaaDoorMathr
namespace Go.Proofs.YtgmdbgdbjmlolaaDoor

/-- the first number from k on (f of them) whose digits are the text. -/
def findN (t : List UInt8) : Nat → Nat → Option Nat
  | 0, _ => none
  | f + 1, k => if dec2 k = t then some k else findN t f (k + 1)
def numAt (s : List UInt8) (e : Nat) : Option Nat := if e ≤ s.length then findN (s.take e) 64 0 else none
/-- the number that a text begins with, of at most e digits, and how many. -/
def numFrom (s : List UInt8) : Nat → Option (Nat × Nat)
  | 0 => none
  | e + 1 => match numAt s (e + 1) with | some n => some (n, e + 1) | none => numFrom s e
/-- what is behind a number: the run's last core, and the rest. -/
def lastRef (a : Nat) (r : List UInt8) : Option (Nat × List UInt8) :=
  if r.head? = some 45 then match numFrom (r.drop 1) 2 with | some (b, e) => some (b, r.drop (1 + e)) | none => none else some (a, r)
def refSpec : Nat → List UInt8 → Nat → Option Nat
  | 0, _, _ => none
  | f + 1, s, acc => match numFrom s 2 with
    | none => none
    | some (a, e) => match lastRef a (s.drop e) with
      | none => none
      | some (b, r) => if r = [] then some (addRun acc (a, b)) else if r.head? = some 44 then refSpec f (r.drop 1) (addRun acc (a, b)) else none
def refText (s : List UInt8) : Option Nat := refSpec (s.length + 1) s 0
def refMask (s : List UInt8) : Option Nat :=
  if s = noneL then some 0 else match refText s with | some n => if textOf n = s then some n else none | none => none

/-! ### numbers -/
theorem findN_lt : ∀ (t : List UInt8) (f k n : Nat), findN t f k = some n → n < k + f
  | _, 0, _, _, h => by cases h
  | t, f + 1, k, n, h => by
    unfold findN at h
    split at h
    · simp only [Option.some.injEq] at h; omega
    · have := findN_lt t f (k + 1) n h; omega
theorem numAt_lt {s : List UInt8} {e n : Nat} (h : numAt s e = some n) : n < 64 ∧ e ≤ s.length := by
  unfold numAt at h
  split at h
  · have := findN_lt _ _ _ _ h; omega
  · cases h
theorem numFrom_lt : ∀ {s : List UInt8} {e n k : Nat}, numFrom s e = some (n, k) → n < 64 ∧ 1 ≤ k ∧ k ≤ e ∧ k ≤ s.length
  | _, 0, _, _, h => by cases h
  | s, e + 1, n, k, h => by
    unfold numFrom at h
    split at h
    · rename_i m hm
      simp only [Option.some.injEq, Prod.mk.injEq] at h
      have := numAt_lt hm
      omega
    · have := numFrom_lt h; omega
theorem lastRef_lt {a b : Nat} {r r' : List UInt8} (ha : a < 64) (h : lastRef a r = some (b, r')) : b < 64 ∧ r'.length ≤ r.length := by
  unfold lastRef at h
  split at h
  · split at h
    · rename_i b1 e1 hm
      simp only [Option.some.injEq, Prod.mk.injEq] at h
      have := numFrom_lt hm
      obtain ⟨rfl, rfl⟩ := h
      exact ⟨this.1, by rw [List.length_drop]; omega⟩
    · cases h
  · simp only [Option.some.injEq, Prod.mk.injEq] at h
    obtain ⟨rfl, rfl⟩ := h
    exact ⟨ha, Nat.le_refl _⟩
theorem refSpec_lt : ∀ (f : Nat) (l : List UInt8) (acc n : Nat), acc < 18446744073709551616 → refSpec f l acc = some n → n < 18446744073709551616
  | 0, _, _, _, _, h => by cases h
  | f + 1, l, acc, n, ha, h => by
    have add_lt : ∀ (p : Nat × Nat), addRun acc p < 18446744073709551616 := fun p => by
      have : ∀ k, addTo acc p.1 k < 18446744073709551616 := fun k => by
        induction k with
        | zero => exact ha
        | succ k ih => exact withN_lt _ ih
      exact this _
    unfold refSpec at h
    split at h
    · cases h
    · split at h
      · cases h
      · rename_i a e _ _ b r _
        split at h
        · simp only [Option.some.injEq] at h; have := add_lt (a, b); omega
        · split at h
          · exact refSpec_lt f _ _ n (add_lt (a, b)) h
          · cases h

/-! ### the text of a set -/
theorem find_self : ∀ a : Fin 64, findN (dec2 a.val) 64 0 = some a.val := by decide +kernel
theorem find_sep : ∀ a : Fin 10, findN [UInt8.ofNat (48 + a.val), 44] 64 0 = none ∧ findN [UInt8.ofNat (48 + a.val), 45] 64 0 = none := by decide +kernel
/-- nothing, a comma or a dash is behind a number. -/
def Sep (r : List UInt8) : Prop := r = [] ∨ (∃ r', r = 44 :: r') ∨ ∃ r', r = 45 :: r'
theorem num_text {a : Nat} {r : List UInt8} (ha : a < 64) (hr : Sep r) : numFrom (Lib.decDigits a ++ r) 2 = some (a, (Lib.decDigits a).length) := by
  rw [dec_eq (by omega)]
  have hself := find_self ⟨a, ha⟩
  simp only at hself
  by_cases h : a < 10
  · have hd : dec2 a = [UInt8.ofNat (48 + a)] := by unfold dec2; rw [if_pos h]
    have hsep := find_sep ⟨a, h⟩
    simp only at hsep
    rw [hd] at hself ⊢
    have h2 : numAt ([UInt8.ofNat (48 + a)] ++ r) 2 = none := by
      rcases hr with rfl | ⟨r', rfl⟩ | ⟨r', rfl⟩
      · rfl
      · unfold numAt; rw [if_pos (by simp)]; exact hsep.1
      · unfold numAt; rw [if_pos (by simp)]; exact hsep.2
    have h1 : numAt ([UInt8.ofNat (48 + a)] ++ r) 1 = some a := by
      unfold numAt; rw [if_pos (by simp)]; exact hself
    show numFrom _ (1 + 1) = _
    unfold numFrom
    rw [h2]
    show numFrom _ (0 + 1) = _
    unfold numFrom
    rw [h1]
    rfl
  · have hd : dec2 a = [UInt8.ofNat (48 + a / 10), UInt8.ofNat (48 + a % 10)] := by unfold dec2; rw [if_neg h]
    rw [hd] at hself ⊢
    have h2 : numAt ([UInt8.ofNat (48 + a / 10), UInt8.ofNat (48 + a % 10)] ++ r) 2 = some a := by
      unfold numAt; rw [if_pos (by simp)]; exact hself
    show numFrom _ (1 + 1) = _
    unfold numFrom
    rw [h2]
    rfl
theorem dec_pos {a : Nat} (h : a < 64) : 1 ≤ (Lib.decDigits a).length := by rw [dec_eq (by omega)]; unfold dec2; split <;> simp
/-- one run is read as it, where nothing or a comma is behind it. -/
theorem run_ref {a b : Nat} {r : List UInt8} (ha : a < 64) (hb : b < 64) (hr : r = [] ∨ ∃ r', r = 44 :: r') :
    ∃ e, numFrom (runTextL a b ++ r) 2 = some (a, e) ∧ lastRef a ((runTextL a b ++ r).drop e) = some (b, r) := by
  refine ⟨(Lib.decDigits a).length, ?_⟩
  unfold runTextL
  by_cases h : a = b
  · subst h
    rw [if_pos rfl]
    refine ⟨num_text ha (by rcases hr with h | h; exact .inl h; exact .inr (.inl h)), ?_⟩
    rw [List.drop_left]
    unfold lastRef
    rw [if_neg]
    rcases hr with rfl | ⟨r', rfl⟩ <;> simp
  · rw [if_neg h, List.append_assoc, List.append_assoc]
    refine ⟨num_text ha (.inr (.inr ⟨_, rfl⟩)), ?_⟩
    rw [List.drop_left]
    unfold lastRef
    rw [if_pos (show ([45] ++ (Lib.decDigits b ++ r) : List UInt8).head? = some (45 : UInt8) from rfl)]
    have hn := num_text hb (r := r) (by rcases hr with h | h; exact .inl h; exact .inr (.inl h))
    have e1 : ([45] ++ (Lib.decDigits b ++ r)).drop 1 = Lib.decDigits b ++ r := rfl
    rw [e1, hn]
    show some (b, ([45] ++ (Lib.decDigits b ++ r)).drop (1 + (Lib.decDigits b).length)) = _
    rw [Nat.add_comm, List.singleton_append, List.drop_succ_cons, List.drop_left]
theorem ref_runs : ∀ (ps : List (Nat × Nat)), ps ≠ [] → (∀ p ∈ ps, p.1 < 64 ∧ p.2 < 64) → ∀ (f acc : Nat), ps.length ≤ f →
    refSpec f (Lib.join (ps.map fun p => runTextL p.1 p.2) [44]) acc = some (ps.foldl addRun acc)
  | [], h, _, _, _, _ => absurd rfl h
  | [p], _, hp, f + 1, acc, _ => by
    have h1 := hp p (by simp)
    rw [List.map_cons, List.map_nil, Lib.join_one]
    obtain ⟨e, h2, h3⟩ := run_ref (r := []) h1.1 h1.2 (.inl rfl)
    rw [List.append_nil] at h2 h3
    unfold refSpec
    rw [h2]
    simp only [h3]
    rfl
  | p :: q :: ps, _, hp, f + 1, acc, hf => by
    have h1 := hp p (by simp)
    have e : Lib.join ((p :: q :: ps).map fun p => runTextL p.1 p.2) [44] = runTextL p.1 p.2 ++ 44 :: Lib.join ((q :: ps).map fun p => runTextL p.1 p.2) [44] := by
      rw [List.map_cons, List.map_cons, Lib.join_cons, Lib.join_cons]
      simp [Lib.joinTail]
    rw [e]
    obtain ⟨e, h2, h3⟩ := run_ref (r := 44 :: Lib.join ((q :: ps).map fun p => runTextL p.1 p.2) [44]) h1.1 h1.2 (.inr ⟨_, rfl⟩)
    unfold refSpec
    rw [h2]
    simp only [h3]
    rw [if_neg (by simp), if_pos List.head?_cons]
    exact ref_runs (q :: ps) (by simp) (fun x hx => hp x (by simp [hx])) f (addRun acc p) (by simpa using hf)
  | p :: ps, _, _, 0, _, hf => by simp at hf
theorem ref_text {n : Nat} (h0 : n ≠ 0) (hn : n < 18446744073709551616) : refText (textOf n) = some n := by
  have ht : textOf n = Lib.join ((pairsOf n).map fun p => runTextL p.1 p.2) [44] := by unfold textOf; rw [if_neg h0, runs_pairs]
  have hne : pairsOf n ≠ [] := by
    intro e
    have := runs_ne h0 hn
    rw [runs_pairs, e] at this
    exact this rfl
  unfold refText
  have hl : (pairsOf n).length ≤ (textOf n).length + 1 := by
    rw [ht]
    have := join_long ((pairsOf n).map fun p => runTextL p.1 p.2) (fun x hx => by
      simp only [List.mem_map] at hx
      obtain ⟨p, hp, rfl⟩ := hx
      exact run_pos (pairs_lt hn p hp).1)
    rw [List.length_map] at this
    omega
  rw [ht] at hl ⊢
  rw [ref_runs (pairsOf n) hne (pairs_lt hn) _ 0 hl, fold_pairs hn]
theorem ref_none : refText noneL = none := by decide +kernel
theorem ref_mask {n : Nat} (hn : n < 18446744073709551616) : refMask (textOf n) = some n := by
  unfold refMask
  by_cases h0 : n = 0
  · subst h0; rw [if_pos (by rfl)]
  · by_cases h1 : textOf n = noneL
    · exfalso
      have h2 := ref_text h0 hn
      rw [h1, ref_none] at h2; cases h2
    · rw [if_neg h1, ref_text h0 hn]; simp
/-- who reads a text as a set's reads the text of that set. -/
theorem refMask_some {l : List UInt8} {n : Nat} (h : refMask l = some n) : l = textOf n ∧ n < 18446744073709551616 := by
  unfold refMask at h
  split at h
  · rename_i hl
    simp only [Option.some.injEq] at h
    subst h
    exact ⟨hl, by omega⟩
  · split at h
    · rename_i m hm
      split at h
      · rename_i ht
        simp only [Option.some.injEq] at h
        subst h
        exact ⟨ht.symm, refSpec_lt _ _ 0 _ (by omega) hm⟩
      · cases h
    · cases h
end Go.Proofs.YtgmdbgdbjmlolaaDoor
