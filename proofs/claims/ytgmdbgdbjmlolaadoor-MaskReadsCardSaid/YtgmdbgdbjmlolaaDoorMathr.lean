/-
  Plain facts on texts of sets: what reading a text answers, by the program's way, and that the text of a set is read as that set. No condition.
-/
import Derived.Test.YtgmdbgdbjmlolaaDoorMathb
import Derived.Lib.IndexMore
import Derived.Lib.AtoiAll
namespace Go.Proofs.YtgmdbgdbjmlolaaDoor

/-! ### a text cut at a byte -/
theorem index_none (c : UInt8) : ∀ (x : List UInt8), c ∉ x → Lib.index x [c] = -1
  | [], _ => rfl
  | b :: x, h => by
    have hb : ¬ c = b := fun e => h (by simp [e])
    have ih := index_none c x (fun hx => h (by simp [hx]))
    have hp : ([c] : List UInt8).isPrefixOf (b :: x) = false := by rw [List.isPrefixOf, beq_eq_false_iff_ne.2 hb]; rfl
    unfold Lib.index
    rw [hp, ih]; rfl
theorem index_mid (c : UInt8) (y : List UInt8) : ∀ (x : List UInt8), c ∉ x → Lib.index (x ++ c :: y) [c] = (x.length : Int)
  | [], _ => by
    have hp : ([c] : List UInt8).isPrefixOf (c :: y) = true := by simp
    show Lib.index (c :: y) [c] = 0
    unfold Lib.index
    rw [hp]; rfl
  | b :: x, h => by
    have hb : ¬ c = b := fun e => h (by simp [e])
    have ih := index_mid c y x (fun hx => h (by simp [hx]))
    have hp : ([c] : List UInt8).isPrefixOf (b :: (x ++ c :: y)) = false := by rw [List.isPrefixOf, beq_eq_false_iff_ne.2 hb]; rfl
    show Lib.index (b :: (x ++ c :: y)) [c] = _
    unfold Lib.index
    rw [hp, ih]
    have hne : ((x.length : Int) == -1) = false := by rw [beq_eq_false_iff_ne]; omega
    rw [hne]
    simp
theorem cut_none (c : UInt8) (x : List UInt8) (h : c ∉ x) : Lib.cut x [c] = (x, [], false) := by
  unfold Lib.cut; rw [index_none c x h]; rfl
theorem cut_mid (c : UInt8) (x y : List UInt8) (h : c ∉ x) : Lib.cut (x ++ c :: y) [c] = (x, y, true) := by
  unfold Lib.cut
  rw [index_mid c y x h, if_pos (by omega), show ((x.length : Nat) : Int).toNat = x.length by omega]
  simp

/-! ### one number, one run, by the program's way -/
def coreText (s : List UInt8) : Option Nat := match Lib.atoiAll s with | .ok v => if coreB v then some v.toNat else none | _ => none
def runOfText (s : List UInt8) : Option (Nat × Nat) :=
  match coreText (Lib.cut s [45]).1, coreText (if (Lib.cut s [45]).2.2 then (Lib.cut s [45]).2.1 else (Lib.cut s [45]).1) with
  | some a, some b => some (a, b)
  | _, _ => none
/-- k cores from a on, put into a set. -/
def addTo (acc a : Nat) : Nat → Nat
  | 0 => acc
  | k + 1 => withN (addTo acc a k) ((a + k : Nat) : Int)
def addRun (acc : Nat) (p : Nat × Nat) : Nat := addTo acc p.1 (p.2 + 1 - p.1)
def readSpec : Nat → List UInt8 → Nat → Option Nat
  | 0, _, _ => none
  | f + 1, s, acc => match runOfText (Lib.cut s [44]).1 with
    | none => none
    | some p => if (Lib.cut s [44]).2.2 then readSpec f (Lib.cut s [44]).2.1 (addRun acc p) else some (addRun acc p)
def readText (s : List UInt8) : Option Nat := readSpec (s.length + 1) s 0
/-- what Read answers. -/
def noneL : List UInt8 := [110, 111, 110, 101]
def readMask (s : List UInt8) : Option Nat :=
  if s = noneL then some 0 else match readText s with | some n => if textOf n = s then some n else none | none => none

/-- the digits of a number below 100, reckoned at once. -/
def dec2 (i : Nat) : List UInt8 := if i < 10 then [UInt8.ofNat (48 + i)] else [UInt8.ofNat (48 + i / 10), UInt8.ofNat (48 + i % 10)]
theorem dec_eq {i : Nat} (h : i < 100) : Lib.decDigits i = dec2 i := dec_small h
theorem dec_core : ∀ i : Fin 64, coreText (dec2 i.val) = some i.val := by decide +kernel
theorem dec_no : ∀ i : Fin 64, (44 : UInt8) ∉ dec2 i.val ∧ (45 : UInt8) ∉ dec2 i.val := by decide +kernel
theorem coreText_dec {a : Nat} (h : a < 64) : coreText (Lib.decDigits a) = some a := by rw [dec_eq (by omega)]; exact dec_core ⟨a, h⟩
theorem dec_44 {a : Nat} (h : a < 64) : (44 : UInt8) ∉ Lib.decDigits a := by rw [dec_eq (by omega)]; exact (dec_no ⟨a, h⟩).1
theorem dec_45 {a : Nat} (h : a < 64) : (45 : UInt8) ∉ Lib.decDigits a := by rw [dec_eq (by omega)]; exact (dec_no ⟨a, h⟩).2
theorem runOf_text {a b : Nat} (ha : a < 64) (hb : b < 64) : runOfText (runTextL a b) = some (a, b) := by
  unfold runTextL
  by_cases h : a = b
  · subst h
    rw [if_pos rfl]
    unfold runOfText
    rw [cut_none 45 _ (dec_45 ha)]
    simp [coreText_dec ha]
  · rw [if_neg h]
    unfold runOfText
    rw [List.append_assoc, List.singleton_append, cut_mid 45 _ _ (dec_45 ha)]
    simp [coreText_dec ha, coreText_dec hb]
theorem run_44 {a b : Nat} (ha : a < 64) (hb : b < 64) : (44 : UInt8) ∉ runTextL a b := by
  unfold runTextL
  split
  · exact dec_44 ha
  · intro h
    rw [List.append_assoc, List.mem_append] at h
    rcases h with h | h
    · exact dec_44 ha h
    · simp only [List.singleton_append, List.mem_cons] at h
      rcases h with h | h
      · exact absurd h (by decide)
      · exact dec_44 hb h

/-! ### the runs of a text -/
theorem read_runs : ∀ (ps : List (Nat × Nat)), ps ≠ [] → (∀ p ∈ ps, p.1 < 64 ∧ p.2 < 64) → ∀ (f acc : Nat), ps.length ≤ f →
    readSpec f (Lib.join (ps.map fun p => runTextL p.1 p.2) [44]) acc = some (ps.foldl addRun acc)
  | [], h, _, _, _, _ => absurd rfl h
  | [p], _, hp, f + 1, acc, _ => by
    have h1 := hp p (by simp)
    rw [List.map_cons, List.map_nil, Lib.join_one]
    unfold readSpec
    rw [cut_none 44 _ (run_44 h1.1 h1.2)]
    simp only [runOf_text h1.1 h1.2]
    rfl
  | p :: q :: ps, _, hp, f + 1, acc, hf => by
    have h1 := hp p (by simp)
    have e : Lib.join ((p :: q :: ps).map fun p => runTextL p.1 p.2) [44] = runTextL p.1 p.2 ++ 44 :: Lib.join ((q :: ps).map fun p => runTextL p.1 p.2) [44] := by
      rw [List.map_cons, List.map_cons, Lib.join_cons, Lib.join_cons]
      simp [Lib.joinTail]
    rw [e]
    unfold readSpec
    rw [cut_mid 44 _ _ (run_44 h1.1 h1.2)]
    simp only [runOf_text h1.1 h1.2, if_true]
    exact read_runs (q :: ps) (by simp) (fun x hx => hp x (by simp [hx])) f (addRun acc p) (by simpa using hf)
  | p :: ps, _, _, 0, _, hf => by simp at hf

theorem addTo_bit (acc a : Nat) : ∀ (k : Nat), a + k ≤ 64 → ∀ j, (addTo acc a k).testBit j = (acc.testBit j || decide (a ≤ j ∧ j < a + k))
  | 0, _, j => by
    have h1 : decide (a ≤ j ∧ j < a + 0) = false := by rw [decide_eq_false_iff_not]; omega
    rw [addTo, h1, Bool.or_false]
  | k + 1, h, j => by
    rw [addTo, withN_bit (by omega), addTo_bit acc a k (by omega) j]
    by_cases h1 : a + k = j
    · subst h1
      have : a ≤ a + k ∧ a + k < a + (k + 1) := by omega
      simp
    · by_cases h2 : a ≤ j ∧ j < a + k
      · have : a ≤ j ∧ j < a + (k + 1) := by omega
        simp [h1, h2, this]
      · have : ¬ (a ≤ j ∧ j < a + (k + 1)) := by omega
        simp [h1, h2, this]
theorem addRun_bit (acc : Nat) (p : Nat × Nat) (h : p.2 < 64) (h1 : p.1 < 64) (j : Nat) : (addRun acc p).testBit j = (acc.testBit j || decide (p.1 ≤ j ∧ j ≤ p.2)) := by
  unfold addRun
  rw [addTo_bit acc p.1 _ (by omega) j]
  congr 1
  rw [Bool.eq_iff_iff, decide_eq_true_eq, decide_eq_true_eq]
  omega
theorem fold_bit : ∀ (ps : List (Nat × Nat)), (∀ p ∈ ps, p.1 < 64 ∧ p.2 < 64) → ∀ (acc j : Nat), (ps.foldl addRun acc).testBit j = (acc.testBit j || ps.any fun p => decide (p.1 ≤ j ∧ j ≤ p.2))
  | [], _, acc, j => by simp
  | p :: ps, hp, acc, j => by
    have h1 := hp p (by simp)
    rw [List.foldl_cons, fold_bit ps (fun x hx => hp x (by simp [hx])), addRun_bit acc p h1.2 h1.1, List.any_cons, Bool.or_assoc]

/-! ### the runs of a set -/
theorem runGo_ge (n : Nat) : ∀ (f c : Nat), c ≤ runGo n f c
  | 0, c => Nat.le_refl c
  | f + 1, c => by
    unfold runGo
    split
    · have := runGo_ge n f (c + 1); omega
    · exact Nat.le_refl c
theorem runGo_in (n : Nat) : ∀ (f c j : Nat), n.testBit c = true → c ≤ j → j ≤ runGo n f c → n.testBit j = true
  | 0, c, j, h, h1, h2 => by
    have : j = c := by unfold runGo at h2; omega
    rw [this]; exact h
  | f + 1, c, j, h, h1, h2 => by
    unfold runGo at h2
    by_cases e : j = c
    · rw [e]; exact h
    · split at h2
      · rename_i hb; exact runGo_in n f (c + 1) j hb (by omega) h2
      · omega
theorem run_reach {n : Nat} (hn : n < 18446744073709551616) : ∀ (d c : Nat), (∀ j, c ≤ j → j ≤ c + d → n.testBit j = true) → c + d ≤ runEndN n c
  | 0, c, _ => by unfold runEndN; exact runGo_ge n _ c
  | d + 1, c, h => by
    have h1 := run_go_on hn (h (c + 1) (by omega) (by omega))
    rw [h1.2]
    have := run_reach hn d (c + 1) (fun j h2 h3 => h j (by omega) (by omega))
    omega
/-- the pairs of first and last cores. -/
def pairsOf (n : Nat) : List (Nat × Nat) := ((coresOf n).filter fun c : Nat => !hasB n ((c : Int) - 1)).map fun c => (c, runEndN n c)
theorem runs_pairs (n : Nat) : runsOf n (coresOf n) = (pairsOf n).map fun p => runTextL p.1 p.2 := by
  unfold runsOf pairsOf; rw [List.map_map]; rfl
theorem pairs_lt {n : Nat} (hn : n < 18446744073709551616) : ∀ p ∈ pairsOf n, p.1 < 64 ∧ p.2 < 64 := by
  intro p hp
  simp only [pairsOf, List.mem_map, List.mem_filter] at hp
  obtain ⟨c, ⟨hc, _⟩, rfl⟩ := hp
  exact ⟨cores_lt hc, runEndN_lt hn (cores_lt hc)⟩
/-- each core is in a run that has a first one. -/
theorem run_start {n : Nat} (hn : n < 18446744073709551616) : ∀ (j : Nat), n.testBit j = true → ∃ c, c ≤ j ∧ (∀ i, c ≤ i → i ≤ j → n.testBit i = true) ∧ hasB n ((c : Int) - 1) = false
  | 0, h => by
    refine ⟨0, Nat.le_refl 0, fun i _ hi => ?_, hasB_no (coreB_neg (by omega))⟩
    have e : i = 0 := by omega
    rw [e]; exact h
  | j + 1, h => by
    cases hb : n.testBit j
    · refine ⟨j + 1, Nat.le_refl _, fun i h1 h2 => ?_, ?_⟩
      · have : i = j + 1 := by omega
        rw [this]; exact h
      · rw [show ((j + 1 : Nat) : Int) - 1 = (j : Int) by omega, hasB_any hn]; exact hb
    · obtain ⟨c, h1, h2, h3⟩ := run_start hn j hb
      refine ⟨c, by omega, fun i h4 h5 => ?_, h3⟩
      by_cases e : i = j + 1
      · rw [e]; exact h
      · exact h2 i h4 (by omega)
theorem fold_pairs {n : Nat} (hn : n < 18446744073709551616) : (pairsOf n).foldl addRun 0 = n := by
  apply Nat.eq_of_testBit_eq
  intro j
  rw [fold_bit _ (pairs_lt hn), Nat.zero_testBit, Bool.false_or, Bool.eq_iff_iff, List.any_eq_true]
  constructor
  · rintro ⟨p, hp, hj⟩
    simp only [pairsOf, List.mem_map, List.mem_filter] at hp
    obtain ⟨c, ⟨hc, _⟩, rfl⟩ := hp
    rw [decide_eq_true_eq] at hj
    exact runGo_in n _ c j (cores_bit hc) hj.1 hj.2
  · intro hj
    obtain ⟨c, h1, h2, h3⟩ := run_start hn j hj
    have hj64 : j < 64 := by
      apply Nat.lt_of_not_le; intro hle; rw [bit_far hn hle] at hj; cases hj
    refine ⟨(c, runEndN n c), ?_, ?_⟩
    · simp only [pairsOf, List.mem_map, List.mem_filter]
      refine ⟨c, ⟨?_, by rw [h3]; rfl⟩, rfl⟩
      simp only [coresOf, List.mem_filter, List.mem_range]
      exact ⟨by omega, h2 c (Nat.le_refl c) h1⟩
    · rw [decide_eq_true_eq]
      refine ⟨h1, ?_⟩
      have := run_reach hn (j - c) c (fun i h4 h5 => h2 i h4 (by omega))
      show j ≤ runEndN n c
      omega
theorem pairs_len {n : Nat} : (pairsOf n).length ≤ (runsOf n (coresOf n)).length := by rw [runs_pairs, List.length_map]; exact Nat.le_refl _
theorem run_pos {a b : Nat} (ha : a < 64) : 1 ≤ (runTextL a b).length := by
  have h : 1 ≤ (Lib.decDigits a).length := by rw [dec_eq (by omega)]; unfold dec2; split <;> simp
  unfold runTextL; split
  · exact h
  · simp; omega
theorem join_long : ∀ (r : List (List UInt8)), (∀ x ∈ r, 1 ≤ x.length) → r.length ≤ (Lib.join r [44]).length
  | [], _ => Nat.zero_le _
  | x :: r, h => by
    rw [Lib.join_cons]
    have h1 := h x (by simp)
    have h2 : ∀ (r : List (List UInt8)), r.length ≤ (Lib.joinTail [44] r).length := by
      intro r
      induction r with
      | nil => simp
      | cons y r ih =>
        unfold Lib.joinTail at ih ⊢
        simp only [List.map_cons, List.flatten_cons, List.length_append, List.length_cons, List.length_nil] at ih ⊢
        omega
    have := h2 r
    simp only [List.length_append, List.length_cons]
    omega
/-- THE TEXT OF A SET IS READ AS IT. -/
theorem read_text {n : Nat} (h0 : n ≠ 0) (hn : n < 18446744073709551616) : readText (textOf n) = some n := by
  have ht : textOf n = Lib.join ((pairsOf n).map fun p => runTextL p.1 p.2) [44] := by unfold textOf; rw [if_neg h0, runs_pairs]
  have hne : pairsOf n ≠ [] := by
    intro e
    have := runs_ne h0 hn
    rw [runs_pairs, e] at this
    exact this rfl
  unfold readText
  have hl : (pairsOf n).length ≤ (textOf n).length + 1 := by
    rw [ht]
    have := join_long ((pairsOf n).map fun p => runTextL p.1 p.2) (fun x hx => by
      simp only [List.mem_map] at hx
      obtain ⟨p, hp, rfl⟩ := hx
      exact run_pos (pairs_lt hn p hp).1)
    rw [List.length_map] at this
    omega
  rw [ht] at hl ⊢
  rw [read_runs (pairsOf n) hne (pairs_lt hn) _ 0 hl, fold_pairs hn]
theorem read_mask {n : Nat} (hn : n < 18446744073709551616) : readMask (textOf n) = some n := by
  unfold readMask
  by_cases h0 : n = 0
  · subst h0; rw [if_pos (by rfl)]
  · by_cases h1 : textOf n = noneL
    · exfalso
      have h2 := read_text h0 hn
      rw [h1] at h2
      have h3 : readText noneL = none := by decide +kernel
      rw [h3] at h2; cases h2
    · rw [if_neg h1, read_text h0 hn]; simp
end Go.Proofs.YtgmdbgdbjmlolaaDoor
