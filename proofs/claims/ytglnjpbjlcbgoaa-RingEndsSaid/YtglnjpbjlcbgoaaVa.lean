/-
  Plain facts on lists of nodes, and on the links that tell them (no program). Conditions: no node is in two places.
-/
namespace Go.Proofs.Ytglnjpbjlcbgoaa

/-- one of some lists; none: the empty one. -/
def row (ls : List (List Nat)) (k : Nat) : List Nat := ls.getD k []
def rowI (ls : List (List Nat)) (k : Int) : List Nat := if 0 ≤ k then row ls k.toNat else []
/-- x stands in list k at i. -/
def At (ls : List (List Nat)) (k i x : Nat) : Prop := (row ls k)[i]? = some x
theorem At.len {ls : List (List Nat)} {k i x : Nat} (h : At ls k i x) : i < (row ls k).length := (List.getElem?_eq_some_iff.1 h).1
theorem At.lists {ls : List (List Nat)} {k i x : Nat} (h : At ls k i x) : k < ls.length := by
  by_cases hk : k < ls.length
  · exact hk
  · have h1 := h.len
    have : row ls k = [] := by simp [row, List.getD, List.getElem?_eq_none (by omega : ls.length ≤ k)]
    rw [this] at h1; simp at h1
theorem At.eq {ls : List (List Nat)} {k i x y : Nat} (h : At ls k i x) (h' : At ls k i y) : x = y := by
  unfold At at h h'; rw [h] at h'; exact Option.some.inj h'
theorem At.of_lt {ls : List (List Nat)} {k i : Nat} (h : i < (row ls k).length) : At ls k i ((row ls k).getD i 0) := by
  simp [At, List.getD, List.getElem?_eq_getElem h]
structure OkL (N : Nat) (ls : List (List Nat)) : Prop where
  n1 : 1 ≤ N
  n64 : N ≤ 64
  m1 : 1 ≤ ls.length
  m64 : ls.length ≤ 64
  lt : ∀ k i x, At ls k i x → x < N
  inj : ∀ k i k' i' x, At ls k i x → At ls k' i' x → k = k' ∧ i = i'
theorem nodup_len : ∀ (N : Nat) (l : List Nat), l.Nodup → (∀ x, x ∈ l → x < N) → l.length ≤ N
  | 0, l, _, h => by
    cases l with
    | nil => simp
    | cons a t => exact absurd (h a (by simp)) (by omega)
  | N + 1, l, hn, h => by
    have h1 := nodup_len N (l.erase N) (hn.erase N) (fun x hx => by
      have h2 : x ∈ l ∧ x ≠ N := by
        rw [hn.mem_erase_iff] at hx
        exact ⟨hx.2, hx.1⟩
      have := h x h2.1
      omega)
    have h3 : l.length ≤ (l.erase N).length + 1 := by
      rw [List.length_erase]; split <;> omega
    omega
section
variable {N : Nat} {ls : List (List Nat)}
theorem OkL.nodup (h : OkL N ls) (k : Nat) : (row ls k).Nodup := by
  unfold List.Nodup
  rw [List.pairwise_iff_getElem]
  intro i j hi hj hij he
  have h1 : At ls k i (row ls k)[j] := by unfold At; rw [List.getElem?_eq_getElem hi, he]
  have h2 : At ls k j (row ls k)[j] := by unfold At; rw [List.getElem?_eq_getElem hj]
  have := (h.inj _ _ _ _ _ h1 h2).2
  omega
theorem OkL.len (h : OkL N ls) (k : Nat) : (row ls k).length ≤ N :=
  nodup_len N _ (h.nodup k) fun x hx => by
    obtain ⟨i, hi⟩ := List.getElem?_of_mem hx
    exact h.lt k i x hi
theorem OkL.len64 (h : OkL N ls) (k : Nat) : (row ls k).length ≤ 64 := Nat.le_trans (h.len k) h.n64
end
/-- the places of list k in order: its own one, its nodes, its own one. -/
def wk (N : Nat) (ls : List (List Nat)) (k : Nat) : Nat → Nat
  | 0 => N + k
  | i + 1 => (row ls k).getD i (N + k)
section
variable {N : Nat} {ls : List (List Nat)} {k i : Nat}
theorem wk_zero : wk N ls k 0 = N + k := rfl
theorem wk_at {x : Nat} (h : At ls k i x) : wk N ls k (i + 1) = x := by
  unfold At at h; simp [wk, List.getD, h]
theorem wk_at' (h : i < (row ls k).length) : At ls k i (wk N ls k (i + 1)) := by
  unfold At; simp [wk, List.getD, List.getElem?_eq_getElem h]
theorem wk_end (h : (row ls k).length ≤ i) : wk N ls k (i + 1) = N + k := by
  simp [wk, List.getD, List.getElem?_eq_none h]
theorem wk_lt (ok : OkL N ls) (hk : k < ls.length) (i : Nat) : wk N ls k i < N + ls.length := by
  cases i with
  | zero => rw [wk_zero]; omega
  | succ i =>
    by_cases h : i < (row ls k).length
    · have := ok.lt _ _ _ (wk_at' (N := N) h); omega
    · rw [wk_end (by omega)]; omega
theorem wk_inj (ok : OkL N ls) {k' i' : Nat} (hi : i ≤ (row ls k).length) (hi' : i' ≤ (row ls k').length) (he : wk N ls k i = wk N ls k' i') : k = k' ∧ i = i' := by
  cases i with
  | zero =>
    cases i' with
    | zero => rw [wk_zero, wk_zero] at he; omega
    | succ i' => have := ok.lt _ _ _ (wk_at' (N := N) (show i' < (row ls k').length by omega)); rw [wk_zero] at he; omega
  | succ i =>
    cases i' with
    | zero => have := ok.lt _ _ _ (wk_at' (N := N) (show i < (row ls k).length by omega)); rw [wk_zero] at he; omega
    | succ i' =>
      have h1 := wk_at' (N := N) (show i < (row ls k).length by omega)
      have h2 := wk_at' (N := N) (show i' < (row ls k').length by omega)
      rw [he] at h1
      have := ok.inj _ _ _ _ _ h1 h2
      omega
end
/-- links: ahead, behind, list. -/
structure Ln where
  pv : Nat → Int
  nx : Nat → Int
  li : Nat → Int
def upd (f : Nat → Int) (j : Nat) (x : Int) : Nat → Int := fun i => if i = j then x else f i
theorem upd_same (f : Nat → Int) (j : Nat) (x : Int) : upd f j x j = x := if_pos rfl
theorem upd_other {f : Nat → Int} {j i : Nat} {x : Int} (h : i ≠ j) : upd f j x i = f i := if_neg h
structure Lk (N : Nat) (ls : List (List Nat)) (S : Ln) : Prop where
  nx : ∀ k i, k < ls.length → i ≤ (row ls k).length → S.nx (wk N ls k i) = (wk N ls k (i + 1) : Nat)
  pv : ∀ k i, k < ls.length → i ≤ (row ls k).length → S.pv (wk N ls k (i + 1)) = (wk N ls k i : Nat)
  li : ∀ k i, k < ls.length → i ≤ (row ls k).length → S.li (wk N ls k i) = (k : Nat)
  free : ∀ x, x < N → (∀ k i, ¬ At ls k i x) → S.nx x = -1 ∧ S.pv x = -1 ∧ S.li x = -1
def insL (ls : List (List Nat)) (k i x : Nat) : List (List Nat) := ls.set k ((row ls k).take i ++ x :: (row ls k).drop i)
def delL (ls : List (List Nat)) (k i : Nat) : List (List Nat) := ls.set k ((row ls k).take i ++ (row ls k).drop (i + 1))
section
variable {N : Nat} {ls : List (List Nat)} {k i : Nat}
theorem row_set (hk : k < ls.length) (l : List Nat) (k' : Nat) : row (ls.set k l) k' = if k' = k then l else row ls k' := by
  unfold row
  by_cases h : k' = k
  · subst h; simp [List.getD, hk]
  · simp [List.getD, h, List.getElem?_set_ne (Ne.symm h)]
theorem ins_get (l : List Nat) (x : Nat) (hi : i ≤ l.length) (j : Nat) : (l.take i ++ x :: l.drop i)[j]? = if j < i then l[j]? else if j = i then some x else l[j - 1]? := by
  have ht : (l.take i).length = i := by simp; omega
  rw [List.getElem?_append, ht]
  by_cases h1 : j < i
  · rw [if_pos h1, if_pos h1, List.getElem?_take_of_lt h1]
  · rw [if_neg h1, if_neg h1]
    by_cases h2 : j = i
    · subst h2; simp
    · obtain ⟨d, rfl⟩ : ∃ d, j = i + 1 + d := ⟨j - i - 1, by omega⟩
      rw [if_neg h2, show i + 1 + d - i = d + 1 by omega, List.getElem?_cons_succ, List.getElem?_drop, show i + 1 + d - 1 = i + d by omega]
theorem del_get (l : List Nat) (hi : i ≤ l.length) (j : Nat) : (l.take i ++ l.drop (i + 1))[j]? = if j < i then l[j]? else l[j + 1]? := by
  have ht : (l.take i).length = i := by simp; omega
  rw [List.getElem?_append, ht]
  by_cases h1 : j < i
  · rw [if_pos h1, if_pos h1, List.getElem?_take_of_lt h1]
  · rw [if_neg h1, if_neg h1, List.getElem?_drop, show i + 1 + (j - i) = j + 1 by omega]
theorem insL_len (ls : List (List Nat)) (k i x : Nat) : (insL ls k i x).length = ls.length := by simp [insL]
theorem delL_len (ls : List (List Nat)) (k i : Nat) : (delL ls k i).length = ls.length := by simp [delL]
theorem insL_row (hk : k < ls.length) (x k' : Nat) : row (insL ls k i x) k' = if k' = k then (row ls k).take i ++ x :: (row ls k).drop i else row ls k' := row_set hk _ _
theorem delL_row (hk : k < ls.length) (k' : Nat) : row (delL ls k i) k' = if k' = k then (row ls k).take i ++ (row ls k).drop (i + 1) else row ls k' := row_set hk _ _
theorem insL_at (hk : k < ls.length) (hi : i ≤ (row ls k).length) (x k' j y : Nat) : At (insL ls k i x) k' j y ↔ if k' = k then (if j < i then At ls k j y else if j = i then y = x else At ls k (j - 1) y) else At ls k' j y := by
  unfold At
  rw [insL_row hk]
  by_cases h : k' = k
  · rw [if_pos h, if_pos h, ins_get _ _ hi]
    by_cases h1 : j < i
    · simp [h1]
    · by_cases h2 : j = i
      · simp [h2]; exact eq_comm
      · simp [h1, h2]
  · simp [h]
theorem delL_at (hk : k < ls.length) (hi : i ≤ (row ls k).length) (k' j y : Nat) : At (delL ls k i) k' j y ↔ if k' = k then (if j < i then At ls k j y else At ls k (j + 1) y) else At ls k' j y := by
  unfold At
  rw [delL_row hk]
  by_cases h : k' = k
  · rw [if_pos h, if_pos h, del_get _ hi]
    by_cases h1 : j < i
    · simp [h1]
    · simp [h1]
  · simp [h]
theorem insL_lenk (hk : k < ls.length) (hi : i ≤ (row ls k).length) (x k' : Nat) : (row (insL ls k i x) k').length = (row ls k').length + if k' = k then 1 else 0 := by
  rw [insL_row hk]
  by_cases h : k' = k
  · subst h; simp; omega
  · simp [h]
theorem delL_lenk (hk : k < ls.length) (hi : i < (row ls k).length) (k' : Nat) : (row (delL ls k i) k').length + (if k' = k then 1 else 0) = (row ls k').length := by
  rw [delL_row hk]
  by_cases h : k' = k
  · subst h; simp; omega
  · simp [h]
theorem insL_ok {x : Nat} (ok : OkL N ls) (hk : k < ls.length) (hi : i ≤ (row ls k).length) (hx : x < N) (hf : ∀ k i, ¬ At ls k i x) : OkL N (insL ls k i x) := by
  refine ⟨ok.n1, ok.n64, by rw [insL_len]; exact ok.m1, by rw [insL_len]; exact ok.m64, ?_, ?_⟩
  · intro k' j y h
    rw [insL_at hk hi] at h
    split at h
    · split at h
      · exact ok.lt _ _ _ h
      · split at h
        · subst h; exact hx
        · exact ok.lt _ _ _ h
    · exact ok.lt _ _ _ h
  · intro k1 j1 k2 j2 y h1 h2
    rw [insL_at hk hi] at h1 h2
    have key : ∀ k' j, (if k' = k then (if j < i then At ls k j y else if j = i then y = x else At ls k (j - 1) y) else At ls k' j y) → (y = x ∧ k' = k ∧ j = i) ∨ (k' = k ∧ j < i ∧ At ls k j y) ∨ (k' = k ∧ i < j ∧ At ls k (j - 1) y) ∨ (k' ≠ k ∧ At ls k' j y) := by
      intro k' j h
      split at h
      · split at h
        · exact .inr (.inl ⟨by assumption, by assumption, h⟩)
        · split at h
          · exact .inl ⟨h, by assumption, by assumption⟩
          · exact .inr (.inr (.inl ⟨by assumption, by omega, h⟩))
      · exact .inr (.inr (.inr ⟨by assumption, h⟩))
    rcases key _ _ h1 with ⟨rfl, rfl, rfl⟩ | ⟨rfl, a1, b1⟩ | ⟨rfl, a1, b1⟩ | ⟨a1, b1⟩ <;> rcases key _ _ h2 with ⟨c0, c1, c2⟩ | ⟨c0, a2, b2⟩ | ⟨c0, a2, b2⟩ | ⟨a2, b2⟩
    · exact ⟨c1.symm, c2.symm⟩
    · exact absurd b2 (hf _ _)
    · exact absurd b2 (hf _ _)
    · exact absurd b2 (hf _ _)
    · exact absurd (c0 ▸ b1) (hf _ _)
    · have := ok.inj _ _ _ _ _ b1 b2; omega
    · have := ok.inj _ _ _ _ _ b1 b2; omega
    · have := ok.inj _ _ _ _ _ b1 b2; omega
    · exact absurd (c0 ▸ b1) (hf _ _)
    · have := ok.inj _ _ _ _ _ b1 b2; omega
    · have := ok.inj _ _ _ _ _ b1 b2; omega
    · have := ok.inj _ _ _ _ _ b1 b2; omega
    · exact absurd (c0 ▸ b1) (hf _ _)
    · have := ok.inj _ _ _ _ _ b1 b2; omega
    · have := ok.inj _ _ _ _ _ b1 b2; omega
    · exact ok.inj _ _ _ _ _ b1 b2
theorem delL_back (hk : k < ls.length) (hi : i < (row ls k).length) {k' j y : Nat} (h : At (delL ls k i) k' j y) : ∃ j', At ls k' j' y ∧ (k' = k → j' ≠ i) ∧ (j' = if k' = k ∧ i ≤ j then j + 1 else j) := by
  rw [delL_at hk (by omega)] at h
  split at h
  · rename_i e
    subst e
    split at h
    · exact ⟨j, h, fun _ => by omega, by rw [if_neg (by omega)]⟩
    · exact ⟨j + 1, h, fun _ => by omega, by rw [if_pos (by omega)]⟩
  · rename_i e
    exact ⟨j, h, fun e' => absurd e' e, by rw [if_neg (by omega)]⟩
theorem delL_ok (ok : OkL N ls) (hk : k < ls.length) (hi : i < (row ls k).length) : OkL N (delL ls k i) := by
  refine ⟨ok.n1, ok.n64, by rw [delL_len]; exact ok.m1, by rw [delL_len]; exact ok.m64, ?_, ?_⟩
  · intro k' j y h
    obtain ⟨j', h', -⟩ := delL_back hk hi h
    exact ok.lt _ _ _ h'
  · intro k1 j1 k2 j2 y h1 h2
    obtain ⟨j1', h1', n1, e1⟩ := delL_back hk hi h1
    obtain ⟨j2', h2', n2, e2⟩ := delL_back hk hi h2
    obtain ⟨rfl, e3⟩ := ok.inj _ _ _ _ _ h1' h2'
    refine ⟨rfl, ?_⟩
    rw [e1, e2] at e3
    split at e3 <;> split at e3 <;> omega
theorem insL_wk (hk : k < ls.length) (hi : i ≤ (row ls k).length) (x k' j : Nat) : wk N (insL ls k i x) k' j = if k' = k ∧ i < j then (if j = i + 1 then x else wk N ls k (j - 1)) else wk N ls k' j := by
  cases j with
  | zero => rw [if_neg (by omega)]; rfl
  | succ j =>
    unfold wk
    simp only [List.getD]
    rw [insL_row hk]
    by_cases h : k' = k
    · subst h
      rw [if_pos rfl, ins_get _ _ hi]
      by_cases h1 : j < i
      · rw [if_pos h1, if_neg (by omega)]
      · rw [if_neg h1]
        by_cases h2 : j = i
        · simp [h2]
        · rw [if_neg h2, if_pos (by omega), if_neg (by omega)]
          obtain ⟨d, rfl⟩ : ∃ d, j = d + 1 := ⟨j - 1, by omega⟩
          rfl
    · rw [if_neg h, if_neg (by omega)]
theorem delL_wk (hk : k < ls.length) (hi : i < (row ls k).length) (k' j : Nat) : wk N (delL ls k i) k' j = if k' = k ∧ i < j then wk N ls k (j + 1) else wk N ls k' j := by
  cases j with
  | zero => rw [if_neg (by omega)]; rfl
  | succ j =>
    unfold wk
    simp only [List.getD]
    rw [delL_row hk]
    by_cases h : k' = k
    · subst h
      rw [if_pos rfl, del_get _ (by omega)]
      by_cases h1 : j < i
      · rw [if_pos h1, if_neg (by omega)]
      · rw [if_neg h1, if_pos (by omega)]
    · rw [if_neg h, if_neg (by omega)]
theorem wk_free {x : Nat} (hx : x < N) (hf : ∀ k i, ¬ At ls k i x) (k j : Nat) : wk N ls k j ≠ x := by
  cases j with
  | zero => rw [wk_zero]; omega
  | succ j =>
    by_cases h : j < (row ls k).length
    · intro e
      have := wk_at' (N := N) h
      rw [e] at this
      exact hf _ _ this
    · rw [wk_end (by omega)]; omega
/-- the links behind x being put behind the place wk k i. -/
def insS (N : Nat) (ls : List (List Nat)) (S : Ln) (k i x : Nat) : Ln :=
  ⟨upd (upd S.pv x (wk N ls k i : Nat)) (wk N ls k (i + 1)) (x : Nat), upd (upd S.nx x (wk N ls k (i + 1) : Nat)) (wk N ls k i) (x : Nat), upd S.li x (k : Nat)⟩
theorem wk_next_inj (ok : OkL N ls) {k' i' : Nat} (hi : i ≤ (row ls k).length) (hi' : i' ≤ (row ls k').length) (he : wk N ls k (i + 1) = wk N ls k' (i' + 1)) : k = k' ∧ i = i' := by
  by_cases h : i < (row ls k).length
  · by_cases h' : i' < (row ls k').length
    · have := wk_inj ok (show i + 1 ≤ _ from h) (show i' + 1 ≤ _ from h') he
      omega
    · rw [wk_end (k := k') (by omega)] at he
      have := ok.lt _ _ _ (wk_at' (N := N) h)
      omega
  · rw [wk_end (by omega)] at he
    by_cases h' : i' < (row ls k').length
    · have := ok.lt _ _ _ (wk_at' (N := N) h')
      omega
    · rw [wk_end (by omega)] at he
      obtain rfl : k = k' := by omega
      exact ⟨rfl, by omega⟩
theorem insS_ok {x : Nat} {S : Ln} (ok : OkL N ls) (lk : Lk N ls S) (hk : k < ls.length) (hi : i ≤ (row ls k).length) (hx : x < N) (hf : ∀ k i, ¬ At ls k i x) : Lk N (insL ls k i x) (insS N ls S k i x) := by
  have hne := fun k j => wk_free (k := k) (j := j) hx hf
  refine ⟨?_, ?_, ?_, ?_⟩
  · intro k' j hk' hj
    rw [insL_len] at hk'
    rw [insL_lenk hk hi] at hj
    rw [insL_wk hk hi, insL_wk hk hi]
    unfold insS
    simp only
    by_cases e : k' = k
    · subst e
      simp only [true_and, if_true] at hj ⊢
      by_cases h1 : j < i
      · rw [if_neg (by omega), if_neg (by omega), upd_other (fun e => by have := wk_inj ok (by omega) hi e; omega), upd_other (hne _ _)]
        exact lk.nx _ _ hk' (by omega)
      · by_cases h2 : j = i
        · subst h2
          rw [if_neg (by omega), if_pos (by omega), if_pos rfl, upd_same]
        · by_cases h3 : j = i + 1
          · subst h3
            rw [if_pos (by omega), if_pos rfl, if_pos (by omega), if_neg (by omega), upd_other (fun e => hne k' i e.symm), upd_same]
            rfl
          · rw [if_pos (by omega), if_neg h3, if_pos (by omega), if_neg (by omega), upd_other (fun e => by have := wk_inj ok (show j - 1 ≤ _ by omega) hi e; omega), upd_other (hne _ _)]
            have := lk.nx k' (j - 1) hk' (by omega)
            rw [this, show j - 1 + 1 = j + 1 - 1 by omega]
    · rw [if_neg (fun h => e h.1), if_neg (fun h => e h.1), upd_other (fun e' => e (wk_inj ok (by simpa [e] using hj) hi e').1), upd_other (hne _ _)]
      exact lk.nx _ _ hk' (by simpa [e] using hj)
  · intro k' j hk' hj
    rw [insL_len] at hk'
    rw [insL_lenk hk hi] at hj
    rw [insL_wk hk hi, insL_wk hk hi]
    unfold insS
    simp only
    by_cases e : k' = k
    · subst e
      simp only [true_and, if_true] at hj ⊢
      by_cases h1 : j < i
      · rw [if_neg (by omega), if_neg (by omega), upd_other (fun e => by have := wk_next_inj ok (by omega) hi e; omega), upd_other (hne _ _)]
        exact lk.pv _ _ hk' (by omega)
      · by_cases h2 : j = i
        · subst h2
          rw [if_pos (by omega), if_pos rfl, if_neg (by omega), upd_other (fun e => hne k' (j + 1) e.symm), upd_same]
        · by_cases h3 : j = i + 1
          · subst h3
            rw [if_pos (by omega), if_neg (by omega), if_pos (by omega), if_pos rfl, show i + 1 + 1 - 1 = i + 1 by omega, upd_same]
          · rw [if_pos (by omega), if_neg (by omega), if_pos (by omega), if_neg h3]
            obtain ⟨d, rfl⟩ : ∃ d, j = d + 1 := ⟨j - 1, by omega⟩
            rw [show d + 1 + 1 - 1 = d + 1 by omega, show d + 1 - 1 = d by omega, upd_other (fun e => by have := wk_next_inj ok (show d ≤ _ by omega) hi e; omega), upd_other (hne _ _)]
            exact lk.pv _ _ hk' (by omega)
    · rw [if_neg (fun h => e h.1), if_neg (fun h => e h.1), upd_other (fun e' => e (wk_next_inj ok (by simpa [e] using hj) hi e').1), upd_other (hne _ _)]
      exact lk.pv _ _ hk' (by simpa [e] using hj)
  · intro k' j hk' hj
    rw [insL_len] at hk'
    rw [insL_lenk hk hi] at hj
    rw [insL_wk hk hi]
    unfold insS
    simp only
    by_cases e : k' = k
    · subst e
      simp only [true_and, if_true] at hj ⊢
      by_cases h1 : i < j
      · rw [if_pos h1]
        by_cases h2 : j = i + 1
        · rw [if_pos h2, upd_same]
        · rw [if_neg h2, upd_other (hne _ _)]
          exact lk.li _ _ hk' (by omega)
      · rw [if_neg h1, upd_other (hne _ _)]
        exact lk.li _ _ hk' (by omega)
    · rw [if_neg (fun h => e h.1), upd_other (hne _ _)]
      exact lk.li _ _ hk' (by simpa [e] using hj)
  · intro y hy hfy
    have hyx : y ≠ x := by
      rintro rfl
      exact hfy k i (by rw [insL_at hk hi]; simp)
    have hfy' : ∀ k i, ¬ At ls k i y := by
      intro k' j h
      by_cases e : k' = k
      · subst e
        by_cases h1 : j < i
        · exact hfy k' j (by rw [insL_at hk hi, if_pos rfl, if_pos h1]; exact h)
        · exact hfy k' (j + 1) (by rw [insL_at hk hi, if_pos rfl, if_neg (by omega), if_neg (by omega)]; exact h)
      · exact hfy k' j (by rw [insL_at hk hi, if_neg e]; exact h)
    have h0 := lk.free y hy hfy'
    have hw := fun k j => wk_free (k := k) (j := j) hy hfy'
    unfold insS
    simp only
    rw [upd_other (fun e => hw k i e.symm), upd_other hyx, upd_other (fun e => hw k (i + 1) e.symm), upd_other hyx, upd_other hyx]
    exact h0
/-- the links behind the node at k, i being taken out. -/
def delS (N : Nat) (ls : List (List Nat)) (S : Ln) (k i : Nat) : Ln :=
  ⟨upd (upd S.pv (wk N ls k (i + 2)) (wk N ls k i : Nat)) (wk N ls k (i + 1)) (-1), upd (upd S.nx (wk N ls k i) (wk N ls k (i + 2) : Nat)) (wk N ls k (i + 1)) (-1), upd S.li (wk N ls k (i + 1)) (-1)⟩
theorem delS_ok {S : Ln} (ok : OkL N ls) (lk : Lk N ls S) (hk : k < ls.length) (hi : i < (row ls k).length) : Lk N (delL ls k i) (delS N ls S k i) := by
  have hX : ∀ k' j, k' < ls.length → j ≤ (row ls k').length → ¬ (k' = k ∧ j = i + 1) → wk N ls k' j ≠ wk N ls k (i + 1) := fun k' j hk' hj hn e => hn (wk_inj ok hj (by omega) e)
  have hX' : ∀ k' j, k' < ls.length → j ≤ (row ls k').length → ¬ (k' = k ∧ j = i) → wk N ls k' (j + 1) ≠ wk N ls k (i + 1) := fun k' j hk' hj hn e => hn (wk_next_inj ok hj (by omega) e)
  refine ⟨?_, ?_, ?_, ?_⟩
  · intro k' j hk' hj
    rw [delL_len] at hk'
    have hl := delL_lenk hk hi k'
    rw [delL_wk hk hi, delL_wk hk hi]
    unfold delS
    simp only
    by_cases e : k' = k
    · subst e
      simp only [true_and, if_true] at hl ⊢
      by_cases h1 : j < i
      · rw [if_neg (by omega), if_neg (by omega), upd_other (hX _ _ hk (by omega) (by omega)), upd_other (fun e => by have := wk_inj ok (show j ≤ _ by omega) (show i ≤ _ by omega) e; omega)]
        exact lk.nx _ _ hk' (by omega)
      · by_cases h2 : j = i
        · subst h2
          rw [if_neg (by omega), if_pos (by omega), upd_other (hX _ _ hk (by omega) (by omega)), upd_same]
        · rw [if_pos (by omega), if_pos (by omega), upd_other (hX _ _ hk (by omega) (by omega)), upd_other (fun e => by have := wk_inj ok (show j + 1 ≤ _ by omega) (show i ≤ _ by omega) e; omega)]
          exact lk.nx _ _ hk' (by omega)
    · rw [if_neg (fun h => e h.1), if_neg (fun h => e h.1)]
      simp only [e, if_false] at hl
      rw [upd_other (hX _ _ hk' (by omega) (by omega)), upd_other (fun e' => e (wk_inj ok (show j ≤ _ by omega) (show i ≤ _ by omega) e').1)]
      exact lk.nx _ _ hk' (by omega)
  · intro k' j hk' hj
    rw [delL_len] at hk'
    have hl := delL_lenk hk hi k'
    rw [delL_wk hk hi, delL_wk hk hi]
    unfold delS
    simp only
    by_cases e : k' = k
    · subst e
      simp only [true_and, if_true] at hl ⊢
      by_cases h1 : j < i
      · rw [if_neg (by omega), if_neg (by omega), upd_other (hX' _ _ hk (by omega) (by omega)), upd_other (fun e => by have := wk_next_inj ok (show j ≤ _ by omega) (show i + 1 ≤ _ by omega) e; omega)]
        exact lk.pv _ _ hk' (by omega)
      · by_cases h2 : j = i
        · subst h2
          rw [if_pos (by omega), if_neg (by omega), upd_other (hX' _ _ hk (by omega) (by omega)), upd_same]
        · rw [if_pos (by omega), if_pos (by omega), upd_other (hX' _ _ hk (by omega) (by omega)), upd_other (fun e => by have := wk_next_inj ok (show j + 1 ≤ _ by omega) (show i + 1 ≤ _ by omega) e; omega)]
          exact lk.pv _ _ hk' (by omega)
    · rw [if_neg (fun h => e h.1), if_neg (fun h => e h.1)]
      simp only [e, if_false] at hl
      rw [upd_other (hX' _ _ hk' (by omega) (by omega)), upd_other (fun e' => e (wk_next_inj ok (show j ≤ _ by omega) (show i + 1 ≤ _ by omega) e').1)]
      exact lk.pv _ _ hk' (by omega)
  · intro k' j hk' hj
    rw [delL_len] at hk'
    have hl := delL_lenk hk hi k'
    rw [delL_wk hk hi]
    unfold delS
    simp only
    by_cases e : k' = k
    · subst e
      simp only [true_and, if_true] at hl ⊢
      by_cases h1 : i < j
      · rw [if_pos h1, upd_other (hX _ _ hk (by omega) (by omega))]
        exact lk.li _ _ hk' (by omega)
      · rw [if_neg h1, upd_other (hX _ _ hk (by omega) (by omega))]
        exact lk.li _ _ hk' (by omega)
    · rw [if_neg (fun h => e h.1)]
      simp only [e, if_false] at hl
      rw [upd_other (hX _ _ hk' (by omega) (by omega))]
      exact lk.li _ _ hk' (by omega)
  · intro y hy hfy
    unfold delS
    simp only
    by_cases hyx : y = wk N ls k (i + 1)
    · subst hyx
      rw [upd_same, upd_same, upd_same]
      exact ⟨rfl, rfl, rfl⟩
    · have hfy' : ∀ k i, ¬ At ls k i y := by
        intro k' j h
        by_cases e : k' = k
        · subst e
          by_cases h1 : j < i
          · exact hfy k' j (by rw [delL_at hk (by omega), if_pos rfl, if_pos h1]; exact h)
          · by_cases h2 : j = i
            · subst h2; exact hyx (wk_at h).symm
            · obtain ⟨d, rfl⟩ : ∃ d, j = d + 1 := ⟨j - 1, by omega⟩
              exact hfy k' d (by rw [delL_at hk (by omega), if_pos rfl, if_neg (by omega)]; exact h)
        · exact hfy k' j (by rw [delL_at hk (by omega), if_neg e]; exact h)
      have h0 := lk.free y hy hfy'
      have hw := fun k j => wk_free (k := k) (j := j) hy hfy'
      rw [upd_other hyx, upd_other (fun e => hw k i e.symm), upd_other hyx, upd_other (fun e => hw k (i + 2) e.symm), upd_other hyx]
      exact h0
end
end Go.Proofs.Ytglnjpbjlcbgoaa
