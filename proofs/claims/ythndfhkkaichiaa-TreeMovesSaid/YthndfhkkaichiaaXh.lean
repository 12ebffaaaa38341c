/-
  Plain facts: what becomes of a forest's groups: one more, one less, one elsewhere, one that counts otherwise. No program.
-/
import Derived.Test.YthndfhkkaichiaaXf
namespace Go.Proofs.Ythndfhkkaichiaa

theorem taken_cons (y : Int) (r : List Int) : taken (y :: r) = if y = 0 then taken r else y :: taken r := by
  unfold taken
  rw [List.filter_cons]
  by_cases h : y = 0 <;> simp [h]
theorem taken_nodup : ∀ {l : List Int}, (∀ i j, i < l.length → j < l.length → l.getD i 0 = l.getD j 0 → l.getD i 0 ≠ 0 → i = j) → (taken l).Nodup
  | [], _ => by simp [taken]
  | y :: r, h => by
    have ih := taken_nodup (l := r) (fun i j hi hj he hne => by
      have := h (i + 1) (j + 1) (by simpa using hi) (by simpa using hj) (by simpa using he) (by simpa using hne)
      omega)
    rw [taken_cons]
    split
    · exact ih
    · rename_i h0
      rw [List.nodup_cons]
      refine ⟨fun hm => ?_, ih⟩
      obtain ⟨k, hk, e⟩ := mem_getD (mem_taken.1 hm).1
      have := h 0 (k + 1) (by simp) (by simpa using hk) (by simpa using e.symm) (by simpa using h0)
      omega
theorem strict : ∀ {l : List Int}, l.Pairwise (· ≤ ·) → l.Nodup → l.Pairwise (· < ·)
  | [], _, _ => List.Pairwise.nil
  | x :: r, h, hn => by
    rw [List.pairwise_cons] at h ⊢
    rw [List.nodup_cons] at hn
    refine ⟨fun y hy => ?_, strict h.2 hn.2⟩
    have h1 := h.1 y hy
    have h2 : x ≠ y := fun e => hn.1 (e ▸ hy)
    omega
theorem ids_strict {l : List Int} {m : Int} (ok : TabOk l m) : (idsN l).Pairwise (· < ·) :=
  strict (ids_sorted l) ((ids_perm l).nodup_iff.2 (taken_nodup ok.uniq))
def rootC (L : List Gr) (r : Nat) : Int := if L.length = r then 6 else 0
def addC (L : List Gr) (r : Nat) (p wt : Int) : Int :=
  if has L p = false then 4 else if ¬ (1 ≤ wt ∧ wt ≤ 10000) then 13 else if dep L p = 8 then 7 else if fanI L p = 32 ∨ L.length = r then 6 else 0
def dropC (L : List Gr) (x : Int) : Int := if has L x = false then 4 else if (gr L x).pa < 0 then 15 else if 0 < fanI L x then 11 else 0
def moveC (L : List Gr) (x p : Int) : Int :=
  if has L x = false ∨ has L p = false then 4 else if (gr L x).pa < 0 then 15 else if ¬ topI L x = topI L p then 5 else if belowB L p x = true then 12 else if deepB L x p = true then 7 else if ¬ (gr L x).pa = p ∧ fanI L p = 32 then 6 else 0
def weightC (L : List Gr) (x wt : Int) : Int := if has L x = false then 4 else if (gr L x).pa < 0 then 15 else if ¬ (1 ≤ wt ∧ wt ≤ 10000) then 13 else 0
def countC (L : List Gr) (x me aw : Int) : Int :=
  if has L x = false then 4 else if 0 < me ∧ fanI L x = 32 then 6 else if (gr L x).aw + aw < 0 ∨ (gr L x).me + me < (gr L x).aw + aw then 10 else 0
def mvd (L : List Gr) (x p : Int) : Gr := ⟨x, p, (gr L x).wt, (gr L x).me, (gr L x).aw⟩
def moveG (L : List Gr) (x p : Int) : List Gr := setG L x (mvd L x p)
def weightG (L : List Gr) (x wt : Int) : List Gr := setG L x ⟨x, (gr L x).pa, wt, (gr L x).me, (gr L x).aw⟩
def countG (L : List Gr) (x me aw : Int) : List Gr := setG L x ⟨x, (gr L x).pa, (gr L x).wt, (gr L x).me + me, (gr L x).aw + aw⟩
def rootN (L : List Gr) (r : Nat) (m : Int) : List Gr := if rootC L r = 0 then addG L m (-1) 1 else L
def addN (L : List Gr) (r : Nat) (m p wt : Int) : List Gr := if addC L r p wt = 0 then addG L m p wt else L
def dropN (L : List Gr) (x : Int) : List Gr := if dropC L x = 0 then delG L x else L
def moveN (L : List Gr) (x p : Int) : List Gr := if moveC L x p = 0 then moveG L x p else L
def weightN (L : List Gr) (x wt : Int) : List Gr := if weightC L x wt = 0 then weightG L x wt else L
def countN (L : List Gr) (x me aw : Int) : List Gr := if countC L x me aw = 0 then countG L x me aw else L

section
variable {L L' : List Gr} {m k x p wt me aw : Int}
theorem Ok.later (ok : Ok L m k) (hk : k < 1000) : Ok L m (k + 1) :=
  ⟨ok.rise, ok.lo, ok.hi, ok.m0, by have := ok.mle; omega, by omega, ok.par, fun g hg => by have := ok.num g hg; omega, ok.deep, ok.n64⟩
theorem has_of_ids (h : idsG L' = idsG L) (y : Int) : has L' y = has L y := by
  rw [Bool.eq_iff_iff, has_ids, has_ids, h]
theorem Ok.set (ok : Ok L m k) (hk : k < 1000) {g : Gr} (hg : g.id = x) (hx : has L x = true) (hp : g.pa = (gr L x).pa) (hn : 0 ≤ g.aw ∧ g.aw ≤ g.me ∧ g.me ≤ k + 1 ∧ 1 ≤ g.wt ∧ g.wt ≤ 10000) : Ok (setG L x g) m (k + 1) := by
  have hi := ok.id hx
  have hpth : ∀ n y, path (setG L x g) n y = path L n y := fun n y => path_same (fun y => setG_has hg y) (fun y _ => by
    rw [setG_gr hg hx]
    split
    · rename_i e; subst e; exact hp
    · rfl) n y
  refine ⟨by rw [setG_ids hg]; exact ok.rise, fun y hy => ?_, fun y hy => ?_, ok.m0, by have := ok.mle; omega, by omega, fun y hy => ?_, fun y hy => ?_, fun y => ?_, by unfold setG; rw [List.length_set]; exact ok.n64⟩
  · rcases setG_mem hy with rfl | hy
    · omega
    · exact ok.lo y hy
  · rcases setG_mem hy with rfl | hy
    · omega
    · exact ok.hi y hy
  · rw [setG_has hg]
    rcases setG_mem hy with rfl | hy
    · rw [hp]; exact ok.pa hx
    · exact ok.par y hy
  · rcases setG_mem hy with rfl | hy
    · exact hn
    · have := ok.num y hy; omega
  · unfold pth; rw [hpth]; exact ok.deep y
theorem Ok.weight (ok : Ok L m k) (hk : k < 1000) : Ok (weightN L x wt) m (k + 1) := by
  unfold weightN
  split
  · rename_i he
    unfold weightC at he
    cases hx : has L x with
    | false => simp [hx] at he
    | true =>
      rw [if_neg (by rw [hx]; decide)] at he
      split at he
      · omega
      · split at he
        · omega
        · rename_i h2
          have := ok.num _ (gr_mem hx)
          exact ok.set hk rfl hx rfl (by simp only; omega)
  · exact ok.later hk
theorem Ok.count (ok : Ok L m k) (hk : k < 1000) (hme : me ≤ 1) : Ok (countN L x me aw) m (k + 1) := by
  unfold countN
  split
  · rename_i he
    unfold countC at he
    cases hx : has L x with
    | false => simp [hx] at he
    | true =>
      rw [if_neg (by rw [hx]; decide)] at he
      split at he
      · omega
      · split at he
        · omega
        · rename_i h2
          have := ok.num _ (gr_mem hx)
          exact ok.set hk rfl hx rfl (by simp only; omega)
  · exact ok.later hk
/-- paths are as they were, as long as nobody on them has moved. -/
theorem path_le (hd : ∀ x, (pth L x).length ≤ 8) : ∀ (n : Nat) (y : Int), (path L n y).length ≤ (pth L y).length
  | 0, _ => Nat.zero_le _
  | n + 1, y => by
    unfold path
    split
    · rename_i hy
      rw [pth_yes hd hy, List.length_cons, List.length_cons]
      have := path_le hd n (gr L y).pa
      omega
    · exact Nat.zero_le _
theorem move_gr (hx : has L x = true) (y : Int) : gr (moveG L x p) y = if y = x then mvd L x p else gr L y := setG_gr (show (mvd L x p).id = x from rfl) hx y
theorem move_has (y : Int) : has (moveG L x p) y = has L y := setG_has (show (mvd L x p).id = x from rfl) y
theorem move_out (ok : Ok L m k) (hx : has L x = true) : ∀ (n : Nat) (y : Int), x ∉ pth L y → path (moveG L x p) n y = path L n y
  | 0, _, _ => rfl
  | n + 1, y, h => by
    unfold path
    rw [move_has]
    split
    · rename_i hy
      have e := ok.yes hy
      rw [e] at h
      have h1 : ¬ y = x := fun e => h (by rw [e]; simp)
      rw [move_gr hx, if_neg h1, move_out ok hx n _ (fun h2 => h (List.mem_cons_of_mem _ h2))]
    · rfl
theorem move_in (ok : Ok L m k) (hx : has L x = true) (hb : x ∉ pth L p) : ∀ (n : Nat) (y : Int), x ∈ pth L y → ((path (moveG L x p) n y).length : Int) ≤ dep L y - dep L x + dep L p + 1
  | 0, y, h => by
    have h1 := ok.plen h
    have := ok.dep8 p
    unfold dep at *
    simp only [path, List.length_nil]
    omega
  | n + 1, y, h => by
    have hy : has L y = true := by
      cases hy : has L y with
      | true => rfl
      | false => rw [pth_no hy] at h; simp at h
    unfold path
    rw [move_has, if_pos hy, List.length_cons, move_gr hx]
    by_cases e : y = x
    · subst e
      simp only [if_true, mvd]
      rw [move_out ok hx n p hb]
      have := path_le ok.deep n p
      unfold dep
      omega
    · rw [if_neg e]
      rw [ok.yes hy] at h
      have h2 : x ∈ pth L (gr L y).pa := by
        rcases List.mem_cons.1 h with h | h
        · exact absurd h.symm e
        · exact h
      have := move_in ok hx hb n _ h2
      have := ok.dep hy
      omega
/-- what it takes to move. -/
structure Moves (L : List Gr) (x p : Int) : Prop where
  hx : has L x = true
  hp : has L p = true
  top : topI L x = topI L p
  out : x ∉ pth L p
  deep : deepB L x p = false
  up : 0 ≤ (gr L x).pa
theorem moves_of (h : moveC L x p = 0) : Moves L x p := by
  unfold moveC at h
  split at h
  · omega
  rename_i h1
  split at h
  · omega
  rename_i h2
  split at h
  · omega
  rename_i h3
  split at h
  · omega
  rename_i h4
  split at h
  · omega
  rename_i h5
  refine ⟨?_, ?_, by simpa using h3, by simpa [belowB] using h4, by simpa using h5, by omega⟩
  · cases hx : has L x with
    | true => rfl
    | false => exact absurd (.inl hx) h1
  · cases hp : has L p with
    | true => rfl
    | false => exact absurd (.inr hp) h1
theorem Ok.moves (ok : Ok L m k) (hk : k < 1000) (h : Moves L x p) : Ok (moveG L x p) m (k + 1) := by
  have hi := ok.id h.hx
  refine ⟨by unfold moveG; rw [setG_ids (show (mvd L x p).id = x from rfl)]; exact ok.rise, fun y hy => ?_, fun y hy => ?_, ok.m0, by have := ok.mle; omega, by omega, fun y hy => ?_, fun y hy => ?_, fun y => ?_, by unfold moveG setG; rw [List.length_set]; exact ok.n64⟩
  · rcases setG_mem hy with rfl | hy
    · exact hi.1
    · exact ok.lo y hy
  · rcases setG_mem hy with rfl | hy
    · exact hi.2
    · exact ok.hi y hy
  · rw [move_has]
    rcases setG_mem hy with rfl | hy
    · exact .inr h.hp
    · exact ok.par y hy
  · have hn := ok.num _ (gr_mem h.hx)
    rcases setG_mem hy with rfl | hy
    · simp only [mvd]; omega
    · have := ok.num y hy; omega
  · by_cases hy : x ∈ pth L y
    · have h1 := move_in ok h.hx h.out 9 y hy
      have hyy : has L y = true := by
        cases hyy : has L y with
        | true => rfl
        | false => rw [pth_no hyy] at hy; simp at hy
      have h2 := h.deep
      unfold deepB at h2
      rw [List.any_eq_false] at h2
      have h3 := h2 _ (gr_mem hyy)
      rw [gr_id hyy] at h3
      unfold belowB at h3
      simp [hy] at h3
      unfold pth
      omega
    · unfold pth
      rw [move_out ok h.hx 9 y hy]
      exact ok.deep y
theorem Ok.move (ok : Ok L m k) (hk : k < 1000) : Ok (moveN L x p) m (k + 1) := by
  unfold moveN
  split
  · rename_i he
    exact ok.moves hk (moves_of he)
  · exact ok.later hk
/-! ### one more -/
theorem addG_ids : idsG (addG L m p wt) = idsG L ++ [m + 1] := by simp [addG, idsG]
theorem addG_rise (ok : Ok L m k) : (idsG (addG L m p wt)).Pairwise (· < ·) := by
  rw [addG_ids, List.pairwise_append]
  refine ⟨ok.rise, by simp, fun a ha b hb => ?_⟩
  rw [List.mem_singleton] at hb
  have := ok.id (has_ids.2 ha)
  omega
theorem addG_has (y : Int) : has (addG L m p wt) y = (has L y || decide (y = m + 1)) := by
  rw [Bool.eq_iff_iff, Bool.or_eq_true, decide_eq_true_iff, has_ids, has_ids, addG_ids]
  simp
theorem addG_new (ok : Ok L m k) : gr (addG L m p wt) (m + 1) = ⟨m + 1, p, wt, 0, 0⟩ :=
  gr_of (addG_rise ok) (g := ⟨m + 1, p, wt, 0, 0⟩) (by simp [addG])
theorem addG_old (ok : Ok L m k) {y : Int} (hy : has L y = true) : gr (addG L m p wt) y = gr L y := by
  have := gr_of (addG_rise (p := p) (wt := wt) ok) (g := gr L y) (by unfold addG; exact List.mem_append_left _ (gr_mem hy))
  rwa [gr_id hy] at this
theorem addG_path (ok : Ok L m k) : ∀ (n : Nat) (y : Int), ¬ y = m + 1 → path (addG L m p wt) n y = path L n y
  | 0, _, _ => rfl
  | n + 1, y, h => by
    unfold path
    rw [addG_has, decide_eq_false h, Bool.or_false]
    split
    · rename_i hy
      have := ok.pa_lt hy
      rw [addG_old ok hy, addG_path ok n _ (by omega)]
    · rfl
theorem Ok.addG (ok : Ok L m k) (hk : k < 1000) (hl : L.length < 64) (hp : p = -1 ∨ has L p = true ∧ Proofs.Ythndfhkkaichiaa.dep L p ≠ 8) (hw : 1 ≤ wt ∧ wt ≤ 10000) : Ok (addG L m p wt) (m + 1) (k + 1) := by
  have h0 := ok.m0
  refine ⟨addG_rise ok, fun y hy => ?_, fun y hy => ?_, by omega, by have := ok.mle; omega, by omega, fun y hy => ?_, fun y hy => ?_, fun y => ?_, by unfold Proofs.Ythndfhkkaichiaa.addG; simp; omega⟩
  · unfold Proofs.Ythndfhkkaichiaa.addG at hy
    rcases List.mem_append.1 hy with hy | hy
    · exact ok.lo y hy
    · rw [List.mem_singleton] at hy; subst hy; simp only; omega
  · unfold Proofs.Ythndfhkkaichiaa.addG at hy
    rcases List.mem_append.1 hy with hy | hy
    · have := ok.hi y hy; omega
    · rw [List.mem_singleton] at hy; subst hy; simp only; omega
  · rw [addG_has]
    unfold Proofs.Ythndfhkkaichiaa.addG at hy
    rcases List.mem_append.1 hy with hy | hy
    · rcases ok.par y hy with h | h
      · exact .inl h
      · exact .inr (by rw [h]; rfl)
    · rw [List.mem_singleton] at hy; subst hy; simp only
      rcases hp with h | h
      · exact .inl h
      · exact .inr (by rw [h.1]; rfl)
  · unfold Proofs.Ythndfhkkaichiaa.addG at hy
    rcases List.mem_append.1 hy with hy | hy
    · have := ok.num y hy; omega
    · rw [List.mem_singleton] at hy; subst hy; simp only
      have := ok.mle
      omega
  · unfold pth
    by_cases e : y = m + 1
    · subst e
      unfold path
      rw [addG_has, decide_eq_true rfl, Bool.or_true, if_pos rfl, addG_new ok, List.length_cons]
      simp only
      have hpm : ¬ p = m + 1 := by
        rcases hp with h | h
        · omega
        · have := ok.id h.1; omega
      rw [addG_path ok 8 p hpm]
      have h1 := path_le ok.deep 8 p
      rcases hp with h | h
      · have : pth L p = [] := pth_no (ok.low (by omega))
        rw [this] at h1
        simp at h1
        rw [h1]
        simp
      · have := ok.dep8 p
        have h2 := h.2
        unfold Proofs.Ythndfhkkaichiaa.dep at this h2
        omega
    · rw [addG_path ok 9 y e]; exact ok.deep y
/-! ### one less -/
theorem kids_none (h : ¬ 0 < fanI L x) (hm : 0 ≤ (gr L x).me) {y : Int} (hy : has L y = true) : ¬ (gr L y).pa = x := by
  intro e
  have h1 : (kids L x).length = 0 := by unfold fanI at h; omega
  have : y ∈ kids L x := by
    unfold kids
    rw [List.mem_map]
    exact ⟨gr L y, List.mem_filter.2 ⟨gr_mem hy, by simpa using e⟩, gr_id hy⟩
  rw [List.length_eq_zero_iff.1 h1] at this
  simp at this
theorem del_eq (L : List Gr) (x : Int) : delG L x = L.eraseIdx (pos L x) := (List.eraseIdx_eq_take_drop_succ ..).symm
theorem del_mem (ok : Ok L m k) (hx : has L x = true) {g : Gr} : g ∈ delG L x ↔ g ∈ L ∧ ¬ g.id = x := by
  rw [del_eq, List.mem_eraseIdx_iff_getElem]
  constructor
  · rintro ⟨i, hi, hne, rfl⟩
    refine ⟨List.getElem_mem _, fun e => hne ?_⟩
    have h1 := List.pairwise_iff_getElem.1 ok.rise
    have h2 : (L.getD (pos L x) g0).id = x := pos_id (has_pos hx)
    have h3 : L.getD (pos L x) g0 = L[pos L x]'(has_pos hx) := by simp [List.getD, has_pos hx]
    rw [h3] at h2
    rcases Nat.lt_trichotomy i (pos L x) with h | h | h
    · have := h1 i (pos L x) (by simp [idsG]; omega) (by simp [idsG]; exact has_pos hx) h
      simp [idsG] at this
      omega
    · exact h
    · have := h1 (pos L x) i (by simp [idsG]; exact has_pos hx) (by simp [idsG]; omega) h
      simp [idsG] at this
      omega
  · rintro ⟨hg, hne⟩
    obtain ⟨i, hi, rfl⟩ := List.getElem_of_mem hg
    refine ⟨i, hi, fun e => hne ?_, rfl⟩
    subst e
    have h2 : (L.getD (pos L x) g0).id = x := pos_id (has_pos hx)
    have h3 : L.getD (pos L x) g0 = L[pos L x]'(has_pos hx) := by simp [List.getD, has_pos hx]
    rwa [h3] at h2
theorem del_rise (ok : Ok L m k) : (idsG (delG L x)).Pairwise (· < ·) := by
  rw [del_eq]
  unfold idsG
  exact ok.rise.sublist ((List.eraseIdx_sublist _ _).map _)
theorem del_has (ok : Ok L m k) (hx : has L x = true) (y : Int) : has (delG L x) y = (has L y && !decide (y = x)) := by
  rw [Bool.eq_iff_iff, Bool.and_eq_true, Bool.not_eq_true', decide_eq_false_iff_not, has_iff, has_iff]
  constructor
  · rintro ⟨g, hg, rfl⟩
    have := (del_mem ok hx).1 hg
    exact ⟨⟨g, this.1, rfl⟩, this.2⟩
  · rintro ⟨⟨g, hg, rfl⟩, hne⟩
    exact ⟨g, (del_mem ok hx).2 ⟨hg, hne⟩, rfl⟩
theorem del_gr (ok : Ok L m k) (hx : has L x = true) {y : Int} (hy : has (delG L x) y = true) : gr (delG L x) y = gr L y := by
  have h1 := gr_mem hy
  have h2 := gr_of ok.rise ((del_mem ok hx).1 h1).1
  rw [gr_id hy] at h2
  exact h2.symm
theorem del_path (ok : Ok L m k) (hx : has L x = true) (hf : ¬ 0 < fanI L x) : ∀ (n : Nat) (y : Int), ¬ y = x → path (delG L x) n y = path L n y
  | 0, _, _ => rfl
  | n + 1, y, h => by
    unfold path
    rw [del_has ok hx, decide_eq_false h, Bool.not_false, Bool.and_true]
    split
    · rename_i hy
      have h1 : has (delG L x) y = true := by rw [del_has ok hx, hy, decide_eq_false h]; rfl
      have hm := ok.num _ (gr_mem hx)
      rw [del_gr ok hx h1, del_path ok hx hf n _ (kids_none hf (by omega) hy)]
    · rfl
theorem Ok.del (ok : Ok L m k) (hk : k < 1000) (hx : has L x = true) (hf : ¬ 0 < fanI L x) : Ok (delG L x) m (k + 1) := by
  have hm := ok.num _ (gr_mem hx)
  refine ⟨del_rise ok, fun y hy => ok.lo y ((del_mem ok hx).1 hy).1, fun y hy => ok.hi y ((del_mem ok hx).1 hy).1, ok.m0, by have := ok.mle; omega, by omega, fun y hy => ?_, fun y hy => by have := ok.num y ((del_mem ok hx).1 hy).1; omega, fun y => ?_, ?_⟩
  · have hyL := ((del_mem ok hx).1 hy).1
    rcases ok.par y hyL with h | h
    · exact .inl h
    · refine .inr ?_
      have h3 := kids_none hf (by omega) (has_mem hyL)
      rw [gr_of ok.rise hyL] at h3
      rw [del_has ok hx, h, decide_eq_false h3]
      rfl
  · unfold pth
    by_cases e : y = x
    · subst e
      unfold path
      rw [del_has ok hx]
      simp
    · rw [del_path ok hx hf 9 y e]; exact ok.deep y
  · rw [del_eq]
    have := List.length_eraseIdx_le L (pos L x)
    have := ok.n64
    omega
/-! ### the table's slots -/
theorem rise_ext {a b : List Int} (ha : a.Pairwise (· < ·)) (hb : b.Pairwise (· < ·)) (h : ∀ x, x ∈ a ↔ x ∈ b) : a = b :=
  rising_unique ((List.perm_ext_iff_of_nodup (nodup_rise ha) (nodup_rise hb)).2 h) (ha.imp fun h => by omega) (hb.imp fun h => by omega)
theorem slots_free {l : List Int} {m : Int} (ok : Ok L m k) (hi : idsN l = idsG L) : addB l m = decide (¬ L.length = l.length) ∧ L.length ≤ l.length := by
  have h1 : (taken l).length = L.length := by rw [← ids_len, hi]; simp [idsG]
  have h2 := taken_len l
  have h3 : (taken l).length < l.length ↔ 0 ∈ l := by
    unfold taken
    rw [List.length_filter_lt_length_iff_exists]
    constructor
    · rintro ⟨x, hx, h⟩
      have : x = 0 := by simpa using h
      exact this ▸ hx
    · intro h; exact ⟨0, h, by simp⟩
  have h4 := ok.mle
  have h5 := ok.k1
  refine ⟨?_, by omega⟩
  unfold addB
  rw [decide_eq_decide, find_lt, ← h3]
  omega
theorem slots_add {l : List Int} {m : Int} (ok : Ok L m k) (tok : TabOk l m) (hi : idsN l = idsG L) (hb : addB l m = true) : idsN (addL l m) = idsG (addG L m p wt) := by
  have tok' := tok.add
  refine rise_ext (ids_strict tok') (addG_rise ok) fun y => ?_
  rw [addG_ids, ← hi, List.mem_append, mem_ids, mem_ids, List.mem_singleton]
  have hb' : find l 0 < l.length ∧ m < 2147483648 := by simpa [addB] using hb
  have hm := ok.m0
  have e0 := find_get hb'.1
  unfold addL
  rw [hb]
  simp only [if_true]
  constructor
  · rintro ⟨h1, h2⟩
    rcases List.mem_or_eq_of_mem_set h1 with h | h
    · exact .inl ⟨h, h2⟩
    · exact .inr h
  · rintro (⟨h1, h2⟩ | rfl)
    · refine ⟨?_, h2⟩
      obtain ⟨j, hj, rfl⟩ := mem_getD h1
      have hne : ¬ find l 0 = j := fun e => h2 (by rw [← e]; exact e0)
      have := getD_mem (l := l.set (find l 0) (m + 1)) (k := j) (by rw [List.length_set]; exact hj)
      rwa [getD_set, if_neg (fun h => hne h.1)] at this
    · refine ⟨?_, by omega⟩
      have := getD_mem (l := l.set (find l 0) (m + 1)) (k := find l 0) (by rw [List.length_set]; exact hb'.1)
      rwa [getD_set, if_pos ⟨rfl, hb'.1⟩] at this
theorem slots_has {l : List Int} (hi : idsN l = idsG L) : hasB l x = has L x := by
  rw [Bool.eq_iff_iff]
  unfold hasB
  rw [decide_eq_true_iff, find_lt, ← mem_ids, hi, has_ids]
theorem slots_del {l : List Int} {m : Int} (ok : Ok L m k) (tok : TabOk l m) (hi : idsN l = idsG L) (hx : has L x = true) : idsN (dropL l x) = idsG (delG L x) := by
  have tok' := tok.drop x
  have hb : hasB l x = true := by rw [slots_has hi]; exact hx
  have hb' : find l x < l.length ∧ x ≠ 0 := by simpa [hasB] using hb
  have e0 := find_get hb'.1
  refine rise_ext (ids_strict tok') (del_rise ok) fun y => ?_
  rw [← has_ids, del_has ok hx, Bool.and_eq_true, Bool.not_eq_true', decide_eq_false_iff_not, has_ids, ← hi, mem_ids, mem_ids]
  unfold dropL
  rw [hb]
  simp only [if_true]
  constructor
  · rintro ⟨h1, h2⟩
    obtain ⟨j, hj, rfl⟩ := mem_getD h1
    rw [List.length_set] at hj
    rw [getD_set] at h2 ⊢
    split
    · rename_i e; rw [if_pos e] at h2; exact absurd rfl h2
    · rename_i e
      rw [if_neg e] at h2
      refine ⟨⟨getD_mem hj, h2⟩, fun e2 => e ⟨?_, hj⟩⟩
      exact tok.uniq _ _ hb'.1 hj (e0.trans e2.symm) (by rw [e0]; exact hb'.2)
  · rintro ⟨⟨h1, h2⟩, h3⟩
    refine ⟨?_, h2⟩
    obtain ⟨j, hj, rfl⟩ := mem_getD h1
    have hne : ¬ find l x = j := fun e => h3 (by rw [← e]; exact e0)
    have := getD_mem (l := l.set (find l x) 0) (k := j) (by rw [List.length_set]; exact hj)
    rwa [getD_set, if_neg (fun h => hne h.1)] at this
end
end Go.Proofs.Ythndfhkkaichiaa
