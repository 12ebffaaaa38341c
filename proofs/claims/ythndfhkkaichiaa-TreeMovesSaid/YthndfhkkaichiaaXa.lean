/-
  Plain facts: groups in a list, each with its parent: places, paths to the root, what is below what. No program.
-/
import Derived.Lib.Hide
namespace Go.Proofs.Ythndfhkkaichiaa

/-- a group. -/
structure Gr where
  id : Int
  pa : Int
  wt : Int
  me : Int
  aw : Int
def g0 : Gr := ⟨0, 0, 0, 0, 0⟩
/-- a group's place. -/
def pos : List Gr → Int → Nat
  | [], _ => 0
  | g :: r, x => if g.id = x then 0 else pos r x + 1
def has (L : List Gr) (x : Int) : Bool := decide (pos L x < L.length)
def gr (L : List Gr) (x : Int) : Gr := L.getD (pos L x) g0
def idsG (L : List Gr) : List Int := L.map Gr.id
/-- from a group to its root, at most so many. -/
def path (L : List Gr) : Nat → Int → List Int
  | 0, _ => []
  | n + 1, x => if has L x then x :: path L n (gr L x).pa else []
def pth (L : List Gr) (x : Int) : List Int := path L 9 x
def dep (L : List Gr) (x : Int) : Int := (pth L x).length
def topI (L : List Gr) (x : Int) : Int := (pth L x).getD ((pth L x).length - 1) 0
def belowB (L : List Gr) (x t : Int) : Bool := decide (t ∈ pth L x)
def kids (L : List Gr) (x : Int) : List Int := (L.filter fun g => g.pa == x).map Gr.id
def fanI (L : List Gr) (x : Int) : Int := ((kids L x).length : Int) + (gr L x).me
def deepB (L : List Gr) (x p : Int) : Bool := L.any fun g => belowB L g.id x && decide (8 < dep L g.id - dep L x + dep L p + 1)

theorem pos_le : ∀ (L : List Gr) (x : Int), pos L x ≤ L.length
  | [], _ => Nat.le_refl _
  | g :: r, x => by
    unfold pos
    have := pos_le r x
    split
    · omega
    · simp only [List.length_cons]; omega
theorem pos_id : ∀ {L : List Gr} {x : Int}, pos L x < L.length → (L.getD (pos L x) g0).id = x
  | [], _, h => by simp [pos] at h
  | g :: r, x, h => by
    unfold pos at h ⊢
    split
    · rename_i e; simpa using e
    · rename_i e
      rw [if_neg e] at h
      simp only [List.length_cons] at h
      have := pos_id (L := r) (x := x) (by omega)
      simpa using this
theorem pos_before : ∀ {L : List Gr} {x : Int} {j : Nat}, j < pos L x → (L.getD j g0).id ≠ x
  | [], _, _, h => by simp [pos] at h
  | g :: r, x, j, h => by
    unfold pos at h
    split at h
    · omega
    · rename_i e
      cases j with
      | zero => simpa using e
      | succ j => simpa using pos_before (L := r) (x := x) (j := j) (by omega)
theorem getD_memG {L : List Gr} {k : Nat} (h : k < L.length) : L.getD k g0 ∈ L := by
  simp [List.getD, h]
theorem mem_getDG {L : List Gr} {g : Gr} (h : g ∈ L) : ∃ k, k < L.length ∧ L.getD k g0 = g := by
  obtain ⟨k, hk, e⟩ := List.getElem_of_mem h
  exact ⟨k, hk, by simp [List.getD, hk, e]⟩
theorem pos_hit {L : List Gr} {x : Int} {k : Nat} (hk : k < L.length) (he : (L.getD k g0).id = x) (hb : ∀ j, j < k → (L.getD j g0).id ≠ x) : pos L x = k := by
  rcases Nat.lt_trichotomy (pos L x) k with h | h | h
  · exact absurd (pos_id (by omega)) (hb _ h)
  · exact h
  · exact absurd he (pos_before h)
theorem pos_none {L : List Gr} {x : Int} (hb : ∀ j, j < L.length → (L.getD j g0).id ≠ x) : pos L x = L.length := by
  have := pos_le L x
  by_cases h : pos L x < L.length
  · exact absurd (pos_id h) (hb _ h)
  · omega
theorem has_iff {L : List Gr} {x : Int} : has L x = true ↔ ∃ g ∈ L, g.id = x := by
  unfold has
  rw [decide_eq_true_iff]
  constructor
  · intro h; exact ⟨_, getD_memG h, pos_id h⟩
  · rintro ⟨g, hg, e⟩
    obtain ⟨k, hk, rfl⟩ := mem_getDG hg
    apply Classical.byContradiction
    intro hn
    have := pos_le L x
    have : k < pos L x := by omega
    exact pos_before this e
theorem has_ids {L : List Gr} {x : Int} : has L x = true ↔ x ∈ idsG L := by
  rw [has_iff]
  simp [idsG]
theorem has_pos {L : List Gr} {x : Int} (h : has L x = true) : pos L x < L.length := by simpa [has] using h
theorem gr_mem {L : List Gr} {x : Int} (h : has L x = true) : gr L x ∈ L := getD_memG (has_pos h)
theorem gr_id {L : List Gr} {x : Int} (h : has L x = true) : (gr L x).id = x := pos_id (has_pos h)
theorem has_mem {L : List Gr} {g : Gr} (h : g ∈ L) : has L g.id = true := has_iff.2 ⟨g, h, rfl⟩

/-- a list of groups as a forest: m ids were given, at most k acts were done. -/
structure Ok (L : List Gr) (m k : Int) : Prop where
  rise : (idsG L).Pairwise (· < ·)
  lo : ∀ g ∈ L, 1 ≤ g.id
  hi : ∀ g ∈ L, g.id ≤ m
  m0 : 0 ≤ m
  mle : m ≤ k
  k1 : k ≤ 1000
  par : ∀ g ∈ L, g.pa = -1 ∨ has L g.pa = true
  num : ∀ g ∈ L, 0 ≤ g.aw ∧ g.aw ≤ g.me ∧ g.me ≤ k ∧ 1 ≤ g.wt ∧ g.wt ≤ 10000
  deep : ∀ x, (pth L x).length ≤ 8
  n64 : L.length ≤ 64

theorem nodup_rise {l : List Int} (h : l.Pairwise (· < ·)) : l.Nodup := h.imp fun h => by omega
theorem gr_of {L : List Gr} (hr : (idsG L).Pairwise (· < ·)) {g : Gr} (h : g ∈ L) : gr L g.id = g := by
  obtain ⟨k, hk, e⟩ := mem_getDG h
  have : pos L g.id = k := pos_hit hk (by rw [e]) fun j hj e2 => by
    have h1 := List.pairwise_iff_getElem.1 hr j k (by simp [idsG]; omega) (by simp [idsG]; omega) hj
    simp only [idsG, List.getElem_map] at h1
    have a1 : L.getD j g0 = L[j]'(by omega) := by simp [List.getD, show j < L.length by omega]
    have a2 : L.getD k g0 = L[k] := by simp [List.getD, hk]
    rw [a1] at e2
    rw [a2] at e
    rw [e] at h1
    omega
  unfold gr
  rw [this, e]
theorem path_more {L : List Gr} : ∀ {n : Nat} {x : Int}, (path L n x).length < n → path L (n + 1) x = path L n x
  | 0, _, h => absurd h (Nat.not_lt_zero _)
  | n + 1, x, h => by
    unfold path at h ⊢
    split
    · rename_i hx
      rw [if_pos hx] at h
      simp only [List.length_cons] at h
      rw [path_more (by omega)]
    · rfl
section
variable {L : List Gr} {m k : Int}
theorem pth_yes (ok : ∀ x, (pth L x).length ≤ 8) {x : Int} (h : has L x = true) : pth L x = x :: pth L (gr L x).pa := by
  have := path_more (L := L) (n := 9) (x := x) (by have := ok x; unfold pth at this; omega)
  unfold pth
  rw [← this]
  conv => lhs; unfold path
  rw [if_pos h]
theorem pth_no {x : Int} (h : has L x = false) : pth L x = [] := by
  unfold pth path
  simp [h]
theorem Ok.low (ok : Ok L m k) {x : Int} (h : x < 1) : has L x = false := by
  cases hx : has L x with
  | false => rfl
  | true =>
    have := ok.lo _ (gr_mem hx)
    rw [gr_id hx] at this
    omega
theorem Ok.high (ok : Ok L m k) {x : Int} (h : m < x) : has L x = false := by
  cases hx : has L x with
  | false => rfl
  | true =>
    have := ok.hi _ (gr_mem hx)
    rw [gr_id hx] at this
    omega
theorem Ok.id (ok : Ok L m k) {x : Int} (h : has L x = true) : 1 ≤ x ∧ x ≤ m := by
  have h1 := ok.lo _ (gr_mem h)
  have h2 := ok.hi _ (gr_mem h)
  rw [gr_id h] at h1 h2
  exact ⟨h1, h2⟩
theorem Ok.pa (ok : Ok L m k) {x : Int} (h : has L x = true) : (gr L x).pa = -1 ∨ has L (gr L x).pa = true := ok.par _ (gr_mem h)
theorem Ok.pa_lt (ok : Ok L m k) {x : Int} (h : has L x = true) : -1 ≤ (gr L x).pa ∧ (gr L x).pa ≤ m := by
  rcases ok.pa h with e | e
  · have := ok.m0; omega
  · have := ok.id e; omega
theorem Ok.yes (ok : Ok L m k) {x : Int} (h : has L x = true) : pth L x = x :: pth L (gr L x).pa := pth_yes ok.deep h
theorem pth_has (hd : ∀ x, (pth L x).length ≤ 8) : ∀ {n : Nat} {x t : Int}, (pth L x).length ≤ n → t ∈ pth L x → has L t = true
  | 0, x, t, hn, h => by
    have : pth L x = [] := List.length_eq_zero_iff.1 (by omega)
    rw [this] at h; simp at h
  | n + 1, x, t, hn, h => by
    cases hx : has L x with
    | false => rw [pth_no hx] at h; simp at h
    | true =>
      rw [pth_yes hd hx] at h hn
      simp only [List.length_cons] at hn
      rcases List.mem_cons.1 h with rfl | h
      · exact hx
      · exact pth_has hd (n := n) (by omega) h
theorem Ok.phas (ok : Ok L m k) {x t : Int} (h : t ∈ pth L x) : has L t = true := pth_has ok.deep (Nat.le_refl _) h
/-- whoever is above one above. -/
theorem pth_trans (hd : ∀ x, (pth L x).length ≤ 8) : ∀ {n : Nat} {x t s : Int}, (pth L x).length ≤ n → t ∈ pth L x → s ∈ pth L t → s ∈ pth L x
  | 0, x, t, s, hn, h, _ => by
    have : pth L x = [] := List.length_eq_zero_iff.1 (by omega)
    rw [this] at h; simp at h
  | n + 1, x, t, s, hn, h, h' => by
    cases hx : has L x with
    | false => rw [pth_no hx] at h; simp at h
    | true =>
      have e := pth_yes hd hx
      rw [e] at h hn ⊢
      simp only [List.length_cons] at hn
      rcases List.mem_cons.1 h with rfl | h
      · rwa [← e]
      · exact List.mem_cons_of_mem _ (pth_trans hd (n := n) (by omega) h h')
theorem Ok.trans (ok : Ok L m k) {x t s : Int} (h : t ∈ pth L x) (h' : s ∈ pth L t) : s ∈ pth L x := pth_trans ok.deep (Nat.le_refl _) h h'
theorem pth_len (hd : ∀ x, (pth L x).length ≤ 8) : ∀ {n : Nat} {x t : Int}, (pth L x).length ≤ n → t ∈ pth L x → (pth L t).length ≤ (pth L x).length
  | 0, x, t, hn, h => by
    have : pth L x = [] := List.length_eq_zero_iff.1 (by omega)
    rw [this] at h; simp at h
  | n + 1, x, t, hn, h => by
    cases hx : has L x with
    | false => rw [pth_no hx] at h; simp at h
    | true =>
      have e := pth_yes hd hx
      rw [e] at h hn
      simp only [List.length_cons] at hn
      rcases List.mem_cons.1 h with rfl | h
      · exact Nat.le_refl _
      · have := pth_len hd (n := n) (by omega) h
        rw [e, List.length_cons]; omega
theorem Ok.plen (ok : Ok L m k) {x t : Int} (h : t ∈ pth L x) : (pth L t).length ≤ (pth L x).length := pth_len ok.deep (Nat.le_refl _) h
theorem Ok.self (ok : Ok L m k) {x : Int} (h : has L x = true) : x ∈ pth L x := by rw [ok.yes h]; simp
theorem Ok.dep (ok : Ok L m k) {x : Int} (h : has L x = true) : dep L x = dep L (gr L x).pa + 1 := by
  unfold Proofs.Ythndfhkkaichiaa.dep
  rw [ok.yes h, List.length_cons]; omega
theorem Ok.dep8 (ok : Ok L m k) (x : Int) : 0 ≤ Proofs.Ythndfhkkaichiaa.dep L x ∧ Proofs.Ythndfhkkaichiaa.dep L x ≤ 8 := by
  have := ok.deep x
  unfold Proofs.Ythndfhkkaichiaa.dep
  omega
theorem Ok.notUp (ok : Ok L m k) {x : Int} (h : has L x = true) : x ∉ pth L (gr L x).pa := by
  intro hx
  have h1 := ok.plen hx
  rw [ok.yes h, List.length_cons] at h1
  omega
theorem Ok.top_end (ok : Ok L m k) {x : Int} (h : has L x = true) (hp : (gr L x).pa = -1) : topI L x = x := by
  unfold topI
  rw [ok.yes h, hp, pth_no (ok.low (by omega))]
  rfl
theorem Ok.top_step (ok : Ok L m k) {x : Int} (h : has L x = true) (hp : has L (gr L x).pa = true) : topI L x = topI L (gr L x).pa := by
  unfold topI
  rw [ok.yes h, ok.yes hp]
  simp only [List.length_cons, Nat.add_sub_cancel, List.getD_cons_succ]
theorem Ok.top_mem (ok : Ok L m k) {x : Int} (h : has L x = true) : topI L x ∈ pth L x := by
  unfold topI
  rw [ok.yes h]
  have : (x :: pth L (gr L x).pa).length - 1 < (x :: pth L (gr L x).pa).length := by simp
  simp only [List.getD, List.getElem?_eq_getElem this, Option.getD_some]
  exact List.getElem_mem _
theorem Ok.below_step (ok : Ok L m k) {x : Int} (h : has L x = true) (t : Int) : belowB L x t = (decide (x = t) || belowB L (gr L x).pa t) := by
  unfold belowB
  rw [ok.yes h]
  by_cases e : x = t
  · subst e; simp
  · have : ¬ t = x := fun h => e h.symm
    simp [e, this]
theorem below_no {x : Int} (h : has L x = false) (t : Int) : belowB L x t = false := by
  unfold belowB
  rw [pth_no h]; simp
theorem Ok.below_not (ok : Ok L m k) {t : Int} (h : has L t = false) (x : Int) : belowB L x t = false := by
  unfold belowB
  rw [decide_eq_false_iff_not]
  intro ht
  rw [ok.phas ht] at h
  cases h
end
/-! ### lists that are turned -/
theorem path_same {L L' : List Gr} (h1 : ∀ x, has L' x = has L x) (h2 : ∀ x, has L x = true → (gr L' x).pa = (gr L x).pa) : ∀ (n : Nat) (x : Int), path L' n x = path L n x
  | 0, _ => rfl
  | n + 1, x => by
    unfold path
    rw [h1]
    cases hx : has L x with
    | false => rfl
    | true =>
      simp only [if_true]
      rw [h2 x hx, path_same h1 h2 n]
def setG (L : List Gr) (x : Int) (g : Gr) : List Gr := L.set (pos L x) g
def addG (L : List Gr) (m pa wt : Int) : List Gr := L ++ [⟨m + 1, pa, wt, 0, 0⟩]
def delG (L : List Gr) (x : Int) : List Gr := L.take (pos L x) ++ L.drop (pos L x + 1)
theorem pos_ids : ∀ {L L' : List Gr}, idsG L' = idsG L → ∀ x, pos L' x = pos L x
  | [], [], _, _ => rfl
  | [], _ :: _, h, _ => by simp [idsG] at h
  | _ :: _, [], h, _ => by simp [idsG] at h
  | a :: L, b :: L', h, x => by
    simp only [idsG, List.map_cons, List.cons.injEq] at h
    unfold pos
    rw [h.1, pos_ids (L := L) (L' := L') h.2]
theorem setG_ids {L : List Gr} {x : Int} {g : Gr} (hg : g.id = x) : idsG (setG L x g) = idsG L := by
  unfold idsG setG
  rw [List.map_set]
  by_cases h : pos L x < L.length
  · apply List.ext_getElem
    · simp
    · intro i h1 h2
      rw [List.getElem_set]
      split
      · rename_i e
        subst e
        have h5 : (L[pos L x]).id = x := by simpa [List.getD, h] using pos_id h
        simp only [List.getElem_map]
        rw [hg]
        exact h5.symm
      · rfl
  · rw [List.set_eq_of_length_le (by simp; omega)]
theorem setG_has {L : List Gr} {x : Int} {g : Gr} (hg : g.id = x) (y : Int) : has (setG L x g) y = has L y := by
  unfold has
  rw [pos_ids (setG_ids hg)]
  simp [setG]
theorem setG_gr {L : List Gr} {x : Int} {g : Gr} (hg : g.id = x) (hx : has L x = true) (y : Int) : gr (setG L x g) y = if y = x then g else gr L y := by
  unfold gr
  rw [pos_ids (setG_ids hg)]
  split
  · rename_i e
    subst e
    simp [setG, List.getD, has_pos hx]
  · rename_i e
    unfold setG
    simp only [List.getD_eq_getElem?_getD, List.getElem?_set]
    split
    · rename_i e2
      cases hy : has L y with
      | true =>
        have h1 := gr_id hy
        have h2 := gr_id hx
        unfold gr at h1 h2
        rw [← e2] at h1
        exact absurd (h1.symm.trans h2) e
      | false =>
        have : ¬ pos L y < L.length := by simpa [has] using hy
        exact absurd (has_pos hx) (by omega)
    · rfl
theorem setG_mem {L : List Gr} {x : Int} {g y : Gr} (h : y ∈ setG L x g) : y = g ∨ y ∈ L := by
  unfold setG at h
  rcases List.mem_or_eq_of_mem_set h with h | h
  · exact .inr h
  · exact .inl h
end Go.Proofs.Ythndfhkkaichiaa
