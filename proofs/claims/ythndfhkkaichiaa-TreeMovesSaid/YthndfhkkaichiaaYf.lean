/-
  Plain facts: a group's active count is its own and its groups'; what a move leaves. No program.
-/
import Derived.Test.YthndfhkkaichiaaXh
import Derived.Test.YthndfhkkaichiaaXg
namespace Go.Proofs.Ythndfhkkaichiaa

def b01 (L : List Gr) (t y : Int) : Int := if belowB L y t = true then 1 else 0
theorem aw1_mul (L : List Gr) (t y : Int) : aw1 L t y = b01 L t y * (gr L y).aw := by
  unfold aw1 b01
  split <;> simp
theorem sum_add (f g : Int → Int) : ∀ l : List Int, (l.map fun y => f y + g y).sum = (l.map f).sum + (l.map g).sum
  | [] => rfl
  | y :: l => by
    have := sum_add f g l
    simp only [List.map_cons, List.sum_cons]
    omega
theorem sum_swap (f : Int → Int → Int) (K : List Int) : ∀ V : List Int, (V.map fun y => (K.map fun c => f c y).sum).sum = (K.map fun c => (V.map fun y => f c y).sum).sum
  | [] => by induction K with
    | nil => rfl
    | cons c K ih => simpa using ih
  | y :: V => by
    have := sum_swap f K V
    simp only [List.map_cons, List.sum_cons]
    rw [this, ← sum_add]
theorem sum_mul (f : Int → Int) (a : Int) : ∀ l : List Int, (l.map fun c => f c * a).sum = (l.map f).sum * a
  | [] => by simp
  | y :: l => by
    have := sum_mul f a l
    simp only [List.map_cons, List.sum_cons]
    rw [this, Int.add_mul]
theorem sum_zero (f : Int → Int) : ∀ l : List Int, (∀ c ∈ l, f c = 0) → (l.map f).sum = 0
  | [], _ => rfl
  | y :: l, h => by
    have := sum_zero f l (fun c hc => h c (by simp [hc]))
    have := h y (by simp)
    simp only [List.map_cons, List.sum_cons]
    omega
theorem sum_one (y : Int) : ∀ l : List Int, l.Nodup → (l.map fun c => if c = y then (1 : Int) else 0).sum = if y ∈ l then 1 else 0
  | [], _ => by simp
  | c :: l, h => by
    rw [List.nodup_cons] at h
    have ih := sum_one y l h.2
    simp only [List.map_cons, List.sum_cons]
    rw [ih]
    by_cases e : c = y
    · subst e
      rw [if_pos rfl, if_neg h.1, if_pos (by simp)]; rfl
    · rw [if_neg e]
      have : y ∈ c :: l ↔ y ∈ l := by
        rw [List.mem_cons]
        exact ⟨fun h => h.resolve_left (fun h => e h.symm), .inr⟩
      simp only [this]
      omega
theorem sum_congr {f g : Int → Int} : ∀ {l : List Int}, (∀ c ∈ l, f c = g c) → (l.map f).sum = (l.map g).sum
  | [], _ => rfl
  | y :: l, h => by
    have := sum_congr (f := f) (g := g) (l := l) (fun c hc => h c (by simp [hc]))
    have := h y (by simp)
    simp only [List.map_cons, List.sum_cons]
    omega
section
variable {L : List Gr} {m k : Int}
theorem kids_nodup (ok : Ok L m k) (x : Int) : (kids L x).Nodup := by
  have h := nodup_rise ok.rise
  unfold idsG at h
  exact h.sublist (List.filter_sublist.map _)
theorem mem_kids (ok : Ok L m k) {x c : Int} : c ∈ kids L x ↔ has L c = true ∧ (gr L c).pa = x := by
  unfold kids
  rw [List.mem_map]
  constructor
  · rintro ⟨g, hg, rfl⟩
    rw [List.mem_filter] at hg
    refine ⟨has_mem hg.1, ?_⟩
    rw [gr_of ok.rise hg.1]
    simpa using hg.2
  · rintro ⟨h1, h2⟩
    exact ⟨gr L c, List.mem_filter.2 ⟨gr_mem h1, by simpa using h2⟩, gr_id h1⟩
theorem b01_sum (ok : Ok L m k) {x : Int} (hx : has L x = true) : ∀ (n : Nat) {y : Int}, (pth L y).length ≤ n → has L y = true → b01 L x y = (if y = x then 1 else 0) + ((kids L x).map fun c => b01 L c y).sum
  | 0, y, hn, hy => by
    rw [ok.yes hy, List.length_cons] at hn
    omega
  | n + 1, y, hn, hy => by
    by_cases e : y = x
    · subst e
      rw [if_pos rfl]
      have h0 : ((kids L y).map fun c => b01 L c y).sum = 0 := sum_zero _ _ fun c hc => by
        obtain ⟨h1, h2⟩ := (mem_kids ok).1 hc
        unfold b01
        rw [if_neg]
        intro hb
        unfold belowB at hb
        have hm : c ∈ pth L y := by simpa using hb
        have hl := ok.plen hm
        rw [ok.yes h1, h2, List.length_cons] at hl
        omega
      rw [h0]
      unfold b01 belowB
      rw [if_pos (by simpa using ok.self hy)]
      rfl
    · rw [if_neg e]
      have h1 : ∀ t, b01 L t y = (if t = y then 1 else 0) + b01 L t (gr L y).pa := by
        intro t
        unfold b01
        rw [ok.below_step hy]
        by_cases e2 : t = y
        · subst e2
          have h9 : belowB L (gr L t).pa t = false := by
            unfold belowB
            rw [decide_eq_false_iff_not]
            exact ok.notUp hy
          simp [h9]
        · have e3 : ¬ y = t := fun h => e2 h.symm
          simp [e2, e3]
      have h2 : ((kids L x).map fun c => b01 L c y).sum = (if y ∈ kids L x then 1 else 0) + ((kids L x).map fun c => b01 L c (gr L y).pa).sum := by
        rw [← sum_one y _ (kids_nodup ok x), ← sum_add]
        exact sum_congr fun c _ => h1 c
      rw [h2, h1 x, if_neg (fun h => e h.symm)]
      have h3 : y ∈ kids L x ↔ (gr L y).pa = x := by
        rw [mem_kids ok]
        exact ⟨fun h => h.2, fun h => ⟨hy, h⟩⟩
      simp only [h3]
      rcases ok.pa hy with h4 | h4
      · have hno := ok.low (x := (gr L y).pa) (by omega)
        have hne : ¬ (gr L y).pa = x := by
          intro h5
          rw [h5, hx] at hno
          cases hno
        rw [if_neg hne]
        have h0 : ((kids L x).map fun c => b01 L c (gr L y).pa).sum = 0 := sum_zero _ _ fun c _ => by
          unfold b01
          rw [below_no hno]; rfl
        rw [h0]
        unfold b01
        rw [below_no hno]; rfl
      · have hl : (pth L (gr L y).pa).length ≤ n := by
          rw [ok.yes hy, List.length_cons] at hn
          omega
        rw [b01_sum ok hx n hl h4, Int.zero_add]
/-- a group's active count. -/
theorem act_split (ok : Ok L m k) {x : Int} (hx : has L x = true) : actI L x = (gr L x).aw + ((kids L x).map fun c => actI L c).sum := by
  have h1 : actI L x = ((idsG L).map fun y => (if y = x then (gr L x).aw else 0) + ((kids L x).map fun c => aw1 L c y).sum).sum := by
    refine sum_congr fun y hy => ?_
    have hy' := has_ids.2 hy
    rw [aw1_mul, b01_sum ok hx _ (Nat.le_refl _) hy', Int.add_mul, ← sum_mul]
    have e1 : (if y = x then (1 : Int) else 0) * (gr L y).aw = if y = x then (gr L x).aw else 0 := by
      by_cases e : y = x
      · subst e; simp
      · simp [e]
    rw [e1]
    exact congrArg _ (sum_congr fun c _ => (aw1_mul L c y).symm)
  rw [h1, sum_add, sum_swap]
  congr 1
  have h2 : ((idsG L).map fun y => if y = x then (gr L x).aw else 0) = (idsG L).map fun y => (if y = x then (1 : Int) else 0) * (gr L x).aw := by
    apply List.map_congr_left
    intro y _
    split <;> simp
  rw [h2, sum_mul, sum_one x _ (nodup_rise ok.rise), if_pos (has_ids.1 hx)]
  simp
theorem act_bound (ok : Ok L m k) (t : Int) : 0 ≤ actI L t ∧ actI L t ≤ 64000 := by
  have h1 := sumA_bound ok t (idsG L) (fun y hy => has_ids.2 hy)
  have h2 := ok.n64
  have h3 : (idsG L).length = L.length := by simp [idsG]
  rw [h3] at h1
  unfold actI
  omega
theorem kids_n (ok : Ok L m k) (x : Int) : (kids L x).length ≤ 64 := by
  have h := ok.n64
  have h1 : (L.filter fun g => g.pa == x).length ≤ L.length := List.length_filter_le _ _
  unfold kids
  rw [List.length_map]
  omega
/-! ### a move -/
variable {x p : Int}
section
variable (ok : Ok L m k) (ok' : Ok (moveG L x p) m (k + 1)) (hx : has L x = true) (hp : has L p = true) (hn : x ∉ pth L p)
include ok ok' hx hn
theorem mv_p : pth (moveG L x p) p = pth L p := by
  have _ := ok'
  exact move_out ok hx 9 p hn
theorem mv_x : pth (moveG L x p) x = x :: pth L p := by
  rw [ok'.yes (by rw [move_has]; exact hx), move_gr hx, if_pos rfl]
  show x :: pth (moveG L x p) p = _
  rw [mv_p ok ok' hx hn]
theorem mv_dep : dep (moveG L x p) x = dep L p + 1 := by
  unfold dep
  rw [mv_x ok ok' hx hn, List.length_cons]
  omega
theorem mv_in : ∀ (n : Nat) {y : Int}, (pth L y).length ≤ n → x ∈ pth L y → x ∈ pth (moveG L x p) y
  | 0, y, hl, h => by
    have : pth L y = [] := List.length_eq_zero_iff.1 (by omega)
    rw [this] at h; simp at h
  | n + 1, y, hl, h => by
    cases hy : has L y with
    | false => rw [pth_no hy] at h; simp at h
    | true =>
      rw [ok'.yes (by rw [move_has]; exact hy)]
      by_cases e : y = x
      · subst e; simp
      · rw [move_gr hx, if_neg e]
        rw [ok.yes hy] at h hl
        rw [List.length_cons] at hl
        rcases List.mem_cons.1 h with h | h
        · exact absurd h.symm e
        · exact List.mem_cons_of_mem _ (mv_in n (by omega) h)
theorem mv_back {y : Int} (h : x ∉ pth L y) : pth (moveG L x p) y = pth L y := by
  have _ := ok'
  have _ := hn
  exact move_out ok hx 9 y h
include hp
theorem mv_below {y : Int} (h : belowB L y x = true) : belowB (moveG L x p) y p = true ∧ belowB (moveG L x p) y x = true := by
  have h1 : x ∈ pth L y := by simpa [belowB] using h
  have h2 := mv_in ok ok' hx hn _ (Nat.le_refl _) h1
  refine ⟨?_, by simpa [belowB] using h2⟩
  have h3 : p ∈ pth (moveG L x p) x := by
    rw [mv_x ok ok' hx hn]
    exact List.mem_cons_of_mem _ (ok.self hp)
  simpa [belowB] using ok'.trans h2 h3
theorem mv_aw (y : Int) : (gr (moveG L x p) y).aw = (gr L y).aw := by
  have _ := ok
  have _ := ok'
  have _ := hp
  have _ := hn
  rw [move_gr hx]
  split
  · rename_i e; subst e; rfl
  · rfl
theorem mv_act_x : actI (moveG L x p) x = actI L x := by
  unfold actI sumA
  rw [show idsG (moveG L x p) = idsG L from setG_ids (show (mvd L x p).id = x from rfl)]
  refine sum_congr fun y hy => ?_
  unfold aw1
  rw [mv_aw ok ok' hx hp hn y]
  by_cases h : x ∈ pth L y
  · have h2 := mv_in ok ok' hx hn _ (Nat.le_refl _) h
    rw [if_pos (by simpa [belowB] using h2), if_pos (by simpa [belowB] using h)]
  · unfold belowB
    rw [mv_back ok ok' hx hn h]
theorem mv_act_top (ht : topI L x = topI L p) : actI (moveG L x p) (topI L x) = actI L (topI L x) := by
  unfold actI sumA
  rw [show idsG (moveG L x p) = idsG L from setG_ids (show (mvd L x p).id = x from rfl)]
  refine sum_congr fun y hy => ?_
  unfold aw1
  rw [mv_aw ok ok' hx hp hn y]
  by_cases h : x ∈ pth L y
  · have h2 := mv_in ok ok' hx hn _ (Nat.le_refl _) h
    have h3 : topI L x ∈ pth L y := ok.trans h (ok.top_mem hx)
    have h4 : topI L x ∈ pth (moveG L x p) y := by
      refine ok'.trans h2 ?_
      rw [mv_x ok ok' hx hn, ht]
      exact List.mem_cons_of_mem _ (ok.top_mem hp)
    rw [if_pos (by simpa [belowB] using h4), if_pos (by simpa [belowB] using h3)]
  · unfold belowB
    rw [mv_back ok ok' hx hn h]
end
end
end Go.Proofs.Ythndfhkkaichiaa
