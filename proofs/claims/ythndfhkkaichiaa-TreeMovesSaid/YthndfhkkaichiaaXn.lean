/-
  The document's forest in memory: a row of groups of five cells. Its At. No condition.
-/
import Derived.Test.YthndfhkkaichiaaXm
import Derived.Laws.OwnMore
namespace Go.Proofs.Ythndfhkkaichiaa
open Go.RowKit Go.Maps

def encG (L : List Gr) : List Value := L.flatMap fun g => (cellsE g).toList
theorem encG_len : ∀ L : List Gr, (encG L).length = L.length * 5
  | [] => rfl
  | g :: r => by
    have := encG_len r
    unfold encG at this ⊢
    rw [List.flatMap_cons, List.length_append, this, List.length_cons]
    have : (cellsE g).toList.length = 5 := rfl
    omega
theorem encG_cons (g : Gr) (r : List Gr) : encG (g :: r) = (cellsE g).toList ++ encG r := rfl
theorem encG_app (a b : List Gr) : encG (a ++ b) = encG a ++ encG b := by simp [encG]
theorem encG_one : ∀ (L : List Gr), ∀ u ∈ encG L, u.oneCell' = true := by
  intro L u hu
  unfold encG at hu
  obtain ⟨g, _, hu⟩ := List.mem_flatMap.1 hu
  simp [cellsE] at hu
  rcases hu with rfl | rfl | rfl | rfl | rfl <;> rfl
theorem encG_at : ∀ {L : List Gr} {j i : Nat}, j < L.length → i < 5 → (encG L)[j * 5 + i]? = (cellsE (L.getD j g0))[i]?
  | [], _, _, h, _ => by simp at h
  | g :: r, 0, i, _, hi => by
    rw [encG_cons, List.getElem?_append_left (by show 0 * 5 + i < 5; omega)]
    simp
  | g :: r, j + 1, i, h, hi => by
    rw [encG_cons, List.getElem?_append_right (by show 5 ≤ (j + 1) * 5 + i; omega)]
    have : (j + 1) * 5 + i - (cellsE g).toList.length = j * 5 + i := by show (j + 1) * 5 + i - 5 = j * 5 + i; omega
    rw [this, encG_at (L := r) (by simpa using h) hi]
    simp
/-- groups' cells lie in b from a place on. -/
def Cl (w : World) (b off : Nat) (L : List Gr) : Prop := b < w.heap.size ∧ ∀ j v, (encG L)[j]? = some v → w.cell? ⟨b, off + j, none⟩ = some v
section
variable {w w' : World} {b off : Nat} {L : List Gr}
theorem Cl.below (h : Cl w b off L) (hb : Below w.heap.size w w') : Cl w' b off L := ⟨Nat.lt_of_lt_of_le h.1 hb.size, fun j v hj => (hb.cell (p := ⟨b, off + j, none⟩) h.1).trans (h.2 j v hj)⟩
theorem Cl.at (h : Cl w b 0 L) {j i : Nat} (hj : j < L.length) (hi : i < 5) : w.cell? ⟨b, j * 5 + i, none⟩ = (cellsE (L.getD j g0))[i]? := by
  have e := encG_at hj hi
  have : i < (cellsE (L.getD j g0)).size := hi
  rw [Array.getElem?_eq_getElem this] at e ⊢
  have := h.2 _ _ e
  rwa [Nat.zero_add] at this
theorem Cl.id (h : Cl w b 0 L) {j : Nat} (hj : j < L.length) : w.cell? ⟨b, j * 5, none⟩ = some (.int .i64 (L.getD j g0).id) := h.at hj (i := 0) (by omega)
theorem Cl.pa (h : Cl w b 0 L) {j : Nat} (hj : j < L.length) : w.cell? ⟨b, j * 5 + 1, none⟩ = some (.int .i64 (L.getD j g0).pa) := h.at hj (i := 1) (by omega)
theorem Cl.wt (h : Cl w b 0 L) {j : Nat} (hj : j < L.length) : w.cell? ⟨b, j * 5 + 2, none⟩ = some (.int .i64 (L.getD j g0).wt) := h.at hj (i := 2) (by omega)
theorem Cl.me (h : Cl w b 0 L) {j : Nat} (hj : j < L.length) : w.cell? ⟨b, j * 5 + 3, none⟩ = some (.int .i64 (L.getD j g0).me) := h.at hj (i := 3) (by omega)
theorem Cl.aw (h : Cl w b 0 L) {j : Nat} (hj : j < L.length) : w.cell? ⟨b, j * 5 + 4, none⟩ = some (.int .i64 (L.getD j g0).aw) := h.at hj (i := 4) (by omega)
theorem Cl.range (h : Cl w b 0 L) {j : Nat} (hj : j < L.length) : w.rangeAt b (j * 5) (cellsE (L.getD j g0)).toList := by
  intro i v hi
  have h5 : i < 5 := (List.getElem?_eq_some_iff.1 hi).1
  rw [h.at hj h5]
  simpa using hi
end
/-- a row of groups in a block of its own. -/
def RowG (w : World) (v : Value) (L : List Gr) : Prop := w.ownsRow 0 70 5 v L.length (encG L)
section
variable {w w' : World} {v : Value} {L : List Gr}
theorem RowG.sl (h : RowG w v L) : ∃ a c, v = .slice a L.length c := by
  rcases h.2 with ⟨rfl, h1⟩ | ⟨g, cap, cur, rfl, _⟩
  · exact ⟨none, 0, by rw [h1]⟩
  · exact ⟨_, cap, rfl⟩
theorem RowG.same (h : RowG w v L) (hs : ∀ (b : Nat) (cur : Array Value), w.heap[b]? = some (Obj.cells cur 70 (0, 0)) → w'.heap[b]? = w.heap[b]?) : RowG w' v L := by
  refine ⟨h.1, ?_⟩
  rcases h.2 with ⟨rfl, h1⟩ | ⟨g, cap, cur, rfl, hbg, hg, h3⟩
  · exact .inl ⟨rfl, h1⟩
  · exact .inr ⟨g, cap, cur, rfl, hbg, by rw [hs g cur hg]; exact hg, h3⟩
theorem RowG.below (h : RowG w v L) (hb : Below w.heap.size w w') : RowG w' v L := h.same fun b _ hg => hb.block b (Array.getElem?_eq_some_iff.1 hg).1
theorem RowG.alloc (h : RowG w v L) (o : Obj) : RowG (w.alloc o) v L := h.below ((Below.refl _ w).alloc (Nat.le_refl _) o)
theorem RowG.wr {ts : List Nat} {B : Nat} (h : RowG w v L) (hw : Wr ts B w w') (ht : 70 ∉ ts) : RowG w' v L := h.same fun b cur hg => hw.typ b cur 70 (0, 0) hg ht
theorem RowG.turn {d t : Nat} {cs : Array Value} (h : RowG w v L) (ht : Turn d w w') (hd : Blk w d t cs) (hne : t ≠ 70) : RowG w' v L := h.same fun b cur hb => ht.block b (by
  rintro rfl
  unfold Blk at hd
  rw [hb] at hd
  injection hd with h1
  injection h1 with _ h2 _
  exact hne h2.symm)
theorem RowG.nil (w : World) : RowG w (.slice none 0 0) [] := World.ownsRow_nil _ _ _ _
/-- where it lies. -/
theorem RowG.form {a : Option Addr} {n c : Nat} (h : RowG w (.slice a n c) L) : n = L.length ∧ L.length ≤ c ∧ ((a = none ∧ c = 0 ∧ L = []) ∨ ∃ b, a = some ⟨b, 0, none⟩ ∧ Cl w b 0 L ∧ ∃ cur, w.heap[b]? = some (.cells cur 70 (0, 0)) ∧ cur.size = c * 5) := by
  rcases h.2 with ⟨e, h1⟩ | ⟨g, cap, cur, e, _, hg, h3, h4, h5, htake⟩
  · cases e
    exact ⟨h1.symm, by omega, .inl ⟨rfl, rfl, List.length_eq_zero_iff.1 h1⟩⟩
  · cases e
    refine ⟨rfl, h3, .inr ⟨g, rfl, ⟨(Array.getElem?_eq_some_iff.1 hg).1, fun j v hj => ?_⟩, cur, hg, h5⟩⟩
    rw [cell_of_row w g _ _ 70 (0, 0) hg, Nat.zero_add, ← hj, ← htake, List.getElem?_take_of_lt (by have := (List.getElem?_eq_some_iff.1 hj).1; rw [encG_len] at this; exact this)]
    simp
theorem RowG.at {a : Option Addr} {n c : Nat} (h : RowG w (.slice a n c) L) {j : Nat} (hj : j < L.length) : ∃ b, a = some ⟨b, 0, none⟩ ∧ Cl w b 0 L := by
  rcases h.form.2.2 with ⟨_, _, rfl⟩ | ⟨b, e, hc, _⟩
  · simp at hj
  · exact ⟨b, e, hc⟩
end
/-- the document's forest as a value. -/
def DocF (w : World) (v : Value) (r m : Int) (L : List Gr) : Prop := ∃ a c, v = .agg (cellsF r m (.slice a L.length c)) ∧ RowG w (.slice a L.length c) L
section
variable {w w' : World} {v : Value} {r m : Int} {L : List Gr}
theorem DocF.below (h : DocF w v r m L) (hb : Below w.heap.size w w') : DocF w' v r m L := by
  obtain ⟨a, c, e, h⟩ := h
  exact ⟨a, c, e, h.below hb⟩
theorem DocF.wr {ts : List Nat} {B : Nat} (h : DocF w v r m L) (hw : Wr ts B w w') (ht : 70 ∉ ts) : DocF w' v r m L := by
  obtain ⟨a, c, e, h⟩ := h
  exact ⟨a, c, e, h.wr hw ht⟩
end
def atG (L : List Gr) (x : Int) : Int := if has L x = true then (pos L x : Int) else -1
theorem atG_yes {L : List Gr} {x : Int} (h : has L x = true) : atG L x = (pos L x : Int) := if_pos h
theorem atG_no {L : List Gr} {x : Int} (h : has L x = false) : atG L x = -1 := if_neg (by rw [h]; decide)
set_option maxRecDepth 100000 in
set_option maxHeartbeats 4000000 in
theorem At_any (r m : Int) (a : Option Addr) (c : Nat) (L : List Gr) (x : Int) (w : World) (h : RowG w (.slice a L.length c) L) (hl : L.length ≤ 64) :
    Calls Try.prog 50 #[.agg (cellsF r m (.slice a L.length c)), .int .i64 x] w fun e w' => e = .returned (.int .i64 (atG L x)) ∧ Below w.heap.size w w' := by
  have hb : Below w.heap.size w (w.alloc (.cells (cellsF r m (.slice a L.length c)) 30)) := (Below.refl _ w).alloc (Nat.le_refl _) _
  have HR := Lib.hid (h.alloc (.cells (cellsF r m (.slice a L.length c)) 30))
  have hB := Blk.new w 30 (cellsF r m (.slice a L.length c))
  have h2 := cF2 hB
  have HY : Hid (∀ k, k < L.length → (L.getD k g0).id = x → (∀ j, j < k → ¬ (L.getD j g0).id = x) → atG L x = (k : Int)) := Lib.hid fun k hk e hj => by
    have := pos_hit hk e hj
    have : has L x = true := by unfold has; rw [decide_eq_true_iff]; omega
    rw [atG_yes this]; omega
  have HN : Hid ((∀ j, j < L.length → ¬ (L.getD j g0).id = x) → atG L x = -1) := Lib.hid fun hj => by
    have := pos_none hj
    have : has L x = false := by unfold has; rw [decide_eq_false_iff_not]; omega
    exact atG_no this
  clear h hB
  unfold cellsF at h2 hb HR ⊢
  go_enter Try.func50, Try.ntmps50
  go_wp2_with fail
  generalize w.alloc (.cells #[.int .i64 r, .int .i64 m, .slice a L.length c] 30) = w1 at *
  go_loop [9] (fun i => ∃ k : Nat, k ≤ L.length ∧ i = .int .i64 k ∧ Hid (∀ j, j < k → ¬ (L.getD j g0).id = x)) (fun i => L.length - (intOf i).toNat)
  case atStart => exact ⟨0, by omega, rfl, Lib.hid (fun j hj => absurd hj (Nat.not_lt_zero _))⟩
  case round =>
    obtain ⟨k, hk, rfl, HB⟩ := hrel
    by_cases hlt : k < L.length
    · obtain ⟨b, rfl, hc⟩ := HR.out.at hlt
      have h0 := hc.id hlt
      clear hc
      generalize hy : (L.getD k g0).id = y at *
      have HYy := Lib.hid hy
      clear hy
      by_cases e : y = x
      · subst e
        go_wp2_with fail
        go_ret
        exact ⟨by rw [HY.out k hlt HYy.out HB.out]; rfl, hb⟩
      · have h5 := beq_ff e
        go_wp2_with fail
        refine ⟨⟨k + 1, by omega, by go_num, Lib.hid (fun j hj => ?_)⟩, by simp [intOf]; omega⟩
        by_cases e2 : j = k
        · subst e2; rw [HYy.out]; exact e
        · exact HB.out j (by omega)
    · obtain rfl : k = L.length := by omega
      go_wp2_with fail
      go_ret
      exact ⟨by rw [HN.out HB.out]; rfl, hb⟩
end Go.Proofs.Ythndfhkkaichiaa
