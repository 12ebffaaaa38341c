/-
  One row of ints put behind another; the document's New, At, set, Drop, Skip. Conditions: at most 64 slots; the place is one of them.
-/
import Derived.Test.YthndfhkkaichiaaUd
import Derived.Laws.OwnMore
namespace Go.Proofs.Ythndfhkkaichiaa
open Go.RowKit

/-- a slice of ints, wherever. -/
def SrcI (w : World) (u : Value) (l : List Int) : Prop :=
  ∃ ad c, u = .slice ad l.length c ∧ (l ≠ [] → ∃ b off, ad = some ⟨b, off, none⟩ ∧ b < w.heap.size ∧ ∀ j, j < l.length → w.cell? ⟨b, off + j, none⟩ = some (.int .i64 (l.getD j 0)))
theorem SrcI.below {w w' : World} {u : Value} {l : List Int} (h : SrcI w u l) (hb : Below w.heap.size w w') : SrcI w' u l := by
  obtain ⟨ad, c, rfl, h2⟩ := h
  refine ⟨ad, c, rfl, fun hl => ?_⟩
  obtain ⟨b, off, rfl, h3, h4⟩ := h2 hl
  exact ⟨b, off, rfl, Nat.lt_of_lt_of_le h3 hb.size, fun j hj => (hb.cell (p := ⟨b, off + j, none⟩) h3).trans (h4 j hj)⟩
theorem RowO.src {w : World} {B : Nat} {v : Value} {l : List Int} (h : RowO w B v l) : SrcI w v l := by
  obtain ⟨a, c, rfl⟩ := h.sl
  refine ⟨a, c, rfl, fun hl => ?_⟩
  obtain ⟨b, rfl, hB, hb, _⟩ := h.at (j := 0) (List.length_pos_iff.2 hl)
  refine ⟨b, 0, rfl, hb, fun j hj => ?_⟩
  obtain ⟨b', e, _, _, hc, _⟩ := h.at hj
  cases e
  rw [Nat.zero_add]; exact hc
theorem append_any (w : World) (B : Nat) (v u : Value) (xs ys : List Int) (ty : TypeId) (hB : B ≤ w.heap.size) (h : RowO w B v xs) (hs : SrcI w u ys) (hl : xs.length + ys.length ≤ 1000) :
    ∃ v' w', (Builtin.append_ #[50, 50] ty #[v, u]).run Try.prog w = .ok v' w' ∧ RowO w' B v' (xs ++ ys) ∧ w.grownBy w' v.ownBlock := by
  obtain ⟨i0, hi, hz0, hz1, hz2⟩ := info_parts Try.info3
  obtain ⟨ad, c, rfl, h2⟩ := hs
  cases had : ad with
  | none =>
    have : ys = [] := by
      by_cases hne : ys = []
      · exact hne
      · obtain ⟨b, off, e, _⟩ := h2 hne
        rw [had] at e; cases e
    subst this
    by_cases hc : c = 0
    · subst hc
      exact ⟨v, w, run_append_owned_none w B 50 ty 3 i0 1 Try.underlying50 hi v xs.length _ h, by rw [List.append_nil]; exact h, World.grownBy.refl _ _⟩
    · refine ⟨v, w, ?_, by rw [List.append_nil]; exact h, World.grownBy.refl _ _⟩
      rcases h.2 with ⟨rfl, h1⟩ | ⟨g, cap, cur, rfl, _, _, hnc, _⟩
      · simp [Builtin.append_, run_underlying Try.underlying50, sizeOf, typeInfo, hi, Builtin.lenOf, Builtin.firstCells]
      · simp [Builtin.append_, run_underlying Try.underlying50, sizeOf, typeInfo, hi, Builtin.lenOf, Builtin.firstCells, hnc, storeCells]
  | some a =>
    have hnews : ∀ j x, (encI ys)[j]? = some x → w.cell? (a.add j) = some x := by
      intro j x hx
      have hj : j < ys.length := by have := (List.getElem?_eq_some_iff.1 hx).1; simpa [encI] using this
      obtain ⟨b, off, e, _, hc⟩ := h2 (by rintro rfl; simp at hj)
      rw [had] at e
      cases e
      rw [Addr.add_lit, hc j hj, ← encI_get hj, hx]
    obtain ⟨v', w', hr, ho, hg, _⟩ := run_append_own (P := Try.prog) w B 50 ty 3 i0 (.int .i64 0) 1 8 Try.underlying50 hi hz0 hz1 hz2 rfl (by decide) v xs.length _ h a ys.length c (encI ys) (by simp [encI]) hnews (encI_one ys) (by unfold maxLen; omega) (by omega) hB
    refine ⟨v', w', hr, ?_, hg⟩
    unfold RowO
    rw [List.length_append, show encI (xs ++ ys) = encI xs ++ encI ys by simp [encI]]
    exact ho
section
variable {ops : Array Oper} {rest : List Oper} {o : Oper} {a : Act} {w : World} {Q : Exit → Act → World → Prop} {K : Act → World → Prop}
theorem wp_append (s x : Operand) (ho : o.op = .call { callee := .builtin .append, args := #[s, x], argTypes := #[50, 50] }) (B : Nat) (v u : Value) (xs ys : List Int) (hs : a.eval s = v) (hx : a.eval x = u)
    (hB : B ≤ w.heap.size) (h1 : RowO w B v xs) (h2 : SrcI w u ys) (hl : xs.length + ys.length ≤ 1000) (h : ∀ v' w', RowO w' B v' (xs ++ ys) → w.grownBy w' v.ownBlock → K (a.put o.dst v') w') : o.wp Try.prog a w K Q := by
  obtain ⟨v', w', hr, ho', hg⟩ := append_any w B v u xs ys o.type hB h1 h2 hl
  unfold Oper.wp execOp
  simp only [ho, resolve, invoke, builtin, Sem.run_bind, Sem.run_pure, Result.andThen_ok, List.map_toArray, List.map_cons, List.map_nil, hs, hx, hr]
  exact h v' w' ho' hg
theorem wpList_append (hg : o.guard = none) (s x : Operand) (ho : o.op = .call { callee := .builtin .append, args := #[s, x], argTypes := #[50, 50] }) (B : Nat) (v u : Value) (xs ys : List Int) (hs : a.eval s = v) (hx : a.eval x = u)
    (hB : B ≤ w.heap.size) (h1 : RowO w B v xs) (h2 : SrcI w u ys) (hl : xs.length + ys.length ≤ 1000) (h : ∀ v' w', RowO w' B v' (xs ++ ys) → w.grownBy w' v.ownBlock → wpList Try.prog ops Q rest (a.put o.dst v') w') : wpList Try.prog ops Q (o :: rest) a w :=
  wpList_plain hg fun _ hK => wp_append s x ho B v u xs ys hs hx hB h1 h2 hl fun v' w' h3 h4 => hK _ _ (h v' w' h3 h4)
/-- an empty literal. -/
theorem RowO.empty (w : World) (B : Nat) (hB : B ≤ w.heap.size) : RowO (w.alloc (.cells #[] 3)) B (.slice (some ⟨w.heap.size, 0, none⟩) 0 0) [] := World.ownsRow_made w #[] 0 hB (by omega) rfl
end
theorem atI_hit {l : List Int} {x : Int} {k : Nat} (hk : k < l.length) (he : l.getD k 0 = x) (hb : ∀ j, j < k → l.getD j 0 ≠ x) (h0 : x ≠ 0) : atI l x = k := by
  have := find_hit hk he hb
  simp [atI, hasB, this, hk, h0]
theorem atI_none {l : List Int} {x : Int} (hb : ∀ j, j < l.length → l.getD j 0 ≠ x) : atI l x = -1 := by
  have := find_none hb
  simp [atI, hasB, this]
theorem atI_zero (l : List Int) : atI l 0 = -1 := by simp [atI, hasB]
end Go.Proofs.Ythndfhkkaichiaa
