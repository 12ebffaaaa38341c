/-
  A map from ints to bools that the call has made, as the set of ints that it holds: made, kept, looked up, stored into; a row of bytes. Condition of a store: fewer entries than there may be.
-/
import Derived.Test.YthopmkgbhfkeoaaUp
import Derived.Maps.OwnSet
import Derived.Maps.OwnOps
namespace Go.Proofs.Ythopmkgbhfkeoaa
open Go.RowKit Go.Maps

theorem plainElem_bool_inv {P : Program} {e : TypeId} (he : P.underlying e = some .bool) {v : Value} {z : DataW Unit × List MemPlace} (h : plainElem P e v = some z) : ∃ x, v = .bool x ∧ z = (.lit (.bool x), []) := by
  unfold plainElem at h
  rw [he] at h
  cases v <;> simp at h
  exact ⟨_, rfl, h.symm⟩
theorem wf64 {x : Int} (h : -9223372036854775808 ≤ x ∧ x ≤ 9223372036854775807) : (Lit.int .i64 x).wf = true := by
  have := wrap64_wf x
  rwa [show wrap64 x = x by unfold wrap64; omega] at this
/-- block b is a map of at most n entries; S: is it true there? -/
def Seen (w : World) (b n : Nat) (S : Int → Bool) : Prop :=
  ∃ D : DataW Unit, w.ownsMap Try.prog 3 (plainElem Try.prog 4) b n D ∧ IsMap D ∧ ∀ x : Int, D.atKey (.int .i64 x) (.lit (.bool false)) = .lit (.bool (S x))
theorem law3 : Keyed Try.prog 3 := int_keyed Try.underlying3
theorem zero4 (w : World) : (zeroValue 4).run Try.prog w = .ok (.bool false) w := by kernel_rfl
section
variable {w w' : World} {b n : Nat} {S : Int → Bool}
theorem Seen.isMap (h : Seen w b n S) : ∃ es clock, w.heap[b]? = some (.map es clock) := by
  obtain ⟨D, ⟨es, clock, hb, _⟩, _⟩ := h
  exact ⟨es, clock, hb⟩
theorem Seen.lt (h : Seen w b n S) : b < w.heap.size := by
  obtain ⟨es, clock, hb⟩ := h.isMap
  exact (Array.getElem?_eq_some_iff.1 hb).1
theorem Seen.same (h : Seen w b n S) (hs : w'.heap[b]? = w.heap[b]?) : Seen w' b n S := by
  obtain ⟨D, ⟨es, clock, hb, h1⟩, h2⟩ := h
  exact ⟨D, ⟨es, clock, by rw [hs]; exact hb, h1⟩, h2⟩
theorem Seen.below (h : Seen w b n S) (hb : Below w.heap.size w w') : Seen w' b n S := h.same (hb.block b h.lt)
theorem Seen.alloc (h : Seen w b n S) (o : Obj) : Seen (w.alloc o) b n S := h.same (heap_alloc_old w o h.lt)
theorem Seen.only {p g : Nat} (h : Seen w b n S) (ho : Only p g w w') (hp : b ≠ p) (hg : b ≠ g) : Seen w' b n S := h.same (ho.block b h.lt hp hg)
theorem Seen.grown {r : Option Nat} (h : Seen w b n S) (hg : w.grownBy w' r) (hne : some b ≠ r) : Seen w' b n S := h.same (hg.block b h.lt hne)
theorem Seen.made (w : World) : Seen (w.alloc (.map #[] 0)) w.heap.size 0 (fun _ => false) :=
  ⟨.map [], World.ownsMap_made w Try.prog 3 _, ⟨[], rfl⟩, fun _ => rfl⟩
theorem Seen.look (h : Seen w b n S) {x : Int} (hx : -9223372036854775808 ≤ x ∧ x ≤ 9223372036854775807) : (Instr.lookup 44 (.map (some b)) (.int .i64 x) false).run Try.prog w = .ok (.bool (S x)) w := by
  obtain ⟨D, hown, _, hat⟩ := h
  obtain ⟨v, ps, hrun, hv⟩ := hown.lookup law3 Try.underlying44 (zero4 w) (plainElem_bool Try.underlying4 false) (keyOf_int_mk Try.underlying3 (wf64 hx))
  obtain ⟨c, rfl, hc⟩ := plainElem_bool_inv Try.underlying4 hv
  rw [hat] at hc
  simp only [Prod.mk.injEq, DataW.lit.injEq, Lit.bool.injEq] at hc
  rw [hrun, hc.1]
theorem Seen.put (h : Seen w b n S) (hn : n < maxLen) {x : Int} (hx : -9223372036854775808 ≤ x ∧ x ≤ 9223372036854775807) :
    ∃ w', (Instr.mapUpdate 44 (.map (some b)) (.int .i64 x) (.bool true)).run Try.prog w = .ok () w' ∧ Seen w' b (n + 1) (fun y => y == x || S y) ∧ w.grownBy w' (some b) := by
  obtain ⟨D, hown, hm, hat⟩ := h
  obtain ⟨w', hrun, hown', hg⟩ := hown.update law3 Try.underlying44 hn (keyOf_int_mk Try.underlying3 (wf64 hx)) (plainElem_bool Try.underlying4 true)
  refine ⟨w', hrun, ⟨_, hown', hm.put _ _, fun y => ?_⟩, hg⟩
  by_cases e : y = x
  · subst e
    rw [atKey_put_same hm (show WideAt.IsKeyLit (.int .i64 _) from trivial)]
    simp
  · rw [atKey_put_other (by intro h; injection h with _ h; exact e h), hat]
    simp [e]
end
section
variable {ops : Array Oper} {rest : List Oper} {o : Oper} {a : Act} {w : World} {Q : Exit → Act → World → Prop}
theorem wpList_seen (hg : Region.wanted o (yielded ops a.tmps) = true) (m x : Operand) (hop : o.op = Op.lookup 44 m x false) (b n : Nat) (S : Int → Bool) (y : Int) (hm : a.eval m = .map (some b)) (hx : a.eval x = .int .i64 y) (hs : Seen w b n S) (hy : -9223372036854775808 ≤ y ∧ y ≤ 9223372036854775807)
    (h : wpList Try.prog ops Q rest (a.put o.dst (.bool (S y))) w) : wpList Try.prog ops Q (o :: rest) a w := by
  refine wpList_want hg fun K hK => ?_
  unfold Oper.wp
  simp [execOp, hop, hm, hx, hs.look hy, Result.andThen]
  exact hK _ _ h
theorem wpList_note (hg : o.guard = none) (m x v : Operand) (hop : o.op = Op.mapUpdate 44 m x v) (b n : Nat) (S : Int → Bool) (y : Int) (hm : a.eval m = .map (some b)) (hx : a.eval x = .int .i64 y) (hv : a.eval v = .bool true) (hs : Seen w b n S) (hn : n < maxLen) (hy : -9223372036854775808 ≤ y ∧ y ≤ 9223372036854775807)
    (h : ∀ w', Seen w' b (n + 1) (fun z => z == y || S z) → w.grownBy w' (some b) → wpList Try.prog ops Q rest (a.put o.dst undef) w') : wpList Try.prog ops Q (o :: rest) a w := by
  refine wpList_plain hg fun K hK => ?_
  obtain ⟨w', hrun, h1, h2⟩ := hs.put hn hy
  unfold Oper.wp
  simp [execOp, hop, hm, hx, hv, hrun, Result.andThen]
  exact hK _ _ (h w' h1 h2)
end
theorem Sp.grown {W w w' : World} {p g n b : Nat} {l : List Int} {m : Int} (h : Sp W p g n w l m) (hg : w.grownBy w' (some b)) (hp : p < b) (hgb : g < b) : Sp W p g n w' l m :=
  ⟨h.ok, h.tab.same (hg.block p h.tab.ltp (by intro e; have := Option.some.inj e; omega)) (hg.block g h.tab.ltg (by intro e; have := Option.some.inj e; omega)), h.len, h.bel.grown hg h.bel.size (fun k e => by have := Option.some.inj e; have := h.Wp; omega), h.Wp, h.Wg⟩
theorem RowO.grownMap {w w' : World} {B b n : Nat} {S : Int → Bool} {v : Value} {l : List Int} (h : RowO w B v l) (hs : Seen w b n S) (hg : w.grownBy w' (some b)) : RowO w' B v l := by
  obtain ⟨es, clock, hb⟩ := hs.isMap
  refine h.same fun c cur hc _ => hg.block c (Array.getElem?_eq_some_iff.1 hc).1 ?_
  intro e
  have := Option.some.inj e
  subst this
  rw [hc] at hb
  cases hb
/-- a row of bytes. -/
def RowY (w : World) (v : Value) (l : List Nat) : Prop :=
  ∃ a cap, v = .slice a l.length cap ∧ (l ≠ [] → ∃ b off, a = some ⟨b, off, none⟩ ∧ b < w.heap.size ∧ ∀ j, j < l.length → w.cell? ⟨b, off + j, none⟩ = some (.int .u8 (l.getD j 0 : Nat)))
theorem RowY.below {w w' : World} {v : Value} {l : List Nat} (h : RowY w v l) (hb : Below w.heap.size w w') : RowY w' v l := by
  obtain ⟨a, cap, rfl, h2⟩ := h
  refine ⟨a, cap, rfl, fun hl => ?_⟩
  obtain ⟨b, off, rfl, h3, h4⟩ := h2 hl
  exact ⟨b, off, rfl, Nat.lt_of_lt_of_le h3 hb.size, fun j hj => (hb.cell (p := ⟨b, off + j, none⟩) h3).trans (h4 j hj)⟩
theorem RowY.at {w : World} {a : Option Addr} {n cap : Nat} {l : List Nat} (h : RowY w (.slice a n cap) l) {j : Nat} (hj : j < l.length) :
    ∃ b off, a = some ⟨b, off, none⟩ ∧ w.cell? ⟨b, off + j, none⟩ = some (.int .u8 (l.getD j 0 : Nat)) := by
  obtain ⟨a', cap', e, h2⟩ := h
  cases e
  obtain ⟨b, off, rfl, h3, h4⟩ := h2 (by rintro rfl; simp at hj)
  exact ⟨b, off, rfl, h4 j hj⟩
theorem RowY.sl {w : World} {v : Value} {l : List Nat} (h : RowY w v l) : ∃ a c, v = .slice a l.length c := by
  obtain ⟨a, c, e, _⟩ := h
  exact ⟨a, c, e⟩
theorem add_fact {l : List Int} {m : Int} (hb : addB l m = true) : addI l m = m + 1 ∧ addS l m = (find l 0 : Int) ∧ addE l m = 0 ∧ addM l m = m + 1 ∧ idI (addL l m) (find l 0 : Int) = m + 1 := by
  have hb' : find l 0 < l.length ∧ m < 2147483648 := by simpa [addB] using hb
  refine ⟨by simp only [addI, hb, if_true], by simp only [addS, hb, if_true], by simp only [addE, hb, if_true], by simp only [addM, hb, if_true], ?_⟩
  rw [idI_nat (by rw [addL_len]; exact hb'.1)]
  simp only [addL, hb, if_true]
  rw [getD_set, if_pos ⟨rfl, hb'.1⟩]
theorem add_not {l : List Int} {m : Int} (hb : addB l m = false) : addI l m = 0 ∧ addS l m = 0 ∧ addE l m = 6 ∧ addM l m = m ∧ addL l m = l := by
  simp [addI, addS, addE, addM, addL, hb]
theorem slots_apart {l : List Int} {m : Int} (ok : TabOk l m) {i j : Nat} (hij : i < j) (hj : j < (idsN l).length) : find l ((idsN l).getD i 0) ≠ find l ((idsN l).getD j 0) := by
  intro e
  have h1 := find_get (find_lt.2 (mem_ids.1 (getD_mem (l := idsN l) (k := i) (by omega))).1)
  have h2 := find_get (find_lt.2 (mem_ids.1 (getD_mem hj)).1)
  have h3 := pair_get (ids_strict ok) hij hj
  rw [e, h2] at h1
  omega
end Go.Proofs.Ythopmkgbhfkeoaa
