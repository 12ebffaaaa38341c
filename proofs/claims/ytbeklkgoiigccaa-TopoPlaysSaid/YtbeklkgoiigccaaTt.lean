/-
  Rows of acts, and what the laws' loops keep: the topology at p and g, the document's in its block. No condition.
-/
import Derived.Test.YtbeklkgoiigccaaTs
namespace Go.Proofs.Ytbeklkgoiigccaa
open Go.RowKit

theorem Try.info46 : (Try.prog.info? 46).map (·.size) = some 2 := by kernel_rfl
def IsA (w : World) (b : Nat) (c : Int) (u : Bool) : Prop := w.heap[b]? = some (.cells #[.int .i64 c, .bool u] 46 (0, 0))
section
variable {w w' : World} {b : Nat} {c : Int} {u : Bool}
theorem IsA.lt (h : IsA w b c u) : b < w.heap.size := (Array.getElem?_eq_some_iff.1 h).1
theorem IsA.new (w : World) (c : Int) (u : Bool) : IsA (w.alloc (.cells #[.int .i64 c, .bool u] 46)) w.heap.size c u := heap_alloc_new w _
theorem IsA.below {B : Nat} (h : IsA w b c u) (hb : Below B w w') (hlt : b < B) : IsA w' b c u := (hb.block b hlt).trans h
theorem IsA.alloc (h : IsA w b c u) (o : Obj) : IsA (w.alloc o) b c u := (heap_alloc_old w o h.lt).trans h
theorem IsA.turn {d : Nat} (h : IsA w b c u) (ht : Turn d w w') (hne : b ≠ d) : IsA w' b c u := (ht.block b hne).trans h
theorem IsA.only {d : Nat} (h : IsA w b c u) (ho : Only d w w') (hne : b ≠ d) : IsA w' b c u := (ho.block b h.lt hne).trans h
end
section
variable {ops : Array Oper} {rest : List Oper} {o : Oper} {a : Act} {w : World} {Q : Exit → Act → World → Prop}
theorem run_alloc46 (w : World) : (Instr.alloc 46 true (.tuple #[])).run Try.prog w = .ok (.pointer (some ⟨w.heap.size, 0, none⟩)) (w.alloc (.cells #[.int .i64 0, .bool false] 46)) := by kernel_rfl
theorem wpList_alloc46 (hg : o.guard = none) (ho : o.op = .alloc 46) (h : wpList Try.prog ops Q rest (a.put o.dst (.pointer (some ⟨w.heap.size, 0, none⟩))) (w.alloc (.cells #[.int .i64 0, .bool false] 46))) : wpList Try.prog ops Q (o :: rest) a w :=
  wpList_plain hg fun K hK => by
    unfold Oper.wp execOp
    rw [ho]
    simp only [run_alloc46, Sem.run_bind, Sem.run_pure, Result.andThen_ok]
    exact hK _ _ h
theorem wpList_load46 (hg : o.guard = none) (x : Operand) (ho : o.op = .load 46 x) (b : Nat) (c : Int) (u : Bool) (hx : a.eval x = .pointer (some ⟨b, 0, none⟩)) (hw : IsA w b c u) (h : wpList Try.prog ops Q rest (a.put o.dst (.agg #[.int .i64 c, .bool u])) w) : wpList Try.prog ops Q (o :: rest) a w :=
  wpList_load_row hg 46 x ho b hx 46 _ (0, 0) _ hw Try.underlying46 rfl Try.info46 h
theorem wpList_store46 (hg : o.guard = none) (x y : Operand) (ho : o.op = .store 46 x y) (b : Nat) (c c' : Int) (u u' : Bool) (hx : a.eval x = .pointer (some ⟨b, 0, none⟩)) (hy : a.eval y = .agg #[.int .i64 c, .bool u]) (hw : IsA w b c' u')
    (h : ∀ w', IsA w' b c u → Turn b w w' → wpList Try.prog ops Q rest (a.put o.dst undef) w') : wpList Try.prog ops Q (o :: rest) a w :=
  wpList_store_row hg 46 x y ho b _ hx hy 46 _ hw Try.info46 rfl (by simp [Value.oneCell']) (h _ (setRow_heap w b _ _ 46 _ hw) (Turn.setRow w b _))
theorem wpList_load29g (hg : Region.wanted o (yielded ops a.tmps) = true) (x : Operand) (ho : o.op = .load 29 x) (b : Nat) (m : Int) (f : Nat → Int) (g : Nat → Bool) (hx : a.eval x = .pointer (some ⟨b, 0, none⟩)) (hw : IsT w b m f g) (h : wpList Try.prog ops Q rest (a.put o.dst (.agg (tarr m f g))) w) : wpList Try.prog ops Q (o :: rest) a w :=
  wpList_want hg fun _ hK => wp_load_row 29 x ho b hx 29 _ (0, 0) _ hw Try.underlying29 rfl (size29 m f g) (hK _ _ h)
end
/-- a row of acts. -/
def RowA (w : World) (v : Value) (l : List (Int × Bool)) : Prop :=
  ∃ a cap, v = .slice a l.length cap ∧ (l ≠ [] → ∃ b off, a = some ⟨b, off, none⟩ ∧ b < w.heap.size ∧ ∀ j, j < l.length → w.cell? ⟨b, off + j * 2, none⟩ = some (.int .i64 (l.getD j (0, false)).1) ∧ w.cell? ⟨b, off + j * 2 + 1, none⟩ = some (.bool (l.getD j (0, false)).2))
theorem RowA.below {w w' : World} {v : Value} {l : List (Int × Bool)} (h : RowA w v l) (hb : Below w.heap.size w w') : RowA w' v l := by
  obtain ⟨a, cap, rfl, h2⟩ := h
  refine ⟨a, cap, rfl, fun hl => ?_⟩
  obtain ⟨b, off, rfl, h3, h4⟩ := h2 hl
  exact ⟨b, off, rfl, Nat.lt_of_lt_of_le h3 hb.size, fun j hj => ⟨(hb.cell (p := ⟨b, off + j * 2, none⟩) h3).trans (h4 j hj).1, (hb.cell (p := ⟨b, off + j * 2 + 1, none⟩) h3).trans (h4 j hj).2⟩⟩
theorem RowA.at {w : World} {a : Option Addr} {n cap : Nat} {l : List (Int × Bool)} (h : RowA w (.slice a n cap) l) {j : Nat} (hj : j < l.length) :
    ∃ b off, a = some ⟨b, off, none⟩ ∧ w.cell? ⟨b, off + j * 2, none⟩ = some (.int .i64 (l.getD j (0, false)).1) ∧ w.cell? ⟨b, off + j * 2 + 1, none⟩ = some (.bool (l.getD j (0, false)).2) := by
  obtain ⟨a', cap', e, h2⟩ := h
  cases e
  obtain ⟨b, off, rfl, h3, h4⟩ := h2 (by rintro rfl; simp at hj)
  exact ⟨b, off, rfl, (h4 j hj).1, (h4 j hj).2⟩
/-- which cores are on behind some acts. -/
def actsN (cs : List Nat) (on : Nat) (l : List (Int × Bool)) : Nat := l.foldl (fun on x => actN cs on x) on
theorem acts_snoc (cs : List Nat) (on : Nat) (l : List (Int × Bool)) (k : Nat) (h : k < l.length) : actsN cs on (l.take (k + 1)) = actN cs (actsN cs on (l.take k)) (l.getD k (0, false)) := by
  unfold actsN
  rw [List.take_add_one, List.foldl_append, List.getD_eq_getElem?_getD, List.getElem?_eq_getElem h]
  rfl

/-- what a law's walk keeps: the topology at p and g, the document's in b (which lies behind both). -/
structure St (W : World) (p g b : Nat) (cs : List Nat) (w : World) (on onr : Nat) : Prop where
  ok : TopoOk cs on
  topo : IsTopo w p g cs on
  ref : IT w b cs onr
  bel : Below W.heap.size W w
  pb : p < b
  gb : g < b
  Wp : W.heap.size ≤ p
  Wg : W.heap.size ≤ g
section
variable {W w w' : World} {p g b : Nat} {cs : List Nat} {on onr : Nat}
theorem St.lt (h : St W p g b cs w on onr) : b < w.heap.size := IsT.lt h.ref
theorem St.below (h : St W p g b cs w on onr) (hb : Below w.heap.size w w') : St W p g b cs w' on onr :=
  ⟨h.ok, h.topo.belowS hb, IsT.below h.ref hb h.lt, h.bel.trans (hb.mono h.bel.size), h.pb, h.gb, h.Wp, h.Wg⟩
theorem St.alloc (h : St W p g b cs w on onr) (o : Obj) : St W p g b cs (w.alloc o) on onr := h.below ((Below.refl _ w).alloc (Nat.le_refl _) o)
theorem St.drew (h : St W p g b cs w on onr) : St W p g b cs w.drew on onr := ⟨h.ok, h.topo.drew, h.ref, h.bel.drew, h.pb, h.gb, h.Wp, h.Wg⟩
theorem St.turn {c : Nat} (h : St W p g b cs w on onr) (ht : Turn c w w') (hc : b < c) : St W p g b cs w' on onr :=
  ⟨h.ok, h.topo.turn ht (by have := h.pb; omega) (by have := h.gb; omega), IsT.turn h.ref ht (by omega), h.bel.trans (ht.below (by have := h.Wp; have := h.pb; omega)), h.pb, h.gb, h.Wp, h.Wg⟩
theorem St.act {on' : Nat} (h : St W p g b cs w on onr) (ok : TopoOk cs on') (ht : IsTopo w' p g cs on') (ho : Only g w w') : St W p g b cs w' on' onr :=
  ⟨ok, ht, IsT.only h.ref ho (by have := h.gb; omega), h.bel.trans (ho.below h.bel.size h.Wg), h.pb, h.gb, h.Wp, h.Wg⟩
theorem St.set {onr' : Nat} (h : St W p g b cs w on onr) (ht : Turn b w w') (hr : IT w' b cs onr') : St W p g b cs w' on onr' :=
  ⟨h.ok, h.topo.turn ht (by have := h.pb; omega) (by have := h.gb; omega), hr, h.bel.trans (ht.below (by have := h.Wp; have := h.pb; omega)), h.pb, h.gb, h.Wp, h.Wg⟩
theorem St.row {l : List (Int × Bool)} {v : Value} (h : St W p g b cs w on onr) (hr : RowA W v l) : RowA w v l := hr.below h.bel
end
end Go.Proofs.Ytbeklkgoiigccaa
