/-
  Rows of acts; what the laws' loops keep: the table at p and g, the document's in b. No condition.
-/
import Derived.Test.YthopmkgbhfkeoaaUj
namespace Go.Proofs.Ythopmkgbhfkeoaa
open Go.RowKit

/-- a row of acts. -/
def RowA (w : World) (v : Value) (l : List (Nat × Int)) : Prop :=
  ∃ a cap, v = .slice a l.length cap ∧ (l ≠ [] → ∃ b off, a = some ⟨b, off, none⟩ ∧ b < w.heap.size ∧ ∀ j, j < l.length → w.cell? ⟨b, off + j * 2, none⟩ = some (.int .u8 ((l.getD j (0, 0)).1 : Nat)) ∧ w.cell? ⟨b, off + j * 2 + 1, none⟩ = some (.int .i64 (l.getD j (0, 0)).2))
theorem RowA.below {w w' : World} {v : Value} {l : List (Nat × Int)} (h : RowA w v l) (hb : Below w.heap.size w w') : RowA w' v l := by
  obtain ⟨a, cap, rfl, h2⟩ := h
  refine ⟨a, cap, rfl, fun hl => ?_⟩
  obtain ⟨b, off, rfl, h3, h4⟩ := h2 hl
  exact ⟨b, off, rfl, Nat.lt_of_lt_of_le h3 hb.size, fun j hj => ⟨(hb.cell (p := ⟨b, off + j * 2, none⟩) h3).trans (h4 j hj).1, (hb.cell (p := ⟨b, off + j * 2 + 1, none⟩) h3).trans (h4 j hj).2⟩⟩
theorem RowA.at {w : World} {a : Option Addr} {n cap : Nat} {l : List (Nat × Int)} (h : RowA w (.slice a n cap) l) {j : Nat} (hj : j < l.length) :
    ∃ b off, a = some ⟨b, off, none⟩ ∧ w.cell? ⟨b, off + j * 2, none⟩ = some (.int .u8 ((l.getD j (0, 0)).1 : Nat)) ∧ w.cell? ⟨b, off + j * 2 + 1, none⟩ = some (.int .i64 (l.getD j (0, 0)).2) := by
  obtain ⟨a', cap', e, h2⟩ := h
  cases e
  obtain ⟨b, off, rfl, h3, h4⟩ := h2 (by rintro rfl; simp at hj)
  exact ⟨b, off, rfl, (h4 j hj).1, (h4 j hj).2⟩
theorem RowA.sl {w : World} {v : Value} {l : List (Nat × Int)} (h : RowA w v l) : ∃ a c, v = .slice a l.length c := by
  obtain ⟨a, c, e, _⟩ := h
  exact ⟨a, c, e⟩

/-- what a law's walk keeps: the table at p and g; the document's in b, its row from B on. -/
structure St (W : World) (p g B b : Nat) (w : World) (l : List Int) (m : Int) (lr : List Int) (mr : Int) : Prop where
  ok : TabOk l m
  tab : IsTab w p g l m
  ref : ∃ a c, RowO w B (.slice a lr.length c) lr ∧ IsT w b (.slice a lr.length c) mr
  bel : Below W.heap.size W w
  pB : p < B
  gB : g < B
  Bb : B ≤ b
  Wp : W.heap.size ≤ p
  Wg : W.heap.size ≤ g
section
variable {W w w' : World} {p g B b : Nat} {l lr : List Int} {m mr : Int}
theorem St.lt (h : St W p g B b w l m lr mr) : b < w.heap.size := by
  obtain ⟨_, _, _, h2⟩ := h.ref
  exact h2.lt
theorem St.leB (h : St W p g B b w l m lr mr) : B ≤ w.heap.size := by have := h.lt; have := h.Bb; omega
theorem St.below (h : St W p g B b w l m lr mr) (hb : Below w.heap.size w w') : St W p g B b w' l m lr mr := by
  obtain ⟨a, c, h1, h2⟩ := h.ref
  exact ⟨h.ok, h.tab.belowS hb, ⟨a, c, h1.below hb, h2.belowS hb⟩, h.bel.trans (hb.mono h.bel.size), h.pB, h.gB, h.Bb, h.Wp, h.Wg⟩
theorem St.alloc (h : St W p g B b w l m lr mr) (o : Obj) : St W p g B b (w.alloc o) l m lr mr := h.below ((Below.refl _ w).alloc (Nat.le_refl _) o)
theorem St.turn {d t : Nat} {cs : Array Value} (h : St W p g B b w l m lr mr) (ht : Turn d w w') (hd : w.heap[d]? = some (.cells cs t (0, 0))) (hne : t ≠ 3) (hb : b < d) : St W p g B b w' l m lr mr := by
  obtain ⟨a, c, h1, h2⟩ := h.ref
  have := h.pB; have := h.gB; have := h.Bb; have := h.Wp
  exact ⟨h.ok, h.tab.turn ht (by omega) (by omega), ⟨a, c, h1.turn ht hd hne, h2.turn ht (by omega)⟩, h.bel.trans (ht.below (by omega)), h.pB, h.gB, h.Bb, h.Wp, h.Wg⟩
theorem St.act {l' : List Int} {m' : Int} (h : St W p g B b w l m lr mr) (ok : TabOk l' m') (ht : IsTab w' p g l' m') (ho : Only p g w w') : St W p g B b w' l' m' lr mr := by
  obtain ⟨a, c, h1, h2⟩ := h.ref
  have := h.pB; have := h.gB; have := h.Bb
  exact ⟨ok, ht, ⟨a, c, h1.only ho h.pB h.gB, h2.only ho (by omega) (by omega)⟩, h.bel.trans (ho.below h.bel.size h.Wp h.Wg), h.pB, h.gB, h.Bb, h.Wp, h.Wg⟩
theorem St.set {lr' : List Int} {mr' : Int} {a : Option Addr} {c : Nat} (h : St W p g B b w l m lr mr) (ht : Turn b w w') (hr : RowO w B (.slice a lr'.length c) lr') (hb : IsT w' b (.slice a lr'.length c) mr') : St W p g B b w' l m lr' mr' := by
  obtain ⟨a0, c0, h1, h2⟩ := h.ref
  have := h.pB; have := h.gB; have := h.Bb; have := h.Wp
  exact ⟨h.ok, h.tab.turn ht (by omega) (by omega), ⟨a, c, hr.turn ht h2 (by decide), hb⟩, h.bel.trans (ht.below (by omega)), h.pB, h.gB, h.Bb, h.Wp, h.Wg⟩
theorem St.row {xs : List (Nat × Int)} {v : Value} (h : St W p g B b w l m lr mr) (hr : RowA W v xs) : RowA w v xs := hr.below h.bel
end
end Go.Proofs.Ythopmkgbhfkeoaa
