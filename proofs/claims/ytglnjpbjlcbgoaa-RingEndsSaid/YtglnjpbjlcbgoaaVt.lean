/-
  Rows of acts, of bools; what the laws' loops keep: the ring set at p and g, the document's in b. No condition.
-/
import Derived.Test.YtglnjpbjlcbgoaaVs
namespace Go.Proofs.Ytglnjpbjlcbgoaa
open Go.RowKit

/-- a row of acts. -/
def RowA (w : World) (v : Value) (l : List (Int × Int × Int)) : Prop :=
  ∃ a cap, v = .slice a l.length cap ∧ (l ≠ [] → ∃ b off, a = some ⟨b, off, none⟩ ∧ b < w.heap.size ∧ ∀ j, j < l.length → w.cell? ⟨b, off + j * 3, none⟩ = some (.int .u8 (l.getD j (0, 0, 0)).1) ∧ w.cell? ⟨b, off + j * 3 + 1, none⟩ = some (.int .i64 (l.getD j (0, 0, 0)).2.1) ∧ w.cell? ⟨b, off + j * 3 + 2, none⟩ = some (.int .i64 (l.getD j (0, 0, 0)).2.2))
theorem RowA.below {w w' : World} {v : Value} {l : List (Int × Int × Int)} (h : RowA w v l) (hb : Below w.heap.size w w') : RowA w' v l := by
  obtain ⟨a, cap, rfl, h2⟩ := h
  refine ⟨a, cap, rfl, fun hl => ?_⟩
  obtain ⟨b, off, rfl, h3, h4⟩ := h2 hl
  exact ⟨b, off, rfl, Nat.lt_of_lt_of_le h3 hb.size, fun j hj => ⟨(hb.cell (p := ⟨b, off + j * 3, none⟩) h3).trans (h4 j hj).1, (hb.cell (p := ⟨b, off + j * 3 + 1, none⟩) h3).trans (h4 j hj).2.1, (hb.cell (p := ⟨b, off + j * 3 + 2, none⟩) h3).trans (h4 j hj).2.2⟩⟩
theorem RowA.at {w : World} {a : Option Addr} {n cap : Nat} {l : List (Int × Int × Int)} (h : RowA w (.slice a n cap) l) {j : Nat} (hj : j < l.length) :
    ∃ b off, a = some ⟨b, off, none⟩ ∧ w.cell? ⟨b, off + j * 3, none⟩ = some (.int .u8 (l.getD j (0, 0, 0)).1) ∧ w.cell? ⟨b, off + j * 3 + 1, none⟩ = some (.int .i64 (l.getD j (0, 0, 0)).2.1) ∧ w.cell? ⟨b, off + j * 3 + 2, none⟩ = some (.int .i64 (l.getD j (0, 0, 0)).2.2) := by
  obtain ⟨a', cap', e, h2⟩ := h
  cases e
  obtain ⟨b, off, rfl, h3, h4⟩ := h2 (by rintro rfl; simp at hj)
  exact ⟨b, off, rfl, h4 j hj⟩
theorem RowA.sl {w : World} {v : Value} {l : List (Int × Int × Int)} (h : RowA w v l) : ∃ a c, v = .slice a l.length c := by
  obtain ⟨a, c, e, _⟩ := h
  exact ⟨a, c, e⟩
/-- a row of bools. -/
def RowB (w : World) (v : Value) (l : List Bool) : Prop :=
  ∃ a cap, v = .slice a l.length cap ∧ (l ≠ [] → ∃ b off, a = some ⟨b, off, none⟩ ∧ b < w.heap.size ∧ ∀ j, j < l.length → w.cell? ⟨b, off + j, none⟩ = some (.bool (l.getD j false)))
theorem RowB.below {w w' : World} {v : Value} {l : List Bool} (h : RowB w v l) (hb : Below w.heap.size w w') : RowB w' v l := by
  obtain ⟨a, cap, rfl, h2⟩ := h
  refine ⟨a, cap, rfl, fun hl => ?_⟩
  obtain ⟨b, off, rfl, h3, h4⟩ := h2 hl
  exact ⟨b, off, rfl, Nat.lt_of_lt_of_le h3 hb.size, fun j hj => (hb.cell (p := ⟨b, off + j, none⟩) h3).trans (h4 j hj)⟩
theorem RowB.at {w : World} {a : Option Addr} {n cap : Nat} {l : List Bool} (h : RowB w (.slice a n cap) l) {j : Nat} (hj : j < l.length) :
    ∃ b off, a = some ⟨b, off, none⟩ ∧ w.cell? ⟨b, off + j, none⟩ = some (.bool (l.getD j false)) := by
  obtain ⟨a', cap', e, h2⟩ := h
  cases e
  obtain ⟨b, off, rfl, h3, h4⟩ := h2 (by rintro rfl; simp at hj)
  exact ⟨b, off, rfl, h4 j hj⟩
theorem RowB.sl {w : World} {v : Value} {l : List Bool} (h : RowB w v l) : ∃ a c, v = .slice a l.length c := by
  obtain ⟨a, c, e, _⟩ := h
  exact ⟨a, c, e⟩

/-- what a law's walk keeps: the ring set at p and g; the document's in b, its rows from B on. -/
structure St (W : World) (p g c B b N : Nat) (w : World) (ls lr : List (List Nat)) : Prop where
  ring : Ring w p g c N ls
  ref : ∃ dv, Doc w B dv lr ∧ IsT w b (N : Int) dv
  bel : Below W.heap.size W w
  pb : p < b
  gb : g < b
  Bb : B ≤ b
  Wp : W.heap.size ≤ p
  Wg : W.heap.size ≤ g
section
variable {W w w' : World} {p g c B b N : Nat} {ls lr : List (List Nat)}
theorem St.lt (h : St W p g c B b N w ls lr) : b < w.heap.size := by
  obtain ⟨_, _, h2⟩ := h.ref
  exact h2.lt
theorem St.leB (h : St W p g c B b N w ls lr) : B ≤ w.heap.size := by have := h.lt; have := h.Bb; omega
theorem St.below (h : St W p g c B b N w ls lr) (hb : Below w.heap.size w w') : St W p g c B b N w' ls lr := by
  obtain ⟨dv, h1, h2⟩ := h.ref
  exact ⟨h.ring.belowS hb, ⟨dv, h1.below hb, h2.belowS hb⟩, h.bel.trans (hb.mono h.bel.size), h.pb, h.gb, h.Bb, h.Wp, h.Wg⟩
theorem St.sm (h : St W p g c B b N w ls lr) (s : Same w w') : St W p g c B b N w' ls lr := h.below (s.below _)
theorem St.alloc (h : St W p g c B b N w ls lr) (o : Obj) : St W p g c B b N (w.alloc o) ls lr := h.below ((Below.refl _ w).alloc (Nat.le_refl _) o)
theorem St.turn {d t : Nat} {cs : Array Value} (h : St W p g c B b N w ls lr) (ht : Turn d w w') (hd : w.heap[d]? = some (.cells cs t (0, 0))) (hne : t ≠ 43) (hne' : t ≠ 3) (hb : b < d) : St W p g c B b N w' ls lr := by
  obtain ⟨dv, h1, h2⟩ := h.ref
  have := h.pb; have := h.gb; have := h.Wp
  exact ⟨h.ring.turn ht (by omega) (by omega), ⟨dv, h1.turn ht hd hne hne', h2.turn ht (by omega)⟩, h.bel.trans (ht.below (by omega)), h.pb, h.gb, h.Bb, h.Wp, h.Wg⟩
theorem St.act {ls' : List (List Nat)} (h : St W p g c B b N w ls lr) (hr : Ring w' p g c N ls') (ho : Only g w w') : St W p g c B b N w' ls' lr := by
  obtain ⟨dv, h1, h2⟩ := h.ref
  have := h.pb; have := h.gb
  exact ⟨hr, ⟨dv, h.ring.row h1 ho, h2.only ho (by omega)⟩, h.bel.trans (ho.below h.bel.size h.Wg), h.pb, h.gb, h.Bb, h.Wp, h.Wg⟩
theorem St.set {lr' : List (List Nat)} {dv' : Value} (h : St W p g c B b N w ls lr) (ht : Turn b w w') (hd : Doc w B dv' lr') (hb : IsT w' b (N : Int) dv') : St W p g c B b N w' ls lr' := by
  obtain ⟨dv, h1, h2⟩ := h.ref
  have := h.pb; have := h.gb; have := h.Wp
  exact ⟨h.ring.turn ht (by omega) (by omega), ⟨dv', hd.turn ht h2 (by decide) (by decide), hb⟩, h.bel.trans (ht.below (by omega)), h.pb, h.gb, h.Bb, h.Wp, h.Wg⟩
theorem St.row {xs : List (Int × Int × Int)} {v : Value} (h : St W p g c B b N w ls lr) (hr : RowA W v xs) : RowA w v xs := hr.below h.bel
end
end Go.Proofs.Ytglnjpbjlcbgoaa
