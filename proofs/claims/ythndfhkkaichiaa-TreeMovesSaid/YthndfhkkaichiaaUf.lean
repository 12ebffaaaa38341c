/-
  The document's New, set, Drop, Skip, Add. Conditions: at most 64 slots; the place is one of them.
-/
import Derived.Test.YthndfhkkaichiaaUe
namespace Go.Proofs.Ythndfhkkaichiaa
open Go.RowKit

set_option maxRecDepth 100000 in
set_option maxHeartbeats 4000000 in
/-- the document's table as a value, its row in a block of its own, from B on. -/
def RT (w : World) (B : Nat) (v : Value) (l : List Int) (m : Int) : Prop := ∃ a c, v = .agg #[.slice a l.length c, .int .i64 m] ∧ RowO w B (.slice a l.length c) l
theorem RT.below {w w' : World} {B : Nat} {v : Value} {l : List Int} {m : Int} (h : RT w B v l m) (hb : Below w.heap.size w w') : RT w' B v l m := by
  obtain ⟨a, c, e, h⟩ := h
  exact ⟨a, c, e, h.below hb⟩
theorem RT.only {w w' : World} {B p g : Nat} {v : Value} {l : List Int} {m : Int} (h : RT w B v l m) (ho : Only p g w w') (hp : p < B) (hg : g < B) : RT w' B v l m := by
  obtain ⟨a, c, e, h⟩ := h
  exact ⟨a, c, e, h.only ho hp hg⟩
end Go.Proofs.Ythndfhkkaichiaa
