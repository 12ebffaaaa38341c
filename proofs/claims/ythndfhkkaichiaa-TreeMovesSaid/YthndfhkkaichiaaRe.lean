/-
  A region that draws its order: the frame as a list, so that a step's proof stays small. Of whatever program.
-/
import Derived.Test.YthndfhkkaichiaaRd
namespace Go.Rd
open Go
section
variable {P : Program} {ops : Array Oper} {S : World → Prop} {T : Nat}
theorem put_list (l : List Value) (d : List _) (t : Nat) (v : Value) : (Act.put { tmps := l.toArray, defers := d } (some t) v) = { tmps := (l.set t v).toArray, defers := d } := by simp [Act.put]
theorem seq_floatL {R : Act → World → Prop} {fl : List Nat} {k : Nat} {rest : List Nat} {l : List Value} {d : List _} {w : World} {o : Oper} {t : Nat} (v : Value) (ho : ops[k]? = some o) (hd : o.dst = some t) (hf : fl.contains k = true)
    (hw : Region.wanted o (yielded ops l.toArray) = true) (hy : ∀ w, S w → (execOp (Act.eval { tmps := l.toArray, defers := d }) o).run P w = .ok (.value v) w) (h : wpSeq P ops R S T fl rest { tmps := (l.set t v).toArray, defers := d } w) :
    wpSeq P ops R S T fl (k :: rest) { tmps := l.toArray, defers := d } w := by
  refine seq_float v ho hf hw hy ?_
  rw [hd, put_list]
  exact h
theorem seq_skipL {R : Act → World → Prop} {fl : List Nat} {k : Nat} {rest : List Nat} {l : List Value} {d : List _} {w : World} {o : Oper} {t : Nat} (ho : ops[k]? = some o) (hd : o.dst = some t) (hf : fl.contains k = true)
    (hw : Region.wanted o (yielded ops l.toArray) = false) (h : wpSeq P ops R S T fl rest { tmps := (l.set t undef).toArray, defers := d } w) :
    wpSeq P ops R S T fl (k :: rest) { tmps := l.toArray, defers := d } w := by
  refine seq_skip ho hf hw ?_
  rw [hd, put_list]
  exact h
end
end Go.Rd
