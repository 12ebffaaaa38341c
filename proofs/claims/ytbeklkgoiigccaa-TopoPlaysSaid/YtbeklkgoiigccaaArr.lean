/-
  Laws for an array of 64 bools as a value and in a block of its own: made, boxed, stored, loaded, written at an index, handed back. No condition.
-/
import Derived.Test.YtbeklkgoiigccaaWa
import Derived.Laws.Rows
import Derived.Laws.Tables
namespace Go.Proofs.Ytbeklkgoiigccaa
open Go.RowKit

/-- 64 answers as cells. -/
def arrB (f : Nat → Bool) : Array Value := ((List.range 64).map fun i => Value.bool (f i)).toArray
theorem arrB_size (f : Nat → Bool) : (arrB f).size = 64 := by simp [arrB]
theorem arrB_get (f : Nat → Bool) {i : Nat} (h : i < 64) : (arrB f)[i]? = some (.bool (f i)) := by
  simp [arrB, h]
theorem arrB_ext {f g : Nat → Bool} (h : ∀ i, i < 64 → f i = g i) : arrB f = arrB g := by
  unfold arrB
  congr 1
  apply List.map_congr_left
  intro i hi
  rw [h i (by simpa using hi)]
/-- an answer turned. -/
def upd (f : Nat → Bool) (i : Nat) (b : Bool) : Nat → Bool := fun j => if j = i then b else f j
theorem arrB_set (f : Nat → Bool) (i : Nat) (b : Bool) : (arrB f).setIfInBounds i (.bool b) = arrB (upd f i b) := by
  apply Array.ext_getElem?
  intro j
  rw [Array.getElem?_setIfInBounds]
  by_cases hj : j < 64
  · rw [arrB_get _ hj, arrB_get _ hj, arrB_size]
    by_cases e : i = j
    · subst e; simp [upd, hj]
    · have e' : ¬ j = i := fun h => e h.symm
      simp [upd, e, e']
  · rw [Array.getElem?_eq_none (by rw [arrB_size]; omega), Array.getElem?_eq_none (by rw [arrB_size]; omega), arrB_size]
    by_cases e : i = j
    · subst e; simp [hj]
    · simp [e]
theorem arrB_one (f : Nat → Bool) : (arrB f).all (·.oneCell') = true := by
  rw [Array.all_eq_true_iff_forall_mem]
  intro v hv
  simp only [arrB, List.mem_toArray, List.mem_map] at hv
  obtain ⟨i, _, rfl⟩ := hv
  rfl

theorem Try.size30 : (Try.prog.info? 27).map (·.size) = some 64 := by kernel_rfl
theorem size30 (f : Nat → Bool) : (Try.prog.info? 27).map (·.size) = some (arrB f).size := by rw [arrB_size]; exact Try.size30

/-- the block b holds the 64 answers. -/
def IsArr (w : World) (b : Nat) (f : Nat → Bool) : Prop := w.heap[b]? = some (.cells (arrB f) 27 (0, 0))
/-- nothing but the block b has turned. -/
structure Turn (b : Nat) (w w' : World) : Prop where
  os : w'.os = w.os
  tape : w'.tape = w.tape
  output : w'.output = w.output
  size : w'.heap.size = w.heap.size
  block : ∀ k, k ≠ b → w'.heap[k]? = w.heap[k]?

theorem Turn.below {b B : Nat} {w w' : World} (h : Turn b w w') (hb : B ≤ b) : Below B w w' := ⟨h.os, h.tape, h.output, by rw [h.size]; exact Nat.le_refl _, fun k hk => h.block k (by omega)⟩
theorem Turn.setCell (w : World) (b i : Nat) (v : Value) : Turn b w (w.setCell ⟨b, i, none⟩ v) := ⟨rfl, rfl, rfl, by simp [World.setCell], fun k hk => heap_setCell_other w ⟨b, i, none⟩ k v hk⟩
theorem Turn.setRow (w : World) (b : Nat) (c : Array Value) : Turn b w (w.setRow b c) := ⟨rfl, rfl, rfl, by simp, fun k hk => setRow_other w b k c hk⟩
theorem IsArr.lt {w : World} {b : Nat} {f : Nat → Bool} (h : IsArr w b f) : b < w.heap.size := (Array.getElem?_eq_some_iff.1 h).1
theorem IsArr.cell {w : World} {b : Nat} {f : Nat → Bool} (h : IsArr w b f) {i : Nat} (hi : i < 64) : w.cell? ⟨b, i, none⟩ = some (.bool (f i)) := by
  rw [cell_of_row w b i _ 27 (0, 0) h, arrB_get f hi]
theorem IsArr.frozen {w : World} {b : Nat} {f : Nat → Bool} (h : IsArr w b f) (i : Nat) : w.frozen? ⟨b, i, none⟩ = false := frozen_of_row w b i _ 27 h
theorem IsArr.set {w : World} {b : Nat} {f : Nat → Bool} (h : IsArr w b f) (i : Nat) (t : Bool) : IsArr (w.setCell ⟨b, i, none⟩ (.bool t)) b (upd f i t) := by
  unfold IsArr; rw [heap_setCell_same w b i _ 27 _ h, arrB_set]
theorem IsArr.new (w : World) (f : Nat → Bool) : IsArr (w.alloc (.cells (arrB f) 27)) w.heap.size f := heap_alloc_new w _
theorem IsArr.alloc {w : World} {b : Nat} {f : Nat → Bool} (h : IsArr w b f) (o : Obj) : IsArr (w.alloc o) b f := (heap_alloc_old w o h.lt).trans h
theorem IsArr.turn {w w' : World} {b c : Nat} {f : Nat → Bool} (h : IsArr w b f) (ht : Turn c w w') (hne : b ≠ c) : IsArr w' b f := (ht.block b hne).trans h
theorem IsArr.below {w w' : World} {b B : Nat} {f : Nat → Bool} (h : IsArr w b f) (hb : Below B w w') (hlt : b < B) : IsArr w' b f := (hb.block b hlt).trans h

theorem run_alloc30 (w : World) : (Instr.alloc 27 true (.tuple #[])).run Try.prog w = .ok (.pointer (some ⟨w.heap.size, 0, none⟩)) (w.alloc (.cells (arrB fun _ => false) 27)) := by kernel_rfl
theorem run_build30 (w : World) : (Instr.build 27 #[]).run Try.prog w = .ok (.agg (arrB fun _ => false)) w := by kernel_rfl

attribute [irreducible] arrB

section
variable {ops : Array Oper} {rest : List Oper} {o : Oper} {a : Act} {w : World} {Q : Exit → Act → World → Prop}
theorem wpList_alloc30 (hg : o.guard = none) (ho : o.op = .alloc 27) (h : wpList Try.prog ops Q rest (a.put o.dst (.pointer (some ⟨w.heap.size, 0, none⟩))) (w.alloc (.cells (arrB fun _ => false) 27))) : wpList Try.prog ops Q (o :: rest) a w :=
  wpList_plain hg fun K hK => by
    unfold Oper.wp execOp
    rw [ho]
    simp only [run_alloc30, Sem.run_bind, Sem.run_pure, Result.andThen_ok]
    exact hK _ _ h
theorem wpList_build30 (hg : o.guard = none) (ho : o.op = .build 27 #[]) (h : wpList Try.prog ops Q rest (a.put o.dst (.agg (arrB fun _ => false))) w) : wpList Try.prog ops Q (o :: rest) a w :=
  wpList_plain hg fun K hK => by
    unfold Oper.wp execOp
    rw [ho]
    simp only [Array.map_empty, run_build30, Sem.run_bind, Sem.run_pure, Result.andThen_ok]
    exact hK _ _ h
theorem wpList_box30 (hg : o.guard = none) (x : Operand) (ho : o.op = .box 27 x) (f : Nat → Bool) (hx : a.eval x = .agg (arrB f)) (h : wpList Try.prog ops Q rest (a.put o.dst (.pointer (some ⟨w.heap.size, 0, none⟩))) (w.alloc (.cells (arrB f) 27))) : wpList Try.prog ops Q (o :: rest) a w :=
  wpList_plain hg fun K hK => by
    unfold Oper.wp execOp
    rw [ho]
    simp only [hx]
    exact hK _ _ h
theorem wpList_load30 (hg : o.guard = none) (x : Operand) (ho : o.op = .load 27 x) (b : Nat) (f : Nat → Bool) (hx : a.eval x = .pointer (some ⟨b, 0, none⟩)) (hw : IsArr w b f) (h : wpList Try.prog ops Q rest (a.put o.dst (.agg (arrB f))) w) : wpList Try.prog ops Q (o :: rest) a w :=
  wpList_load_row hg 27 x ho b hx 27 _ (0, 0) _ hw Try.underlying27 rfl (size30 f) h
theorem wpList_store30 (hg : o.guard = none) (x y : Operand) (ho : o.op = .store 27 x y) (b : Nat) (f g : Nat → Bool) (hx : a.eval x = .pointer (some ⟨b, 0, none⟩)) (hy : a.eval y = .agg (arrB f)) (hw : IsArr w b g)
    (h : ∀ w', IsArr w' b f → Turn b w w' → wpList Try.prog ops Q rest (a.put o.dst undef) w') : wpList Try.prog ops Q (o :: rest) a w :=
  wpList_store_row hg 27 x y ho b _ hx hy 27 _ hw (size30 f) (by rw [arrB_size, arrB_size]) (arrB_one f) (h _ (setRow_heap w b _ _ 27 _ hw) (Turn.setRow w b _))
end
end Go.Proofs.Ytbeklkgoiigccaa
