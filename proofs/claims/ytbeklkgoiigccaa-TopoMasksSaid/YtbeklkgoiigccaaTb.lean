/-
  Laws for the document's topology as a value of 129 cells and in a block of its own: made, boxed, stored, loaded, written at an index. No condition.
-/
import Derived.Test.YtbeklkgoiigccaaTa
import Derived.Test.YtbeklkgoiigccaaWh
import Derived.Test.YtbeklkgoiigccaaWj
namespace Go.Proofs.Ytbeklkgoiigccaa
open Go.RowKit

/-- how many domains, each core's domain, whether it is on, as cells. -/
def tarr (m : Int) (o : Nat → Int) (g : Nat → Bool) : Array Value := ((List.range 129).map fun i => if i = 0 then Value.int .i64 m else if i < 65 then Value.int .i64 (o (i - 1)) else Value.bool (g (i - 65))).toArray
section
variable (m : Int) (o : Nat → Int) (g : Nat → Bool)
theorem tarr_size : (tarr m o g).size = 129 := by simp [tarr]
theorem tarr_get0 : (tarr m o g)[0]? = some (.int .i64 m) := by simp [tarr]
theorem tarr_get1 {i : Nat} (h : i < 64) : (tarr m o g)[1 + i]? = some (.int .i64 (o i)) := by
  have h1 : 1 + i < 129 := by omega
  have h2 : 1 + i < 65 := by omega
  simp [tarr, h1, h2]
theorem tarr_get2 {i : Nat} (h : i < 64) : (tarr m o g)[65 + i]? = some (.bool (g i)) := by
  have h1 : 65 + i < 129 := by omega
  simp [tarr, h1]
end
theorem tarr_ext {m : Int} {o o' : Nat → Int} {g g' : Nat → Bool} (h : ∀ i, i < 64 → o i = o' i) (h' : ∀ i, i < 64 → g i = g' i) : tarr m o g = tarr m o' g' := by
  unfold tarr
  congr 1
  apply List.map_congr_left
  intro i hi
  have hi2 : i < 129 := by simpa using hi
  by_cases e0 : i = 0
  · simp [e0]
  · by_cases e1 : i < 65
    · simp only [e0, e1, if_true, if_false]; rw [h _ (by omega)]
    · simp only [e0, e1, if_false]; rw [h' _ (by omega)]
/-- a number turned. -/
def updI (f : Nat → Int) (i : Nat) (b : Int) : Nat → Int := fun j => if j = i then b else f j
theorem tarr_any {a b : Array Value} (ha : a.size = 129) (hb : b.size = 129) (h0 : a[0]? = b[0]?) (h1 : ∀ i, i < 64 → a[1 + i]? = b[1 + i]?) (h2 : ∀ i, i < 64 → a[65 + i]? = b[65 + i]?) : a = b := by
  apply Array.ext_getElem?
  intro j
  by_cases e0 : j = 0
  · rw [e0]; exact h0
  · by_cases e1 : j < 65
    · have := h1 (j - 1) (by omega)
      rwa [show 1 + (j - 1) = j by omega] at this
    · by_cases e2 : j < 129
      · have := h2 (j - 65) (by omega)
        rwa [show 65 + (j - 65) = j by omega] at this
      · rw [Array.getElem?_eq_none (by omega), Array.getElem?_eq_none (by omega)]
theorem tarr_set1 (m : Int) (o : Nat → Int) (g : Nat → Bool) {i : Nat} (hi : i < 64) (x : Int) : (tarr m o g).setIfInBounds (1 + i) (.int .i64 x) = tarr m (updI o i x) g := by
  refine tarr_any (by rw [Array.size_setIfInBounds, tarr_size]) (tarr_size _ _ _) ?_ ?_ ?_
  · rw [Array.getElem?_setIfInBounds, if_neg (by omega), tarr_get0, tarr_get0]
  · intro j hj
    rw [Array.getElem?_setIfInBounds, tarr_get1 _ _ _ hj, tarr_get1 _ _ _ hj]
    by_cases e : i = j
    · subst e; simp [updI, tarr_size]; omega
    · have e' : ¬ j = i := fun h => e h.symm
      rw [if_neg (by omega)]; simp [updI, e']
  · intro j hj
    rw [Array.getElem?_setIfInBounds, if_neg (by omega), tarr_get2 _ _ _ hj, tarr_get2 _ _ _ hj]
theorem tarr_set2 (m : Int) (o : Nat → Int) (g : Nat → Bool) {i : Nat} (hi : i < 64) (x : Bool) : (tarr m o g).setIfInBounds (65 + i) (.bool x) = tarr m o (upd g i x) := by
  refine tarr_any (by rw [Array.size_setIfInBounds, tarr_size]) (tarr_size _ _ _) ?_ ?_ ?_
  · rw [Array.getElem?_setIfInBounds, if_neg (by omega), tarr_get0, tarr_get0]
  · intro j hj
    rw [Array.getElem?_setIfInBounds, if_neg (by omega), tarr_get1 _ _ _ hj, tarr_get1 _ _ _ hj]
  · intro j hj
    rw [Array.getElem?_setIfInBounds, tarr_get2 _ _ _ hj, tarr_get2 _ _ _ hj]
    by_cases e : i = j
    · subst e; simp [upd, tarr_size]; omega
    · have e' : ¬ j = i := fun h => e h.symm
      rw [if_neg (by omega)]; simp [upd, e']
theorem tarr_one (m : Int) (o : Nat → Int) (g : Nat → Bool) : (tarr m o g).all (·.oneCell') = true := by
  rw [Array.all_eq_true_iff_forall_mem]
  intro v hv
  simp only [tarr, List.mem_toArray, List.mem_map] at hv
  obtain ⟨i, _, rfl⟩ := hv
  split
  · rfl
  · split <;> rfl
/-- none. -/
def tzero : Array Value := tarr 0 (fun _ => 0) (fun _ => false)

theorem Try.size29 : (Try.prog.info? 29).map (·.size) = some 129 := by kernel_rfl
theorem size29 (m : Int) (o : Nat → Int) (g : Nat → Bool) : (Try.prog.info? 29).map (·.size) = some (tarr m o g).size := by rw [tarr_size]; exact Try.size29

/-- the block b holds a topology. -/
def IsT (w : World) (b : Nat) (m : Int) (o : Nat → Int) (g : Nat → Bool) : Prop := w.heap[b]? = some (.cells (tarr m o g) 29 (0, 0))
section
variable {w w' : World} {b : Nat} {m : Int} {o : Nat → Int} {g : Nat → Bool}
theorem IsT.lt (h : IsT w b m o g) : b < w.heap.size := (Array.getElem?_eq_some_iff.1 h).1
theorem IsT.many (h : IsT w b m o g) : w.cell? ⟨b, 0, none⟩ = some (.int .i64 m) := by
  rw [cell_of_row w b 0 _ 29 (0, 0) h, tarr_get0]
theorem IsT.of (h : IsT w b m o g) {i : Nat} (hi : i < 64) : w.cell? ⟨b, 1 + i, none⟩ = some (.int .i64 (o i)) := by
  rw [cell_of_row w b (1 + i) _ 29 (0, 0) h, tarr_get1 m o g hi]
theorem IsT.on (h : IsT w b m o g) {i : Nat} (hi : i < 64) : w.cell? ⟨b, 65 + i, none⟩ = some (.bool (g i)) := by
  rw [cell_of_row w b (65 + i) _ 29 (0, 0) h, tarr_get2 m o g hi]
theorem IsT.frozen (h : IsT w b m o g) (i : Nat) : w.frozen? ⟨b, i, none⟩ = false := frozen_of_row w b i _ 29 h
theorem IsT.set1 (h : IsT w b m o g) {i : Nat} (hi : i < 64) (x : Int) : IsT (w.setCell ⟨b, 1 + i, none⟩ (.int .i64 x)) b m (updI o i x) g := by
  unfold IsT; rw [heap_setCell_same w b (1 + i) _ 29 _ h, tarr_set1 m o g hi]
theorem IsT.set2 (h : IsT w b m o g) {i : Nat} (hi : i < 64) (x : Bool) : IsT (w.setCell ⟨b, 65 + i, none⟩ (.bool x)) b m o (upd g i x) := by
  unfold IsT; rw [heap_setCell_same w b (65 + i) _ 29 _ h, tarr_set2 m o g hi]
theorem IsT.new (w : World) (m : Int) (o : Nat → Int) (g : Nat → Bool) : IsT (w.alloc (.cells (tarr m o g) 29)) w.heap.size m o g := heap_alloc_new w _
theorem IsT.alloc (h : IsT w b m o g) (x : Obj) : IsT (w.alloc x) b m o g := (heap_alloc_old w x h.lt).trans h
theorem IsT.turn {c : Nat} (h : IsT w b m o g) (ht : Turn c w w') (hne : b ≠ c) : IsT w' b m o g := (ht.block b hne).trans h
theorem IsT.below {B : Nat} (h : IsT w b m o g) (hb : Below B w w') (hlt : b < B) : IsT w' b m o g := (hb.block b hlt).trans h
theorem IsT.ext {o' : Nat → Int} {g' : Nat → Bool} (h : IsT w b m o g) (h1 : ∀ i, i < 64 → o i = o' i) (h2 : ∀ i, i < 64 → g i = g' i) : IsT w b m o' g' := by
  unfold IsT at *; rw [h, tarr_ext h1 h2]
end

theorem run_alloc29 (w : World) : (Instr.alloc 29 true (.tuple #[])).run Try.prog w = .ok (.pointer (some ⟨w.heap.size, 0, none⟩)) (w.alloc (.cells tzero 29)) := by kernel_rfl
theorem run_build29 (w : World) : (Instr.build 29 #[]).run Try.prog w = .ok (.agg tzero) w := by kernel_rfl
theorem run_build29m (w : World) (m : Int) : (Instr.build 29 #[(0, .int .i64 m)]).run Try.prog w = .ok (.agg (tarr m (fun _ => 0) (fun _ => false))) w := by kernel_rfl

attribute [irreducible] tarr

section
variable {ops : Array Oper} {rest : List Oper} {o : Oper} {a : Act} {w : World} {Q : Exit → Act → World → Prop}
theorem wpList_alloc29 (hg : o.guard = none) (ho : o.op = .alloc 29) (h : wpList Try.prog ops Q rest (a.put o.dst (.pointer (some ⟨w.heap.size, 0, none⟩))) (w.alloc (.cells tzero 29))) : wpList Try.prog ops Q (o :: rest) a w :=
  wpList_plain hg fun K hK => by
    unfold Oper.wp execOp
    rw [ho]
    simp only [run_alloc29, Sem.run_bind, Sem.run_pure, Result.andThen_ok]
    exact hK _ _ h
theorem wpList_build29 (hg : o.guard = none) (ho : o.op = .build 29 #[]) (h : wpList Try.prog ops Q rest (a.put o.dst (.agg tzero)) w) : wpList Try.prog ops Q (o :: rest) a w :=
  wpList_plain hg fun K hK => by
    unfold Oper.wp execOp
    rw [ho]
    simp only [Array.map_empty, run_build29, Sem.run_bind, Sem.run_pure, Result.andThen_ok]
    exact hK _ _ h
theorem wpList_build29m (hg : o.guard = none) (x : Operand) (ho : o.op = .build 29 #[(0, x)]) (m : Int) (hx : a.eval x = .int .i64 m) (h : wpList Try.prog ops Q rest (a.put o.dst (.agg (tarr m (fun _ => 0) (fun _ => false)))) w) : wpList Try.prog ops Q (o :: rest) a w :=
  wpList_plain hg fun K hK => by
    unfold Oper.wp execOp
    rw [ho]
    simp only [List.map_toArray, List.map_cons, List.map_nil, hx, run_build29m, Sem.run_bind, Sem.run_pure, Result.andThen_ok]
    exact hK _ _ h
theorem wpList_box29 (hg : o.guard = none) (x : Operand) (ho : o.op = .box 29 x) (m : Int) (f : Nat → Int) (g : Nat → Bool) (hx : a.eval x = .agg (tarr m f g)) (h : wpList Try.prog ops Q rest (a.put o.dst (.pointer (some ⟨w.heap.size, 0, none⟩))) (w.alloc (.cells (tarr m f g) 29))) : wpList Try.prog ops Q (o :: rest) a w :=
  wpList_plain hg fun K hK => by
    unfold Oper.wp execOp
    rw [ho]
    simp only [hx]
    exact hK _ _ h
theorem wpList_load29 (hg : o.guard = none) (x : Operand) (ho : o.op = .load 29 x) (b : Nat) (m : Int) (f : Nat → Int) (g : Nat → Bool) (hx : a.eval x = .pointer (some ⟨b, 0, none⟩)) (hw : IsT w b m f g) (h : wpList Try.prog ops Q rest (a.put o.dst (.agg (tarr m f g))) w) : wpList Try.prog ops Q (o :: rest) a w :=
  wpList_load_row hg 29 x ho b hx 29 _ (0, 0) _ hw Try.underlying29 rfl (size29 m f g) h
theorem wpList_store29 (hg : o.guard = none) (x y : Operand) (ho : o.op = .store 29 x y) (b : Nat) (m m' : Int) (f f' : Nat → Int) (g g' : Nat → Bool) (hx : a.eval x = .pointer (some ⟨b, 0, none⟩)) (hy : a.eval y = .agg (tarr m f g)) (hw : IsT w b m' f' g')
    (h : ∀ w', IsT w' b m f g → Turn b w w' → wpList Try.prog ops Q rest (a.put o.dst undef) w') : wpList Try.prog ops Q (o :: rest) a w :=
  wpList_store_row hg 29 x y ho b _ hx hy 29 _ hw (size29 m f g) (by rw [tarr_size, tarr_size]) (tarr_one m f g) (h _ (setRow_heap w b _ _ 29 _ hw) (Turn.setRow w b _))
end
end Go.Proofs.Ytbeklkgoiigccaa
