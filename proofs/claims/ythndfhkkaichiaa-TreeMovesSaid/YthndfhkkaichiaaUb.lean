/-
  The table in memory, and the document's; what stays of them. No condition.
-/
import Derived.Test.YthndfhkkaichiaaUa
import Derived.Test.YthndfhkkaichiaaRd
import Derived.Test.YthndfhkkaichiaaProg
import Derived.Laws.Rows
import Derived.Laws.Tables
import Derived.Laws.ResultCell
import Derived.Maps.AppendAt
import Derived.RangeFuncBox
import Derived.WalkSpells
import Derived.WalkLawsBesides
import Derived.Lib.Hide
namespace Go.Proofs.Ythndfhkkaichiaa
open Go.RowKit

def encI (l : List Int) : List Value := l.map (Value.int .i64)
theorem encI_len (l : List Int) : (encI l).length = l.length := by simp [encI]
theorem encI_get {l : List Int} {j : Nat} (h : j < l.length) : (encI l)[j]? = some (.int .i64 (l.getD j 0)) := by
  simp [encI, List.getD, h]
theorem encI_snoc (l : List Int) (x : Int) : encI (l ++ [x]) = encI l ++ [.int .i64 x] := by simp [encI]
theorem encI_one (l : List Int) : ∀ u ∈ encI l, u.oneCell' = true := by
  intro u hu
  simp [encI] at hu
  obtain ⟨x, _, rfl⟩ := hu
  rfl

/-- nothing but the block b has turned. -/
structure Turn (b : Nat) (w w' : World) : Prop where
  os : w'.os = w.os
  tape : w'.tape = w.tape
  output : w'.output = w.output
  size : w'.heap.size = w.heap.size
  block : ∀ k, k ≠ b → w'.heap[k]? = w.heap[k]?
theorem Turn.below {b B : Nat} {w w' : World} (h : Turn b w w') (hb : B ≤ b) : Below B w w' := ⟨h.os, h.tape, h.output, by rw [h.size]; exact Nat.le_refl _, fun k hk => h.block k (by omega)⟩
theorem Turn.setCell (w : World) (b i : Nat) (v : Value) : Turn b w (w.setCell ⟨b, i, none⟩ v) := ⟨rfl, rfl, rfl, by simp [World.setCell], fun k hk => heap_setCell_other w ⟨b, i, none⟩ k v hk⟩
theorem Turn.setRow (w : World) (b : Nat) (c : Array Value) : Turn b w (w.setRow b c) := ⟨rfl, rfl, rfl, by simp, fun k hk => setRow_other w b k c hk⟩
/-- of what was there, just the blocks p and g may have turned. -/
structure Only (p g : Nat) (w w' : World) : Prop where
  os : w'.os = w.os
  tape : w'.tape = w.tape
  output : w'.output = w.output
  size : w.heap.size ≤ w'.heap.size
  block : ∀ k, k < w.heap.size → k ≠ p → k ≠ g → w'.heap[k]? = w.heap[k]?
section
variable {p g : Nat} {w w' w'' : World}
theorem Only.of_below (h : Below w.heap.size w w') : Only p g w w' := ⟨h.os, h.tape, h.output, h.size, fun k hk _ _ => h.block k hk⟩
theorem Only.refl (p g : Nat) (w : World) : Only p g w w := Only.of_below (Below.refl _ w)
theorem Only.of_turn_p (h : Turn p w w') : Only p g w w' := ⟨h.os, h.tape, h.output, by rw [h.size]; exact Nat.le_refl _, fun k _ hk _ => h.block k hk⟩
theorem Only.of_turn_g (h : Turn g w w') : Only p g w w' := ⟨h.os, h.tape, h.output, by rw [h.size]; exact Nat.le_refl _, fun k _ _ hk => h.block k hk⟩
theorem Only.trans (h : Only p g w w') (h' : Only p g w' w'') : Only p g w w'' := ⟨h'.os.trans h.os, h'.tape.trans h.tape, h'.output.trans h.output, Nat.le_trans h.size h'.size, fun k hk hp hg => (h'.block k (Nat.lt_of_lt_of_le hk h.size) hp hg).trans (h.block k hk hp hg)⟩
theorem Only.below {B : Nat} (h : Only p g w w') (hB : B ≤ w.heap.size) (hp : B ≤ p) (hg : B ≤ g) : Below B w w' := ⟨h.os, h.tape, h.output, h.size, fun k hk => h.block k (by omega) (by omega) (by omega)⟩
end
/-- at p lies a table whose ids lie in g. -/
structure IsTab (w : World) (p g : Nat) (l : List Int) (m : Int) : Prop where
  ptr : w.heap[p]? = some (.cells #[.slice (some ⟨g, 0, none⟩) l.length l.length, .int .i64 m] 83 (0, 0))
  row : w.heap[g]? = some (.cells (encI l).toArray 3 (0, 0))
  ne : p ≠ g
section
variable {w w' : World} {p g : Nat} {l : List Int} {m : Int}
theorem IsTab.ltp (h : IsTab w p g l m) : p < w.heap.size := (Array.getElem?_eq_some_iff.1 h.ptr).1
theorem IsTab.ltg (h : IsTab w p g l m) : g < w.heap.size := (Array.getElem?_eq_some_iff.1 h.row).1
theorem IsTab.same (h : IsTab w p g l m) (h1 : w'.heap[p]? = w.heap[p]?) (h2 : w'.heap[g]? = w.heap[g]?) : IsTab w' p g l m :=
  ⟨by rw [h1]; exact h.ptr, by rw [h2]; exact h.row, h.ne⟩
theorem IsTab.below {B : Nat} (h : IsTab w p g l m) (hb : Below B w w') (hp : p < B) (hg : g < B) : IsTab w' p g l m := h.same (hb.block p hp) (hb.block g hg)
theorem IsTab.belowS (h : IsTab w p g l m) (hb : Below w.heap.size w w') : IsTab w' p g l m := h.below hb h.ltp h.ltg
theorem IsTab.alloc (h : IsTab w p g l m) (o : Obj) : IsTab (w.alloc o) p g l m := h.same (heap_alloc_old w o h.ltp) (heap_alloc_old w o h.ltg)
theorem IsTab.turn {c : Nat} (h : IsTab w p g l m) (ht : Turn c w w') (hp : p ≠ c) (hg : g ≠ c) : IsTab w' p g l m := h.same (ht.block p hp) (ht.block g hg)
theorem IsTab.c0 (h : IsTab w p g l m) : w.cell? ⟨p, 0, none⟩ = some (.slice (some ⟨g, 0, none⟩) l.length l.length) := by
  rw [cell_of_row w p 0 _ 83 (0, 0) h.ptr]; rfl
theorem IsTab.c1 (h : IsTab w p g l m) : w.cell? ⟨p, 1, none⟩ = some (.int .i64 m) := by
  rw [cell_of_row w p 1 _ 83 (0, 0) h.ptr]; rfl
theorem IsTab.f1 (h : IsTab w p g l m) : w.frozen? ⟨p, 1, none⟩ = false := frozen_of_row w p 1 _ 83 h.ptr
theorem IsTab.fg (h : IsTab w p g l m) (i : Nat) : w.frozen? ⟨g, i, none⟩ = false := frozen_of_row w g i _ 3 h.row
theorem IsTab.at (h : IsTab w p g l m) {j : Nat} (hj : j < l.length) : w.cell? ⟨g, j, none⟩ = some (.int .i64 (l.getD j 0)) := by
  rw [cell_of_row w g j _ 3 (0, 0) h.row]
  simpa using encI_get hj
theorem encI_set (l : List Int) (i : Nat) (x : Int) : (encI l).set i (.int .i64 x) = encI (l.set i x) := by
  simp [encI, List.map_set]
theorem IsTab.setM (h : IsTab w p g l m) (m' : Int) : IsTab (w.setCell ⟨p, 1, none⟩ (.int .i64 m')) p g l m' := by
  refine ⟨?_, ?_, h.ne⟩
  · rw [heap_setCell_same w p 1 _ 83 _ h.ptr]; rfl
  · rw [heap_setCell_other w ⟨p, 1, none⟩ g _ (fun e => h.ne e.symm)]; exact h.row
theorem IsTab.setI (h : IsTab w p g l m) (i : Nat) (x : Int) : IsTab (w.setCell ⟨g, i, none⟩ (.int .i64 x)) p g (l.set i x) m := by
  refine ⟨?_, ?_, h.ne⟩
  · rw [heap_setCell_other w ⟨g, i, none⟩ p _ h.ne, List.length_set]; exact h.ptr
  · rw [heap_setCell_same w g i _ 3 _ h.row]
    simp [encI_set]
end
/-- a row of ints that lies in a block of its own, from B on. -/
def RowO (w : World) (B : Nat) (v : Value) (l : List Int) : Prop := w.ownsRow B 3 1 v l.length (encI l)
section
variable {w w' : World} {B : Nat} {v : Value} {l : List Int}
theorem RowO.sl (h : RowO w B v l) : ∃ a c, v = .slice a l.length c := by
  rcases h.2 with ⟨rfl, h1⟩ | ⟨g, cap, cur, rfl, _⟩
  · exact ⟨none, 0, by rw [h1]⟩
  · exact ⟨_, cap, rfl⟩
theorem RowO.cap (h : RowO w B v l) : ∃ a c, v = .slice a l.length c ∧ l.length ≤ c ∧ c ≤ maxLen := by
  rcases h.2 with ⟨rfl, h1⟩ | ⟨g, cap, cur, rfl, _, _, h3, h4, _⟩
  · exact ⟨none, 0, by rw [h1], by omega, by unfold maxLen; omega⟩
  · exact ⟨_, cap, rfl, h3, h4⟩
theorem RowO.same (h : RowO w B v l) (hs : ∀ b cur, w.heap[b]? = some (.cells cur 3 (0, 0)) → B ≤ b → w'.heap[b]? = w.heap[b]?) : RowO w' B v l := by
  refine ⟨h.1, ?_⟩
  rcases h.2 with ⟨rfl, h1⟩ | ⟨g, cap, cur, rfl, hbg, hg, h3⟩
  · exact .inl ⟨rfl, h1⟩
  · exact .inr ⟨g, cap, cur, rfl, hbg, by rw [hs g cur hg hbg]; exact hg, h3⟩
theorem RowO.below (h : RowO w B v l) (hb : Below w.heap.size w w') : RowO w' B v l := h.same fun b _ hg _ => hb.block b (Array.getElem?_eq_some_iff.1 hg).1
theorem RowO.alloc (h : RowO w B v l) (o : Obj) : RowO (w.alloc o) B v l := h.below ((Below.refl _ w).alloc (Nat.le_refl _) o)
theorem RowO.only {p g : Nat} (h : RowO w B v l) (ho : Only p g w w') (hp : p < B) (hg : g < B) : RowO w' B v l := h.same fun b _ hb hB => ho.block b (Array.getElem?_eq_some_iff.1 hb).1 (by omega) (by omega)
/-- a block of another type may turn. -/
theorem RowO.turn {c t : Nat} {cs : Array Value} (h : RowO w B v l) (ht : Turn c w w') (hc : w.heap[c]? = some (.cells cs t (0, 0))) (hne : t ≠ 3) : RowO w' B v l := h.same fun b cur hb _ => ht.block b (by
  rintro rfl
  rw [hb] at hc
  injection hc with h1
  injection h1 with _ h2 _
  exact hne h2.symm)
theorem RowO.mono {C : Nat} (h : RowO w B v l) (hC : C ≤ B) : RowO w C v l := by
  refine ⟨h.1, ?_⟩
  rcases h.2 with ⟨rfl, h1⟩ | ⟨g, cap, cur, rfl, hbg, h3⟩
  · exact .inl ⟨rfl, h1⟩
  · exact .inr ⟨g, cap, cur, rfl, by omega, h3⟩
theorem RowO.at {a : Option Addr} {n c : Nat} (h : RowO w B (.slice a n c) l) {j : Nat} (hj : j < l.length) : ∃ b, a = some ⟨b, 0, none⟩ ∧ B ≤ b ∧ b < w.heap.size ∧ w.cell? ⟨b, j, none⟩ = some (.int .i64 (l.getD j 0)) ∧ w.frozen? ⟨b, j, none⟩ = false := by
  rcases h.2 with ⟨_, h1⟩ | ⟨g, cap, cur, e, hbg, hg, _, _, _, htake⟩
  · omega
  · cases e
    refine ⟨g, rfl, hbg, (Array.getElem?_eq_some_iff.1 hg).1, ?_, frozen_of_row w g j _ 3 hg⟩
    rw [cell_of_row w g j _ 3 (0, 0) hg, ← encI_get hj, ← htake, List.getElem?_take_of_lt (by omega)]
    simp
theorem RowO.nil (w : World) (B : Nat) : RowO w B (.slice none 0 0) [] := World.ownsRow_nil _ _ _ _
theorem RowO.put {b n c : Nat} (h : RowO w B (.slice (some ⟨b, 0, none⟩) n c) l) (i : Nat) (x : Int) : RowO (w.setCell ⟨b, i, none⟩ (.int .i64 x)) B (.slice (some ⟨b, 0, none⟩) n c) (l.set i x) := by
  have hl := h.1
  rcases h.2 with ⟨h0, _⟩ | ⟨g, cap, cur, e, hbg, hg, h3, h4, h5, htake⟩
  · cases h0
  · cases e
    refine ⟨by rw [List.length_set, encI_len, List.length_set]; omega, .inr ⟨b, c, _, by rw [List.length_set], hbg, heap_setCell_same w b i _ 3 _ hg, by rw [List.length_set]; exact h3, h4, by rw [Array.size_setIfInBounds]; exact h5, ?_⟩⟩
    rw [List.length_set, Array.toList_setIfInBounds, List.take_set, htake, encI_set]
end
theorem Try.info3 : (Try.prog.info? 3).map (fun i => (i.zero, i.size, i.bytes)) = some (some (.int .i64 0), 1, 8) := by kernel_rfl
theorem wpList_want {P : Program} {ops : Array Oper} {rest : List Oper} {o : Oper} {a : Act} {w : World} {Q : Exit → Act → World → Prop} (hw : Region.wanted o (yielded ops a.tmps) = true) (h : ∀ K : Act → World → Prop, (∀ a w, wpList P ops Q rest a w → K a w) → o.wp P a w K Q) : wpList P ops Q (o :: rest) a w := by
  rw [wpList, if_pos hw]
  exact .inl (h _ fun _ _ h => h)
theorem own_slice {w : World} {base : Nat} {e : TypeId} {size : Nat} {v : Value} {n : Nat} {xs : List Value} (h : w.ownsRow base e size v n xs) : ∃ a c, v = .slice a n c := by
  rcases h.2 with ⟨rfl, h1⟩ | ⟨g, cap, cur, rfl, _⟩
  · exact ⟨none, 0, by rw [h1]⟩
  · exact ⟨_, cap, rfl⟩
theorem beq_ff {a b : Int} (h : ¬ a = b) : (a == b) = false := by simpa using h
theorem beq_tt {a b : Int} (h : a = b) : (a == b) = true := by simpa using h
end Go.Proofs.Ythndfhkkaichiaa
