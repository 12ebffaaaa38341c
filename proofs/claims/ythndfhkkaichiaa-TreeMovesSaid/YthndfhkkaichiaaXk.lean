/-
  Blocks of structs: the document's forest, a group of it, an act, what is told of a group: allocated, loaded, stored, answered. No condition.
-/
import Derived.Test.YthndfhkkaichiaaXj
import Derived.Laws.ResultCell
import Derived.Deep.MidRow
namespace Go.Proofs.Ythndfhkkaichiaa
open Go.RowKit Go.Maps

/-- in b lie cells of a type. -/
def Blk (w : World) (b t : Nat) (cs : Array Value) : Prop := w.heap[b]? = some (.cells cs t (0, 0))
section
variable {w w' : World} {b t : Nat} {cs : Array Value}
theorem Blk.new (w : World) (t : Nat) (cs : Array Value) : Blk (w.alloc (.cells cs t)) w.heap.size t cs := heap_alloc_new w _
theorem Blk.lt (h : Blk w b t cs) : b < w.heap.size := (Array.getElem?_eq_some_iff.1 h).1
theorem Blk.below (h : Blk w b t cs) (hb : Below w.heap.size w w') : Blk w' b t cs := (hb.block b h.lt).trans h
theorem Blk.alloc (h : Blk w b t cs) (o : Obj) : Blk (w.alloc o) b t cs := (heap_alloc_old w o h.lt).trans h
theorem Blk.turn {d : Nat} (h : Blk w b t cs) (ht : Turn d w w') (hne : b ≠ d) : Blk w' b t cs := (ht.block b hne).trans h
theorem Blk.wr {ts : List Nat} {B : Nat} (h : Blk w b t cs) (hw : Wr ts B w w') (ht : t ∉ ts) : Blk w' b t cs := (hw.typ b cs t (0, 0) h ht).trans h
theorem Blk.at (h : Blk w b t cs) (i : Nat) : w.cell? ⟨b, i, none⟩ = cs[i]? := cell_of_row w b i _ t (0, 0) h
theorem Blk.fz (h : Blk w b t cs) (i : Nat) : w.frozen? ⟨b, i, none⟩ = false := frozen_of_row w b i _ t h
theorem Blk.drew (h : Blk w b t cs) : Blk w.drew b t cs := h
theorem Blk.set (h : Blk w b t cs) (i : Nat) (v : Value) : Blk (w.setCell ⟨b, i, none⟩ v) b t (cs.setIfInBounds i v) := heap_setCell_same w b i _ t _ h
end
def cellsF (r m : Int) (v : Value) : Array Value := #[.int .i64 r, .int .i64 m, v]
theorem Try.info30 : (Try.prog.info? 30).map (·.size) = some 3 := by kernel_rfl
theorem run_alloc30 (w : World) : (Instr.alloc 30 true (.tuple #[])).run Try.prog w = .ok (.pointer (some ⟨w.heap.size, 0, none⟩)) (w.alloc (.cells #[.int .i64 0, .int .i64 0, .slice none 0 0] 30)) := by kernel_rfl
theorem cF0 {w : World} {b : Nat} {r m : Int} {v : Value} (h : Blk w b 30 (cellsF r m v)) : w.cell? ⟨b, 0, none⟩ = some (.int .i64 r) := by rw [h.at]; rfl
theorem cF1 {w : World} {b : Nat} {r m : Int} {v : Value} (h : Blk w b 30 (cellsF r m v)) : w.cell? ⟨b, 1, none⟩ = some (.int .i64 m) := by rw [h.at]; rfl
theorem cF2 {w : World} {b : Nat} {r m : Int} {v : Value} (h : Blk w b 30 (cellsF r m v)) : w.cell? ⟨b, 2, none⟩ = some (v) := by rw [h.at]; rfl
def cellsE (g : Gr) : Array Value := #[.int .i64 g.id, .int .i64 g.pa, .int .i64 g.wt, .int .i64 g.me, .int .i64 g.aw]
theorem Try.info70 : (Try.prog.info? 70).map (·.size) = some 5 := by kernel_rfl
theorem run_alloc70 (w : World) : (Instr.alloc 70 true (.tuple #[])).run Try.prog w = .ok (.pointer (some ⟨w.heap.size, 0, none⟩)) (w.alloc (.cells #[.int .i64 0, .int .i64 0, .int .i64 0, .int .i64 0, .int .i64 0] 70)) := by kernel_rfl
theorem cE0 {w : World} {b : Nat} {g : Gr} (h : Blk w b 70 (cellsE g)) : w.cell? ⟨b, 0, none⟩ = some (.int .i64 g.id) := by rw [h.at]; rfl
theorem cE1 {w : World} {b : Nat} {g : Gr} (h : Blk w b 70 (cellsE g)) : w.cell? ⟨b, 1, none⟩ = some (.int .i64 g.pa) := by rw [h.at]; rfl
theorem cE2 {w : World} {b : Nat} {g : Gr} (h : Blk w b 70 (cellsE g)) : w.cell? ⟨b, 2, none⟩ = some (.int .i64 g.wt) := by rw [h.at]; rfl
theorem cE3 {w : World} {b : Nat} {g : Gr} (h : Blk w b 70 (cellsE g)) : w.cell? ⟨b, 3, none⟩ = some (.int .i64 g.me) := by rw [h.at]; rfl
theorem cE4 {w : World} {b : Nat} {g : Gr} (h : Blk w b 70 (cellsE g)) : w.cell? ⟨b, 4, none⟩ = some (.int .i64 g.aw) := by rw [h.at]; rfl
def cellsA (q : Nat) (g n : Int) : Array Value := #[.int .u8 (q : Int), .int .i64 g, .int .i64 n]
theorem Try.info34 : (Try.prog.info? 34).map (·.size) = some 3 := by kernel_rfl
theorem cA0 {w : World} {b : Nat} {q : Nat} {g n : Int} (h : Blk w b 34 (cellsA q g n)) : w.cell? ⟨b, 0, none⟩ = some (.int .u8 (q : Int)) := by rw [h.at]; rfl
theorem cA1 {w : World} {b : Nat} {q : Nat} {g n : Int} (h : Blk w b 34 (cellsA q g n)) : w.cell? ⟨b, 1, none⟩ = some (.int .i64 g) := by rw [h.at]; rfl
theorem cA2 {w : World} {b : Nat} {q : Nat} {g n : Int} (h : Blk w b 34 (cellsA q g n)) : w.cell? ⟨b, 2, none⟩ = some (.int .i64 n) := by rw [h.at]; rfl
def cellsU (i q wt d r me aw : Int) : Array Value := #[.int .i64 i, .int .i64 q, .int .i64 wt, .int .i64 d, .int .i64 r, .int .i64 me, .int .i64 aw]
theorem Try.info44 : (Try.prog.info? 44).map (·.size) = some 7 := by kernel_rfl
theorem run_alloc44 (w : World) : (Instr.alloc 44 true (.tuple #[])).run Try.prog w = .ok (.pointer (some ⟨w.heap.size, 0, none⟩)) (w.alloc (.cells #[.int .i64 0, .int .i64 0, .int .i64 0, .int .i64 0, .int .i64 0, .int .i64 0, .int .i64 0] 44)) := by kernel_rfl
theorem cU0 {w : World} {b : Nat} {i q wt d r me aw : Int} (h : Blk w b 44 (cellsU i q wt d r me aw)) : w.cell? ⟨b, 0, none⟩ = some (.int .i64 i) := by rw [h.at]; rfl
theorem cU1 {w : World} {b : Nat} {i q wt d r me aw : Int} (h : Blk w b 44 (cellsU i q wt d r me aw)) : w.cell? ⟨b, 1, none⟩ = some (.int .i64 q) := by rw [h.at]; rfl
theorem cU2 {w : World} {b : Nat} {i q wt d r me aw : Int} (h : Blk w b 44 (cellsU i q wt d r me aw)) : w.cell? ⟨b, 2, none⟩ = some (.int .i64 wt) := by rw [h.at]; rfl
theorem cU3 {w : World} {b : Nat} {i q wt d r me aw : Int} (h : Blk w b 44 (cellsU i q wt d r me aw)) : w.cell? ⟨b, 3, none⟩ = some (.int .i64 d) := by rw [h.at]; rfl
theorem cU4 {w : World} {b : Nat} {i q wt d r me aw : Int} (h : Blk w b 44 (cellsU i q wt d r me aw)) : w.cell? ⟨b, 4, none⟩ = some (.int .i64 r) := by rw [h.at]; rfl
theorem cU5 {w : World} {b : Nat} {i q wt d r me aw : Int} (h : Blk w b 44 (cellsU i q wt d r me aw)) : w.cell? ⟨b, 5, none⟩ = some (.int .i64 me) := by rw [h.at]; rfl
theorem cU6 {w : World} {b : Nat} {i q wt d r me aw : Int} (h : Blk w b 44 (cellsU i q wt d r me aw)) : w.cell? ⟨b, 6, none⟩ = some (.int .i64 aw) := by rw [h.at]; rfl
theorem Try.info77 : (Try.prog.info? 77).map (·.size) = some 4 := by kernel_rfl
section
variable {ops : Array Oper} {rest : List Oper} {o : Oper} {a : Act} {w : World} {Q : Exit → Act → World → Prop} {K : Act → World → Prop}
theorem wp_alloc30 (ho : o.op = .alloc 30) (h : K (a.put o.dst (.pointer (some ⟨w.heap.size, 0, none⟩))) (w.alloc (.cells #[.int .i64 0, .int .i64 0, .slice none 0 0] 30))) : o.wp Try.prog a w K Q := by
  unfold Oper.wp execOp
  rw [ho]
  simp only [run_alloc30, Sem.run_bind, Sem.run_pure, Result.andThen_ok]
  exact h
theorem wpList_alloc30 (hg : o.guard = none) (ho : o.op = .alloc 30) (h : wpList Try.prog ops Q rest (a.put o.dst (.pointer (some ⟨w.heap.size, 0, none⟩))) (w.alloc (.cells #[.int .i64 0, .int .i64 0, .slice none 0 0] 30))) : wpList Try.prog ops Q (o :: rest) a w :=
  wpList_plain hg fun _ hK => wp_alloc30 ho (hK _ _ h)
theorem wp_load30 (x : Operand) (ho : o.op = .load 30 x) (b : Nat) (r m : Int) (v : Value) (hx : a.eval x = .pointer (some ⟨b, 0, none⟩)) (hw : Blk w b 30 (cellsF r m v)) (h : K (a.put o.dst (.agg (cellsF r m v))) w) : o.wp Try.prog a w K Q :=
  wp_load_row 30 x ho b hx 30 _ (0, 0) _ hw Try.underlying30 rfl Try.info30 h
theorem wpList_load30 (hg : o.guard = none) (x : Operand) (ho : o.op = .load 30 x) (b : Nat) (r m : Int) (v : Value) (hx : a.eval x = .pointer (some ⟨b, 0, none⟩)) (hw : Blk w b 30 (cellsF r m v)) (h : wpList Try.prog ops Q rest (a.put o.dst (.agg (cellsF r m v))) w) : wpList Try.prog ops Q (o :: rest) a w :=
  wpList_load_row hg 30 x ho b hx 30 _ (0, 0) _ hw Try.underlying30 rfl Try.info30 h
theorem wp_store30 (x y : Operand) (ho : o.op = .store 30 x y) (b : Nat) (r m : Int) (v : Value) {cs : Array Value} (hx : a.eval x = .pointer (some ⟨b, 0, none⟩)) (hy : a.eval y = .agg (cellsF r m v)) (hw : Blk w b 30 cs) (hc : cs.size = 3) (hv : v.oneCell' = true)
    (h : ∀ w', Blk w' b 30 (cellsF r m v) → Turn b w w' → K (a.put o.dst undef) w') : o.wp Try.prog a w K Q :=
  wp_store_row 30 x y ho b _ hx hy 30 _ hw Try.info30 hc (by simp [hv, cellsF]; exact ⟨rfl, rfl⟩) (h _ (setRow_heap w b _ _ 30 _ hw) (Turn.setRow w b _))
theorem wpList_store30 (hg : o.guard = none) (x y : Operand) (ho : o.op = .store 30 x y) (b : Nat) (r m : Int) (v : Value) {cs : Array Value} (hx : a.eval x = .pointer (some ⟨b, 0, none⟩)) (hy : a.eval y = .agg (cellsF r m v)) (hw : Blk w b 30 cs) (hc : cs.size = 3) (hv : v.oneCell' = true)
    (h : ∀ w', Blk w' b 30 (cellsF r m v) → Turn b w w' → wpList Try.prog ops Q rest (a.put o.dst undef) w') : wpList Try.prog ops Q (o :: rest) a w :=
  wpList_plain hg fun _ hK => wp_store30 x y ho b r m v hx hy hw hc hv fun w' h1 h2 => hK _ _ (h w' h1 h2)
theorem wp_alloc70 (ho : o.op = .alloc 70) (h : K (a.put o.dst (.pointer (some ⟨w.heap.size, 0, none⟩))) (w.alloc (.cells #[.int .i64 0, .int .i64 0, .int .i64 0, .int .i64 0, .int .i64 0] 70))) : o.wp Try.prog a w K Q := by
  unfold Oper.wp execOp
  rw [ho]
  simp only [run_alloc70, Sem.run_bind, Sem.run_pure, Result.andThen_ok]
  exact h
theorem wpList_alloc70 (hg : o.guard = none) (ho : o.op = .alloc 70) (h : wpList Try.prog ops Q rest (a.put o.dst (.pointer (some ⟨w.heap.size, 0, none⟩))) (w.alloc (.cells #[.int .i64 0, .int .i64 0, .int .i64 0, .int .i64 0, .int .i64 0] 70))) : wpList Try.prog ops Q (o :: rest) a w :=
  wpList_plain hg fun _ hK => wp_alloc70 ho (hK _ _ h)
theorem wp_load70 (x : Operand) (ho : o.op = .load 70 x) (b : Nat) (g : Gr) (hx : a.eval x = .pointer (some ⟨b, 0, none⟩)) (hw : Blk w b 70 (cellsE g)) (h : K (a.put o.dst (.agg (cellsE g))) w) : o.wp Try.prog a w K Q :=
  wp_load_row 70 x ho b hx 70 _ (0, 0) _ hw Try.underlying70 rfl Try.info70 h
theorem wpList_load70 (hg : o.guard = none) (x : Operand) (ho : o.op = .load 70 x) (b : Nat) (g : Gr) (hx : a.eval x = .pointer (some ⟨b, 0, none⟩)) (hw : Blk w b 70 (cellsE g)) (h : wpList Try.prog ops Q rest (a.put o.dst (.agg (cellsE g))) w) : wpList Try.prog ops Q (o :: rest) a w :=
  wpList_load_row hg 70 x ho b hx 70 _ (0, 0) _ hw Try.underlying70 rfl Try.info70 h
theorem wp_store70 (x y : Operand) (ho : o.op = .store 70 x y) (b : Nat) (g : Gr) {cs : Array Value} (hx : a.eval x = .pointer (some ⟨b, 0, none⟩)) (hy : a.eval y = .agg (cellsE g)) (hw : Blk w b 70 cs) (hc : cs.size = 5) 
    (h : ∀ w', Blk w' b 70 (cellsE g) → Turn b w w' → K (a.put o.dst undef) w') : o.wp Try.prog a w K Q :=
  wp_store_row 70 x y ho b _ hx hy 70 _ hw Try.info70 hc (by simp [Value.oneCell', cellsE]) (h _ (setRow_heap w b _ _ 70 _ hw) (Turn.setRow w b _))
theorem wpList_store70 (hg : o.guard = none) (x y : Operand) (ho : o.op = .store 70 x y) (b : Nat) (g : Gr) {cs : Array Value} (hx : a.eval x = .pointer (some ⟨b, 0, none⟩)) (hy : a.eval y = .agg (cellsE g)) (hw : Blk w b 70 cs) (hc : cs.size = 5) 
    (h : ∀ w', Blk w' b 70 (cellsE g) → Turn b w w' → wpList Try.prog ops Q rest (a.put o.dst undef) w') : wpList Try.prog ops Q (o :: rest) a w :=
  wpList_plain hg fun _ hK => wp_store70 x y ho b g hx hy hw hc fun w' h1 h2 => hK _ _ (h w' h1 h2)
theorem wp_load34 (x : Operand) (ho : o.op = .load 34 x) (b : Nat) (q : Nat) (g n : Int) (hx : a.eval x = .pointer (some ⟨b, 0, none⟩)) (hw : Blk w b 34 (cellsA q g n)) (h : K (a.put o.dst (.agg (cellsA q g n))) w) : o.wp Try.prog a w K Q :=
  wp_load_row 34 x ho b hx 34 _ (0, 0) _ hw Try.underlying34 rfl Try.info34 h
theorem wpList_load34 (hg : o.guard = none) (x : Operand) (ho : o.op = .load 34 x) (b : Nat) (q : Nat) (g n : Int) (hx : a.eval x = .pointer (some ⟨b, 0, none⟩)) (hw : Blk w b 34 (cellsA q g n)) (h : wpList Try.prog ops Q rest (a.put o.dst (.agg (cellsA q g n))) w) : wpList Try.prog ops Q (o :: rest) a w :=
  wpList_load_row hg 34 x ho b hx 34 _ (0, 0) _ hw Try.underlying34 rfl Try.info34 h
theorem wp_store34 (x y : Operand) (ho : o.op = .store 34 x y) (b : Nat) (q : Nat) (g n : Int) {cs : Array Value} (hx : a.eval x = .pointer (some ⟨b, 0, none⟩)) (hy : a.eval y = .agg (cellsA q g n)) (hw : Blk w b 34 cs) (hc : cs.size = 3) 
    (h : ∀ w', Blk w' b 34 (cellsA q g n) → Turn b w w' → K (a.put o.dst undef) w') : o.wp Try.prog a w K Q :=
  wp_store_row 34 x y ho b _ hx hy 34 _ hw Try.info34 hc (by simp [Value.oneCell', cellsA]) (h _ (setRow_heap w b _ _ 34 _ hw) (Turn.setRow w b _))
theorem wpList_store34 (hg : o.guard = none) (x y : Operand) (ho : o.op = .store 34 x y) (b : Nat) (q : Nat) (g n : Int) {cs : Array Value} (hx : a.eval x = .pointer (some ⟨b, 0, none⟩)) (hy : a.eval y = .agg (cellsA q g n)) (hw : Blk w b 34 cs) (hc : cs.size = 3) 
    (h : ∀ w', Blk w' b 34 (cellsA q g n) → Turn b w w' → wpList Try.prog ops Q rest (a.put o.dst undef) w') : wpList Try.prog ops Q (o :: rest) a w :=
  wpList_plain hg fun _ hK => wp_store34 x y ho b q g n hx hy hw hc fun w' h1 h2 => hK _ _ (h w' h1 h2)
theorem wp_alloc44 (ho : o.op = .alloc 44) (h : K (a.put o.dst (.pointer (some ⟨w.heap.size, 0, none⟩))) (w.alloc (.cells #[.int .i64 0, .int .i64 0, .int .i64 0, .int .i64 0, .int .i64 0, .int .i64 0, .int .i64 0] 44))) : o.wp Try.prog a w K Q := by
  unfold Oper.wp execOp
  rw [ho]
  simp only [run_alloc44, Sem.run_bind, Sem.run_pure, Result.andThen_ok]
  exact h
theorem wpList_alloc44 (hg : o.guard = none) (ho : o.op = .alloc 44) (h : wpList Try.prog ops Q rest (a.put o.dst (.pointer (some ⟨w.heap.size, 0, none⟩))) (w.alloc (.cells #[.int .i64 0, .int .i64 0, .int .i64 0, .int .i64 0, .int .i64 0, .int .i64 0, .int .i64 0] 44))) : wpList Try.prog ops Q (o :: rest) a w :=
  wpList_plain hg fun _ hK => wp_alloc44 ho (hK _ _ h)
theorem wp_load44 (x : Operand) (ho : o.op = .load 44 x) (b : Nat) (i q wt d r me aw : Int) (hx : a.eval x = .pointer (some ⟨b, 0, none⟩)) (hw : Blk w b 44 (cellsU i q wt d r me aw)) (h : K (a.put o.dst (.agg (cellsU i q wt d r me aw))) w) : o.wp Try.prog a w K Q :=
  wp_load_row 44 x ho b hx 44 _ (0, 0) _ hw Try.underlying44 rfl Try.info44 h
theorem wpList_load44 (hg : o.guard = none) (x : Operand) (ho : o.op = .load 44 x) (b : Nat) (i q wt d r me aw : Int) (hx : a.eval x = .pointer (some ⟨b, 0, none⟩)) (hw : Blk w b 44 (cellsU i q wt d r me aw)) (h : wpList Try.prog ops Q rest (a.put o.dst (.agg (cellsU i q wt d r me aw))) w) : wpList Try.prog ops Q (o :: rest) a w :=
  wpList_load_row hg 44 x ho b hx 44 _ (0, 0) _ hw Try.underlying44 rfl Try.info44 h
theorem wp_store44 (x y : Operand) (ho : o.op = .store 44 x y) (b : Nat) (i q wt d r me aw : Int) {cs : Array Value} (hx : a.eval x = .pointer (some ⟨b, 0, none⟩)) (hy : a.eval y = .agg (cellsU i q wt d r me aw)) (hw : Blk w b 44 cs) (hc : cs.size = 7) 
    (h : ∀ w', Blk w' b 44 (cellsU i q wt d r me aw) → Turn b w w' → K (a.put o.dst undef) w') : o.wp Try.prog a w K Q :=
  wp_store_row 44 x y ho b _ hx hy 44 _ hw Try.info44 hc (by simp [Value.oneCell', cellsU]) (h _ (setRow_heap w b _ _ 44 _ hw) (Turn.setRow w b _))
theorem wpList_store44 (hg : o.guard = none) (x y : Operand) (ho : o.op = .store 44 x y) (b : Nat) (i q wt d r me aw : Int) {cs : Array Value} (hx : a.eval x = .pointer (some ⟨b, 0, none⟩)) (hy : a.eval y = .agg (cellsU i q wt d r me aw)) (hw : Blk w b 44 cs) (hc : cs.size = 7) 
    (h : ∀ w', Blk w' b 44 (cellsU i q wt d r me aw) → Turn b w w' → wpList Try.prog ops Q rest (a.put o.dst undef) w') : wpList Try.prog ops Q (o :: rest) a w :=
  wpList_plain hg fun _ hK => wp_store44 x y ho b i q wt d r me aw hx hy hw hc fun w' h1 h2 => hK _ _ (h w' h1 h2)
/-- 'm[k] = p'. -/
theorem wpList_putG (hg : o.guard = none) (m x v : Operand) (hop : o.op = Op.mapUpdate 60 m x v) {b n : Nat} {G : Int → Option Nat} (hm : a.eval m = .map (some b)) (h : Mp w b n G) (hn : n < maxLen) {k : Int} (hx : a.eval x = .int .i64 k) (hk : I64 k) {c : Nat} (hv : a.eval v = .pointer (some ⟨c, 0, none⟩))
    (hK : ∀ w', Mp w' b (n + 1) (fun y => if y = k then some c else G y) → w.grownBy w' (some b) → wpList Try.prog ops Q rest (a.put o.dst undef) w') : wpList Try.prog ops Q (o :: rest) a w := by
  refine wpList_plain hg fun K' hK' => ?_
  obtain ⟨w', hrun, r1, r2⟩ := h.put hn hk c
  unfold Oper.wp
  simp [execOp, hop, hm, hx, hv, hrun, Result.andThen]
  exact hK' _ _ (hK w' r1 r2)
/-- 'delete(m, k)'. -/
theorem wpList_delG (hg : o.guard = none) (m x : Operand) (hop : o.op = Op.call { callee := Callee.builtin Builtin.delete, args := #[m, x], argTypes := #[60, 3] }) {b n : Nat} {G : Int → Option Nat} (hm : a.eval m = .map (some b)) (h : Mp w b n G) {k : Int} (hx : a.eval x = .int .i64 k) (hk : I64 k)
    (hK : ∀ w', Mp w' b n (fun y => if y = k then none else G y) → w.grownBy w' (some b) → wpList Try.prog ops Q rest (a.put o.dst (.tuple #[])) w') : wpList Try.prog ops Q (o :: rest) a w := by
  refine wpList_plain hg fun K' hK' => ?_
  obtain ⟨w', hrun, r1, r2⟩ := h.del hk o.type
  unfold Oper.wp
  simp [execOp, hop, resolve, invoke, builtin, hm, hx, hrun, Result.andThen]
  exact hK' _ _ (hK w' r1 r2)
end
theorem resultsF_c {fn : Func} {p : Tmp} (h : fn.results = #[.cell p 30]) (tmps : Array Value) (w : World) (b : Nat) (r m : Int) (v : Value) (hp : tmps.getD p undef = .pointer (some ⟨b, 0, none⟩)) (hw : Blk w b 30 (cellsF r m v)) :
    (results fn tmps).run Try.prog w = .ok (.agg (cellsF r m v)) w := by
  have hp' : tmps[p]?.getD undef = .pointer (some ⟨b, 0, none⟩) := by simpa using hp
  simp [results, h, hp', asAddr, run_loadVar_row w b 30 30 _ (0, 0) _ hw Try.underlying30 rfl Try.info30]
theorem resultsF_ct {fn : Func} {p u : Tmp} (h : fn.results = #[.cell p 30, .tmp u]) (tmps : Array Value) (w : World) (b : Nat) (r m : Int) (v : Value) (x : Value) (hp : tmps.getD p undef = .pointer (some ⟨b, 0, none⟩)) (hx : tmps.getD u undef = x) (hw : Blk w b 30 (cellsF r m v)) :
    (results fn tmps).run Try.prog w = .ok (.tuple #[.agg (cellsF r m v), x]) w := by
  have hp' : tmps[p]?.getD undef = .pointer (some ⟨b, 0, none⟩) := by simpa using hp
  have hx' : tmps[u]?.getD undef = x := by simpa using hx
  simp [results, h, hp', hx', asAddr, run_loadVar_row w b 30 30 _ (0, 0) _ hw Try.underlying30 rfl Try.info30]
theorem resultsF_ctt {fn : Func} {p u u2 : Tmp} (h : fn.results = #[.cell p 30, .tmp u, .tmp u2]) (tmps : Array Value) (w : World) (b : Nat) (r m : Int) (v : Value) (x y : Value) (hp : tmps.getD p undef = .pointer (some ⟨b, 0, none⟩)) (hx : tmps.getD u undef = x) (hy : tmps.getD u2 undef = y) (hw : Blk w b 30 (cellsF r m v)) :
    (results fn tmps).run Try.prog w = .ok (.tuple #[.agg (cellsF r m v), x, y]) w := by
  have hp' : tmps[p]?.getD undef = .pointer (some ⟨b, 0, none⟩) := by simpa using hp
  have hx' : tmps[u]?.getD undef = x := by simpa using hx
  have hy' : tmps[u2]?.getD undef = y := by simpa using hy
  simp [results, h, hp', hx', hy', asAddr, run_loadVar_row w b 30 30 _ (0, 0) _ hw Try.underlying30 rfl Try.info30]
theorem resultsU_c {fn : Func} {p : Tmp} (h : fn.results = #[.cell p 44]) (tmps : Array Value) (w : World) (b : Nat) (i q wt d r me aw : Int) (hp : tmps.getD p undef = .pointer (some ⟨b, 0, none⟩)) (hw : Blk w b 44 (cellsU i q wt d r me aw)) :
    (results fn tmps).run Try.prog w = .ok (.agg (cellsU i q wt d r me aw)) w := by
  have hp' : tmps[p]?.getD undef = .pointer (some ⟨b, 0, none⟩) := by simpa using hp
  simp [results, h, hp', asAddr, run_loadVar_row w b 44 44 _ (0, 0) _ hw Try.underlying44 rfl Try.info44]
theorem resultsU_ct {fn : Func} {p u : Tmp} (h : fn.results = #[.cell p 44, .tmp u]) (tmps : Array Value) (w : World) (b : Nat) (i q wt d r me aw : Int) (x : Value) (hp : tmps.getD p undef = .pointer (some ⟨b, 0, none⟩)) (hx : tmps.getD u undef = x) (hw : Blk w b 44 (cellsU i q wt d r me aw)) :
    (results fn tmps).run Try.prog w = .ok (.tuple #[.agg (cellsU i q wt d r me aw), x]) w := by
  have hp' : tmps[p]?.getD undef = .pointer (some ⟨b, 0, none⟩) := by simpa using hp
  have hx' : tmps[u]?.getD undef = x := by simpa using hx
  simp [results, h, hp', hx', asAddr, run_loadVar_row w b 44 44 _ (0, 0) _ hw Try.underlying44 rfl Try.info44]
theorem resultsU_ctt {fn : Func} {p u u2 : Tmp} (h : fn.results = #[.cell p 44, .tmp u, .tmp u2]) (tmps : Array Value) (w : World) (b : Nat) (i q wt d r me aw : Int) (x y : Value) (hp : tmps.getD p undef = .pointer (some ⟨b, 0, none⟩)) (hx : tmps.getD u undef = x) (hy : tmps.getD u2 undef = y) (hw : Blk w b 44 (cellsU i q wt d r me aw)) :
    (results fn tmps).run Try.prog w = .ok (.tuple #[.agg (cellsU i q wt d r me aw), x, y]) w := by
  have hp' : tmps[p]?.getD undef = .pointer (some ⟨b, 0, none⟩) := by simpa using hp
  have hx' : tmps[u]?.getD undef = x := by simpa using hx
  have hy' : tmps[u2]?.getD undef = y := by simpa using hy
  simp [results, h, hp', hx', hy', asAddr, run_loadVar_row w b 44 44 _ (0, 0) _ hw Try.underlying44 rfl Try.info44]
end Go.Proofs.Ythndfhkkaichiaa
