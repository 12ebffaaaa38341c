/-
  Rows of acts; what the laws' loops keep: the forest at fp, the document's in b. No condition.
-/
import Derived.Test.YthndfhkkaichiaaXz
namespace Go.Proofs.Ythndfhkkaichiaa
open Go.RowKit Go.Maps

theorem run_alloc34 (w : World) : (Instr.alloc 34 true (.tuple #[])).run Try.prog w = .ok (.pointer (some ⟨w.heap.size, 0, none⟩)) (w.alloc (.cells #[.int .u8 0, .int .i64 0, .int .i64 0] 34)) := by kernel_rfl
theorem wpList_alloc34 {ops : Array Oper} {rest : List Oper} {o : Oper} {a : Act} {w : World} {Q : Exit → Act → World → Prop} (hg : o.guard = none) (ho : o.op = .alloc 34) (h : wpList Try.prog ops Q rest (a.put o.dst (.pointer (some ⟨w.heap.size, 0, none⟩))) (w.alloc (.cells #[.int .u8 0, .int .i64 0, .int .i64 0] 34))) : wpList Try.prog ops Q (o :: rest) a w :=
  wpList_plain hg fun K hK => by
    unfold Oper.wp execOp
    rw [ho]
    simp only [run_alloc34, Sem.run_bind, Sem.run_pure, Result.andThen_ok]
    exact hK _ _ h
def a0 : Nat × Int × Int := (0, 0, 0)
/-- a row of acts. -/
def RowA (w : World) (v : Value) (l : List (Nat × Int × Int)) : Prop :=
  ∃ a cap, v = .slice a l.length cap ∧ (l ≠ [] → ∃ b off, a = some ⟨b, off, none⟩ ∧ b < w.heap.size ∧ ∀ j, j < l.length → w.cell? ⟨b, off + j * 3, none⟩ = some (.int .u8 ((l.getD j a0).1 : Int)) ∧ w.cell? ⟨b, off + j * 3 + 1, none⟩ = some (.int .i64 (l.getD j a0).2.1) ∧ w.cell? ⟨b, off + j * 3 + 2, none⟩ = some (.int .i64 (l.getD j a0).2.2)) ∧ ∀ j, I64 (l.getD j a0).2.1 ∧ I64 (l.getD j a0).2.2
theorem RowA.below {w w' : World} {v : Value} {l : List (Nat × Int × Int)} (h : RowA w v l) (hb : Below w.heap.size w w') : RowA w' v l := by
  obtain ⟨a, cap, rfl, h2, h5⟩ := h
  refine ⟨a, cap, rfl, fun hl => ?_, h5⟩
  obtain ⟨b, off, rfl, h3, h4⟩ := h2 hl
  exact ⟨b, off, rfl, Nat.lt_of_lt_of_le h3 hb.size, fun j hj => ⟨(hb.cell (p := ⟨b, off + j * 3, none⟩) h3).trans (h4 j hj).1, (hb.cell (p := ⟨b, off + j * 3 + 1, none⟩) h3).trans (h4 j hj).2.1, (hb.cell (p := ⟨b, off + j * 3 + 2, none⟩) h3).trans (h4 j hj).2.2⟩⟩
theorem RowA.at {w : World} {a : Option Addr} {n cap : Nat} {l : List (Nat × Int × Int)} (h : RowA w (.slice a n cap) l) {j : Nat} (hj : j < l.length) :
    ∃ b off, a = some ⟨b, off, none⟩ ∧ w.cell? ⟨b, off + j * 3, none⟩ = some (.int .u8 ((l.getD j a0).1 : Int)) ∧ w.cell? ⟨b, off + j * 3 + 1, none⟩ = some (.int .i64 (l.getD j a0).2.1) ∧ w.cell? ⟨b, off + j * 3 + 2, none⟩ = some (.int .i64 (l.getD j a0).2.2) ∧ I64 (l.getD j a0).2.1 ∧ I64 (l.getD j a0).2.2 := by
  obtain ⟨a', cap', e, h2, h5⟩ := h
  cases e
  obtain ⟨b, off, rfl, h3, h4⟩ := h2 (by rintro rfl; simp at hj)
  exact ⟨b, off, rfl, (h4 j hj).1, (h4 j hj).2.1, (h4 j hj).2.2, (h5 j).1, (h5 j).2⟩
theorem RowA.sl {w : World} {v : Value} {l : List (Nat × Int × Int)} (h : RowA w v l) : ∃ a c, v = .slice a l.length c := by
  obtain ⟨a, c, e, _⟩ := h
  exact ⟨a, c, e⟩
/-- what a law's walk keeps: the forest at fp, of L; the document's in b, of Lr. -/
structure St (W : World) (fp b R : Nat) (w : World) (L : List Gr) (m k : Int) (Lr : List Gr) (mr : Int) : Prop where
  F : ∃ l, l.length = R ∧ IsF w W.heap.size fp L l m k
  ref : ∃ a c, Blk w b 30 (cellsF (R : Int) mr (.slice a Lr.length c)) ∧ RowG w (.slice a Lr.length c) Lr
  bel : Below W.heap.size W w
  Wb : W.heap.size ≤ b
section
variable {W w w' : World} {fp b R : Nat} {L Lr : List Gr} {m k mr : Int}
theorem St.lt (h : St W fp b R w L m k Lr mr) : b < w.heap.size := by
  obtain ⟨_, _, h2, _⟩ := h.ref
  exact h2.lt
theorem St.leW (h : St W fp b R w L m k Lr mr) : W.heap.size ≤ w.heap.size := by have := h.lt; have := h.Wb; omega
theorem St.below (h : St W fp b R w L m k Lr mr) (hb : Below w.heap.size w w') : St W fp b R w' L m k Lr mr := by
  obtain ⟨l, hl, hF⟩ := h.F
  obtain ⟨a, c, h1, h2⟩ := h.ref
  exact ⟨⟨l, hl, hF.below hb⟩, ⟨a, c, h1.below hb, h2.below hb⟩, h.bel.trans (hb.mono h.leW), h.Wb⟩
theorem St.alloc (h : St W fp b R w L m k Lr mr) (o : Obj) : St W fp b R (w.alloc o) L m k Lr mr := h.below ((Below.refl _ w).alloc (Nat.le_refl _) o)
theorem St.turn {d t : Nat} {cs : Array Value} (h : St W fp b R w L m k Lr mr) (ht : Turn d w w') (hd : Blk w d t cs) (hne : t ∉ [62, 83, 3, 77, 70]) (hb : b < d) : St W fp b R w' L m k Lr mr := by
  obtain ⟨l, hl, hF⟩ := h.F
  obtain ⟨a, c, h1, h2⟩ := h.ref
  have := h.Wb
  exact ⟨⟨l, hl, hF.turn ht hd (fun e => hne (by simp at e ⊢; omega))⟩, ⟨a, c, h1.turn ht (by omega), h2.turn ht hd (fun e => hne (by simp [e]))⟩, h.bel.trans (ht.below (by omega)), h.Wb⟩
theorem St.act {ts : List Nat} {L' : List Gr} {m' k' : Int} (h : St W fp b R w L m k Lr mr) (hF : ∃ l, l.length = R ∧ IsF w' W.heap.size fp L' l m' k') (hw : Wr ts W.heap.size w w') (h30 : 30 ∉ ts) (h70 : 70 ∉ ts) : St W fp b R w' L' m' k' Lr mr := by
  obtain ⟨a, c, h1, h2⟩ := h.ref
  exact ⟨hF, ⟨a, c, h1.wr hw h30, h2.wr hw h70⟩, h.bel.trans (hw.below h.leW), h.Wb⟩
theorem St.set {Lr' : List Gr} {mr' : Int} {a : Option Addr} {c : Nat} (h : St W fp b R w L m k Lr mr) (ht : Turn b w w') (hr : RowG w (.slice a Lr'.length c) Lr') (hb : Blk w' b 30 (cellsF (R : Int) mr' (.slice a Lr'.length c))) : St W fp b R w' L m k Lr' mr' := by
  obtain ⟨l, hl, hF⟩ := h.F
  obtain ⟨a0, c0, h1, h2⟩ := h.ref
  have := h.Wb
  exact ⟨⟨l, hl, hF.turn ht h1 (by decide)⟩, ⟨a, c, hb, hr.turn ht h1 (by decide)⟩, h.bel.trans (ht.below (by omega)), h.Wb⟩
theorem St.row {xs : List (Nat × Int × Int)} {v : Value} (h : St W fp b R w L m k Lr mr) (hr : RowA W v xs) : RowA w v xs := hr.below h.bel
end
end Go.Proofs.Ythndfhkkaichiaa
