/-
  What a call leaves as it was, where it writes into some blocks that are named by a predicate: Fr. And rows that a call owns, cut shorter; rows and boxes through such calls. No program, no condition.
-/
import Derived.Test.YtnfoblmfjldheaaDoorNb
namespace Go.Proofs.YtnfoblmfjldheaaDoor
open Go.RowKit Go.Dig Go.Shelf Go.Proofs

/-- of what was there only blocks of G may have turned. -/
structure Fr (G : Nat → Prop) (w w' : World) : Prop where
  os : w'.os = w.os
  tape : w'.tape = w.tape
  output : w'.output = w.output
  size : w.heap.size ≤ w'.heap.size
  block : ∀ k, k < w.heap.size → ¬ G k → w'.heap[k]? = w.heap[k]?

variable {G G' : Nat → Prop} {w w' w'' : World}
theorem Fr.refl (G : Nat → Prop) (w : World) : Fr G w w := ⟨rfl, rfl, rfl, Nat.le_refl _, fun _ _ _ => rfl⟩
theorem Fr.trans (h : Fr G w w') (k : Fr G' w' w'') (hG : ∀ i, i < w.heap.size → G' i → G i) : Fr G w w'' :=
  ⟨k.os.trans h.os, k.tape.trans h.tape, k.output.trans h.output, Nat.le_trans h.size k.size, fun i hi hn => (k.block i (Nat.lt_of_lt_of_le hi h.size) (fun h9 => hn (hG i hi h9))).trans (h.block i hi hn)⟩
theorem Fr.more (h : Fr G w w') (hG : ∀ i, i < w.heap.size → G i → G' i) : Fr G' w w' := ⟨h.os, h.tape, h.output, h.size, fun i hi hn => h.block i hi (fun h9 => hn (hG i hi h9))⟩
theorem Fr.of_below (h : Below w.heap.size w w') : Fr G w w' := ⟨h.os, h.tape, h.output, h.size, fun i hi _ => h.block i hi⟩
theorem Fr.of_grown {row : Option Nat} (h : w.grownBy w' row) (hr : ∀ k, k < w.heap.size → row = some k → G k) : Fr G w w' :=
  ⟨h.os, h.tape, h.output, h.size, fun i hi hn => h.block i hi (fun e => hn (hr i hi e.symm))⟩
theorem Fr.below {B : Nat} (h : Fr G w w') (hB : B ≤ w.heap.size) (hG : ∀ k, G k → B ≤ k) : Below B w w' :=
  ⟨h.os, h.tape, h.output, h.size, fun k hk => h.block k (by omega) (fun h9 => by have := hG k h9; omega)⟩
theorem Fr.grown {g : Nat} (h : Fr (· = g) w w') : w.grownBy w' (some g) := ⟨h.os, h.tape, h.output, h.size, fun k hk hne => h.block k hk (fun e => hne (by rw [e]))⟩
theorem Fr.alloc (h : Fr G w w') (o : Obj) : Fr G w (w'.alloc o) := h.trans (G' := fun _ => False) (Fr.of_grown (World.grownBy_alloc w' o none) (fun k _ e => by cases e)) (fun _ _ h => h.elim)
theorem Fr.drew (h : Fr G w w') : Fr G w w'.drew := ⟨h.os, h.tape, h.output, h.size, h.block⟩
theorem Fr.setCell (h : Fr G w w') {p : Addr} (hp : w.heap.size ≤ p.block ∨ G p.block) (u : Value) : Fr G w (w'.setCell p u) :=
  h.trans (G' := fun k => k = p.block) ⟨rfl, rfl, rfl, by simp [World.setCell], fun k _ hn => Below.heap_setCell _ _ _ _ hn⟩ (fun i hi e => by
    rcases hp with hp | hp
    · omega
    · rw [e]; exact hp)
theorem Fr.cell (h : Fr G w w') {p : Addr} (hp : p.block < w.heap.size) (hn : ¬ G p.block) : w'.cell? p = w.cell? p := World.cell?_of_block (w := w) (h.block p.block hp hn)
theorem Fr.boxed (h : Fr G w w') {B : Nat} {t : TypeId} {v : Value} (hb : Boxed w B t v) (hn : ¬ G B) : Boxed w' B t v := (h.block B hb.lt hn).trans hb
theorem Fr.lim (h : Fr G w w') {q : IntKind} {ad : Option Addr} {n cap : Nat} {l : List Nat} (hl : Lim q w (.slice ad n cap) l) (hn : ∀ b off, ad = some ⟨b, off, none⟩ → b < w.heap.size → ¬ G b) : Lim q w' (.slice ad n cap) l := by
  obtain ⟨ad', cap', e, h1, h2⟩ := hl
  cases e
  refine ⟨ad, cap, rfl, h1, fun hne => ?_⟩
  obtain ⟨b, off, rfl, hb, hc⟩ := h2 hne
  exact ⟨b, off, rfl, Nat.lt_of_lt_of_le hb h.size, fun j hj => (h.cell (p := ⟨b, off + j, none⟩) hb (hn b off rfl hb)).trans (hc j hj)⟩
theorem Fr.owns (h : Fr G w w') {base : Nat} {e : TypeId} {size : Nat} {g n cap : Nat} {xs : List Value} (ho : w.ownsRow base e size (.slice (some ⟨g, 0, none⟩) n cap) n xs) (hn : ¬ G g) : w'.ownsRow base e size (.slice (some ⟨g, 0, none⟩) n cap) n xs := by
  refine ⟨ho.1, ?_⟩
  rcases ho.2 with ⟨h', _⟩ | ⟨g', cap', cur, h', hb, hg, rest⟩
  · cases h'
  · cases h'
    exact .inr ⟨g, cap, cur, rfl, hb, (h.block g (Array.getElem?_eq_some_iff.1 hg).1 hn).trans hg, rest⟩
/-- it abides what the law of a range asks. -/
theorem ownFrom_fr {β : Type} {B : Nat} {w₀ : World} (hB : w₀.heap.size ≤ B) : OwnFrom B (fun (_ : β) W => Fr G w₀ W) := fun _ _ _ _ hs hg hr =>
  hs.trans (G' := fun k => B ≤ k) (Fr.of_grown hg (fun k _ e => (hr k e).1)) (fun i hi h9 => by omega)
theorem owns_own {W W' : World} {row : Option Nat} {base : Nat} {e : TypeId} {size : Nat} {v : Value} {n : Nat} {xs : List Value} (h : W.ownsRow base e size v n xs) (hg : W.grownBy W' row)
    (hrow : ∀ r, row = some r → ∃ o : Obj, W.heap[r]? = some o ∧ o.isCells = false) : W'.ownsRow base e size v n xs := by
  refine ⟨h.1, ?_⟩
  rcases h.2 with h' | ⟨g, cap, cur, hv, hb, hc, rest⟩
  · exact .inl h'
  · exact .inr ⟨g, cap, cur, hv, hb, (grownBy_keeps_cells hg hrow hc rfl).trans hc, rest⟩
theorem boxed_keep {W W' : World} {row : Option Nat} {B : Nat} {t : TypeId} {v : Value} (h : Boxed W B t v) (hg : W.grownBy W' row) (hrow : ∀ r, row = some r → ∃ o : Obj, W.heap[r]? = some o ∧ o.isCells = false) : Boxed W' B t v :=
  (grownBy_keeps_cells hg hrow h rfl).trans h

/-! ### rows that are owned -/
/-- the block g holds limbs, from its first cell on; it may be written. -/
abbrev Own64 (w : World) (base g n cap : Nat) (l : List Nat) : Prop := w.ownsRow base 64 1 (.slice (some ⟨g, 0, none⟩) n cap) n (l.map encU)
theorem Own64.len {base g n cap : Nat} {l : List Nat} (h : Own64 w base g n cap l) : l.length = n := by have := h.1; simpa using this
theorem Own64.lt {base g n cap : Nat} {l : List Nat} (h : Own64 w base g n cap l) : base ≤ g ∧ g < w.heap.size := World.ownsRow.lt h g rfl
theorem Own64.cap {base g n cap : Nat} {l : List Nat} (h : Own64 w base g n cap l) : n ≤ cap := by
  rcases h.2 with ⟨h', _⟩ | ⟨g', cap', cur, h', hb, hg, h1, _⟩
  · cases h'
  · cases h'; exact h1
theorem Own64.cell {base g n cap : Nat} {l : List Nat} (h : Own64 w base g n cap l) {j : Nat} (hj : j < n) : w.cell? ⟨g, j, none⟩ = some (.int .u64 (l.getD j 0 : Nat)) := by
  have hl := h.len
  rw [h.cellAt j (by omega)]
  simp [List.getD, show j < l.length by omega, encU]
theorem Own64.frozen {base g n cap : Nat} {l : List Nat} (h : Own64 w base g n cap l) (j : Nat) : w.frozen? ⟨g, j, none⟩ = false := h.frozenAt j
theorem Own64.row {base g n cap : Nat} {l : List Nat} (h : Own64 w base g n cap l) : RowU w (.slice (some ⟨g, 0, none⟩) n cap) l := by
  have hl := h.len
  subst hl
  exact RowU.of_owns h
theorem Own64.set {base g n cap : Nat} {l : List Nat} (h : Own64 w base g n cap l) (j x : Nat) : Own64 (w.setCell ⟨g, j, none⟩ (.int .u64 (x : Int))) base g n cap (l.set j x) := by
  have h1 := (h.stored j (.int .u64 (x : Int))).1
  rw [show (.int .u64 (x : Int) : Value) = encU x from rfl, ← List.map_set] at h1
  exact h1
/-- cut shorter. -/
theorem Own64.take {base g n cap k : Nat} {l : List Nat} (h : Own64 w base g n cap l) (hk : k ≤ n) : Own64 w base g k cap (l.take k) := by
  have hl := h.len
  refine ⟨by rw [List.length_map, List.length_take]; omega, ?_⟩
  rcases h.2 with ⟨h', _⟩ | ⟨g', cap', cur, h', hb, hg, h1, h2, h3, h4⟩
  · cases h'
  · cases h'
    refine .inr ⟨g, cap, cur, rfl, hb, hg, by omega, h2, h3, ?_⟩
    rw [Nat.mul_one] at h4 ⊢
    rw [List.map_take, ← h4, List.take_take, Nat.min_eq_left hk]
/-- a piece of it, as a slice. -/
theorem Own64.sub {base g n cap : Nat} {l : List Nat} (h : Own64 w base g n cap l) {i k c : Nat} (hik : i + k ≤ n) (hc : k ≤ c) : RowU w (.slice (some ⟨g, i, none⟩) k c) ((l.drop i).take k) := by
  have hl := h.len
  have hlen : ((l.drop i).take k).length = k := by rw [List.length_take, List.length_drop]; omega
  refine ⟨_, c, by rw [hlen], by omega, fun _ => ⟨g, i, rfl, h.lt.2, fun j hj => ?_⟩⟩
  rw [hlen] at hj
  rw [h.cell (by omega)]
  have e : ((l.drop i).take k).getD j 0 = l.getD (i + j) 0 := by simp [List.getD, List.getElem?_take_of_lt hj]
  rw [e]
end Go.Proofs.YtnfoblmfjldheaaDoor
