/-
  The ring set in memory, and the document's; what stays of them. No condition.
-/
import Derived.Test.YtglnjpbjlcbgoaaVa
import Derived.Test.YtglnjpbjlcbgoaaRd
import Derived.Test.YtglnjpbjlcbgoaaProg
import Derived.Laws.Rows
import Derived.Laws.Tables
import Derived.Laws.ResultCell
import Derived.Laws.OwnMore
import Derived.Maps.AppendAt
import Derived.RangeFuncBox
import Derived.WalkSpells
import Derived.WalkLawsBesides
import Derived.Lib.Hide
import Derived.Deep.MidRow
namespace Go.Proofs.Ytglnjpbjlcbgoaa
open Go.RowKit

def enc1 (x : Nat) : Value := .int .i64 (x : Int)
def encI (l : List Nat) : List Value := l.map enc1
theorem encI_len (l : List Nat) : (encI l).length = l.length := by simp [encI]
theorem encI_get {l : List Nat} {j : Nat} (h : j < l.length) : (encI l)[j]? = some (.int .i64 (l.getD j 0 : Nat)) := by
  simp [encI, enc1, List.getD, h]
theorem encI_one (l : List Nat) : ∀ u ∈ encI l, u.oneCell' = true := by
  intro u hu
  simp [encI] at hu
  obtain ⟨x, _, rfl⟩ := hu
  rfl

/-- nothing but the block b has turned. -/
structure Turn (b : Nat) (w w' : World) : Prop where
  os : w'.os = w.os
  tape : w'.tape = w.tape
  output : w'.output = w.output
  size : w'.heap.size = w.heap.size
  block : ∀ k, k ≠ b → w'.heap[k]? = w.heap[k]?
theorem Turn.below {b B : Nat} {w w' : World} (h : Turn b w w') (hb : B ≤ b) : Below B w w' := ⟨h.os, h.tape, h.output, by rw [h.size]; exact Nat.le_refl _, fun k hk => h.block k (by omega)⟩
theorem Turn.setCell (w : World) (b i : Nat) (v : Value) : Turn b w (w.setCell ⟨b, i, none⟩ v) := ⟨rfl, rfl, rfl, by simp [World.setCell], fun k hk => heap_setCell_other w ⟨b, i, none⟩ k v hk⟩
theorem Turn.setRow (w : World) (b : Nat) (c : Array Value) : Turn b w (w.setRow b c) := ⟨rfl, rfl, rfl, by simp, fun k hk => setRow_other w b k c hk⟩
/-- of what was there, just the block g may have turned. -/
structure Only (g : Nat) (w w' : World) : Prop where
  os : w'.os = w.os
  tape : w'.tape = w.tape
  output : w'.output = w.output
  size : w.heap.size ≤ w'.heap.size
  block : ∀ k, k < w.heap.size → k ≠ g → w'.heap[k]? = w.heap[k]?
section
variable {g : Nat} {w w' w'' : World}
theorem Only.of_below (h : Below w.heap.size w w') : Only g w w' := ⟨h.os, h.tape, h.output, h.size, fun k hk _ => h.block k hk⟩
theorem Only.refl (g : Nat) (w : World) : Only g w w := Only.of_below (Below.refl _ w)
theorem Only.of_turn (h : Turn g w w') : Only g w w' := ⟨h.os, h.tape, h.output, by rw [h.size]; exact Nat.le_refl _, fun k _ hk => h.block k hk⟩
theorem Only.of_turn_new {b : Nat} (h : Turn b w w') (hb : w.heap.size ≤ b) : Only g w w' := ⟨h.os, h.tape, h.output, by rw [h.size]; exact Nat.le_refl _, fun k hk _ => h.block k (by omega)⟩
theorem Only.trans (h : Only g w w') (h' : Only g w' w'') : Only g w w'' := ⟨h'.os.trans h.os, h'.tape.trans h.tape, h'.output.trans h.output, Nat.le_trans h.size h'.size, fun k hk hg => (h'.block k (Nat.lt_of_lt_of_le hk h.size) hg).trans (h.block k hk hg)⟩
theorem Only.below {B : Nat} (h : Only g w w') (hB : B ≤ w.heap.size) (hg : B ≤ g) : Below B w w' := ⟨h.os, h.tape, h.output, h.size, fun k hk => h.block k (by omega) (by omega)⟩
end
/-- memory as it was (orders may have been drawn). -/
structure Same (w w' : World) : Prop where
  os : w'.os = w.os
  tape : w'.tape = w.tape
  output : w'.output = w.output
  heap : w'.heap = w.heap
section
variable {w w' w'' : World}
theorem Same.refl (w : World) : Same w w := ⟨rfl, rfl, rfl, rfl⟩
theorem Same.drew (w : World) : Same w w.drew := ⟨rfl, rfl, rfl, rfl⟩
theorem Same.trans (h : Same w w') (h' : Same w' w'') : Same w w'' := ⟨h'.os.trans h.os, h'.tape.trans h.tape, h'.output.trans h.output, h'.heap.trans h.heap⟩
theorem Same.below (h : Same w w') (B : Nat) : Below B w w' := ⟨h.os, h.tape, h.output, by rw [h.heap]; exact Nat.le_refl _, fun k _ => by rw [h.heap]⟩
theorem Same.size (h : Same w w') : w'.heap.size = w.heap.size := by rw [h.heap]
theorem Same.only (h : Same w w') (g : Nat) : Only g w w' := Only.of_below (h.below _)
theorem Same.cell (h : Same w w') (a : Addr) : w'.cell? a = w.cell? a := by unfold World.cell?; rw [h.heap]
end
/-- at p lies a ring set of N nodes and M lists, whose links lie in g. -/
structure IsR (w : World) (p g c N M : Nat) (S : Ln) : Prop where
  ptr : w.heap[p]? = some (.cells #[.int .i64 (N : Int), .slice (some ⟨g, 0, none⟩) (N + M) c] 53 (0, 0))
  row : ∃ cur : Array Value, w.heap[g]? = some (.cells cur 55 (0, 0)) ∧ 3 * (N + M) ≤ cur.size ∧ ∀ j, j < N + M → cur[j * 3]? = some (.int .i64 (S.pv j)) ∧ cur[j * 3 + 1]? = some (.int .i64 (S.nx j)) ∧ cur[j * 3 + 2]? = some (.int .i64 (S.li j))
  ne : p ≠ g
  cap : N + M ≤ c
section
variable {w w' : World} {p g c N M : Nat} {S : Ln}
theorem IsR.ltp (h : IsR w p g c N M S) : p < w.heap.size := (Array.getElem?_eq_some_iff.1 h.ptr).1
theorem IsR.ltg (h : IsR w p g c N M S) : g < w.heap.size := by obtain ⟨cur, h1, _⟩ := h.row; exact (Array.getElem?_eq_some_iff.1 h1).1
theorem IsR.same (h : IsR w p g c N M S) (h1 : w'.heap[p]? = w.heap[p]?) (h2 : w'.heap[g]? = w.heap[g]?) : IsR w' p g c N M S :=
  ⟨by rw [h1]; exact h.ptr, by rw [h2]; exact h.row, h.ne, h.cap⟩
theorem IsR.below {B : Nat} (h : IsR w p g c N M S) (hb : Below B w w') (hp : p < B) (hg : g < B) : IsR w' p g c N M S := h.same (hb.block p hp) (hb.block g hg)
theorem IsR.belowS (h : IsR w p g c N M S) (hb : Below w.heap.size w w') : IsR w' p g c N M S := h.below hb h.ltp h.ltg
theorem IsR.alloc (h : IsR w p g c N M S) (o : Obj) : IsR (w.alloc o) p g c N M S := h.same (heap_alloc_old w o _ h.ltp) (heap_alloc_old w o _ h.ltg)
theorem IsR.turn {b : Nat} (h : IsR w p g c N M S) (ht : Turn b w w') (hp : p ≠ b) (hg : g ≠ b) : IsR w' p g c N M S := h.same (ht.block p hp) (ht.block g hg)
theorem IsR.drew (h : IsR w p g c N M S) : IsR w.drew p g c N M S := h.same rfl rfl
theorem IsR.sm (h : IsR w p g c N M S) (hs : Same w w') : IsR w' p g c N M S := h.same (by rw [hs.heap]) (by rw [hs.heap])
theorem IsR.c0 (h : IsR w p g c N M S) : w.cell? ⟨p, 0, none⟩ = some (.int .i64 (N : Int)) := by
  rw [cell_of_row w p 0 _ 53 (0, 0) h.ptr]; rfl
theorem IsR.c1 (h : IsR w p g c N M S) : w.cell? ⟨p, 1, none⟩ = some (.slice (some ⟨g, 0, none⟩) (N + M) c) := by
  rw [cell_of_row w p 1 _ 53 (0, 0) h.ptr]; rfl
theorem IsR.fg (h : IsR w p g c N M S) (i : Nat) : w.frozen? ⟨g, i, none⟩ = false := by obtain ⟨cur, h1, _⟩ := h.row; exact frozen_of_row w g i _ 55 h1
theorem IsR.gp (h : IsR w p g c N M S) {j : Nat} (hj : j < N + M) : w.cell? ⟨g, j * 3, none⟩ = some (.int .i64 (S.pv j)) := by
  obtain ⟨cur, h1, _, h2⟩ := h.row
  rw [cell_of_row w g _ _ 55 (0, 0) h1]; exact (h2 j hj).1
theorem IsR.gn (h : IsR w p g c N M S) {j : Nat} (hj : j < N + M) : w.cell? ⟨g, j * 3 + 1, none⟩ = some (.int .i64 (S.nx j)) := by
  obtain ⟨cur, h1, _, h2⟩ := h.row
  rw [cell_of_row w g _ _ 55 (0, 0) h1]; exact (h2 j hj).2.1
theorem IsR.gl (h : IsR w p g c N M S) {j : Nat} (hj : j < N + M) : w.cell? ⟨g, j * 3 + 2, none⟩ = some (.int .i64 (S.li j)) := by
  obtain ⟨cur, h1, _, h2⟩ := h.row
  rw [cell_of_row w g _ _ 55 (0, 0) h1]; exact (h2 j hj).2.2
theorem IsR.range (h : IsR w p g c N M S) {j : Nat} (hj : j < N + M) : w.rangeAt g (j * 3) [.int .i64 (S.pv j), .int .i64 (S.nx j), .int .i64 (S.li j)] := by
  intro i v hi
  match i with
  | 0 => simp at hi; subst hi; exact h.gp hj
  | 1 => simp at hi; subst hi; exact h.gn hj
  | 2 => simp at hi; subst hi; exact h.gl hj
  | n + 3 => simp at hi
theorem IsR.put (h : IsR w p g c N M S) (i : Nat) (v : Value) (S' : Ln)
    (hs : ∀ j, j < N + M → (if j * 3 = i then some v else some (.int .i64 (S.pv j))) = some (Value.int .i64 (S'.pv j)) ∧ (if j * 3 + 1 = i then some v else some (.int .i64 (S.nx j))) = some (Value.int .i64 (S'.nx j)) ∧ (if j * 3 + 2 = i then some v else some (.int .i64 (S.li j))) = some (Value.int .i64 (S'.li j))) :
    IsR (w.setCell ⟨g, i, none⟩ v) p g c N M S' := by
  obtain ⟨cur, h1, h2, h3⟩ := h.row
  refine ⟨by rw [heap_setCell_other w ⟨g, i, none⟩ p _ h.ne]; exact h.ptr, ⟨_, heap_setCell_same w g i _ 55 _ h1, by simpa using h2, fun j hj => ?_⟩, h.ne, h.cap⟩
  have hs := hs j hj
  obtain ⟨a1, a2, a3⟩ := h3 j hj
  simp only [Array.getElem?_setIfInBounds]
  refine ⟨?_, ?_, ?_⟩
  · rw [← hs.1]; by_cases e : j * 3 = i
    · subst e; rw [if_pos rfl, if_pos rfl, if_pos (by omega)]
    · rw [if_neg (fun h => e h.symm), if_neg e, a1]
  · rw [← hs.2.1]; by_cases e : j * 3 + 1 = i
    · subst e; rw [if_pos rfl, if_pos rfl, if_pos (by omega)]
    · rw [if_neg (fun h => e h.symm), if_neg e, a2]
  · rw [← hs.2.2]; by_cases e : j * 3 + 2 = i
    · subst e; rw [if_pos rfl, if_pos rfl, if_pos (by omega)]
    · rw [if_neg (fun h => e h.symm), if_neg e, a3]
theorem IsR.setP (h : IsR w p g c N M S) (k : Nat) (x : Int) : IsR (w.setCell ⟨g, k * 3, none⟩ (.int .i64 x)) p g c N M ⟨upd S.pv k x, S.nx, S.li⟩ := h.put _ _ _ fun j _ => by
  refine ⟨?_, if_neg (by omega), if_neg (by omega)⟩
  unfold upd; by_cases e : j = k
  · subst e; simp
  · rw [if_neg (by omega)]; simp only [if_neg e]
theorem IsR.setN (h : IsR w p g c N M S) (k : Nat) (x : Int) : IsR (w.setCell ⟨g, k * 3 + 1, none⟩ (.int .i64 x)) p g c N M ⟨S.pv, upd S.nx k x, S.li⟩ := h.put _ _ _ fun j _ => by
  refine ⟨if_neg (by omega), ?_, if_neg (by omega)⟩
  unfold upd; by_cases e : j = k
  · subst e; simp
  · rw [if_neg (by omega)]; simp only [if_neg e]
theorem IsR.setL (h : IsR w p g c N M S) (k : Nat) (x : Int) : IsR (w.setCell ⟨g, k * 3 + 2, none⟩ (.int .i64 x)) p g c N M ⟨S.pv, S.nx, upd S.li k x⟩ := h.put _ _ _ fun j _ => by
  refine ⟨if_neg (by omega), if_neg (by omega), ?_⟩
  unfold upd; by_cases e : j = k
  · subst e; simp
  · rw [if_neg (by omega)]; simp only [if_neg e]
theorem IsR.there (h : IsR w p g c N M S) {j : Nat} (hj : j < N + M) : w.there g (j * 3) 3 := by
  intro i hi
  refine ⟨?_, h.fg _⟩
  match i with
  | 0 => rw [Nat.add_zero, h.gp hj]; rfl
  | 1 => rw [h.gn hj]; rfl
  | 2 => rw [h.gl hj]; rfl
  | n + 3 => omega
theorem IsR.set3 (h : IsR w p g c N M S) (k : Nat) (x y z : Int) : IsR (w.setCells g (k * 3) [.int .i64 x, .int .i64 y, .int .i64 z]) p g c N M ⟨upd S.pv k x, upd S.nx k y, upd S.li k z⟩ := ((h.setP k x).setN k y).setL k z
theorem Turn.trans {b : Nat} {w w' w'' : World} (h : Turn b w w') (h' : Turn b w' w'') : Turn b w w'' := ⟨h'.os.trans h.os, h'.tape.trans h.tape, h'.output.trans h.output, h'.size.trans h.size, fun k hk => (h'.block k hk).trans (h.block k hk)⟩
theorem Turn.set3 (w : World) (b o : Nat) (x y z : Value) : Turn b w (w.setCells b o [x, y, z]) := ((Turn.setCell w b o x).trans (Turn.setCell _ b (o + 1) y)).trans (Turn.setCell _ b (o + 2) z)
end
/-- a row of values of one cell that lies in a block of its own, from B on. -/
def RowV (w : World) (B e : Nat) (v : Value) (xs : List Value) : Prop := w.ownsRow B e 1 v xs.length xs
section
variable {w w' : World} {B e : Nat} {v : Value} {xs : List Value}
theorem RowV.sl (h : RowV w B e v xs) : ∃ a c, v = .slice a xs.length c := by
  rcases h.2 with ⟨rfl, h1⟩ | ⟨g, cap, cur, rfl, _⟩
  · exact ⟨none, 0, by rw [h1]⟩
  · exact ⟨_, cap, rfl⟩
theorem RowV.cap (h : RowV w B e v xs) : ∃ a c, v = .slice a xs.length c ∧ xs.length ≤ c ∧ c ≤ maxLen := by
  rcases h.2 with ⟨rfl, h1⟩ | ⟨g, cap, cur, rfl, _, _, h3, h4, _⟩
  · exact ⟨none, 0, by rw [h1], by omega, by unfold maxLen; omega⟩
  · exact ⟨_, cap, rfl, h3, h4⟩
theorem RowV.same (h : RowV w B e v xs) (hs : ∀ b cur, w.heap[b]? = some (.cells cur e (0, 0)) → B ≤ b → w'.heap[b]? = w.heap[b]?) : RowV w' B e v xs := by
  refine ⟨h.1, ?_⟩
  rcases h.2 with ⟨rfl, h1⟩ | ⟨g, cap, cur, rfl, hbg, hg, h3⟩
  · exact .inl ⟨rfl, h1⟩
  · exact .inr ⟨g, cap, cur, rfl, hbg, by rw [hs g cur hg hbg]; exact hg, h3⟩
theorem RowV.below (h : RowV w B e v xs) (hb : Below w.heap.size w w') : RowV w' B e v xs := h.same fun b _ hg _ => hb.block b (Array.getElem?_eq_some_iff.1 hg).1
theorem RowV.alloc (h : RowV w B e v xs) (o : Obj) : RowV (w.alloc o) B e v xs := h.below ((Below.refl _ w).alloc (Nat.le_refl _) o)
/-- a block of another type may turn. -/
theorem ne_type {c t e b : Nat} {cs cur : Array Value} (hc : w.heap[c]? = some (.cells cs t (0, 0))) (hne : t ≠ e) (hb : w.heap[b]? = some (.cells cur e (0, 0))) : b ≠ c := by
  rintro rfl
  rw [hb] at hc
  injection hc with h1
  injection h1 with _ h2 _
  exact hne h2.symm
theorem RowV.turn {c t : Nat} {cs : Array Value} (h : RowV w B e v xs) (ht : Turn c w w') (hc : w.heap[c]? = some (.cells cs t (0, 0))) (hne : t ≠ e) : RowV w' B e v xs := h.same fun b _ hb _ => ht.block b (ne_type hc hne hb)
theorem RowV.only {g t : Nat} {cs : Array Value} (h : RowV w B e v xs) (ho : Only g w w') (hc : w.heap[g]? = some (.cells cs t (0, 0))) (hne : t ≠ e) : RowV w' B e v xs := h.same fun b _ hb _ => ho.block b (Array.getElem?_eq_some_iff.1 hb).1 (ne_type hc hne hb)
theorem RowV.mono {C : Nat} (h : RowV w B e v xs) (hC : C ≤ B) : RowV w C e v xs := by
  refine ⟨h.1, ?_⟩
  rcases h.2 with ⟨rfl, h1⟩ | ⟨g, cap, cur, rfl, hbg, h3⟩
  · exact .inl ⟨rfl, h1⟩
  · exact .inr ⟨g, cap, cur, rfl, by omega, h3⟩
theorem RowV.at {a : Option Addr} {n c : Nat} (h : RowV w B e (.slice a n c) xs) {j : Nat} (hj : j < xs.length) : ∃ b, a = some ⟨b, 0, none⟩ ∧ B ≤ b ∧ b < w.heap.size ∧ w.cell? ⟨b, j, none⟩ = xs[j]? ∧ w.frozen? ⟨b, j, none⟩ = false := by
  rcases h.2 with ⟨_, h1⟩ | ⟨g, cap, cur, e', hbg, hg, _, _, _, htake⟩
  · omega
  · cases e'
    refine ⟨g, rfl, hbg, (Array.getElem?_eq_some_iff.1 hg).1, ?_, frozen_of_row w g j _ e hg⟩
    rw [cell_of_row w g j _ e (0, 0) hg]
    conv => rhs; rw [← htake]
    rw [List.getElem?_take_of_lt (by omega)]
    simp
theorem RowV.nil (w : World) (B e : Nat) : RowV w B e (.slice none 0 0) [] := World.ownsRow_nil _ _ _ _
theorem RowV.put {b n c : Nat} (h : RowV w B e (.slice (some ⟨b, 0, none⟩) n c) xs) (i : Nat) (x : Value) : RowV (w.setCell ⟨b, i, none⟩ x) B e (.slice (some ⟨b, 0, none⟩) n c) (xs.set i x) := by
  have hl := h.1
  rcases h.2 with ⟨h0, _⟩ | ⟨g, cap, cur, e', hbg, hg, h3, h4, h5, htake⟩
  · cases h0
  · cases e'
    refine ⟨by omega, .inr ⟨b, c, _, by rw [List.length_set], hbg, heap_setCell_same w b i _ e _ hg, by rw [List.length_set]; exact h3, h4, by rw [Array.size_setIfInBounds]; exact h5, ?_⟩⟩
    rw [List.length_set, Array.toList_setIfInBounds, List.take_set, htake]
theorem RowV.empty (w : World) (B e : Nat) (hB : B ≤ w.heap.size) : RowV (w.alloc (.cells #[] e)) B e (.slice (some ⟨w.heap.size, 0, none⟩) 0 0) [] := World.ownsRow_made w #[] 0 hB (by omega) rfl
end
/-- a row of nodes that lies in a block of its own, from B on. -/
abbrev RowO (w : World) (B : Nat) (v : Value) (l : List Nat) : Prop := RowV w B 3 v (encI l)
theorem RowV.atI {w : World} {B : Nat} {a : Option Addr} {n c : Nat} {l : List Nat} (h : RowV w B 3 (.slice a n c) (encI l)) {j : Nat} (hj : j < l.length) : ∃ b, a = some ⟨b, 0, none⟩ ∧ w.cell? ⟨b, j, none⟩ = some (.int .i64 (l.getD j 0 : Nat)) := by
  obtain ⟨b, e, _, _, hc, _⟩ := h.at (j := j) (by rw [encI_len]; exact hj)
  exact ⟨b, e, by rw [hc, encI_get hj]⟩
/-- the document's lists, as a row of rows, from B on. -/
def Doc (w : World) (B : Nat) (v : Value) (ls : List (List Nat)) : Prop := ∃ vs : List Value, vs.length = ls.length ∧ RowV w B 43 v vs ∧ ∀ k, k < ls.length → ∃ u, vs[k]? = some u ∧ RowO w B u (row ls k)
section
variable {w w' : World} {B : Nat} {v : Value} {ls : List (List Nat)}
theorem Doc.same (h : Doc w B v ls) (hs : ∀ b cur e, e = 43 ∨ e = 3 → w.heap[b]? = some (.cells cur e (0, 0)) → B ≤ b → w'.heap[b]? = w.heap[b]?) : Doc w' B v ls := by
  obtain ⟨vs, h1, h2, h3⟩ := h
  refine ⟨vs, h1, h2.same fun b cur hb hB => hs b cur 43 (.inl rfl) hb hB, fun k hk => ?_⟩
  obtain ⟨u, h4, h5⟩ := h3 k hk
  exact ⟨u, h4, h5.same fun b cur hb hB => hs b cur 3 (.inr rfl) hb hB⟩
theorem Doc.below (h : Doc w B v ls) (hb : Below w.heap.size w w') : Doc w' B v ls := h.same fun b _ _ _ hg _ => hb.block b (Array.getElem?_eq_some_iff.1 hg).1
theorem Doc.sm (h : Doc w B v ls) (hs : Same w w') : Doc w' B v ls := h.below (hs.below _)
theorem Doc.alloc (h : Doc w B v ls) (o : Obj) : Doc (w.alloc o) B v ls := h.below ((Below.refl _ w).alloc (Nat.le_refl _) o)
theorem Doc.turn {c t : Nat} {cs : Array Value} (h : Doc w B v ls) (ht : Turn c w w') (hc : w.heap[c]? = some (.cells cs t (0, 0))) (hne : t ≠ 43) (hne' : t ≠ 3) : Doc w' B v ls := h.same fun b _ e he hb _ => ht.block b (ne_type hc (by rcases he with rfl | rfl <;> assumption) hb)
theorem Doc.only {g t : Nat} {cs : Array Value} (h : Doc w B v ls) (ho : Only g w w') (hc : w.heap[g]? = some (.cells cs t (0, 0))) (hne : t ≠ 43) (hne' : t ≠ 3) : Doc w' B v ls := h.same fun b _ e he hb _ => ho.block b (Array.getElem?_eq_some_iff.1 hb).1 (ne_type hc (by rcases he with rfl | rfl <;> assumption) hb)
/-- behind acts of the program's. -/
theorem Doc.onlyR {p g c N M : Nat} {S : Ln} (h : Doc w B v ls) (ho : Only g w w') (hr : IsR w p g c N M S) : Doc w' B v ls := by
  obtain ⟨cur, h1, _⟩ := hr.row
  exact h.only ho h1 (by decide) (by decide)
theorem Doc.mono {C : Nat} (h : Doc w B v ls) (hC : C ≤ B) : Doc w C v ls := by
  obtain ⟨vs, h1, h2, h3⟩ := h
  refine ⟨vs, h1, h2.mono hC, fun k hk => ?_⟩
  obtain ⟨u, h4, h5⟩ := h3 k hk
  exact ⟨u, h4, h5.mono hC⟩
theorem Doc.sl (h : Doc w B v ls) : ∃ a c, v = .slice a ls.length c := by
  obtain ⟨vs, h1, h2, _⟩ := h
  obtain ⟨a, c, e⟩ := h2.sl
  exact ⟨a, c, by rw [e, h1]⟩
theorem Doc.at {a : Option Addr} {n c : Nat} (h : Doc w B (.slice a n c) ls) {k : Nat} (hk : k < ls.length) : ∃ b a' c', a = some ⟨b, 0, none⟩ ∧ B ≤ b ∧ w.cell? ⟨b, k, none⟩ = some (.slice a' (row ls k).length c') ∧ (row ls k).length ≤ c' ∧ c' ≤ maxLen ∧ RowO w B (.slice a' (row ls k).length c') (row ls k) := by
  obtain ⟨vs, h1, h2, h3⟩ := h
  obtain ⟨b, e, hb, _, hc, _⟩ := h2.at (j := k) (by omega)
  obtain ⟨u, h4, h5⟩ := h3 k hk
  obtain ⟨a', c', rfl, h6, h7⟩ := h5.cap
  rw [encI_len] at h5 h6 h4
  exact ⟨b, a', c', e, hb, by rw [hc, h4], h6, h7, h5⟩
end
/-- in b lies the document's ring set. -/
def IsT (w : World) (b : Nat) (m : Int) (v : Value) : Prop := w.heap[b]? = some (.cells #[.int .i64 m, v] 30 (0, 0))
def IsA (w : World) (b : Nat) (k m n : Int) : Prop := w.heap[b]? = some (.cells #[.int .u8 k, .int .i64 m, .int .i64 n] 34 (0, 0))
def IsK (w : World) (b : Nat) (x y z : Int) : Prop := w.heap[b]? = some (.cells #[.int .i64 x, .int .i64 y, .int .i64 z] 55 (0, 0))
theorem Try.info30 : (Try.prog.info? 30).map (·.size) = some 2 := by kernel_rfl
theorem Try.info34 : (Try.prog.info? 34).map (·.size) = some 3 := by kernel_rfl
theorem Try.info53 : (Try.prog.info? 53).map (·.size) = some 2 := by kernel_rfl
theorem Try.info55 : (Try.prog.info? 55).map (fun i => (i.zero, i.size, i.bytes)) = some (some (.agg #[.int .i64 0, .int .i64 0, .int .i64 0]), 3, 24) := by kernel_rfl
theorem Try.size55 : (Try.prog.info? 55).map (·.size) = some 3 := by kernel_rfl
theorem Try.info3 : (Try.prog.info? 3).map (fun i => (i.zero, i.size, i.bytes)) = some (some (.int .i64 0), 1, 8) := by kernel_rfl
theorem Try.info43 : (Try.prog.info? 43).map (fun i => (i.zero, i.size, i.bytes)) = some (some (.slice none 0 0), 1, 24) := by kernel_rfl
section
variable {w w' : World} {b : Nat} {v : Value} {m k n : Int}
theorem IsT.lt (h : IsT w b m v) : b < w.heap.size := (Array.getElem?_eq_some_iff.1 h).1
theorem IsT.below {B : Nat} (h : IsT w b m v) (hb : Below B w w') (hlt : b < B) : IsT w' b m v := (hb.block b hlt).trans h
theorem IsT.belowS (h : IsT w b m v) (hb : Below w.heap.size w w') : IsT w' b m v := h.below hb h.lt
theorem IsT.alloc (h : IsT w b m v) (o : Obj) : IsT (w.alloc o) b m v := (heap_alloc_old w o _ h.lt).trans h
theorem IsT.turn {d : Nat} (h : IsT w b m v) (ht : Turn d w w') (hne : b ≠ d) : IsT w' b m v := (ht.block b hne).trans h
theorem IsT.only {g : Nat} (h : IsT w b m v) (ho : Only g w w') (hg : b ≠ g) : IsT w' b m v := (ho.block b h.lt hg).trans h
theorem IsT.sm (h : IsT w b m v) (hs : Same w w') : IsT w' b m v := h.belowS (hs.below _)
theorem IsT.drew (h : IsT w b m v) : IsT w.drew b m v := h
theorem IsT.c0 (h : IsT w b m v) : w.cell? ⟨b, 0, none⟩ = some (.int .i64 m) := by rw [cell_of_row w b 0 _ 30 (0, 0) h]; rfl
theorem IsT.c1 (h : IsT w b m v) : w.cell? ⟨b, 1, none⟩ = some (v) := by rw [cell_of_row w b 1 _ 30 (0, 0) h]; rfl
theorem IsT.f (h : IsT w b m v) (i : Nat) : w.frozen? ⟨b, i, none⟩ = false := frozen_of_row w b i _ 30 h
theorem IsT.new (w : World) (m : Int) (v : Value) : IsT (w.alloc (.cells #[.int .i64 m, v] 30)) w.heap.size m v := heap_alloc_new w _
theorem IsA.lt (h : IsA w b k m n) : b < w.heap.size := (Array.getElem?_eq_some_iff.1 h).1
theorem IsA.below {B : Nat} (h : IsA w b k m n) (hb : Below B w w') (hlt : b < B) : IsA w' b k m n := (hb.block b hlt).trans h
theorem IsA.belowS (h : IsA w b k m n) (hb : Below w.heap.size w w') : IsA w' b k m n := h.below hb h.lt
theorem IsA.alloc (h : IsA w b k m n) (o : Obj) : IsA (w.alloc o) b k m n := (heap_alloc_old w o _ h.lt).trans h
theorem IsA.turn {d : Nat} (h : IsA w b k m n) (ht : Turn d w w') (hne : b ≠ d) : IsA w' b k m n := (ht.block b hne).trans h
theorem IsA.only {g : Nat} (h : IsA w b k m n) (ho : Only g w w') (hg : b ≠ g) : IsA w' b k m n := (ho.block b h.lt hg).trans h
theorem IsA.sm (h : IsA w b k m n) (hs : Same w w') : IsA w' b k m n := h.belowS (hs.below _)
theorem IsA.drew (h : IsA w b k m n) : IsA w.drew b k m n := h
theorem IsA.c0 (h : IsA w b k m n) : w.cell? ⟨b, 0, none⟩ = some (.int .u8 k) := by rw [cell_of_row w b 0 _ 34 (0, 0) h]; rfl
theorem IsA.c1 (h : IsA w b k m n) : w.cell? ⟨b, 1, none⟩ = some (.int .i64 m) := by rw [cell_of_row w b 1 _ 34 (0, 0) h]; rfl
theorem IsA.c2 (h : IsA w b k m n) : w.cell? ⟨b, 2, none⟩ = some (.int .i64 n) := by rw [cell_of_row w b 2 _ 34 (0, 0) h]; rfl
theorem IsA.f (h : IsA w b k m n) (i : Nat) : w.frozen? ⟨b, i, none⟩ = false := frozen_of_row w b i _ 34 h
theorem IsA.new (w : World) (k m n : Int) : IsA (w.alloc (.cells #[.int .u8 k, .int .i64 m, .int .i64 n] 34)) w.heap.size k m n := heap_alloc_new w _
theorem IsK.lt (h : IsK w b k m n) : b < w.heap.size := (Array.getElem?_eq_some_iff.1 h).1
theorem IsK.below {B : Nat} (h : IsK w b k m n) (hb : Below B w w') (hlt : b < B) : IsK w' b k m n := (hb.block b hlt).trans h
theorem IsK.belowS (h : IsK w b k m n) (hb : Below w.heap.size w w') : IsK w' b k m n := h.below hb h.lt
theorem IsK.alloc (h : IsK w b k m n) (o : Obj) : IsK (w.alloc o) b k m n := (heap_alloc_old w o _ h.lt).trans h
theorem IsK.turn {d : Nat} (h : IsK w b k m n) (ht : Turn d w w') (hne : b ≠ d) : IsK w' b k m n := (ht.block b hne).trans h
theorem IsK.only {g : Nat} (h : IsK w b k m n) (ho : Only g w w') (hg : b ≠ g) : IsK w' b k m n := (ho.block b h.lt hg).trans h
theorem IsK.sm (h : IsK w b k m n) (hs : Same w w') : IsK w' b k m n := h.belowS (hs.below _)
theorem IsK.drew (h : IsK w b k m n) : IsK w.drew b k m n := h
theorem IsK.c0 (h : IsK w b k m n) : w.cell? ⟨b, 0, none⟩ = some (.int .i64 k) := by rw [cell_of_row w b 0 _ 55 (0, 0) h]; rfl
theorem IsK.c1 (h : IsK w b k m n) : w.cell? ⟨b, 1, none⟩ = some (.int .i64 m) := by rw [cell_of_row w b 1 _ 55 (0, 0) h]; rfl
theorem IsK.c2 (h : IsK w b k m n) : w.cell? ⟨b, 2, none⟩ = some (.int .i64 n) := by rw [cell_of_row w b 2 _ 55 (0, 0) h]; rfl
theorem IsK.f (h : IsK w b k m n) (i : Nat) : w.frozen? ⟨b, i, none⟩ = false := frozen_of_row w b i _ 55 h
theorem IsK.new (w : World) (k m n : Int) : IsK (w.alloc (.cells #[.int .i64 k, .int .i64 m, .int .i64 n] 55)) w.heap.size k m n := heap_alloc_new w _
end
section
variable {ops : Array Oper} {rest : List Oper} {o : Oper} {a : Act} {w : World} {Q : Exit → Act → World → Prop}
theorem wpList_want {P : Program} (hw : Region.wanted o (yielded ops a.tmps) = true) (h : ∀ K : Act → World → Prop, (∀ a w, wpList P ops Q rest a w → K a w) → o.wp P a w K Q) : wpList P ops Q (o :: rest) a w := by
  rw [wpList, if_pos hw]
  exact .inl (h _ fun _ _ h => h)
theorem run_alloc30 (w : World) : (Instr.alloc 30 true (.tuple #[])).run Try.prog w = .ok (.pointer (some ⟨w.heap.size, 0, none⟩)) (w.alloc (.cells #[.int .i64 0, .slice none 0 0] 30)) := by kernel_rfl
theorem wpList_alloc30 (hg : o.guard = none) (ho : o.op = .alloc 30) (h : wpList Try.prog ops Q rest (a.put o.dst (.pointer (some ⟨w.heap.size, 0, none⟩))) (w.alloc (.cells #[.int .i64 0, .slice none 0 0] 30))) : wpList Try.prog ops Q (o :: rest) a w :=
  wpList_plain hg fun K hK => by
    unfold Oper.wp execOp
    rw [ho]
    simp only [run_alloc30, Sem.run_bind, Sem.run_pure, Result.andThen_ok]
    exact hK _ _ h
theorem run_alloc34 (w : World) : (Instr.alloc 34 true (.tuple #[])).run Try.prog w = .ok (.pointer (some ⟨w.heap.size, 0, none⟩)) (w.alloc (.cells #[.int .u8 0, .int .i64 0, .int .i64 0] 34)) := by kernel_rfl
theorem wpList_alloc34 (hg : o.guard = none) (ho : o.op = .alloc 34) (h : wpList Try.prog ops Q rest (a.put o.dst (.pointer (some ⟨w.heap.size, 0, none⟩))) (w.alloc (.cells #[.int .u8 0, .int .i64 0, .int .i64 0] 34))) : wpList Try.prog ops Q (o :: rest) a w :=
  wpList_plain hg fun K hK => by
    unfold Oper.wp execOp
    rw [ho]
    simp only [run_alloc34, Sem.run_bind, Sem.run_pure, Result.andThen_ok]
    exact hK _ _ h
theorem run_alloc55 (w : World) : (Instr.alloc 55 true (.tuple #[])).run Try.prog w = .ok (.pointer (some ⟨w.heap.size, 0, none⟩)) (w.alloc (.cells #[.int .i64 0, .int .i64 0, .int .i64 0] 55)) := by kernel_rfl
theorem wpList_alloc55 (hg : o.guard = none) (ho : o.op = .alloc 55) (h : wpList Try.prog ops Q rest (a.put o.dst (.pointer (some ⟨w.heap.size, 0, none⟩))) (w.alloc (.cells #[.int .i64 0, .int .i64 0, .int .i64 0] 55))) : wpList Try.prog ops Q (o :: rest) a w :=
  wpList_plain hg fun K hK => by
    unfold Oper.wp execOp
    rw [ho]
    simp only [run_alloc55, Sem.run_bind, Sem.run_pure, Result.andThen_ok]
    exact hK _ _ h
theorem wp_load30 (x : Operand) (ho : o.op = .load 30 x) (b : Nat) (m : Int) (v : Value) (hx : a.eval x = .pointer (some ⟨b, 0, none⟩)) (hw : IsT w b m v) {K : Act → World → Prop} (h : K (a.put o.dst (.agg #[.int .i64 m, v])) w) : o.wp Try.prog a w K Q :=
  wp_load_row 30 x ho b hx 30 _ (0, 0) _ hw Try.underlying30 rfl Try.info30 h
theorem wpList_load30 (hg : o.guard = none) (x : Operand) (ho : o.op = .load 30 x) (b : Nat) (m : Int) (v : Value) (hx : a.eval x = .pointer (some ⟨b, 0, none⟩)) (hw : IsT w b m v) (h : wpList Try.prog ops Q rest (a.put o.dst (.agg #[.int .i64 m, v])) w) : wpList Try.prog ops Q (o :: rest) a w :=
  wpList_plain hg fun _ hK => wp_load30 x ho b m v hx hw (hK _ _ h)
theorem wp_store30 (x y : Operand) (ho : o.op = .store 30 x y) (b : Nat) (m : Int) (v : Value) (m' : Int) (v' : Value) (hx : a.eval x = .pointer (some ⟨b, 0, none⟩)) (hy : a.eval y = .agg #[.int .i64 m, v]) (hw : IsT w b m' v') (hv : v.oneCell' = true) {K : Act → World → Prop}
    (h : ∀ w', IsT w' b m v → Turn b w w' → K (a.put o.dst undef) w') : o.wp Try.prog a w K Q :=
  wp_store_row 30 x y ho b _ hx hy 30 _ hw Try.info30 rfl (by simp [hv]; rfl) (h _ (setRow_heap w b _ _ 30 _ hw) (Turn.setRow w b _))
theorem wpList_store30 (hg : o.guard = none) (x y : Operand) (ho : o.op = .store 30 x y) (b : Nat) (m : Int) (v : Value) (m' : Int) (v' : Value) (hx : a.eval x = .pointer (some ⟨b, 0, none⟩)) (hy : a.eval y = .agg #[.int .i64 m, v]) (hw : IsT w b m' v') (hv : v.oneCell' = true)
    (h : ∀ w', IsT w' b m v → Turn b w w' → wpList Try.prog ops Q rest (a.put o.dst undef) w') : wpList Try.prog ops Q (o :: rest) a w :=
  wpList_plain hg fun _ hK => wp_store30 x y ho b m v m' v' hx hy hw hv fun w' h1 h2 => hK _ _ (h w' h1 h2)
theorem wp_load34 (x : Operand) (ho : o.op = .load 34 x) (b : Nat) (k m n : Int) (hx : a.eval x = .pointer (some ⟨b, 0, none⟩)) (hw : IsA w b k m n) {K : Act → World → Prop} (h : K (a.put o.dst (.agg #[.int .u8 k, .int .i64 m, .int .i64 n])) w) : o.wp Try.prog a w K Q :=
  wp_load_row 34 x ho b hx 34 _ (0, 0) _ hw Try.underlying34 rfl Try.info34 h
theorem wpList_load34 (hg : o.guard = none) (x : Operand) (ho : o.op = .load 34 x) (b : Nat) (k m n : Int) (hx : a.eval x = .pointer (some ⟨b, 0, none⟩)) (hw : IsA w b k m n) (h : wpList Try.prog ops Q rest (a.put o.dst (.agg #[.int .u8 k, .int .i64 m, .int .i64 n])) w) : wpList Try.prog ops Q (o :: rest) a w :=
  wpList_plain hg fun _ hK => wp_load34 x ho b k m n hx hw (hK _ _ h)
theorem wp_store34 (x y : Operand) (ho : o.op = .store 34 x y) (b : Nat) (k m n : Int) (k' m' n' : Int) (hx : a.eval x = .pointer (some ⟨b, 0, none⟩)) (hy : a.eval y = .agg #[.int .u8 k, .int .i64 m, .int .i64 n]) (hw : IsA w b k' m' n')  {K : Act → World → Prop}
    (h : ∀ w', IsA w' b k m n → Turn b w w' → K (a.put o.dst undef) w') : o.wp Try.prog a w K Q :=
  wp_store_row 34 x y ho b _ hx hy 34 _ hw Try.info34 rfl (by simp [Value.oneCell']) (h _ (setRow_heap w b _ _ 34 _ hw) (Turn.setRow w b _))
theorem wpList_store34 (hg : o.guard = none) (x y : Operand) (ho : o.op = .store 34 x y) (b : Nat) (k m n : Int) (k' m' n' : Int) (hx : a.eval x = .pointer (some ⟨b, 0, none⟩)) (hy : a.eval y = .agg #[.int .u8 k, .int .i64 m, .int .i64 n]) (hw : IsA w b k' m' n') 
    (h : ∀ w', IsA w' b k m n → Turn b w w' → wpList Try.prog ops Q rest (a.put o.dst undef) w') : wpList Try.prog ops Q (o :: rest) a w :=
  wpList_plain hg fun _ hK => wp_store34 x y ho b k m n k' m' n' hx hy hw  fun w' h1 h2 => hK _ _ (h w' h1 h2)
theorem wp_load55 (x : Operand) (ho : o.op = .load 55 x) (b : Nat) (k m n : Int) (hx : a.eval x = .pointer (some ⟨b, 0, none⟩)) (hw : IsK w b k m n) {K : Act → World → Prop} (h : K (a.put o.dst (.agg #[.int .i64 k, .int .i64 m, .int .i64 n])) w) : o.wp Try.prog a w K Q :=
  wp_load_row 55 x ho b hx 55 _ (0, 0) _ hw Try.underlying55 rfl Try.size55 h
theorem wpList_load55 (hg : o.guard = none) (x : Operand) (ho : o.op = .load 55 x) (b : Nat) (k m n : Int) (hx : a.eval x = .pointer (some ⟨b, 0, none⟩)) (hw : IsK w b k m n) (h : wpList Try.prog ops Q rest (a.put o.dst (.agg #[.int .i64 k, .int .i64 m, .int .i64 n])) w) : wpList Try.prog ops Q (o :: rest) a w :=
  wpList_plain hg fun _ hK => wp_load55 x ho b k m n hx hw (hK _ _ h)
theorem wp_store55 (x y : Operand) (ho : o.op = .store 55 x y) (b : Nat) (k m n : Int) (k' m' n' : Int) (hx : a.eval x = .pointer (some ⟨b, 0, none⟩)) (hy : a.eval y = .agg #[.int .i64 k, .int .i64 m, .int .i64 n]) (hw : IsK w b k' m' n')  {K : Act → World → Prop}
    (h : ∀ w', IsK w' b k m n → Turn b w w' → K (a.put o.dst undef) w') : o.wp Try.prog a w K Q :=
  wp_store_row 55 x y ho b _ hx hy 55 _ hw Try.size55 rfl (by simp [Value.oneCell']) (h _ (setRow_heap w b _ _ 55 _ hw) (Turn.setRow w b _))
theorem wpList_store55 (hg : o.guard = none) (x y : Operand) (ho : o.op = .store 55 x y) (b : Nat) (k m n : Int) (k' m' n' : Int) (hx : a.eval x = .pointer (some ⟨b, 0, none⟩)) (hy : a.eval y = .agg #[.int .i64 k, .int .i64 m, .int .i64 n]) (hw : IsK w b k' m' n') 
    (h : ∀ w', IsK w' b k m n → Turn b w w' → wpList Try.prog ops Q rest (a.put o.dst undef) w') : wpList Try.prog ops Q (o :: rest) a w :=
  wpList_plain hg fun _ hK => wp_store55 x y ho b k m n k' m' n' hx hy hw  fun w' h1 h2 => hK _ _ (h w' h1 h2)
end
/-- results: the document's ring set out of its block, and numbers. -/
theorem results_c {fn : Func} {p : Tmp} (h : fn.results = #[.cell p 30]) (tmps : Array Value) (w : World) (b : Nat) (m : Int) (v : Value) (hp : tmps.getD p undef = .pointer (some ⟨b, 0, none⟩)) (hw : IsT w b m v) :
    (results fn tmps).run Try.prog w = .ok (.agg #[.int .i64 m, v]) w := by
  have hp' : tmps[p]?.getD undef = .pointer (some ⟨b, 0, none⟩) := by simpa using hp
  simp [results, h, hp', asAddr, run_loadVar_row w b 30 30 _ (0, 0) _ hw Try.underlying30 rfl Try.info30]
theorem results_ct {fn : Func} {p u : Tmp} (h : fn.results = #[.cell p 30, .tmp u]) (tmps : Array Value) (w : World) (b : Nat) (m : Int) (v x : Value) (hp : tmps.getD p undef = .pointer (some ⟨b, 0, none⟩)) (hx : tmps.getD u undef = x) (hw : IsT w b m v) :
    (results fn tmps).run Try.prog w = .ok (.tuple #[.agg #[.int .i64 m, v], x]) w := by
  have hp' : tmps[p]?.getD undef = .pointer (some ⟨b, 0, none⟩) := by simpa using hp
  have hx' : tmps[u]?.getD undef = x := by simpa using hx
  simp [results, h, hp', hx', asAddr, run_loadVar_row w b 30 30 _ (0, 0) _ hw Try.underlying30 rfl Try.info30]
theorem beq_ff {a b : Int} (h : ¬ a = b) : (a == b) = false := by simpa using h
theorem beq_tt {a b : Int} (h : a = b) : (a == b) = true := by simpa using h
theorem bne_tt {a b : Int} (h : ¬ a = b) : (a != b) = true := by simpa using h
theorem bne_ff {a b : Int} (h : a = b) : (a != b) = false := by simpa using h
end Go.Proofs.Ytglnjpbjlcbgoaa
