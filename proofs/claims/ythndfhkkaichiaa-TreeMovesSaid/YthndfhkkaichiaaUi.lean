/-
  The laws' own Ints where both are the same; the document's Ids. Condition: at most 64 slots.
-/
import Derived.Test.YthndfhkkaichiaaUg
namespace Go.Proofs.Ythndfhkkaichiaa
open Go.RowKit

theorem SrcI.at {w : World} {ad : Option Addr} {n c : Nat} {l : List Int} (h : SrcI w (.slice ad n c) l) {j : Nat} (hj : j < l.length) : ∃ b off, ad = some ⟨b, off, none⟩ ∧ b < w.heap.size ∧ w.cell? ⟨b, off + j, none⟩ = some (.int .i64 (l.getD j 0)) := by
  obtain ⟨ad', c', e, h2⟩ := h
  cases e
  obtain ⟨b, off, rfl, h3, h4⟩ := h2 (by rintro rfl; simp at hj)
  exact ⟨b, off, rfl, h3, h4 j hj⟩
theorem SrcI.sl {w : World} {u : Value} {l : List Int} (h : SrcI w u l) : ∃ a c, u = .slice a l.length c := by
  obtain ⟨a, c, e, _⟩ := h
  exact ⟨a, c, e⟩
set_option maxRecDepth 100000 in
set_option maxHeartbeats 4000000 in
theorem Ints_same (u v : Value) (l : List Int) (w : World) (h : SrcI w u l) (h' : SrcI w v l) (hl : l.length ≤ 64) :
    Calls Try.prog 36 #[u, v] w fun e w' => e = .returned (.bool true) ∧ Below w.heap.size w w' := by
  obtain ⟨a, c, rfl⟩ := h.sl
  obtain ⟨a', c', rfl⟩ := h'.sl
  have H1 := Lib.hid h
  have H2 := Lib.hid h'
  clear h h'
  go_enter Try.func36, Try.ntmps36
  go_wp2_with fail
  go_loopw [5, 13] (fun _ i wr => ∃ k : Nat, k ≤ l.length ∧ i = .int .i64 k ∧ Below w.heap.size w wr) (fun _ i _ => l.length - (intOf i).toNat)
  case atStart => exact ⟨0, by omega, rfl, Below.refl _ _⟩
  case round =>
    obtain ⟨k, hk, rfl, hb⟩ := hrel
    by_cases hlt : k < l.length
    · obtain ⟨b, o, rfl, hbl, hx⟩ := (H1.out.below hb).at hlt
      obtain ⟨b', o', rfl, hbl', hx'⟩ := (H2.out.below hb).at hlt
      generalize l.getD k 0 = y at *
      go_wp2_with fail
      refine Rd.region (fun X => X.cell? ⟨b, o + k, none⟩ = some (.int .i64 y) ∧ X.cell? ⟨b', o' + k, none⟩ = some (.int .i64 y)) 9 [0, 1, 2, 3, 4, 5, 6, 7, 8] [0, 1, 2, 3, 4, 5, 6, 7, 8] (by kernel_rfl) (by kernel_rfl) (by kernel_rfl) (by kernel_rfl) rfl ⟨hx, hx'⟩ ?_
      have hbd : Below w.heap.size w wr.drew := ⟨hb.os, hb.tape, hb.output, hb.size, hb.block⟩
      generalize wr.drew = w2 at *
      refine Rd.seq_float (.slice (some ⟨b, o, none⟩) l.length c) (by simp only [List.getElem?_toArray, List.getElem?_cons_zero]; rfl) rfl (by rfl) (fun X _ => by go_simp) ?_
      simp only [Act.put, List.setIfInBounds_toArray, List.set_cons_succ, List.set_cons_zero]
      refine Rd.seq_float (.int .i64 (k : Int)) (by simp only [List.getElem?_toArray, List.getElem?_cons_succ, List.getElem?_cons_zero]; rfl) rfl (by rfl) (fun X _ => by go_simp) ?_
      simp only [Act.put, List.setIfInBounds_toArray, List.set_cons_succ, List.set_cons_zero]
      refine Rd.seq_float (.pointer (some ⟨b, o + k, none⟩)) (by simp only [List.getElem?_toArray, List.getElem?_cons_succ, List.getElem?_cons_zero]; rfl) rfl (by rfl) (fun X _ => by go_simp) ?_
      simp only [Act.put, List.setIfInBounds_toArray, List.set_cons_succ, List.set_cons_zero]
      refine Rd.seq_float (.int .i64 y) (by simp only [List.getElem?_toArray, List.getElem?_cons_succ, List.getElem?_cons_zero]; rfl) rfl (by rfl) (fun X hX => by obtain ⟨e1, e2⟩ := hX; go_simp) ?_
      simp only [Act.put, List.setIfInBounds_toArray, List.set_cons_succ, List.set_cons_zero]
      refine Rd.seq_float (.slice (some ⟨b', o', none⟩) l.length c') (by simp only [List.getElem?_toArray, List.getElem?_cons_succ, List.getElem?_cons_zero]; rfl) rfl (by rfl) (fun X _ => by go_simp) ?_
      simp only [Act.put, List.setIfInBounds_toArray, List.set_cons_succ, List.set_cons_zero]
      refine Rd.seq_float (.int .i64 (k : Int)) (by simp only [List.getElem?_toArray, List.getElem?_cons_succ, List.getElem?_cons_zero]; rfl) rfl (by rfl) (fun X _ => by go_simp) ?_
      simp only [Act.put, List.setIfInBounds_toArray, List.set_cons_succ, List.set_cons_zero]
      refine Rd.seq_float (.pointer (some ⟨b', o' + k, none⟩)) (by simp only [List.getElem?_toArray, List.getElem?_cons_succ, List.getElem?_cons_zero]; rfl) rfl (by rfl) (fun X _ => by go_simp) ?_
      simp only [Act.put, List.setIfInBounds_toArray, List.set_cons_succ, List.set_cons_zero]
      refine Rd.seq_float (.int .i64 y) (by simp only [List.getElem?_toArray, List.getElem?_cons_succ, List.getElem?_cons_zero]; rfl) rfl (by rfl) (fun X hX => by obtain ⟨e1, e2⟩ := hX; go_simp) ?_
      simp only [Act.put, List.setIfInBounds_toArray, List.set_cons_succ, List.set_cons_zero]
      refine Rd.seq_float (.bool false) (by simp only [List.getElem?_toArray, List.getElem?_cons_succ, List.getElem?_cons_zero]; rfl) rfl (by rfl) (fun X _ => by go_simp) ?_
      simp only [Act.put, List.setIfInBounds_toArray, List.set_cons_succ, List.set_cons_zero]
      refine Rd.seq_end ?_
      go_wp2_with fail
      exact ⟨⟨k + 1, by omega, by go_num, hbd⟩, by simp [intOf]; omega⟩
    · obtain rfl : k = l.length := by omega
      go_wp2_with fail
      go_ret
      exact ⟨rfl, hb⟩
/-- a row of one. -/
def OneAt (w : World) (e : Nat) (x : Int) : Prop := w.heap[e]? = some (.cells #[.int .i64 x] 3 (0, 0))
section
variable {w w' : World} {e : Nat} {x : Int}
theorem OneAt.new (w : World) (x : Int) : OneAt (w.alloc (.cells #[.int .i64 x] 3)) w.heap.size x := heap_alloc_new w _
theorem OneAt.lt (h : OneAt w e x) : e < w.heap.size := (Array.getElem?_eq_some_iff.1 h).1
theorem OneAt.below (h : OneAt w e x) (hb : Below w.heap.size w w') : OneAt w' e x := (hb.block e h.lt).trans h
theorem OneAt.grown {r : Option Nat} (h : OneAt w e x) (hg : w.grownBy w' r) (hne : some e ≠ r) : OneAt w' e x := (hg.block e h.lt hne).trans h
theorem OneAt.src (h : OneAt w e x) : SrcI w (.slice (some ⟨e, 0, none⟩) 1 1) [x] := by
  refine ⟨_, 1, rfl, fun _ => ⟨e, 0, rfl, h.lt, fun j hj => ?_⟩⟩
  simp only [List.length_cons, List.length_nil] at hj
  obtain rfl : j = 0 := by omega
  rw [cell_of_row _ e _ _ 3 (0, 0) h]; rfl
end
theorem grown_below {w w' : World} {B : Nat} {v : Value} {l : List Int} (h : RowO w B v l) (hB : B ≤ w.heap.size) (hg : w.grownBy w' v.ownBlock) : Below B w w' :=
  (Below.refl B w).grown hg hB (fun j e => (h.lt j e).1)
theorem RowO.form {w : World} {B : Nat} {ao : Option Addr} {co j : Nat} {L : List Int} (h : RowO w B (.slice ao L.length co) L) (hj : j ≤ L.length) : (ao = none ∧ co = 0 ∧ L = [] ∧ j = 0) ∨ ((∃ g, ao = some ⟨g, 0, none⟩) ∧ j ≤ co ∧ L.length ≤ co ∧ j ≤ L.length) := by
  rcases h.2 with ⟨h0, h1⟩ | ⟨g, cap, cur, e, _, _, h3, _⟩
  · injection h0 with e1 e2 e3
    exact .inl ⟨e1, e3, List.length_eq_zero_iff.1 h1, by omega⟩
  · cases e
    exact .inr ⟨⟨g, rfl⟩, by omega, h3, hj⟩
theorem head_src {w : World} {B : Nat} {ao : Option Addr} {co j : Nat} {L : List Int} (h : RowO w B (.slice ao L.length co) L) (hj : j ≤ L.length) : SrcI w (.slice ao j co) (L.take j) := by
  refine ⟨ao, co, by rw [List.length_take, Nat.min_eq_left hj], fun hne => ?_⟩
  have hjp : 0 < j := by
    rcases Nat.eq_zero_or_pos j with h0 | h0
    · subst h0; simp at hne
    · exact h0
  obtain ⟨g, rfl, _, hg, _⟩ := h.at (j := 0) (by omega)
  refine ⟨g, 0, rfl, hg, fun t ht => ?_⟩
  rw [List.length_take, Nat.min_eq_left hj] at ht
  obtain ⟨g', e, _, _, hc, _⟩ := h.at (j := t) (by omega)
  cases e
  rw [Nat.zero_add, hc]
  simp [List.getD, ht]
theorem tail_src {w : World} {B : Nat} {ao : Option Addr} {co j : Nat} {L : List Int} (h : RowO w B (.slice ao L.length co) L) (hj : j ≤ L.length) : SrcI w (.slice (if co = j then ao else ao.map fun p => p.add j) (L.length - j) (co - j)) (L.drop j) := by
  have hlc : L.length ≤ co := by
    obtain ⟨a, c, e, h1, _⟩ := h.cap
    cases e
    exact h1
  refine ⟨_, _, by rw [List.length_drop], fun hne => ?_⟩
  have hjp : j < L.length := by
    have := List.length_pos_iff.2 hne
    rw [List.length_drop] at this
    omega
  obtain ⟨g, rfl, _, hg, _⟩ := h.at (j := 0) (by omega)
  refine ⟨g, j, ?_, hg, fun t ht => ?_⟩
  · rw [if_neg (by omega)]
    simp [Addr.add]
    exact fun h => h.symm
  · rw [List.length_drop] at ht
    obtain ⟨g', e, _, _, hc, _⟩ := h.at (j := j + t) (by omega)
    cases e
    rw [hc]
    simp [List.getD]
end Go.Proofs.Ythndfhkkaichiaa
