/-
  The laws' own Ints where both are the same; the document's Ids. Condition: at most 64 slots.
-/
import Derived.Test.YthopmkgbhfkeoaaUg
namespace Go.Proofs.Ythopmkgbhfkeoaa
open Go.RowKit

theorem SrcI.at {w : World} {ad : Option Addr} {n c : Nat} {l : List Int} (h : SrcI w (.slice ad n c) l) {j : Nat} (hj : j < l.length) : ∃ b off, ad = some ⟨b, off, none⟩ ∧ b < w.heap.size ∧ w.cell? ⟨b, off + j, none⟩ = some (.int .i64 (l.getD j 0)) := by
  obtain ⟨ad', c', e, h2⟩ := h
  cases e
  obtain ⟨b, off, rfl, h3, h4⟩ := h2 (by rintro rfl; simp at hj)
  exact ⟨b, off, rfl, h3, h4 j hj⟩
theorem SrcI.sl {w : World} {u : Value} {l : List Int} (h : SrcI w u l) : ∃ a c, u = .slice a l.length c := by
  obtain ⟨a, c, e, _⟩ := h
  exact ⟨a, c, e⟩
set_option maxRecDepth 100000 in
set_option maxHeartbeats 4000000 in
theorem Ints_same (u v : Value) (l : List Int) (w : World) (h : SrcI w u l) (h' : SrcI w v l) (hl : l.length ≤ 64) :
    Calls Try.prog 28 #[u, v] w fun e w' => e = .returned (.bool true) ∧ Below w.heap.size w w' := by
  obtain ⟨a, c, rfl⟩ := h.sl
  obtain ⟨a', c', rfl⟩ := h'.sl
  have H1 := Lib.hid h
  have H2 := Lib.hid h'
  clear h h'
  go_enter Try.func28, Try.ntmps28
  go_wp2_with fail
  go_loopw [5, 13] (fun _ i wr => ∃ k : Nat, k ≤ l.length ∧ i = .int .i64 k ∧ Below w.heap.size w wr) (fun _ i _ => l.length - (intOf i).toNat)
  case atStart => exact ⟨0, by omega, rfl, Below.refl _ _⟩
  case round =>
    obtain ⟨k, hk, rfl, hb⟩ := hrel
    by_cases hlt : k < l.length
    · obtain ⟨b, o, rfl, hbl, hx⟩ := (H1.out.below hb).at hlt
      obtain ⟨b', o', rfl, hbl', hx'⟩ := (H2.out.below hb).at hlt
      generalize l.getD k 0 = y at *
      go_wp2_with fail
      refine Rd.region (fun X => X.cell? ⟨b, o + k, none⟩ = some (.int .i64 y) ∧ X.cell? ⟨b', o' + k, none⟩ = some (.int .i64 y)) 9 [0, 1, 2, 3, 4, 5, 6, 7, 8] [0, 1, 2, 3, 4, 5, 6, 7, 8] (by kernel_rfl) (by kernel_rfl) (by kernel_rfl) (by kernel_rfl) rfl ⟨hx, hx'⟩ ?_
      have hbd : Below w.heap.size w wr.drew := ⟨hb.os, hb.tape, hb.output, hb.size, hb.block⟩
      generalize wr.drew = w2 at *
      refine Rd.seq_float (.slice (some ⟨b, o, none⟩) l.length c) (by simp only [List.getElem?_toArray, List.getElem?_cons_zero]; rfl) rfl (by rfl) (fun X _ => by go_simp) ?_
      simp only [Act.put, List.setIfInBounds_toArray, List.set_cons_succ, List.set_cons_zero]
      refine Rd.seq_float (.int .i64 (k : Int)) (by simp only [List.getElem?_toArray, List.getElem?_cons_succ, List.getElem?_cons_zero]; rfl) rfl (by rfl) (fun X _ => by go_simp) ?_
      simp only [Act.put, List.setIfInBounds_toArray, List.set_cons_succ, List.set_cons_zero]
      refine Rd.seq_float (.pointer (some ⟨b, o + k, none⟩)) (by simp only [List.getElem?_toArray, List.getElem?_cons_succ, List.getElem?_cons_zero]; rfl) rfl (by rfl) (fun X _ => by go_simp) ?_
      simp only [Act.put, List.setIfInBounds_toArray, List.set_cons_succ, List.set_cons_zero]
      refine Rd.seq_float (.int .i64 y) (by simp only [List.getElem?_toArray, List.getElem?_cons_succ, List.getElem?_cons_zero]; rfl) rfl (by rfl) (fun X hX => by obtain ⟨e1, e2⟩ := hX; go_simp) ?_
      simp only [Act.put, List.setIfInBounds_toArray, List.set_cons_succ, List.set_cons_zero]
      refine Rd.seq_float (.slice (some ⟨b', o', none⟩) l.length c') (by simp only [List.getElem?_toArray, List.getElem?_cons_succ, List.getElem?_cons_zero]; rfl) rfl (by rfl) (fun X _ => by go_simp) ?_
      simp only [Act.put, List.setIfInBounds_toArray, List.set_cons_succ, List.set_cons_zero]
      refine Rd.seq_float (.int .i64 (k : Int)) (by simp only [List.getElem?_toArray, List.getElem?_cons_succ, List.getElem?_cons_zero]; rfl) rfl (by rfl) (fun X _ => by go_simp) ?_
      simp only [Act.put, List.setIfInBounds_toArray, List.set_cons_succ, List.set_cons_zero]
      refine Rd.seq_float (.pointer (some ⟨b', o' + k, none⟩)) (by simp only [List.getElem?_toArray, List.getElem?_cons_succ, List.getElem?_cons_zero]; rfl) rfl (by rfl) (fun X _ => by go_simp) ?_
      simp only [Act.put, List.setIfInBounds_toArray, List.set_cons_succ, List.set_cons_zero]
      refine Rd.seq_float (.int .i64 y) (by simp only [List.getElem?_toArray, List.getElem?_cons_succ, List.getElem?_cons_zero]; rfl) rfl (by rfl) (fun X hX => by obtain ⟨e1, e2⟩ := hX; go_simp) ?_
      simp only [Act.put, List.setIfInBounds_toArray, List.set_cons_succ, List.set_cons_zero]
      refine Rd.seq_float (.bool false) (by simp only [List.getElem?_toArray, List.getElem?_cons_succ, List.getElem?_cons_zero]; rfl) rfl (by rfl) (fun X _ => by go_simp) ?_
      simp only [Act.put, List.setIfInBounds_toArray, List.set_cons_succ, List.set_cons_zero]
      refine Rd.seq_end ?_
      go_wp2_with fail
      exact ⟨⟨k + 1, by omega, by go_num, hbd⟩, by simp [intOf]; omega⟩
    · obtain rfl : k = l.length := by omega
      go_wp2_with fail
      go_ret
      exact ⟨rfl, hb⟩
/-- a row of one. -/
def OneAt (w : World) (e : Nat) (x : Int) : Prop := w.heap[e]? = some (.cells #[.int .i64 x] 3 (0, 0))
section
variable {w w' : World} {e : Nat} {x : Int}
theorem OneAt.new (w : World) (x : Int) : OneAt (w.alloc (.cells #[.int .i64 x] 3)) w.heap.size x := heap_alloc_new w _
theorem OneAt.lt (h : OneAt w e x) : e < w.heap.size := (Array.getElem?_eq_some_iff.1 h).1
theorem OneAt.below (h : OneAt w e x) (hb : Below w.heap.size w w') : OneAt w' e x := (hb.block e h.lt).trans h
theorem OneAt.grown {r : Option Nat} (h : OneAt w e x) (hg : w.grownBy w' r) (hne : some e ≠ r) : OneAt w' e x := (hg.block e h.lt hne).trans h
theorem OneAt.src (h : OneAt w e x) : SrcI w (.slice (some ⟨e, 0, none⟩) 1 1) [x] := by
  refine ⟨_, 1, rfl, fun _ => ⟨e, 0, rfl, h.lt, fun j hj => ?_⟩⟩
  simp only [List.length_cons, List.length_nil] at hj
  obtain rfl : j = 0 := by omega
  rw [cell_of_row _ e _ _ 3 (0, 0) h]; rfl
end
theorem grown_below {w w' : World} {B : Nat} {v : Value} {l : List Int} (h : RowO w B v l) (hB : B ≤ w.heap.size) (hg : w.grownBy w' v.ownBlock) : Below B w w' :=
  (Below.refl B w).grown hg hB (fun j e => (h.lt j e).1)
theorem RowO.form {w : World} {B : Nat} {ao : Option Addr} {co j : Nat} {L : List Int} (h : RowO w B (.slice ao L.length co) L) (hj : j ≤ L.length) : (ao = none ∧ co = 0 ∧ L = [] ∧ j = 0) ∨ ((∃ g, ao = some ⟨g, 0, none⟩) ∧ j ≤ co ∧ L.length ≤ co ∧ j ≤ L.length) := by
  rcases h.2 with ⟨h0, h1⟩ | ⟨g, cap, cur, e, _, _, h3, _⟩
  · injection h0 with e1 e2 e3
    exact .inl ⟨e1, e3, List.length_eq_zero_iff.1 h1, by omega⟩
  · cases e
    exact .inr ⟨⟨g, rfl⟩, by omega, h3, hj⟩
theorem head_src {w : World} {B : Nat} {ao : Option Addr} {co j : Nat} {L : List Int} (h : RowO w B (.slice ao L.length co) L) (hj : j ≤ L.length) : SrcI w (.slice ao j co) (L.take j) := by
  refine ⟨ao, co, by rw [List.length_take, Nat.min_eq_left hj], fun hne => ?_⟩
  have hjp : 0 < j := by
    rcases Nat.eq_zero_or_pos j with h0 | h0
    · subst h0; simp at hne
    · exact h0
  obtain ⟨g, rfl, _, hg, _⟩ := h.at (j := 0) (by omega)
  refine ⟨g, 0, rfl, hg, fun t ht => ?_⟩
  rw [List.length_take, Nat.min_eq_left hj] at ht
  obtain ⟨g', e, _, _, hc, _⟩ := h.at (j := t) (by omega)
  cases e
  rw [Nat.zero_add, hc]
  simp [List.getD, ht]
theorem tail_src {w : World} {B : Nat} {ao : Option Addr} {co j : Nat} {L : List Int} (h : RowO w B (.slice ao L.length co) L) (hj : j ≤ L.length) : SrcI w (.slice (if co = j then ao else ao.map fun p => p.add j) (L.length - j) (co - j)) (L.drop j) := by
  have hlc : L.length ≤ co := by
    obtain ⟨a, c, e, h1, _⟩ := h.cap
    cases e
    exact h1
  refine ⟨_, _, by rw [List.length_drop], fun hne => ?_⟩
  have hjp : j < L.length := by
    have := List.length_pos_iff.2 hne
    rw [List.length_drop] at this
    omega
  obtain ⟨g, rfl, _, hg, _⟩ := h.at (j := 0) (by omega)
  refine ⟨g, j, ?_, hg, fun t ht => ?_⟩
  · rw [if_neg (by omega)]
    simp [Addr.add]
    exact fun h => h.symm
  · rw [List.length_drop] at ht
    obtain ⟨g', e, _, _, hc, _⟩ := h.at (j := j + t) (by omega)
    cases e
    rw [hc]
    simp [List.getD]
set_option maxRecDepth 100000 in
set_option maxHeartbeats 4000000 in
theorem rIds_any (B : Nat) (v : Value) (l : List Int) (m : Int) (w : World) (h : RT w B v l m) (hl : l.length ≤ 64) :
    Calls Try.prog 27 #[v] w fun e w' => (∃ a c, e = .returned (.slice a (rIds l).length c) ∧ RowO w' w.heap.size (.slice a (rIds l).length c) (rIds l)) ∧ Below w.heap.size w w' := by
  obtain ⟨a, c, rfl, h⟩ := h
  have HA : Hid (∀ k, k < l.length → ∃ b, a = some ⟨b, 0, none⟩ ∧ b < w.heap.size ∧ (w.alloc (.cells #[.slice a l.length c, .int .i64 m] 30)).cell? ⟨b, k, none⟩ = some (.int .i64 (l.getD k 0))) := Lib.hid (fun k hk => by
    obtain ⟨b, e, _, h1, hc, _⟩ := (h.alloc (.cells #[.slice a l.length c, .int .i64 m] 30)).at hk
    obtain ⟨b', e', _, h1', _⟩ := h.at hk
    rw [e] at e'
    cases e'
    exact ⟨b, e, h1', hc⟩)
  have hb : Below w.heap.size w (w.alloc (.cells #[.slice a l.length c, .int .i64 m] 30)) := (Below.refl _ w).alloc (Nat.le_refl _) _
  have hx := IsT.new w (.slice a l.length c) m
  have hsz : (w.alloc (.cells #[.slice a l.length c, .int .i64 m] 30)).heap.size = w.heap.size + 1 := by simp
  have h0 := hx.c0
  clear h
  go_enter Try.func27, Try.ntmps27
  go_wp2_with fail
  generalize w.alloc (.cells #[.slice a l.length c, .int .i64 m] 30) = w1 at *
  go_loopw [3, 9] (fun o i wr => ∃ (k : Nat) (ao : Option Addr) (co : Nat), k ≤ l.length ∧ i = .int .i64 k ∧ o = .slice ao (rIds (l.take k)).length co ∧ RowO wr (w.heap.size + 1) (.slice ao (rIds (l.take k)).length co) (rIds (l.take k)) ∧ Below (w.heap.size + 1) w1 wr) (fun _ i _ => l.length - (intOf i).toNat)
  case atStart => exact ⟨0, none, 0, by omega, rfl, rfl, RowO.nil _ _, Below.refl _ _⟩
  case round =>
    obtain ⟨k, ao, co, hk, rfl, rfl, hr, hb1⟩ := hrel
    have hxr := hx.below hb1 (by omega)
    have h0 := hxr.c0
    have hrl := rIds_len l k
    by_cases hlt : k < l.length
    · obtain ⟨b, rfl, hbl, hc0⟩ := HA.out k hlt
      have hc := (hb1.cell (p := ⟨b, k, none⟩) (show b < w.heap.size + 1 by omega)).trans hc0
      have HD := Lib.hid (rIds_snoc l k hlt)
      generalize hL : rIds (l.take k) = L at *
      generalize l.getD k 0 = x at *
      have HC0 : Hid (w1.cell? ⟨b, k, none⟩ = some (.int .i64 x)) := Lib.hid hc0
      go_wp2_with fail
      have HR := Lib.hid hr
      have HC := Lib.hid hc
      have HX0 := Lib.hid h0
      clear hc0 hr hc h0 hxr
      go_loopw [5] (fun i w3 => ∃ (j : Nat), j ≤ L.length ∧ i = .int .i64 j ∧ Hid (RowO w3 (w.heap.size + 1) (.slice ao L.length co) L) ∧ Hid (Below (w.heap.size + 1) w1 w3) ∧ Hid (∀ t, t < j → L.getD t 0 < x)) (fun i _ => L.length - (intOf i).toNat)
      case atStart => exact ⟨0, by omega, rfl, HR, Lib.hid hb1, Lib.hid (fun t ht => absurd ht (Nat.not_lt_zero _))⟩
      case round =>
        clear HR hb1 HC HX0
        obtain ⟨j, hj, rfl, HR, HB1, HN⟩ := hrel
        have HC := Lib.hid ((HB1.out.cell (p := ⟨b, k, none⟩) (show b < w.heap.size + 1 by omega)).trans (show w1.cell? ⟨b, k, none⟩ = some (.int .i64 x) from HC0.out))
        have HX0 := Lib.hid ((hx.below HB1.out (by omega)).c0)
        by_cases hgo : j < L.length ∧ L.getD j 0 < x
        · obtain ⟨hjl, hyx⟩ := hgo
          obtain ⟨g, rfl, hg1, hg2, hcy, -⟩ := HR.out.at hjl
          have HY := Lib.hid hyx
          generalize hy : L.getD j 0 = y at *
          have HY2 := Lib.hid hy
          clear hy
          have hc := HC.out
          have h0 := HX0.out
          go_wp2_with fail
          refine Rd.region (fun X => X.cell? ⟨g, j, none⟩ = some (.int .i64 y) ∧ X.cell? ⟨w.heap.size, 0, none⟩ = some (.slice (some ⟨b, 0, none⟩) l.length c) ∧ X.cell? ⟨b, k, none⟩ = some (.int .i64 x)) 16 [0, 1, 2, 3, 4, 5, 6, 7, 8, 9, 10, 11, 12, 13, 14, 15] [0, 1, 2, 3, 4, 5, 6, 7, 8, 9, 10, 11, 12, 13, 14, 15] (by kernel_rfl) (by kernel_rfl) (by kernel_rfl) (by kernel_rfl) rfl ⟨hcy, h0, hc⟩ ?_
          clear hcy h0 hc
          have HRd : Hid (RowO wr.drew (w.heap.size + 1) (.slice (some ⟨g, 0, none⟩) L.length co) L) := Lib.hid HR.out
          have HBd : Hid (Below (w.heap.size + 1) w1 wr.drew) := Lib.hid ⟨HB1.out.os, HB1.out.tape, HB1.out.output, HB1.out.size, HB1.out.block⟩
          generalize wr.drew = w5 at *
          refine Rd.seq_float (.int .i64 (j : Int)) (by simp only [List.getElem?_toArray, List.getElem?_cons_zero]; rfl) rfl (by rfl) (fun X _ => by go_simp) ?_
          simp only [Act.put, List.setIfInBounds_toArray, List.set_cons_succ, List.set_cons_zero]
          refine Rd.seq_float (.slice (some ⟨g, 0, none⟩) L.length co) (by simp only [List.getElem?_toArray, List.getElem?_cons_succ, List.getElem?_cons_zero]; rfl) rfl (by rfl) (fun X _ => by go_simp) ?_
          simp only [Act.put, List.setIfInBounds_toArray, List.set_cons_succ, List.set_cons_zero]
          refine Rd.seq_float (.int .i64 (L.length : Int)) (by simp only [List.getElem?_toArray, List.getElem?_cons_succ, List.getElem?_cons_zero]; rfl) rfl (by rfl) (fun X _ => by go_simp) ?_
          simp only [Act.put, List.setIfInBounds_toArray, List.set_cons_succ, List.set_cons_zero]
          refine Rd.seq_float (.bool true) (by simp only [List.getElem?_toArray, List.getElem?_cons_succ, List.getElem?_cons_zero]; rfl) rfl (by rfl) (fun X _ => by go_simp) ?_
          simp only [Act.put, List.setIfInBounds_toArray, List.set_cons_succ, List.set_cons_zero]
          refine Rd.seq_float (.bool true) (by simp only [List.getElem?_toArray, List.getElem?_cons_succ, List.getElem?_cons_zero]; rfl) rfl (by rfl) (fun X _ => by go_simp) ?_
          simp only [Act.put, List.setIfInBounds_toArray, List.set_cons_succ, List.set_cons_zero]
          refine Rd.seq_float (.slice (some ⟨g, 0, none⟩) L.length co) (by simp only [List.getElem?_toArray, List.getElem?_cons_succ, List.getElem?_cons_zero]; rfl) rfl (by rfl) (fun X _ => by go_simp) ?_
          simp only [Act.put, List.setIfInBounds_toArray, List.set_cons_succ, List.set_cons_zero]
          refine Rd.seq_float (.int .i64 (j : Int)) (by simp only [List.getElem?_toArray, List.getElem?_cons_succ, List.getElem?_cons_zero]; rfl) rfl (by rfl) (fun X _ => by go_simp) ?_
          simp only [Act.put, List.setIfInBounds_toArray, List.set_cons_succ, List.set_cons_zero]
          refine Rd.seq_float (.pointer (some ⟨g, j, none⟩)) (by simp only [List.getElem?_toArray, List.getElem?_cons_succ, List.getElem?_cons_zero]; rfl) rfl (by rfl) (fun X _ => by go_simp) ?_
          simp only [Act.put, List.setIfInBounds_toArray, List.set_cons_succ, List.set_cons_zero]
          refine Rd.seq_float (.int .i64 y) (by simp only [List.getElem?_toArray, List.getElem?_cons_succ, List.getElem?_cons_zero]; rfl) rfl (by rfl) (fun X hX => by obtain ⟨e1, e2, e3⟩ := hX; go_simp) ?_
          simp only [Act.put, List.setIfInBounds_toArray, List.set_cons_succ, List.set_cons_zero]
          refine Rd.seq_float (.pointer (some ⟨w.heap.size, 0, none⟩)) (by simp only [List.getElem?_toArray, List.getElem?_cons_succ, List.getElem?_cons_zero]; rfl) rfl (by rfl) (fun X _ => by go_simp) ?_
          simp only [Act.put, List.setIfInBounds_toArray, List.set_cons_succ, List.set_cons_zero]
          refine Rd.seq_float (.slice (some ⟨b, 0, none⟩) l.length c) (by simp only [List.getElem?_toArray, List.getElem?_cons_succ, List.getElem?_cons_zero]; rfl) rfl (by rfl) (fun X hX => by obtain ⟨e1, e2, e3⟩ := hX; go_simp) ?_
          simp only [Act.put, List.setIfInBounds_toArray, List.set_cons_succ, List.set_cons_zero]
          refine Rd.seq_float (.int .i64 (k : Int)) (by simp only [List.getElem?_toArray, List.getElem?_cons_succ, List.getElem?_cons_zero]; rfl) rfl (by rfl) (fun X _ => by go_simp) ?_
          simp only [Act.put, List.setIfInBounds_toArray, List.set_cons_succ, List.set_cons_zero]
          refine Rd.seq_float (.pointer (some ⟨b, k, none⟩)) (by simp only [List.getElem?_toArray, List.getElem?_cons_succ, List.getElem?_cons_zero]; rfl) rfl (by rfl) (fun X _ => by go_simp) ?_
          simp only [Act.put, List.setIfInBounds_toArray, List.set_cons_succ, List.set_cons_zero]
          refine Rd.seq_float (.int .i64 x) (by simp only [List.getElem?_toArray, List.getElem?_cons_succ, List.getElem?_cons_zero]; rfl) rfl (by rfl) (fun X hX => by obtain ⟨e1, e2, e3⟩ := hX; go_simp) ?_
          simp only [Act.put, List.setIfInBounds_toArray, List.set_cons_succ, List.set_cons_zero]
          refine Rd.seq_float (.bool true) (by simp only [List.getElem?_toArray, List.getElem?_cons_succ, List.getElem?_cons_zero]; rfl) rfl (by rfl) (fun X _ => by go_simp) ?_
          simp only [Act.put, List.setIfInBounds_toArray, List.set_cons_succ, List.set_cons_zero]
          refine Rd.seq_float (.bool true) (by simp only [List.getElem?_toArray, List.getElem?_cons_succ, List.getElem?_cons_zero]; rfl) rfl (by rfl) (fun X _ => by go_simp) ?_
          simp only [Act.put, List.setIfInBounds_toArray, List.set_cons_succ, List.set_cons_zero]
          refine Rd.seq_end ?_
          go_wp2_with fail
          refine ⟨⟨j + 1, by omega, by go_num, HRd, HBd, Lib.hid (fun t ht => ?_)⟩, by simp [intOf]; omega⟩
          by_cases e : t = j
          · subst e; rw [HY2.out]; exact HY.out
          · exact HN.out t (by omega)
        · have HP : Hid (place L x = j) := Lib.hid (place_hit hj HN.out (fun hl hlt => hgo ⟨hl, hlt⟩))
          have hc := HC.out
          have h0 := HX0.out
          go_wp2_with fail
          refine Rd.regionT (fun X => (∀ t, t < L.length → ∃ g, ao = some ⟨g, 0, none⟩ ∧ X.cell? ⟨g, t, none⟩ = some (.int .i64 (L.getD t 0))) ∧ X.cell? ⟨w.heap.size, 0, none⟩ = some (.slice (some ⟨b, 0, none⟩) l.length c) ∧ X.cell? ⟨b, k, none⟩ = some (.int .i64 x)) [0, 1, 2, 3, 4, 5, 6, 7, 8, 9, 10, 11, 12, 13, 14, 15] ((.one 0 (.one 1 (.one 2 (.one 3 (.one 4 (.one 5 (.one 6 (.one 7 (.one 8 (.one 9 (.one 10 (.one 11 (.one 12 (.one 13 (.one 14 (.one 15 .done))))))))))))))))) (fun ac W => (∃ (y12 y13 y14 y15 y16 y17 y18 y19 y20 y21 y22 y23 y24 y25 y26 : Value), ac = { tmps := List.toArray (.agg #[.slice (some ⟨b, 0, none⟩) l.length c, .int .i64 m] :: .pointer (some ⟨w.heap.size, 0, none⟩) :: .slice none 0 0 :: .slice ao L.length co :: .int .i64 (k : Int) :: .int .i64 (j : Int) :: .pointer (some ⟨w.heap.size, 0, none⟩) :: .slice (some ⟨b, 0, none⟩) l.length c :: .int .i64 (l.length : Int) :: .int .i64 (k : Int) :: .bool true :: .int .i64 (k : Int) :: y12 :: y13 :: y14 :: y15 :: y16 :: y17 :: y18 :: y19 :: y20 :: y21 :: y22 :: y23 :: y24 :: y25 :: y26 :: .bool false :: u28 :: u29 :: u30 :: u31 :: u32 :: u33 :: u34 :: u35 :: u36 :: u37 :: u38 :: u39 :: u40 :: u41 :: u42 :: u43 :: u44 :: u45 :: u46 :: u47 :: u48 :: u49 :: u50 :: u51 :: u52 :: undef :: []), defers := [] }) ∧ Below wr.heap.size wr W) (by kernel_rfl) (by kernel_rfl) (by kernel_rfl) ⟨fun t ht => (by obtain ⟨g, e, _, _, h, _⟩ := HR.out.at ht; exact ⟨g, e, h⟩), h0, hc⟩ ?tree ?next
          case tree =>
            have hbd : Below wr.heap.size wr wr.drew := ⟨rfl, rfl, rfl, Nat.le_refl _, fun _ _ => rfl⟩
            by_cases hjl : j < L.length
            · have hyx : ¬ L.getD j 0 < x := fun h => hgo ⟨hjl, h⟩
              obtain ⟨g, rfl, -⟩ := HR.out.at hjl
              have HG : Hid (∀ X : World, (∀ t, t < L.length → ∃ g', some (⟨g, 0, none⟩ : Addr) = some ⟨g', 0, none⟩ ∧ X.cell? ⟨g', t, none⟩ = some (.int .i64 (L.getD t 0))) → X.cell? ⟨g, j, none⟩ = some (.int .i64 (L.getD j 0))) := Lib.hid (fun X h => by
                obtain ⟨g', e, h⟩ := h j hjl
                cases e
                exact h)
              generalize L.getD j 0 = y at hyx HG
              clear hgo
              refine Rd.tr_float (.int .i64 (j : Int)) (by simp only [List.getElem?_toArray, List.getElem?_cons_zero]; rfl) rfl (by rfl) (fun X _ => by go_simp) ?_
              simp only [Act.put, List.setIfInBounds_toArray, List.set_cons_succ, List.set_cons_zero]
              refine Rd.tr_float (.slice (some ⟨g, 0, none⟩) L.length co) (by simp only [List.getElem?_toArray, List.getElem?_cons_succ, List.getElem?_cons_zero]; rfl) rfl (by rfl) (fun X _ => by go_simp) ?_
              simp only [Act.put, List.setIfInBounds_toArray, List.set_cons_succ, List.set_cons_zero]
              refine Rd.tr_float (.int .i64 (L.length : Int)) (by simp only [List.getElem?_toArray, List.getElem?_cons_succ, List.getElem?_cons_zero]; rfl) rfl (by rfl) (fun X _ => by go_simp) ?_
              simp only [Act.put, List.setIfInBounds_toArray, List.set_cons_succ, List.set_cons_zero]
              refine Rd.tr_float (.bool true) (by simp only [List.getElem?_toArray, List.getElem?_cons_succ, List.getElem?_cons_zero]; rfl) rfl (by rfl) (fun X _ => by go_simp) ?_
              simp only [Act.put, List.setIfInBounds_toArray, List.set_cons_succ, List.set_cons_zero]
              refine Rd.tr_float (.bool true) (by simp only [List.getElem?_toArray, List.getElem?_cons_succ, List.getElem?_cons_zero]; rfl) rfl (by rfl) (fun X _ => by go_simp) ?_
              simp only [Act.put, List.setIfInBounds_toArray, List.set_cons_succ, List.set_cons_zero]
              refine Rd.tr_float (.slice (some ⟨g, 0, none⟩) L.length co) (by simp only [List.getElem?_toArray, List.getElem?_cons_succ, List.getElem?_cons_zero]; rfl) rfl (by rfl) (fun X _ => by go_simp) ?_
              simp only [Act.put, List.setIfInBounds_toArray, List.set_cons_succ, List.set_cons_zero]
              refine Rd.tr_float (.int .i64 (j : Int)) (by simp only [List.getElem?_toArray, List.getElem?_cons_succ, List.getElem?_cons_zero]; rfl) rfl (by rfl) (fun X _ => by go_simp) ?_
              simp only [Act.put, List.setIfInBounds_toArray, List.set_cons_succ, List.set_cons_zero]
              refine Rd.tr_float (.pointer (some ⟨g, j, none⟩)) (by simp only [List.getElem?_toArray, List.getElem?_cons_succ, List.getElem?_cons_zero]; rfl) rfl (by rfl) (fun X _ => by go_simp) ?_
              simp only [Act.put, List.setIfInBounds_toArray, List.set_cons_succ, List.set_cons_zero]
              refine Rd.tr_float (.int .i64 y) (by simp only [List.getElem?_toArray, List.getElem?_cons_succ, List.getElem?_cons_zero]; rfl) rfl (by rfl) (fun X hX => by obtain ⟨e1, e2, e3⟩ := hX; have e4 := HG.out X e1; clear e1; go_simp) ?_
              simp only [Act.put, List.setIfInBounds_toArray, List.set_cons_succ, List.set_cons_zero]
              refine Rd.tr_float (.pointer (some ⟨w.heap.size, 0, none⟩)) (by simp only [List.getElem?_toArray, List.getElem?_cons_succ, List.getElem?_cons_zero]; rfl) rfl (by rfl) (fun X _ => by go_simp) ?_
              simp only [Act.put, List.setIfInBounds_toArray, List.set_cons_succ, List.set_cons_zero]
              refine Rd.tr_float (.slice (some ⟨b, 0, none⟩) l.length c) (by simp only [List.getElem?_toArray, List.getElem?_cons_succ, List.getElem?_cons_zero]; rfl) rfl (by rfl) (fun X hX => by obtain ⟨e1, e2, e3⟩ := hX; clear e1; go_simp) ?_
              simp only [Act.put, List.setIfInBounds_toArray, List.set_cons_succ, List.set_cons_zero]
              refine Rd.tr_float (.int .i64 (k : Int)) (by simp only [List.getElem?_toArray, List.getElem?_cons_succ, List.getElem?_cons_zero]; rfl) rfl (by rfl) (fun X _ => by go_simp) ?_
              simp only [Act.put, List.setIfInBounds_toArray, List.set_cons_succ, List.set_cons_zero]
              refine Rd.tr_float (.pointer (some ⟨b, k, none⟩)) (by simp only [List.getElem?_toArray, List.getElem?_cons_succ, List.getElem?_cons_zero]; rfl) rfl (by rfl) (fun X _ => by go_simp) ?_
              simp only [Act.put, List.setIfInBounds_toArray, List.set_cons_succ, List.set_cons_zero]
              refine Rd.tr_float (.int .i64 x) (by simp only [List.getElem?_toArray, List.getElem?_cons_succ, List.getElem?_cons_zero]; rfl) rfl (by rfl) (fun X hX => by obtain ⟨e1, e2, e3⟩ := hX; clear e1; go_simp) ?_
              simp only [Act.put, List.setIfInBounds_toArray, List.set_cons_succ, List.set_cons_zero]
              refine Rd.tr_float (.bool false) (by simp only [List.getElem?_toArray, List.getElem?_cons_succ, List.getElem?_cons_zero]; rfl) rfl (by rfl) (fun X _ => by go_simp) ?_
              simp only [Act.put, List.setIfInBounds_toArray, List.set_cons_succ, List.set_cons_zero]
              refine Rd.tr_float (.bool false) (by simp only [List.getElem?_toArray, List.getElem?_cons_succ, List.getElem?_cons_zero]; rfl) rfl (by rfl) (fun X _ => by go_simp) ?_
              simp only [Act.put, List.setIfInBounds_toArray, List.set_cons_succ, List.set_cons_zero]
              exact Rd.tr_end ⟨⟨_, _, _, _, _, _, _, _, _, _, _, _, _, _, _, rfl⟩, hbd⟩
            · clear hgo
              refine Rd.tr_float (.int .i64 (j : Int)) (by simp only [List.getElem?_toArray, List.getElem?_cons_zero]; rfl) rfl (by rfl) (fun X _ => by go_simp) ?_
              simp only [Act.put, List.setIfInBounds_toArray, List.set_cons_succ, List.set_cons_zero]
              refine Rd.tr_float (.slice ao L.length co) (by simp only [List.getElem?_toArray, List.getElem?_cons_succ, List.getElem?_cons_zero]; rfl) rfl (by rfl) (fun X _ => by go_simp) ?_
              simp only [Act.put, List.setIfInBounds_toArray, List.set_cons_succ, List.set_cons_zero]
              refine Rd.tr_float (.int .i64 (L.length : Int)) (by simp only [List.getElem?_toArray, List.getElem?_cons_succ, List.getElem?_cons_zero]; rfl) rfl (by rfl) (fun X _ => by go_simp) ?_
              simp only [Act.put, List.setIfInBounds_toArray, List.set_cons_succ, List.set_cons_zero]
              refine Rd.tr_float (.bool false) (by simp only [List.getElem?_toArray, List.getElem?_cons_succ, List.getElem?_cons_zero]; rfl) rfl (by rfl) (fun X _ => by go_simp) ?_
              simp only [Act.put, List.setIfInBounds_toArray, List.set_cons_succ, List.set_cons_zero]
              refine Rd.tr_float (.bool false) (by simp only [List.getElem?_toArray, List.getElem?_cons_succ, List.getElem?_cons_zero]; rfl) rfl (by rfl) (fun X _ => by go_simp) ?_
              simp only [Act.put, List.setIfInBounds_toArray, List.set_cons_succ, List.set_cons_zero]
              refine Rd.tr_skip (by simp only [List.getElem?_toArray, List.getElem?_cons_succ, List.getElem?_cons_zero]; rfl) rfl (by rfl) ?_
              simp only [Act.put, List.setIfInBounds_toArray, List.set_cons_succ, List.set_cons_zero]
              refine Rd.tr_skip (by simp only [List.getElem?_toArray, List.getElem?_cons_succ, List.getElem?_cons_zero]; rfl) rfl (by rfl) ?_
              simp only [Act.put, List.setIfInBounds_toArray, List.set_cons_succ, List.set_cons_zero]
              refine Rd.tr_skip (by simp only [List.getElem?_toArray, List.getElem?_cons_succ, List.getElem?_cons_zero]; rfl) rfl (by rfl) ?_
              simp only [Act.put, List.setIfInBounds_toArray, List.set_cons_succ, List.set_cons_zero]
              refine Rd.tr_skip (by simp only [List.getElem?_toArray, List.getElem?_cons_succ, List.getElem?_cons_zero]; rfl) rfl (by rfl) ?_
              simp only [Act.put, List.setIfInBounds_toArray, List.set_cons_succ, List.set_cons_zero]
              refine Rd.tr_skip (by simp only [List.getElem?_toArray, List.getElem?_cons_succ, List.getElem?_cons_zero]; rfl) rfl (by rfl) ?_
              simp only [Act.put, List.setIfInBounds_toArray, List.set_cons_succ, List.set_cons_zero]
              refine Rd.tr_skip (by simp only [List.getElem?_toArray, List.getElem?_cons_succ, List.getElem?_cons_zero]; rfl) rfl (by rfl) ?_
              simp only [Act.put, List.setIfInBounds_toArray, List.set_cons_succ, List.set_cons_zero]
              refine Rd.tr_skip (by simp only [List.getElem?_toArray, List.getElem?_cons_succ, List.getElem?_cons_zero]; rfl) rfl (by rfl) ?_
              simp only [Act.put, List.setIfInBounds_toArray, List.set_cons_succ, List.set_cons_zero]
              refine Rd.tr_skip (by simp only [List.getElem?_toArray, List.getElem?_cons_succ, List.getElem?_cons_zero]; rfl) rfl (by rfl) ?_
              simp only [Act.put, List.setIfInBounds_toArray, List.set_cons_succ, List.set_cons_zero]
              refine Rd.tr_skip (by simp only [List.getElem?_toArray, List.getElem?_cons_succ, List.getElem?_cons_zero]; rfl) rfl (by rfl) ?_
              simp only [Act.put, List.setIfInBounds_toArray, List.set_cons_succ, List.set_cons_zero]
              refine Rd.tr_skip (by simp only [List.getElem?_toArray, List.getElem?_cons_succ, List.getElem?_cons_zero]; rfl) rfl (by rfl) ?_
              simp only [Act.put, List.setIfInBounds_toArray, List.set_cons_succ, List.set_cons_zero]
              refine Rd.tr_float (.bool false) (by simp only [List.getElem?_toArray, List.getElem?_cons_succ, List.getElem?_cons_zero]; rfl) rfl (by rfl) (fun X _ => by go_simp) ?_
              simp only [Act.put, List.setIfInBounds_toArray, List.set_cons_succ, List.set_cons_zero]
              exact Rd.tr_end ⟨⟨_, _, _, _, _, _, _, _, _, _, _, _, _, _, _, rfl⟩, hbd⟩
          case next =>
            rintro ac W ⟨⟨y12, y13, y14, y15, y16, y17, y18, y19, y20, y21, y22, y23, y24, y25, y26, rfl⟩, hb5⟩
            replace HR := Lib.hid (HR.out.below hb5)
            replace HB1 := Lib.hid (HB1.out.trans (hb5.mono (by have := HB1.out.size; omega)))
            clear hgo hc h0 HC HX0 HN hb5
            have hc := (HB1.out.cell (p := ⟨b, k, none⟩) (show b < w.heap.size + 1 by omega)).trans (show w1.cell? ⟨b, k, none⟩ = some (.int .i64 x) from HC0.out)
            have h0 := (hx.below HB1.out (by omega)).c0
            by_cases hx0 : 0 < x
            · go_wp2_with fail
              have HI : Hid (L.take j ++ (x :: L.drop j) = ins L x) := Lib.hid (by unfold ins; rw [HP.out])
              have HS1 := Lib.hid (head_src HR.out hj)
              have HS2 := Lib.hid (tail_src HR.out hj)
              have HF := Lib.hid (HR.out.form hj)
              have hwd : Below W.heap.size W W.drew := ⟨rfl, rfl, rfl, Nat.le_refl _, fun _ _ => rfl⟩
              have hWB := HB1.out.size
              replace HB1 := Lib.hid (HB1.out.trans (hwd.mono (by omega)))
              have hc9 := (hwd.cell (p := ⟨b, k, none⟩) (show b < W.heap.size by omega)).trans hc
              have h09 := (hwd.cell (p := ⟨w.heap.size, 0, none⟩) (show w.heap.size < W.heap.size by omega)).trans h0
              have HS1d := Lib.hid (HS1.out.below hwd)
              have HS2d := Lib.hid (HS2.out.below hwd)
              have hW9 : w.heap.size + 1 ≤ W.drew.heap.size := by show _ ≤ W.heap.size; omega
              generalize hw4 : W.drew = w4 at *
              refine Rd.regionT (fun X => X.cell? ⟨w.heap.size, 0, none⟩ = some (.slice (some ⟨b, 0, none⟩) l.length c) ∧ X.cell? ⟨b, k, none⟩ = some (.int .i64 x)) [1, 2, 3, 5, 6, 7, 8, 9, 12, 13, 14, 16] ((.one 1 (.one 2 (.one 3 (.one 5 (.one 6 (.one 7 (.one 8 (.one 9 (.one 12 (.one 13 (.one 14 (.two 0 (.two 4 (.one 10 (.one 11 (.one 15 (.one 16 .done)))) 10 (.one 4 (.one 11 (.one 15 (.one 16 .done))))) 10 (.one 0 (.one 4 (.one 11 (.one 15 (.one 16 .done)))))))))))))))))) (fun ac W => (∃ (y12 y13 y14 y15 y16 y17 y18 y19 y20 y21 y22 y23 y24 y25 y26 y27 y28 y29 y30 y31 y32 y33 y34 y35 y36 y37 y38 y39 y40 y41 y42 y43 y44 y45 y46 y47 y48 y49 y50 y51 y52 v3 : Value), ac = { tmps := List.toArray (.agg #[.slice (some ⟨b, 0, none⟩) l.length c, .int .i64 m] :: .pointer (some ⟨w.heap.size, 0, none⟩) :: .slice none 0 0 :: v3 :: .int .i64 (k : Int) :: .int .i64 (j : Int) :: .pointer (some ⟨w.heap.size, 0, none⟩) :: .slice (some ⟨b, 0, none⟩) l.length c :: .int .i64 (l.length : Int) :: .int .i64 (k : Int) :: .bool true :: .int .i64 (k : Int) :: y12 :: y13 :: y14 :: y15 :: y16 :: y17 :: y18 :: y19 :: y20 :: y21 :: y22 :: y23 :: y24 :: y25 :: y26 :: y27 :: y28 :: y29 :: y30 :: y31 :: y32 :: y33 :: y34 :: y35 :: y36 :: y37 :: y38 :: y39 :: y40 :: y41 :: y42 :: y43 :: y44 :: y45 :: y46 :: y47 :: y48 :: y49 :: y50 :: y51 :: y52 :: undef :: []), defers := [] } ∧ RowO W w4.heap.size v3 (ins L x)) ∧ Below w4.heap.size w4 W) (by kernel_rfl) (by kernel_rfl) (by kernel_rfl) (by rw [hw4]; exact ⟨h09, hc9⟩) ?tree ?next
              case tree =>
                rw [hw4]
                clear hw4 hwd HR HS1 HS2 hc h0
                have HS1 := HS1d
                have HS2 := HS2d
                have s0 : Hid (∀ X, Below w4.heap.size w4 X → X.cell? ⟨w.heap.size, 0, none⟩ = some (.slice (some ⟨b, 0, none⟩) l.length c)) := Lib.hid (fun X h => (h.cell (p := ⟨w.heap.size, 0, none⟩) (show w.heap.size < w4.heap.size by omega)).trans h09)
                have s1 : Hid (∀ X, Below w4.heap.size w4 X → X.cell? ⟨b, k, none⟩ = some (.int .i64 x)) := Lib.hid (fun X h => (h.cell (p := ⟨b, k, none⟩) (show b < w4.heap.size by omega)).trans hc9)
                have hB := Below.refl w4.heap.size w4
                clear h09 hc9 HS1d HS2d
                refine Rd.tr_float (.slice ao L.length co) (by simp only [List.getElem?_toArray, List.getElem?_cons_succ, List.getElem?_cons_zero]; rfl) rfl (by rfl) (fun X _ => by go_simp) ?_
                simp only [Act.put, List.setIfInBounds_toArray, List.set_cons_succ, List.set_cons_zero]
                refine Rd.tr_float (.int .i64 (j : Int)) (by simp only [List.getElem?_toArray, List.getElem?_cons_succ, List.getElem?_cons_zero]; rfl) rfl (by rfl) (fun X _ => by go_simp) ?_
                simp only [Act.put, List.setIfInBounds_toArray, List.set_cons_succ, List.set_cons_zero]
                refine Rd.tr_float (.slice ao j co) (by simp only [List.getElem?_toArray, List.getElem?_cons_succ, List.getElem?_cons_zero]; rfl) rfl (by rfl) (fun X _ => by rcases HF.out with ⟨rfl, rfl, rfl, rfl⟩ | ⟨⟨g, rfl⟩, h1, h2, h3⟩ <;> go_simp) ?_
                simp only [Act.put, List.setIfInBounds_toArray, List.set_cons_succ, List.set_cons_zero]
                refine Rd.tr_float (.pointer (some ⟨w.heap.size, 0, none⟩)) (by simp only [List.getElem?_toArray, List.getElem?_cons_succ, List.getElem?_cons_zero]; rfl) rfl (by rfl) (fun X _ => by go_simp) ?_
                simp only [Act.put, List.setIfInBounds_toArray, List.set_cons_succ, List.set_cons_zero]
                refine Rd.tr_float (.slice (some ⟨b, 0, none⟩) l.length c) (by simp only [List.getElem?_toArray, List.getElem?_cons_succ, List.getElem?_cons_zero]; rfl) rfl (by rfl) (fun X hX => by obtain ⟨e1, e2⟩ := hX; go_simp) ?_
                simp only [Act.put, List.setIfInBounds_toArray, List.set_cons_succ, List.set_cons_zero]
                refine Rd.tr_float (.int .i64 (k : Int)) (by simp only [List.getElem?_toArray, List.getElem?_cons_succ, List.getElem?_cons_zero]; rfl) rfl (by rfl) (fun X _ => by go_simp) ?_
                simp only [Act.put, List.setIfInBounds_toArray, List.set_cons_succ, List.set_cons_zero]
                refine Rd.tr_float (.pointer (some ⟨b, k, none⟩)) (by simp only [List.getElem?_toArray, List.getElem?_cons_succ, List.getElem?_cons_zero]; rfl) rfl (by rfl) (fun X _ => by go_simp) ?_
                simp only [Act.put, List.setIfInBounds_toArray, List.set_cons_succ, List.set_cons_zero]
                refine Rd.tr_float (.int .i64 x) (by simp only [List.getElem?_toArray, List.getElem?_cons_succ, List.getElem?_cons_zero]; rfl) rfl (by rfl) (fun X hX => by obtain ⟨e1, e2⟩ := hX; go_simp) ?_
                simp only [Act.put, List.setIfInBounds_toArray, List.set_cons_succ, List.set_cons_zero]
                refine Rd.tr_float (.slice ao L.length co) (by simp only [List.getElem?_toArray, List.getElem?_cons_succ, List.getElem?_cons_zero]; rfl) rfl (by rfl) (fun X _ => by go_simp) ?_
                simp only [Act.put, List.setIfInBounds_toArray, List.set_cons_succ, List.set_cons_zero]
                refine Rd.tr_float (.int .i64 (j : Int)) (by simp only [List.getElem?_toArray, List.getElem?_cons_succ, List.getElem?_cons_zero]; rfl) rfl (by rfl) (fun X _ => by go_simp) ?_
                simp only [Act.put, List.setIfInBounds_toArray, List.set_cons_succ, List.set_cons_zero]
                refine Rd.tr_float (.slice (if co = j then ao else ao.map fun p => p.add j) (L.length - j) (co - j)) (by simp only [List.getElem?_toArray, List.getElem?_cons_succ, List.getElem?_cons_zero]; rfl) rfl (by rfl) (fun X _ => by rcases HF.out with ⟨rfl, rfl, rfl, rfl⟩ | ⟨⟨g, rfl⟩, h1, h2, h3⟩; (go_simp); (by_cases hcj : co = j <;> go_simp)) ?_
                simp only [Act.put, List.setIfInBounds_toArray, List.set_cons_succ, List.set_cons_zero]
                refine Rd.tr_two (by simp only [List.getElem?_toArray, List.getElem?_cons_zero]; rfl) (by rfl) (by simp only [List.getElem?_toArray, List.getElem?_cons_succ, List.getElem?_cons_zero]; rfl) (by rfl) (fun K hK => ?_) (fun K hK => ?_)
                · go_simp
                  have hE := RowO.empty w4 w4.heap.size hB.size
                  have hbn : Below w4.heap.size w4 (w4.alloc (.cells #[] 3)) := (Below.refl _ _).alloc (Nat.le_refl _) _
                  have hltz1 : w4.heap.size < (w4.alloc (.cells #[] 3)).heap.size := by simp
                  replace hB := hB.trans (hbn.mono hB.size)
                  clear hbn
                  generalize w4.alloc (.cells #[] 3) = z1 at *
                  refine hK _ _ ⟨s0.out _ hB, s1.out _ hB⟩ ?_
                  clear hK K
                  refine Rd.tr_two (by simp only [List.getElem?_toArray, List.getElem?_cons_succ, List.getElem?_cons_zero]; rfl) (by rfl) (by simp only [List.getElem?_toArray, List.getElem?_cons_succ, List.getElem?_cons_zero]; rfl) (by rfl) (fun K hK => ?_) (fun K hK => ?_)
                  · refine wp_append _ _ rfl w4.heap.size _ _ [] (L.take j) rfl rfl hB.size hE (HS1.out.below hB) (by simp; omega) ?_
                    intro v4 z2 h4 gr
                    rw [List.nil_append] at h4
                    have hbn := grown_below hE hB.size gr
                    clear gr
                    replace hB := hB.trans hbn
                    clear hbn
                    refine hK _ _ ⟨s0.out _ hB, s1.out _ hB⟩ ?_
                    clear hK K
                    refine Rd.tr_move (by simp only [List.getElem?_toArray, List.getElem?_cons_succ, List.getElem?_cons_zero]; rfl) rfl (by rfl) (fun K hK => ?_)
                    go_simp
                    have hO := OneAt.new z2 x
                    have hbn : Below z2.heap.size z2 (z2.alloc (.cells #[.int .i64 x] 3)) := (Below.refl _ _).alloc (Nat.le_refl _) _
                    have hltz3 : z2.heap.size < (z2.alloc (.cells #[.int .i64 x] 3)).heap.size := by simp
                    replace h4 := h4.below hbn
                    replace hB := hB.trans (hbn.mono hB.size)
                    clear hbn
                    generalize z2.alloc (.cells #[.int .i64 x] 3) = z3 at *
                    refine hK _ _ ⟨s0.out _ hB, s1.out _ hB⟩ ?_
                    clear hK K
                    refine Rd.tr_move (by simp only [List.getElem?_toArray, List.getElem?_cons_succ, List.getElem?_cons_zero]; rfl) rfl (by rfl) (fun K hK => ?_)
                    refine wp_append _ _ rfl w4.heap.size _ _ (L.take j) [x] rfl rfl hB.size h4 hO.src (by simp; omega) ?_
                    intro v11 x11 h11 gr
                    have hbn := grown_below h4 hB.size gr
                    clear gr
                    replace hB := hB.trans hbn
                    clear hbn
                    refine hK _ _ ⟨s0.out _ hB, s1.out _ hB⟩ ?_
                    clear hK K
                    refine Rd.tr_move (by simp only [List.getElem?_toArray, List.getElem?_cons_succ, List.getElem?_cons_zero]; rfl) rfl (by rfl) (fun K hK => ?_)
                    refine wp_append _ _ rfl w4.heap.size _ _ (L.take j ++ [x]) (L.drop j) rfl rfl hB.size h11 (HS2.out.below hB) (by simp; omega) ?_
                    intro v15 x12 h15 gr
                    have hbn := grown_below h11 hB.size gr
                    clear gr
                    replace hB := hB.trans hbn
                    clear hbn
                    refine hK _ _ ⟨s0.out _ hB, s1.out _ hB⟩ ?_
                    clear hK K
                    refine Rd.tr_float (v15) (by simp only [List.getElem?_toArray, List.getElem?_cons_succ, List.getElem?_cons_zero]; rfl) rfl (by rfl) (fun X _ => by go_simp) ?_
                    simp only [Act.put, List.setIfInBounds_toArray, List.set_cons_succ, List.set_cons_zero]
                    refine Rd.tr_end ⟨⟨_, _, _, _, _, _, _, _, _, _, _, _, _, _, _, _, _, _, _, _, _, _, _, _, _, _, _, _, _, _, _, _, _, _, _, _, _, _, _, _, _, v15, rfl, ?_⟩, hB⟩
                    rw [List.append_assoc] at h15
                    rw [← HI.out]; exact h15
                  · go_simp
                    have hO := OneAt.new z1 x
                    have hbn : Below z1.heap.size z1 (z1.alloc (.cells #[.int .i64 x] 3)) := (Below.refl _ _).alloc (Nat.le_refl _) _
                    have hltz4 : z1.heap.size < (z1.alloc (.cells #[.int .i64 x] 3)).heap.size := by simp
                    have hEl := (hE.lt _ rfl).2
                    replace hE := hE.below hbn
                    replace hB := hB.trans (hbn.mono hB.size)
                    clear hbn
                    generalize z1.alloc (.cells #[.int .i64 x] 3) = z4 at *
                    refine hK _ _ ⟨s0.out _ hB, s1.out _ hB⟩ ?_
                    clear hK K
                    refine Rd.tr_move (by simp only [List.getElem?_toArray, List.getElem?_cons_succ, List.getElem?_cons_zero]; rfl) rfl (by rfl) (fun K hK => ?_)
                    refine wp_append _ _ rfl w4.heap.size _ _ [] (L.take j) rfl rfl hB.size hE (HS1.out.below hB) (by simp; omega) ?_
                    intro v4 z5 h4 gr
                    rw [List.nil_append] at h4
                    have hbn := grown_below hE hB.size gr
                    replace hO := hO.grown gr (by intro e; have e2 := Option.some.inj e; try dsimp only at e2; omega)
                    clear gr
                    replace hB := hB.trans hbn
                    clear hbn
                    refine hK _ _ ⟨s0.out _ hB, s1.out _ hB⟩ ?_
                    clear hK K
                    refine Rd.tr_move (by simp only [List.getElem?_toArray, List.getElem?_cons_succ, List.getElem?_cons_zero]; rfl) rfl (by rfl) (fun K hK => ?_)
                    refine wp_append _ _ rfl w4.heap.size _ _ (L.take j) [x] rfl rfl hB.size h4 hO.src (by simp; omega) ?_
                    intro v11 x21 h11 gr
                    have hbn := grown_below h4 hB.size gr
                    clear gr
                    replace hB := hB.trans hbn
                    clear hbn
                    refine hK _ _ ⟨s0.out _ hB, s1.out _ hB⟩ ?_
                    clear hK K
                    refine Rd.tr_move (by simp only [List.getElem?_toArray, List.getElem?_cons_succ, List.getElem?_cons_zero]; rfl) rfl (by rfl) (fun K hK => ?_)
                    refine wp_append _ _ rfl w4.heap.size _ _ (L.take j ++ [x]) (L.drop j) rfl rfl hB.size h11 (HS2.out.below hB) (by simp; omega) ?_
                    intro v15 x22 h15 gr
                    have hbn := grown_below h11 hB.size gr
                    clear gr
                    replace hB := hB.trans hbn
                    clear hbn
                    refine hK _ _ ⟨s0.out _ hB, s1.out _ hB⟩ ?_
                    clear hK K
                    refine Rd.tr_float (v15) (by simp only [List.getElem?_toArray, List.getElem?_cons_succ, List.getElem?_cons_zero]; rfl) rfl (by rfl) (fun X _ => by go_simp) ?_
                    simp only [Act.put, List.setIfInBounds_toArray, List.set_cons_succ, List.set_cons_zero]
                    refine Rd.tr_end ⟨⟨_, _, _, _, _, _, _, _, _, _, _, _, _, _, _, _, _, _, _, _, _, _, _, _, _, _, _, _, _, _, _, _, _, _, _, _, _, _, _, _, _, v15, rfl, ?_⟩, hB⟩
                    rw [List.append_assoc] at h15
                    rw [← HI.out]; exact h15
                · go_simp
                  have hO := OneAt.new w4 x
                  have hbn : Below w4.heap.size w4 (w4.alloc (.cells #[.int .i64 x] 3)) := (Below.refl _ _).alloc (Nat.le_refl _) _
                  have hltz6 : w4.heap.size < (w4.alloc (.cells #[.int .i64 x] 3)).heap.size := by simp
                  replace hB := hB.trans (hbn.mono hB.size)
                  clear hbn
                  generalize w4.alloc (.cells #[.int .i64 x] 3) = z6 at *
                  refine hK _ _ ⟨s0.out _ hB, s1.out _ hB⟩ ?_
                  clear hK K
                  refine Rd.tr_move (by simp only [List.getElem?_toArray, List.getElem?_cons_zero]; rfl) rfl (by rfl) (fun K hK => ?_)
                  go_simp
                  have hE := RowO.empty z6 w4.heap.size hB.size
                  have hbn : Below z6.heap.size z6 (z6.alloc (.cells #[] 3)) := (Below.refl _ _).alloc (Nat.le_refl _) _
                  have hltz7 : z6.heap.size < (z6.alloc (.cells #[] 3)).heap.size := by simp
                  have hOl := hO.lt
                  replace hO := hO.below hbn
                  replace hB := hB.trans (hbn.mono hB.size)
                  clear hbn
                  generalize z6.alloc (.cells #[] 3) = z7 at *
                  refine hK _ _ ⟨s0.out _ hB, s1.out _ hB⟩ ?_
                  clear hK K
                  refine Rd.tr_move (by simp only [List.getElem?_toArray, List.getElem?_cons_succ, List.getElem?_cons_zero]; rfl) rfl (by rfl) (fun K hK => ?_)
                  refine wp_append _ _ rfl w4.heap.size _ _ [] (L.take j) rfl rfl hB.size hE (HS1.out.below hB) (by simp; omega) ?_
                  intro v4 z8 h4 gr
                  rw [List.nil_append] at h4
                  have hbn := grown_below hE hB.size gr
                  replace hO := hO.grown gr (by intro e; have e2 := Option.some.inj e; try dsimp only at e2; omega)
                  clear gr
                  replace hB := hB.trans hbn
                  clear hbn
                  refine hK _ _ ⟨s0.out _ hB, s1.out _ hB⟩ ?_
                  clear hK K
                  refine Rd.tr_move (by simp only [List.getElem?_toArray, List.getElem?_cons_succ, List.getElem?_cons_zero]; rfl) rfl (by rfl) (fun K hK => ?_)
                  refine wp_append _ _ rfl w4.heap.size _ _ (L.take j) [x] rfl rfl hB.size h4 hO.src (by simp; omega) ?_
                  intro v11 x31 h11 gr
                  have hbn := grown_below h4 hB.size gr
                  clear gr
                  replace hB := hB.trans hbn
                  clear hbn
                  refine hK _ _ ⟨s0.out _ hB, s1.out _ hB⟩ ?_
                  clear hK K
                  refine Rd.tr_move (by simp only [List.getElem?_toArray, List.getElem?_cons_succ, List.getElem?_cons_zero]; rfl) rfl (by rfl) (fun K hK => ?_)
                  refine wp_append _ _ rfl w4.heap.size _ _ (L.take j ++ [x]) (L.drop j) rfl rfl hB.size h11 (HS2.out.below hB) (by simp; omega) ?_
                  intro v15 x32 h15 gr
                  have hbn := grown_below h11 hB.size gr
                  clear gr
                  replace hB := hB.trans hbn
                  clear hbn
                  refine hK _ _ ⟨s0.out _ hB, s1.out _ hB⟩ ?_
                  clear hK K
                  refine Rd.tr_float (v15) (by simp only [List.getElem?_toArray, List.getElem?_cons_succ, List.getElem?_cons_zero]; rfl) rfl (by rfl) (fun X _ => by go_simp) ?_
                  simp only [Act.put, List.setIfInBounds_toArray, List.set_cons_succ, List.set_cons_zero]
                  refine Rd.tr_end ⟨⟨_, _, _, _, _, _, _, _, _, _, _, _, _, _, _, _, _, _, _, _, _, _, _, _, _, _, _, _, _, _, _, _, _, _, _, _, _, _, _, _, _, v15, rfl, ?_⟩, hB⟩
                  rw [List.append_assoc] at h15
                  rw [← HI.out]; exact h15
              case next =>
                rintro ac Z ⟨⟨y12, y13, y14, y15, y16, y17, y18, y19, y20, y21, y22, y23, y24, y25, y26, y27, y28, y29, y30, y31, y32, y33, y34, y35, y36, y37, y38, y39, y40, y41, y42, y43, y44, y45, y46, y47, y48, y49, y50, y51, y52, v3, rfl, h3⟩, hb9⟩
                obtain ⟨a3, c3, rfl⟩ := h3.sl
                have HB9 := Lib.hid (HB1.out.trans (hb9.mono (by omega)))
                have HE : Hid (putIn L x = ins L x) := Lib.hid (by unfold putIn; rw [if_pos hx0])
                have H3 := Lib.hid (h3.mono (show w.heap.size + 1 ≤ w4.heap.size by omega))
                clear hw4 hwd HR HS1 HS2 hc h0 hc9 h09 hb9 h3
                go_wp2_with fail
                exact ⟨⟨k + 1, a3, c3, by omega, by go_num, by rw [HD.out, HE.out], by rw [HD.out, HE.out]; exact H3.out, HB9.out⟩, by simp [intOf]; omega⟩
            · have HE : Hid (putIn L x = L) := Lib.hid (by unfold putIn; rw [if_neg hx0])
              go_wp2_with fail
              exact ⟨⟨k + 1, ao, co, by omega, by go_num, by rw [HD.out, HE.out], by rw [HD.out, HE.out]; exact HR.out, HB1.out⟩, by simp [intOf]; omega⟩
    · obtain rfl : k = l.length := by omega
      rw [List.take_length] at hr
      go_wp2_with fail
      go_ret
      exact ⟨⟨ao, co, by rw [List.take_length]; rfl, hr.mono (by omega)⟩, (hb.trans (hb1.mono (by omega)))⟩
end Go.Proofs.Ythopmkgbhfkeoaa
