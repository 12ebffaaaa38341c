/-
  The example of the document, and what is shared. No condition.
-/
import Derived.Test.YtphllajedkpcbaaGreatDoorFk
namespace Go.Proofs.YtphllajedkpcbaaGreatDoor
open Go.RowKit Go.Dig Go.Shelf Go.Proofs Go.Rq

theorem RI.built (w : World) (l : List Int) (t : TypeId) : RI (w.alloc (.cells (l.map (Value.int .i64)).toArray t)) ⟨some ⟨w.heap.size, 0, none⟩, l.length, l.length⟩ l := by
  refine ⟨_, _, rfl, Nat.le_refl _, fun _ => ⟨w.heap.size, 0, rfl, by simp, fun j hj => ?_⟩⟩
  have h := heap_alloc_new w (.cells (l.map (Value.int .i64)).toArray t)
  unfold World.cell?
  dsimp only
  rw [h]
  simp [List.getD_eq_getElem?_getD, List.getElem?_eq_getElem hj]
theorem RowX.open {K : World → Sl → Sl → Rat → Prop} {w : World} {v : Value} {rs : List Rat} (h : RowX K w v rs) (hne : rs ≠ []) : ∃ B cap, v = .slice (some ⟨B, 0, none⟩) rs.length cap ∧ B < w.heap.size ∧ ∀ j, j < rs.length → ∃ p q : Sl, w.cell? ⟨B, j * 2, none⟩ = some (.slice p.a p.n p.c) ∧ w.cell? ⟨B, j * 2 + 1, none⟩ = some (.slice q.a q.n q.c) ∧ K w p q (rs.getD j 0) := by
  obtain ⟨ad, cap, rfl, h2⟩ := h
  obtain ⟨B, rfl, h3, h4⟩ := h2 hne
  exact ⟨B, cap, rfl, h3, h4⟩
abbrev awk : List Kid := [(1, 1), (1, 1), (8, 1)]
theorem awk_gets : awk.map (given (docLevel ((2 : Nat) : Rat) awk)) = [rat 1 2, rat 1 2, 1] := by decide +kernel
theorem awk_half : (qtext (N (rat 1 2)) (rat 1 2).den) = [49, 47, 50] := by decide +kernel
theorem awk_one : (qtext (N 1) (1 : Rat).den) = [49] := by decide +kernel
theorem awk_err : errOf ((2 : Nat) : Rat) (awk.map fun k => (k.1 : Int)) (awk.map fun k => (k.2 : Int)) = 0 := by decide +kernel
theorem awk_fine : Fine 1 ((2 : Nat) : Rat) := ⟨by omega, big_small 600 (by decide) (by omega), whole_nat 1 2⟩
theorem awk_le : ((2 : Nat) : Rat) ≤ ((caps awk : Nat) : Rat) := Rat.natCast_le_natCast.2 (by decide)
theorem awk_ok : ∀ k ∈ awk, okKid k := by
  intro k hk
  simp [awk] at hk
  rcases hk with rfl | rfl | rfl <;> simp [okKid]

set_option maxRecDepth 100000 in
set_option maxHeartbeats 400000 in
theorem awake4 (w : World) : Calls Tryz.prog 8 #[] w fun e w' => e = .returned (.bool true) ∧ Below w.heap.size w w' := by
  have H1 := Lib.hid (Qint 2 (by omega) w)
  go_enter Tryz.func8, Tryz.ntmps8
  go_wp2_with fail
  refine H1.out.mono ?_
  rintro e w1 ⟨x1, y1, rfl, rx, hB⟩
  clear H1
  have r1 := RI.built w1 [1, 1, 8] 3
  have r2 := RI.built (w1.alloc (.cells ([1, 1, 8].map (Value.int .i64)).toArray 3)) [1, 1, 1] 3
  have b1 : Below w1.heap.size w1 (w1.alloc (.cells ([1, 1, 8].map (Value.int .i64)).toArray 3)) := (Below.refl _ _).alloc (Nat.le_refl _) _
  replace rx := rx.below b1
  replace hB := hB.trans (b1.mono hB.size)
  have b2 : Below (w1.alloc (.cells ([1, 1, 8].map (Value.int .i64)).toArray 3)).heap.size (w1.alloc (.cells ([1, 1, 8].map (Value.int .i64)).toArray 3)) ((w1.alloc (.cells ([1, 1, 8].map (Value.int .i64)).toArray 3)).alloc (.cells ([1, 1, 1].map (Value.int .i64)).toArray 3)) := (Below.refl _ _).alloc (Nat.le_refl _) _
  replace rx := rx.below b2
  replace r1 := r1.below b2
  replace hB := hB.trans (b2.mono hB.size)
  clear b1 b2
  simp only [List.map_cons, List.map_nil, List.length_cons, List.length_nil, Nat.zero_add, Nat.reduceAdd, World.size_alloc] at r1 r2 rx hB
  have HH := Lib.hid (And.intro rx (And.intro r1 (And.intro r2 hB)))
  clear hB rx r1 r2
  go_wp2_with fail
  have HW := HH.out
  clear HH
  generalize (w1.alloc (.cells #[.int .i64 1, .int .i64 1, .int .i64 8] 3)).alloc (.cells #[.int .i64 1, .int .i64 1, .int .i64 1] 3) = W at HW ⊢
  have H2 := Fill_good x1 y1 ⟨some ⟨w1.heap.size, 0, none⟩, 3, 3⟩ ⟨some ⟨w1.heap.size + 1, 0, none⟩, 3, 3⟩ ((2 : Nat) : Rat) awk 1 W HW.1 HW.2.1 HW.2.2.1 (by decide) (Lib.hid awk_ok) (Lib.hid awk_fine) (Lib.hid awk_le) (Lib.hid awk_err)
  rw [awk_gets] at H2
  have hB := HW.2.2.2
  clear HW
  refine H2.mono ?_
  rintro e w2 ⟨v, rfl, hv, hb⟩
  clear H2
  replace hB := hB.trans (hb.mono hB.size)
  clear hb
  obtain ⟨B, cap, rfl, hBl, hc⟩ := hv.open (by simp)
  obtain ⟨p0, q0, c0, c1, r0⟩ := hc 0 (by simp)
  obtain ⟨p2, q2, c4, c5, r2⟩ := hc 2 (by simp)
  clear hc
  have hl : ([rat 1 2, rat 1 2, 1] : List Rat).length = 3 := rfl
  rw [hl] at hv ⊢
  simp only [List.getD_cons_zero, List.getD_cons_succ, Nat.zero_mul, Nat.zero_add, Nat.reduceMul, Nat.reduceAdd] at c0 c1 c4 c5 r0 r2
  have H3 := Lib.hid (Qtext p0 q0 (rat 1 2) w2 r0)
  rw [awk_half] at H3
  clear hv
  go_wp2_with fail
  refine H3.out.mono ?_
  rintro e w3 ⟨rfl, hb⟩
  clear H3
  replace r2 := r2.below hb
  replace c4 := (hb.cell (p := ⟨B, 4, none⟩) hBl).trans c4
  replace c5 := (hb.cell (p := ⟨B, 5, none⟩) hBl).trans c5
  replace hB := hB.trans (hb.mono hB.size)
  clear hb c0 c1 r0
  have H4 := Lib.hid (Qtext p2 q2 1 w3 r2)
  rw [awk_one] at H4
  go_wp2_with fail
  refine H4.out.mono ?_
  rintro e w4 ⟨rfl, hb⟩
  clear H4
  replace hB := hB.trans (hb.mono hB.size)
  clear hb c4 c5 r2
  go_wp2_with fail
  go_ret
  exact ⟨rfl, hB⟩
end Go.Proofs.YtphllajedkpcbaaGreatDoor
