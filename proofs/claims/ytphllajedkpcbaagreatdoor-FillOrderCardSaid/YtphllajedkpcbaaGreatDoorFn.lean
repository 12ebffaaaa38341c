/-
  Cells of rows, as facts that go on; sizes of what is given. Condition: a denominator below 2 to the 600th.
-/
import Derived.Test.YtphllajedkpcbaaGreatDoorFm
namespace Go.Proofs.YtphllajedkpcbaaGreatDoor
open Go.RowKit Go.Dig Go.Shelf Go.Proofs Go.Rq

/-- a number in a cell. -/
def IC (w : World) (b j : Nat) (z : Int) : Prop := b < w.heap.size ∧ w.cell? ⟨b, j, none⟩ = some (.int .i64 z)
theorem IC.below {w w' : World} {b j : Nat} {z : Int} (h : IC w b j z) (hb : Below w.heap.size w w') : IC w' b j z :=
  ⟨Nat.lt_of_lt_of_le h.1 hb.size, (hb.cell (p := ⟨b, j, none⟩) h.1).trans h.2⟩
theorem IC.pset {w : World} {b j B : Nat} {z : Int} {t : TypeId} {p r : Option Addr} {n c m d : Nat} (h : IC w b j z) (hp : Pair w B t (.slice p n c) (.slice r m d)) (x' y' : Value) : IC ((w.setCell ⟨B, 0, none⟩ x').setCell ⟨B, 1, none⟩ y') b j z := by
  have hbB : b ≠ B := by
    rintro rfl
    have h3 := h.2
    simp only [World.cell?, show w.heap[b]? = _ from hp] at h3
    match j, h3 with
    | 0, h3 => simp at h3
    | 1, h3 => simp at h3
    | k + 2, h3 => simp at h3
  refine ⟨by simpa [World.setCell] using h.1, ?_⟩
  rw [World.cell?_of_block (w := w) ((Below.heap_setCell _ _ _ _ hbB).trans (Below.heap_setCell _ _ _ _ hbB)), h.2]
/-- a pair of slices in two cells. -/
def SC (w : World) (b j : Nat) (p q : Sl) : Prop := b < w.heap.size ∧ w.cell? ⟨b, j * 2, none⟩ = some (.slice p.a p.n p.c) ∧ w.cell? ⟨b, j * 2 + 1, none⟩ = some (.slice q.a q.n q.c)
theorem SC.below {w w' : World} {b j : Nat} {p q : Sl} (h : SC w b j p q) (hb : Below w.heap.size w w') : SC w' b j p q :=
  ⟨Nat.lt_of_lt_of_le h.1 hb.size, (hb.cell (p := ⟨b, j * 2, none⟩) h.1).trans h.2.1, (hb.cell (p := ⟨b, j * 2 + 1, none⟩) h.1).trans h.2.2⟩
theorem RowQ.below {w w' : World} {v : Value} {rs : List Rat} (h : RowQ w v rs) (hb : Below w.heap.size w w') : RowQ w' v rs := RowX.below h (fun _ _ _ h => h.below hb) hb
theorem RowX.at {K : World → Sl → Sl → Rat → Prop} {w : World} {v : Value} {ks : List Kid} {f : Kid → Rat} (h : RowX K w v (ks.map f)) {j : Nat} (hj : j < ks.length) :
    ∃ B cap, v = .slice (some ⟨B, 0, none⟩) ks.length cap ∧ ∃ p q : Sl, SC w B j p q ∧ K w p q (f (ks.getD j (0, 0))) := by
  have hne : ks.map f ≠ [] := by
    intro e
    have := congrArg List.length e
    simp at this
    rw [this] at hj
    simp at hj
  obtain ⟨B, cap, rfl, hB, hc⟩ := h.open hne
  obtain ⟨p, q, h1, h2, h3⟩ := hc j (by rw [List.length_map]; exact hj)
  refine ⟨B, cap, by rw [List.length_map], p, q, ⟨hB, h1, h2⟩, ?_⟩
  have e : (ks.map f).getD j 0 = f (ks.getD j (0, 0)) := by simp [List.getD_eq_getElem?_getD, List.getElem?_eq_getElem hj]
  rw [e] at h3
  exact h3
theorem RowX.cut {K : World → Sl → Sl → Rat → Prop} {w : World} {v : Value} {ks : List Kid} {f : Kid → Rat} (h : RowX K w v (ks.map f)) : ∃ ad cap, v = .slice ad ks.length cap := by
  obtain ⟨ad, cap, e, _⟩ := h
  rw [List.length_map] at e
  exact ⟨ad, cap, e⟩
theorem RI.at {w : World} {ad : Option Addr} {n cap : Nat} {ks : List Kid} {f : Kid → Int} (h : RI w ⟨ad, n, cap⟩ (ks.map f)) {j : Nat} (hj : j < ks.length) :
    ∃ b off, ad = some ⟨b, off, none⟩ ∧ IC w b (off + j) (f (ks.getD j (0, 0))) := by
  obtain ⟨b, off, e, hb, hc⟩ := h.open (by intro e; have := congrArg List.length e; simp at this; rw [this] at hj; simp at hj)
  exact ⟨b, off, e, hb, by rw [hc j (by rw [List.length_map]; exact hj), map_getD _ hj]⟩
theorem given_sz {D : Nat} {x : Rat} {ks : List Kid} (hF : Fine D x) (h0 : 0 ≤ x) (hl : ks.length ≤ 32) (hk : ∀ k ∈ ks, okKid k) (hx : x ≤ ((caps ks : Nat) : Rat)) (kid : Kid) (hkid : okKid kid) (n : Nat) (hn : n ≤ 10000) : Sz (given (docLevel x ks) kid * n) := by
  obtain ⟨E, hE, hE2, hw, hd0, hd1⟩ := docLevel_whole (D := D) hF.2.2 h0 (fun k hk' => (hk k hk').1) (fun k hk' => (hk k hk').2.1) (fun k hk' => (hk k hk').2.2) hx
  have hwl := weights_le ks hk
  have hE3 : E ≤ 2 ^ 64 := by
    refine Nat.le_trans hE2 ?_
    have : weights ks + 1 ≤ 320001 := by omega
    exact Nat.le_trans (Nat.mul_le_mul_left _ this) (by decide)
  refine Sz.whole (D := D * E) (B := 64 * 10000) (Nat.mul_ne_zero hF.1 hE) (whole_mul n (whole_given hw kid)) (Rat.mul_nonneg (given_nonneg hd0 kid) Rat.natCast_nonneg) ?_ (mul_big hF.2.1 hE3) (big_small 3000 (by decide) (by omega))
  have h1 : given (docLevel x ks) kid ≤ ((64 : Nat) : Rat) := Rat.le_trans (given_le _ _) (Rat.natCast_le_natCast.2 hkid.2.2)
  have h2 : ((n : Nat) : Rat) ≤ ((10000 : Nat) : Rat) := Rat.natCast_le_natCast.2 hn
  rw [Rat.natCast_mul]
  exact Rat.le_trans (le_mul h1) (Rat.mul_le_mul_of_nonneg_left h2 Rat.natCast_nonneg)
theorem fine_rat {m d : Nat} (hd : d < 9223372036854775808) (h0 : d ≠ 0) : Fine d (rat m d) := ⟨h0, big_small 600 (by omega) (by omega), whole_rat h0⟩
end Go.Proofs.YtphllajedkpcbaaGreatDoor
