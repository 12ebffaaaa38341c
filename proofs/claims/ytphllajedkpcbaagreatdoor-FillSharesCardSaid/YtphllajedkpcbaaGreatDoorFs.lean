/-
  The document's Level is the level, told in rationals. Condition: at most 32 children, weights from 1 to 10000, caps to 64; what is shared isn't above the caps, and its denominator is below 2 to the 600th.
-/
import Derived.Test.YtphllajedkpcbaaGreatDoorFq
namespace Go.Proofs.YtphllajedkpcbaaGreatDoor
open Go.RowKit Go.Dig Go.Shelf Go.Proofs Go.Rq

theorem lowOf_append (x : Rat) (all : List Kid) : ∀ (a b : List Kid) (low : Rat), lowOf x all (a ++ b) low = lowOf x all b (lowOf x all a low)
  | [], _, _ => rfl
  | k :: a, b, low => by rw [List.cons_append, lowOf, lowOf, lowOf_append x all a b]
theorem lowOf_snoc (x : Rat) {ks : List Kid} {k : Nat} (h : k < ks.length) : lowOf x ks (ks.take (k + 1)) 0 = if sum (top (ks.getD k (0, 0))) ks < x ∧ lowOf x ks (ks.take k) 0 < top (ks.getD k (0, 0)) then top (ks.getD k (0, 0)) else lowOf x ks (ks.take k) 0 := by
  rw [List.take_add_one, lowOf_append]
  simp [List.getD_eq_getElem?_getD, List.getElem?_eq_getElem h, lowOf]
theorem openW_append (l : Rat) : ∀ a b : List Kid, openW l (a ++ b) = openW l a + openW l b
  | [], b => by rw [List.nil_append]; unfold openW; simp
  | k :: a, b => by rw [List.cons_append, openW, openW, openW_append l a b]; omega
theorem openW_snoc (l : Rat) {ks : List Kid} {k : Nat} (h : k < ks.length) : openW l (ks.take (k + 1)) = openW l (ks.take k) + (if l < top (ks.getD k (0, 0)) then (ks.getD k (0, 0)).1 else 0) := by
  rw [List.take_add_one, openW_append]
  simp [List.getD_eq_getElem?_getD, List.getElem?_eq_getElem h, openW]
/-- a level that is whole by a weight, and not above 64. -/
def Lv (l : Rat) : Prop := ∃ E : Nat, E ≠ 0 ∧ E ≤ 10000 ∧ Whole E l ∧ 0 ≤ l ∧ l ≤ ((64 : Nat) : Rat)
theorem Lv.zero : Lv 0 := ⟨1, by omega, by omega, whole_nat 1 0, Rat.le_refl, Rat.natCast_nonneg⟩
theorem Lv.top {k : Kid} (h : okKid k) : Lv (top k) :=
  ⟨k.1, h.1, h.2.1, whole_rat h.1, rat_nonneg _ _, Rat.le_trans (top_le h.1) (Rat.natCast_le_natCast.2 h.2.2)⟩
theorem Lv.mul {l : Rat} (h : Lv l) (n : Nat) (hn : n ≤ 10000) : Sz (l * (n : Rat)) := by
  obtain ⟨E, h1, h2, h3, h4, h5⟩ := h
  refine Sz.whole (D := E) (B := 64 * 10000) h1 (whole_mul n h3) (Rat.mul_nonneg h4 Rat.natCast_nonneg) ?_ (big_small 3000 (by omega) (by omega)) (big_small 3000 (by decide) (by omega))
  have h6 : ((n : Nat) : Rat) ≤ ((10000 : Nat) : Rat) := Rat.natCast_le_natCast.2 hn
  rw [Rat.natCast_mul]
  exact Rat.le_trans (le_mul h5) (Rat.mul_le_mul_of_nonneg_left h6 Rat.natCast_nonneg)
theorem caps_le2 : ∀ ks : List Kid, (∀ k ∈ ks, k.2 ≤ 64) → caps ks ≤ 64 * ks.length
  | [], _ => by simp [caps]
  | k :: ks, h => by
    have h1 := caps_le2 ks (fun x hx => h x (List.mem_cons_of_mem _ hx))
    have h2 := h k List.mem_cons_self
    rw [caps, List.length_cons]
    omega
theorem sum_nonneg {l : Rat} (h : 0 ≤ l) (ks : List Kid) : 0 ≤ sum l ks := by
  have := sum_mono h ks
  rw [sum_zero] at this
  exact this
theorem Lv.sum {l : Rat} (h : Lv l) (js : List Kid) (hl : js.length ≤ 100) (hk : ∀ k ∈ js, k.2 ≤ 64) : Sz (sum l js) := by
  obtain ⟨E, h1, h2, h3, h4, h5⟩ := h
  refine Sz.whole (D := E) (B := 6400) h1 (whole_sum h3 js) (sum_nonneg h4 js) ?_ (big_small 3000 (by omega) (by omega)) (big_small 3000 (by decide) (by omega))
  exact Rat.le_trans (sum_le_caps l js) (Rat.natCast_le_natCast.2 (by have := caps_le2 js hk; omega))
theorem Lv.rest {D : Nat} {l x : Rat} (h : Lv l) (hF : Fine D x) (hx : x ≤ ((2048 : Nat) : Rat)) (ks : List Kid) (hs : Rq.sum l ks ≤ x) : Sz (x - Rq.sum l ks) := by
  obtain ⟨E, h1, h2, h3, h4, h5⟩ := h
  have h6 := sum_nonneg h4 ks
  refine Sz.whole (D := D * E) (B := 2048) (Nat.mul_ne_zero hF.1 h1) (whole_sub (whole_more E hF.2.2) (by rw [Nat.mul_comm]; exact whole_more D (whole_sum h3 ks)) hs) (by grind) (Rat.le_trans (by grind) hx) (mul_big hF.2.1 (by omega)) (big_small 3000 (by decide) (by omega))
theorem Lv.part {D : Nat} {l x : Rat} (h : Lv l) (hF : Fine D x) (hx : x ≤ ((2048 : Nat) : Rat)) (ks : List Kid) (hs : Rq.sum l ks ≤ x) {n : Nat} (hn : n ≠ 0) (hn2 : n ≤ 1000000) : Sz ((x - Rq.sum l ks) / (n : Rat)) ∧ Sz (l + (x - Rq.sum l ks) / (n : Rat)) := by
  obtain ⟨E, h1, h2, h3, h4, h5⟩ := h
  have h6 := sum_nonneg h4 ks
  have hr : 0 ≤ x - Rq.sum l ks := by grind
  have hw := whole_div hn (whole_sub (D := D * E) (whole_more E hF.2.2) (by rw [Nat.mul_comm]; exact whole_more D (whole_sum h3 ks)) hs)
  have hd := div_le_self hr hn
  have hd0 := div_nonneg hr hn
  have hE : E * n ≤ 2 ^ 64 := Nat.le_trans (Nat.mul_le_mul h2 hn2) (by decide)
  rw [Nat.mul_assoc] at hw
  refine ⟨Sz.whole (D := D * (E * n)) (B := 2048) (Nat.mul_ne_zero hF.1 (Nat.mul_ne_zero h1 hn)) hw hd0 (Rat.le_trans hd (Rat.le_trans (by grind) hx)) (mul_big hF.2.1 hE) (big_small 3000 (by decide) (by omega)), ?_⟩
  refine Sz.whole (D := D * (E * n)) (B := 2112) (Nat.mul_ne_zero hF.1 (Nat.mul_ne_zero h1 hn)) (whole_add ?_ hw) (by grind) ?_ (mul_big hF.2.1 hE) (big_small 3000 (by decide) (by omega))
  · rw [Nat.mul_comm D]
    exact whole_more D (whole_more n h3)
  · have : ((2112 : Nat) : Rat) = ((64 : Nat) : Rat) + ((2048 : Nat) : Rat) := by rw [← Rat.natCast_add]
    rw [this]
    have : x - Rq.sum l ks ≤ x := by grind
    grind
theorem top_eq (k c : Nat) : top (k, c) = rat c k := rfl
theorem dlen_zero {w : World} {p : Sl} {n : Nat} (h : RD w p n) : p.n = 0 ↔ n = 0 := by
  have h1 := RD.len h
  rw [h1]
  constructor
  · intro h2
    have := (dig_len (B := 10000) (by omega) n 0).1 (Nat.le_of_eq h2)
    omega
  · intro h2
    subst h2
    rfl
end Go.Proofs.YtphllajedkpcbaaGreatDoor
