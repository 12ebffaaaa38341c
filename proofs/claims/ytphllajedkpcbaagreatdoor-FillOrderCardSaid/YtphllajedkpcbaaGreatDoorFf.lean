/-
  Filling: sizes of what is reckoned on the way to a level; rows and children stay where a ratio is written. Condition: those of the texts before.
-/
import Derived.Test.YtphllajedkpcbaaGreatDoorFc
import Derived.Test.YtphllajedkpcbaaGreatDoorFe
namespace Go.Proofs.YtphllajedkpcbaaGreatDoor
open Go.RowKit Go.Dig Go.Shelf Go.Proofs Go.Rq

theorem KB.pset {w : World} {B C : Nat} {t : TypeId} {ks : List Kid} {p r : Option Addr} {n c m d : Nat} (h : KB w C ks) (hp : Pair w B t (.slice p n c) (.slice r m d)) (x' y' : Value) : KB ((w.setCell ⟨B, 0, none⟩ x').setCell ⟨B, 1, none⟩ y') C ks := by
  refine ⟨by simpa [World.setCell] using h.1, fun j hj => ?_⟩
  have hne : C ≠ B := by
    rintro rfl
    have h0 := (h.2 0 (Nat.lt_of_le_of_lt (Nat.zero_le _) hj)).1.1
    rw [Nat.zero_mul, hp.c0] at h0
    cases h0
  have e := (Below.heap_setCell (w.setCell ⟨B, 0, none⟩ x') ⟨B, 1, none⟩ y' C hne).trans (Below.heap_setCell w ⟨B, 0, none⟩ x' C hne)
  rw [World.cell?_of_block (w := w) (a := ⟨C, j * 2, none⟩) e, World.cell?_of_block (w := w) (a := ⟨C, j * 2 + 1, none⟩) e, World.frozen?_of_block (w := w) (a := ⟨C, j * 2, none⟩) e, World.frozen?_of_block (w := w) (a := ⟨C, j * 2 + 1, none⟩) e]
  exact h.2 j hj
/-- a denominator that is not too great. -/
def Fine (D : Nat) (x : Rat) : Prop := D ≠ 0 ∧ D ≤ big 600 ∧ Whole D x
theorem big_small {n : Nat} (k : Nat) (h : n ≤ 2 ^ 64) (hk : 64 ≤ k) : n ≤ big k := Nat.le_trans h (big_le (a := 64) hk)
theorem mul_big {a b : Nat} (ha : a ≤ big 600) (hb : b ≤ 2 ^ 64) : a * b ≤ big 3000 :=
  Nat.le_trans (Nat.mul_le_mul ha (show b ≤ big 64 from hb)) (by rw [big_add]; exact big_le (by decide))
theorem div_le_self {r : Rat} {n : Nat} (h0 : 0 ≤ r) (hn : n ≠ 0) : r / n ≤ r := by
  have hp := pos_cast hn
  have h1 : (1 : Rat) ≤ n := by
    have : ((1 : Nat) : Rat) ≤ (n : Rat) := Rat.natCast_le_natCast.2 (Nat.pos_of_ne_zero hn)
    grind
  have h2 : 0 ≤ r / n := by rw [Rat.div_def]; exact Rat.mul_nonneg h0 (Rat.le_of_lt (Rat.inv_pos.2 hp))
  have h3 : r / n * 1 ≤ r / n * n := Rat.mul_le_mul_of_nonneg_left h1 h2
  have h4 : r / n * n = r := by grind
  grind
theorem div_nonneg {r : Rat} {n : Nat} (h0 : 0 ≤ r) (hn : n ≠ 0) : 0 ≤ r / n := by
  rw [Rat.div_def]; exact Rat.mul_nonneg h0 (Rat.le_of_lt (Rat.inv_pos.2 (pos_cast hn)))
theorem Sz.fine {D : Nat} {x : Rat} (h : Fine D x) (h0 : 0 ≤ x) (hx : x ≤ ((2048 : Nat) : Rat)) : Sz x :=
  Sz.whole h.1 h.2.2 h0 hx (Nat.le_trans h.2.1 (big_le (by decide))) (big_small _ (by decide) (by decide))
theorem Sz.even {D W : Nat} {x : Rat} (h : Fine D x) (h0 : 0 ≤ x) (hx : x ≤ ((2048 : Nat) : Rat)) (hW : W ≠ 0) (hW2 : W ≤ 1000000) : Sz (x / W) :=
  Sz.whole (Nat.mul_ne_zero h.1 hW) (whole_div hW h.2.2) (div_nonneg h0 hW) (Rat.le_trans (div_le_self h0 hW) hx) (mul_big h.2.1 (by omega)) (big_small _ (by decide) (by decide))
theorem even_mul {W n : Nat} {x : Rat} (h0 : 0 ≤ x) (hW : W ≠ 0) (hn : n ≤ W) : x / W * n ≤ x := by
  have h1 : (n : Rat) ≤ W := Rat.natCast_le_natCast.2 hn
  have h2 := Rat.mul_le_mul_of_nonneg_left h1 (div_nonneg h0 hW)
  have h3 : x / W * W = x := by have := pos_cast hW; grind
  grind
theorem Sz.part {D W n : Nat} {x : Rat} (h : Fine D x) (h0 : 0 ≤ x) (hx : x ≤ ((2048 : Nat) : Rat)) (hW : W ≠ 0) (hW2 : W ≤ 1000000) (hn : n ≤ W) : Sz (x / W * n) :=
  Sz.whole (Nat.mul_ne_zero h.1 hW) (whole_mul n (whole_div hW h.2.2)) (Rat.mul_nonneg (div_nonneg h0 hW) Rat.natCast_nonneg) (Rat.le_trans (even_mul h0 hW hn) hx) (mul_big h.2.1 (by omega)) (big_small _ (by decide) (by decide))
theorem sum_weights : ∀ ks : List Kid, (ks.map fun k => (k.1 : Int)).sum = (weights ks : Int)
  | [] => rfl
  | k :: ks => by rw [List.map_cons, List.sum_cons, sum_weights ks, weights]; omega
theorem sum_caps_int : ∀ ks : List Kid, (ks.map fun k => (k.2 : Int)).sum = (caps ks : Int)
  | [] => rfl
  | k :: ks => by rw [List.map_cons, List.sum_cons, sum_caps_int ks, caps]; omega
theorem weights_le : ∀ ks : List Kid, (∀ k ∈ ks, okKid k) → weights ks ≤ 10000 * ks.length
  | [], _ => by simp [weights]
  | k :: ks, h => by
    have h1 := weights_le ks (fun x hx => h x (List.mem_cons_of_mem _ hx))
    have h2 := (h k List.mem_cons_self).2.1
    rw [weights, List.length_cons]
    omega
theorem caps_le : ∀ ks : List Kid, (∀ k ∈ ks, okKid k) → caps ks ≤ 64 * ks.length
  | [], _ => by simp [caps]
  | k :: ks, h => by
    have h1 := caps_le ks (fun x hx => h x (List.mem_cons_of_mem _ hx))
    have h2 := (h k List.mem_cons_self).2.2
    rw [caps, List.length_cons]
    omega
theorem kdrop_at {l : List Kid} {k : Nat} (h : k < l.length) : l.drop k = l.getD k (0, 0) :: l.drop (k + 1) := by
  rw [List.drop_eq_getElem_cons h]; simp [h]
theorem kget_mem {l : List Kid} {k : Nat} (h : k < l.length) : l.getD k (0, 0) ∈ l := by
  simp [List.getD_eq_getElem?_getD, h]
/-- the program's level is the document's. -/
theorem lev_doc {x : Rat} {ks ks' : List Kid} (h0 : 0 ≤ x) (hp : ks'.Perm ks) (hs : ks'.Pairwise Le) (hk : ∀ k ∈ ks, okKid k) (hx : x ≤ (caps ks : Nat)) : lev x (weights ks') ks' = docLevel x ks := by
  have hg : Rq.Good ks := fun k hm => (hk k hm).1
  have hd := doc_level hg h0 hx
  by_cases hne : ks' = []
  · subst hne
    have e : ks = [] := hp.symm.eq_nil
    subst e
    have e2 : x = 0 := Rat.le_antisymm (by simpa [caps] using hx) h0
    subst e2
    exact (level_zero []).one hd
  · have h1 := lev_is h0 ks' [] x (weights ks') hne (by simpa using hg.perm hp.symm) (by simp [caps]; grind) rfl (fun a ha => by simp at ha) hs (fun a ha => by simp at ha) h0 (by rw [List.nil_append, caps_perm hp]; exact hx)
    exact IsLevel.one (h1.perm (by simpa using hp)) hd
theorem sorted_below {w w1 w2 : World} {B : Nat} (h : Below w.heap.size w w1) (hB : w.heap.size ≤ B) (hg : w1.grownBy w2 (some B)) : Below w.heap.size w w2 :=
  h.grown hg h.size (fun j ej => by cases ej; exact hB)
end Go.Proofs.YtphllajedkpcbaaGreatDoor
