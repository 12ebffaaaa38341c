/-
  Plain facts on the ids of a table: none twice, so they rise strictly; how many are among the first slots; and what a law's walk keeps that has just the program's table. No condition.
-/
import Derived.Test.YthopmkgbhfkeoaaUk
namespace Go.Proofs.Ythopmkgbhfkeoaa
open Go.RowKit

theorem taken_cons (y : Int) (r : List Int) : taken (y :: r) = if y = 0 then taken r else y :: taken r := by
  unfold taken
  rw [List.filter_cons]
  by_cases h : y = 0 <;> simp [h]
theorem taken_nodup : ∀ {l : List Int}, (∀ i j, i < l.length → j < l.length → l.getD i 0 = l.getD j 0 → l.getD i 0 ≠ 0 → i = j) → (taken l).Nodup
  | [], _ => by simp [taken]
  | y :: r, h => by
    have ih := taken_nodup (l := r) (fun i j hi hj he hne => by
      have := h (i + 1) (j + 1) (by simpa using hi) (by simpa using hj) (by simpa using he) (by simpa using hne)
      omega)
    rw [taken_cons]
    split
    · exact ih
    · rename_i h0
      rw [List.nodup_cons]
      refine ⟨fun hm => ?_, ih⟩
      obtain ⟨k, hk, e⟩ := mem_getD (mem_taken.1 hm).1
      have := h 0 (k + 1) (by simp) (by simpa using hk) (by simpa using e.symm) (by simpa using h0)
      omega
theorem strict : ∀ {l : List Int}, l.Pairwise (· ≤ ·) → l.Nodup → l.Pairwise (· < ·)
  | [], _, _ => List.Pairwise.nil
  | x :: r, h, hn => by
    rw [List.pairwise_cons] at h ⊢
    rw [List.nodup_cons] at hn
    refine ⟨fun y hy => ?_, strict h.2 hn.2⟩
    have h1 := h.1 y hy
    have h2 : x ≠ y := fun e => hn.1 (e ▸ hy)
    omega
theorem ids_strict {l : List Int} {m : Int} (ok : TabOk l m) : (idsN l).Pairwise (· < ·) :=
  strict (ids_sorted l) ((ids_perm l).nodup_iff.2 (taken_nodup ok.uniq))
theorem pair_get {l : List Int} (h : l.Pairwise (· < ·)) {i j : Nat} (hij : i < j) (hj : j < l.length) : l.getD i 0 < l.getD j 0 := by
  have := (List.pairwise_iff_getElem.1 h) i j (by omega) hj hij
  simpa [List.getD, hj, show i < l.length by omega] using this
/-- the id before the j-th; 0: none. -/
def lastN (l : List Int) (j : Nat) : Int := if j = 0 then 0 else l.getD (j - 1) 0
theorem lastN_zero (l : List Int) : lastN l 0 = 0 := rfl
theorem lastN_succ (l : List Int) (j : Nat) : lastN l (j + 1) = l.getD j 0 := by
  unfold lastN
  rw [if_neg (by omega), Nat.add_sub_cancel]
theorem ids_fact {l : List Int} {m : Int} (ok : TabOk l m) {j : Nat} (hj : j < (idsN l).length) :
    hasS l ((idsN l).getD j 0) = (find l ((idsN l).getD j 0) : Int) ∧ hasE l ((idsN l).getD j 0) = 0 ∧ idI l (find l ((idsN l).getD j 0) : Int) = (idsN l).getD j 0 ∧ lastN (idsN l) j < (idsN l).getD j 0 ∧ (idsN l).getD j 0 ≤ m := by
  have hm := mem_ids.1 (getD_mem hj)
  have hf := find_lt.2 hm.1
  have hB : hasB l ((idsN l).getD j 0) = true := by
    unfold hasB
    rw [decide_eq_true_eq]
    exact ⟨hf, hm.2⟩
  refine ⟨by simp only [hasS, hB, if_true], by simp only [hasE, hB, if_true], ?_, ?_, ok.hi _ hm.1⟩
  · unfold idI
    rw [if_pos (by omega)]
    exact find_get hf
  · unfold lastN
    split
    · have := ok.lo _ hm.1
      have := hm.2
      omega
    · exact pair_get (ids_strict ok) (by omega) hj
theorem taken_snoc {l : List Int} {k : Nat} (h : k < l.length) : (taken (l.take (k + 1))).length = (taken (l.take k)).length + if l.getD k 0 = 0 then 0 else 1 := by
  rw [List.take_add_one, List.getElem?_eq_getElem h]
  unfold taken
  rw [List.filter_append, List.length_append, List.getD_eq_getElem?_getD, List.getElem?_eq_getElem h]
  congr 1
  by_cases e : l[k] = 0 <;> simp [e]
theorem taken_take_le (l : List Int) (k : Nat) : (taken (l.take k)).length ≤ k := by
  have h1 := taken_len (l.take k)
  rw [List.length_take] at h1
  omega
theorem idI_nat {l : List Int} {k : Nat} (h : k < l.length) : idI l (k : Int) = l.getD k 0 := by
  unfold idI
  rw [if_pos (by omega)]
  rfl

/-- what a law's walk keeps: the table at p and g, of n slots. -/
structure Sp (W : World) (p g n : Nat) (w : World) (l : List Int) (m : Int) : Prop where
  ok : TabOk l m
  tab : IsTab w p g l m
  len : l.length = n
  bel : Below W.heap.size W w
  Wp : W.heap.size ≤ p
  Wg : W.heap.size ≤ g
section
variable {W w w' : World} {p g n : Nat} {l : List Int} {m : Int}
theorem Sp.below (h : Sp W p g n w l m) (hb : Below w.heap.size w w') : Sp W p g n w' l m := ⟨h.ok, h.tab.belowS hb, h.len, h.bel.trans (hb.mono h.bel.size), h.Wp, h.Wg⟩
theorem Sp.alloc (h : Sp W p g n w l m) (o : Obj) : Sp W p g n (w.alloc o) l m := h.below ((Below.refl _ w).alloc (Nat.le_refl _) o)
theorem Sp.turn {d : Nat} (h : Sp W p g n w l m) (ht : Turn d w w') (hp : p < d) (hg : g < d) : Sp W p g n w' l m := by
  have := h.Wp
  exact ⟨h.ok, h.tab.turn ht (by omega) (by omega), h.len, h.bel.trans (ht.below (by omega)), h.Wp, h.Wg⟩
theorem Sp.act {l' : List Int} {m' : Int} (h : Sp W p g n w l m) (ok : TabOk l' m') (hl : l'.length = l.length) (ht : IsTab w' p g l' m') (ho : Only p g w w') : Sp W p g n w' l' m' :=
  ⟨ok, ht, hl.trans h.len, h.bel.trans (ho.below h.bel.size h.Wp h.Wg), h.Wp, h.Wg⟩
theorem Sp.row {xs : List (Nat × Int)} {v : Value} (h : Sp W p g n w l m) (hr : RowA W v xs) : RowA w v xs := hr.below h.bel
theorem Sp.n1 (h : Sp W p g n w l m) : 1 ≤ l.length := h.ok.n1
theorem Sp.n64 (h : Sp W p g n w l m) : l.length ≤ 64 := h.ok.n64
theorem Sp.new {n : Nat} (h1 : 1 ≤ n) (h64 : n ≤ 64) (hT : IsTab w p g (List.replicate n 0) 0) (hB : Below W.heap.size W w) (hp : W.heap.size ≤ p) (hg : W.heap.size ≤ g) : Sp W p g n w (List.replicate n 0) 0 :=
  ⟨TabOk.new h1 h64, hT, by simp, hB, hp, hg⟩
end
end Go.Proofs.Ythopmkgbhfkeoaa
