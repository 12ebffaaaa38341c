/-
  A region that draws its order, walked in a tree of the prover's: it forks wherever two or three operations that move the world are free, and every way is walked. Every operation keeps S. What holds behind the region is named (R), so that all ways meet there. No program, no condition.
-/
import Derived.Test.YtnfoblmfjldheaaDoorRf
namespace Go.Rd
open Go

/-- which operation comes next: one, or one of two, or of three. -/
inductive Tr where
  | done
  | one (k : Nat) (t : Tr)
  | two (k1 : Nat) (t1 : Tr) (k2 : Nat) (t2 : Tr)
  | three (k1 : Nat) (t1 : Tr) (k2 : Nat) (t2 : Tr) (k3 : Nat) (t3 : Tr)

section
variable {P : Program} {ops : Array Oper} {md : Region.Mode} {S : World → Prop}

def wpTr (P : Program) (ops : Array Oper) (R : Act → World → Prop) (S : World → Prop) (fl : List Nat) : Tr → Act → World → Prop
  | .done, a, w => R a w
  | .one k t, a, w => if fl.contains k then ∃ o v, ops[k]? = some o ∧ YieldsIf P ops S o v a ∧ wpTr P ops R S fl t (a.put o.dst v) w
    else wpOp P ops (only R) k (fun a' w' => S w' ∧ wpTr P ops R S fl t a' w') a w
  | .two k1 t1 k2 t2, a, w => wpOp P ops (only R) k1 (fun a' w' => S w' ∧ wpTr P ops R S fl t1 a' w') a w ∧ wpOp P ops (only R) k2 (fun a' w' => S w' ∧ wpTr P ops R S fl t2 a' w') a w
  | .three k1 t1 k2 t2 k3 t3, a, w => wpOp P ops (only R) k1 (fun a' w' => S w' ∧ wpTr P ops R S fl t1 a' w') a w ∧ wpOp P ops (only R) k2 (fun a' w' => S w' ∧ wpTr P ops R S fl t2 a' w') a w ∧
      wpOp P ops (only R) k3 (fun a' w' => S w' ∧ wpTr P ops R S fl t3 a' w') a w
/-- the tree goes as the region may. -/
def trB (md : Region.Mode) (ops : Array Oper) (fl : List Nat) : Nat → Tr → Array Bool → Bool
  | 0, .done, listed => (Region.ready md ops listed).isEmpty
  | n + 1, .one k t, listed => (if fl.contains k then (Region.ready md ops listed).contains k && Region.free md ops listed k else decide (Region.ready md ops listed = [k])) && trB md ops fl n t (listed.setIfInBounds k true)
  | n + 1, .two k1 t1 k2 t2, listed => (!(Region.ready md ops listed).isEmpty && (Region.ready md ops listed).all (fun i => decide (i = k1 ∨ i = k2))) && (trB md ops fl n t1 (listed.setIfInBounds k1 true) && trB md ops fl n t2 (listed.setIfInBounds k2 true))
  | n + 1, .three k1 t1 k2 t2 k3 t3, listed => (!(Region.ready md ops listed).isEmpty && (Region.ready md ops listed).all (fun i => decide (i = k1 ∨ i = k2 ∨ i = k3))) &&
      (trB md ops fl n t1 (listed.setIfInBounds k1 true) && (trB md ops fl n t2 (listed.setIfInBounds k2 true) && trB md ops fl n t3 (listed.setIfInBounds k3 true)))
  | _, _, _ => false

theorem tr_any {R : Act → World → Prop} {fl : List Nat} (hsel : Region.noSelect ops = true) :
    ∀ (n : Nat) (t : Tr) (listed : Array Bool) (a : Act) (w : World), trB md ops fl n t listed = true → S w → wpTr P ops R S fl t a w → wpAnyK P md ops (only R) S ops.size n listed a w
  | 0, .done, listed, a, w, hB, _, h => ⟨by simpa [trB] using hB, h⟩
  | 0, .one _ _, _, _, _, hB, _, _ => by simp [trB] at hB
  | 0, .two _ _ _ _, _, _, _, hB, _, _ => by simp [trB] at hB
  | 0, .three _ _ _ _ _ _, _, _, _, hB, _, _ => by simp [trB] at hB
  | _ + 1, .done, _, _, _, hB, _, _ => by simp [trB] at hB
  | n + 1, .one k t, listed, a, w, hB, hS, h => by
    simp only [trB, Bool.and_eq_true] at hB
    obtain ⟨hk, hB'⟩ := hB
    unfold wpTr at h
    by_cases hf : fl.contains k = true
    · rw [if_pos hf] at h hk
      rw [Bool.and_eq_true] at hk
      obtain ⟨o, v, ho, hy, h'⟩ := h
      exact wpAnyK_first ho (Region.noSelect_spec hsel) (.inr ⟨rfl, fun j oj hj hoj => by rw [Array.getElem?_eq_none hj] at hoj; cases hoj⟩) n listed a w (Region.free_spec ho hk.2) (by simpa using hk.1) hy hS
        (tr_any hsel n t _ _ w hB' hS h')
    · rw [if_neg hf] at h hk
      simp only [decide_eq_true_eq] at hk
      refine ⟨fun h0 => (by rw [hk] at h0; cases h0), fun i hi => ?_⟩
      rw [hk] at hi
      have hik : i = k := by simpa using hi
      subst hik
      exact wpOp_mono (fun a' w' h3 => ⟨fun _ _ => h3.1, tr_any hsel n t _ a' w' hB' h3.1 h3.2⟩) h
  | n + 1, .two k1 t1 k2 t2, listed, a, w, hB, _, h => by
    simp only [trB, Bool.and_eq_true] at hB
    obtain ⟨⟨hne, hr⟩, hB1, hB2⟩ := hB
    unfold wpTr at h
    refine ⟨fun h0 => (by rw [h0] at hne; simp at hne), fun i hi => ?_⟩
    have h9 := (List.all_eq_true.1 hr) i hi
    simp only [decide_eq_true_eq] at h9
    rcases h9 with rfl | rfl
    · exact wpOp_mono (fun a' w' h3 => ⟨fun _ _ => h3.1, tr_any hsel n t1 _ a' w' hB1 h3.1 h3.2⟩) h.1
    · exact wpOp_mono (fun a' w' h3 => ⟨fun _ _ => h3.1, tr_any hsel n t2 _ a' w' hB2 h3.1 h3.2⟩) h.2
  | n + 1, .three k1 t1 k2 t2 k3 t3, listed, a, w, hB, _, h => by
    simp only [trB, Bool.and_eq_true] at hB
    obtain ⟨⟨hne, hr⟩, hB1, hB2, hB3⟩ := hB
    unfold wpTr at h
    refine ⟨fun h0 => (by rw [h0] at hne; simp at hne), fun i hi => ?_⟩
    have h9 := (List.all_eq_true.1 hr) i hi
    simp only [decide_eq_true_eq] at h9
    rcases h9 with rfl | rfl | rfl
    · exact wpOp_mono (fun a' w' h3 => ⟨fun _ _ => h3.1, tr_any hsel n t1 _ a' w' hB1 h3.1 h3.2⟩) h.1
    · exact wpOp_mono (fun a' w' h3 => ⟨fun _ _ => h3.1, tr_any hsel n t2 _ a' w' hB2 h3.1 h3.2⟩) h.2.1
    · exact wpOp_mono (fun a' w' h3 => ⟨fun _ _ => h3.1, tr_any hsel n t3 _ a' w' hB3 h3.1 h3.2⟩) h.2.2

/-- what an operation that moves the world must bring. -/
def Mv (P : Program) (R : Act → World → Prop) (S : World → Prop) (C : Act → World → Prop) (o : Oper) (a : Act) (w : World) : Prop :=
  ∀ K' : Act → World → Prop, (∀ a' w', S w' → C a' w' → K' a' w') → o.wp P a w K' (only R)
theorem tr_float {R : Act → World → Prop} {fl : List Nat} {k : Nat} {t : Tr} {a : Act} {w : World} {o : Oper} (v : Value) (ho : ops[k]? = some o) (hf : fl.contains k = true)
    (hw : Region.wanted o (yielded ops a.tmps) = true) (hy : ∀ w, S w → (execOp a.eval o).run P w = .ok (.value v) w) (h : wpTr P ops R S fl t (a.put o.dst v) w) : wpTr P ops R S fl (.one k t) a w := by
  unfold wpTr; rw [if_pos hf]; exact ⟨o, v, ho, .inl ⟨hw, hy⟩, h⟩
theorem mv_op {R C : Act → World → Prop} {k : Nat} {a : Act} {w : World} {o : Oper} (ho : ops[k]? = some o) (hw : Region.wanted o (yielded ops a.tmps) = true) (h : Mv P R S C o a w) : wpOp P ops (only R) k (fun a' w' => S w' ∧ C a' w') a w := by
  unfold wpOp
  simp only [ho, hw, if_true]
  exact .inl (h _ fun a' w' h1 h2 => ⟨h1, h2⟩)
theorem tr_move {R : Act → World → Prop} {fl : List Nat} {k : Nat} {t : Tr} {a : Act} {w : World} {o : Oper} (ho : ops[k]? = some o) (hf : fl.contains k = false)
    (hw : Region.wanted o (yielded ops a.tmps) = true) (h : Mv P R S (wpTr P ops R S fl t) o a w) : wpTr P ops R S fl (.one k t) a w := by
  unfold wpTr; rw [if_neg (by rw [hf]; simp)]
  exact mv_op ho hw h
theorem tr_two {R : Act → World → Prop} {fl : List Nat} {k1 k2 : Nat} {t1 t2 : Tr} {a : Act} {w : World} {o1 o2 : Oper} (ho1 : ops[k1]? = some o1) (hw1 : Region.wanted o1 (yielded ops a.tmps) = true) (ho2 : ops[k2]? = some o2) (hw2 : Region.wanted o2 (yielded ops a.tmps) = true)
    (h1 : Mv P R S (wpTr P ops R S fl t1) o1 a w) (h2 : Mv P R S (wpTr P ops R S fl t2) o2 a w) : wpTr P ops R S fl (.two k1 t1 k2 t2) a w := by
  unfold wpTr
  exact ⟨mv_op ho1 hw1 h1, mv_op ho2 hw2 h2⟩
theorem tr_three {R : Act → World → Prop} {fl : List Nat} {k1 k2 k3 : Nat} {t1 t2 t3 : Tr} {a : Act} {w : World} {o1 o2 o3 : Oper} (ho1 : ops[k1]? = some o1) (hw1 : Region.wanted o1 (yielded ops a.tmps) = true) (ho2 : ops[k2]? = some o2) (hw2 : Region.wanted o2 (yielded ops a.tmps) = true)
    (ho3 : ops[k3]? = some o3) (hw3 : Region.wanted o3 (yielded ops a.tmps) = true)
    (h1 : Mv P R S (wpTr P ops R S fl t1) o1 a w) (h2 : Mv P R S (wpTr P ops R S fl t2) o2 a w) (h3 : Mv P R S (wpTr P ops R S fl t3) o3 a w) : wpTr P ops R S fl (.three k1 t1 k2 t2 k3 t3) a w := by
  unfold wpTr
  exact ⟨mv_op ho1 hw1 h1, mv_op ho2 hw2 h2, mv_op ho3 hw3 h3⟩
theorem tr_end {R : Act → World → Prop} {fl : List Nat} {a : Act} {w : World} (h : R a w) : wpTr P ops R S fl .done a w := h

/-- THE REGION, by a tree. -/
theorem regionT {id : Nat} {Q : Exit → Act → World → Prop} {a : Act} {w : World} (S : World → Prop) (fl : List Nat) (t : Tr) (R : Act → World → Prop) (hm : P.follows .mixedOrders = true) (hsel : Region.noSelect ops = true)
    (hB : trB .any ops fl ops.size t (Array.replicate ops.size false) = true) (hS : S w.drew)
    (h : wpTr P ops R S fl t a w.drew) (hR : ∀ a w, R a w → Q .normal a w) : (Code.region id ops true).wp P Q a w := by
  have h1 := wpAny_of_K _ _ _ _ (tr_any (md := .any) hsel ops.size t _ a w.drew hB hS h)
  refine Code.wp_mono (fun e a w hq => ?_) (wp_region_any hm h1)
  cases e <;> first | exact hR _ _ hq | exact (hq : False).elim
end
end Go.Rd
