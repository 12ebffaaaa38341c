/-
  A region that draws its order, walked in an order of the prover's that forks once, where two operations that move the world are free: both ways are walked. Every operation keeps S. What holds behind the region is named (R), so that both ways meet there.
-/
import Derived.Test.YtnfoblmfjldheaaDoorRe
namespace Go.Rd
open Go

section
variable {P : Program} {ops : Array Oper} {md : Region.Mode} {S : World → Prop}

/-- some operations one behind the other, then K. -/
def wpPre (P : Program) (ops : Array Oper) (R : Act → World → Prop) (S : World → Prop) (fl : List Nat) (K : Act → World → Prop) : List Nat → Act → World → Prop
  | [], a, w => K a w
  | k :: l, a, w => if fl.contains k then ∃ o v, ops[k]? = some o ∧ YieldsIf P ops S o v a ∧ wpPre P ops R S fl K l (a.put o.dst v) w
    else wpOp P ops (only R) k (fun a' w' => S w' ∧ wpPre P ops R S fl K l a' w') a w
def preB (md : Region.Mode) (ops : Array Oper) (fl : List Nat) (cont : Array Bool → Bool) : List Nat → Array Bool → Bool
  | [], listed => cont listed
  | k :: l, listed => (if fl.contains k then (Region.ready md ops listed).contains k && Region.free md ops listed k else decide (Region.ready md ops listed = [k])) && preB md ops fl cont l (listed.setIfInBounds k true)
/-- a fork: one of two. -/
def wpFork (P : Program) (ops : Array Oper) (R : Act → World → Prop) (S : World → Prop) (fl : List Nat) (k1 : Nat) (l1 : List Nat) (k2 : Nat) (l2 : List Nat) (a : Act) (w : World) : Prop :=
  wpOp P ops (only R) k1 (fun a' w' => S w' ∧ wpPre P ops R S fl R l1 a' w') a w ∧ wpOp P ops (only R) k2 (fun a' w' => S w' ∧ wpPre P ops R S fl R l2 a' w') a w
def forkB (md : Region.Mode) (ops : Array Oper) (fl : List Nat) (k1 : Nat) (l1 : List Nat) (k2 : Nat) (l2 : List Nat) (listed : Array Bool) : Bool :=
  (Region.ready md ops listed).all (fun i => decide (i = k1 ∨ i = k2)) && (!(Region.ready md ops listed).isEmpty && (preB md ops fl (fun x => (Region.ready md ops x).isEmpty) l1 (listed.setIfInBounds k1 true) && preB md ops fl (fun x => (Region.ready md ops x).isEmpty) l2 (listed.setIfInBounds k2 true)))

theorem pre_any {R : Act → World → Prop} {fl : List Nat} (hsel : Region.noSelect ops = true) {fuel : Nat} {K : Act → World → Prop} {cont : Array Bool → Bool}
    (hcont : ∀ (listed : Array Bool) (a : Act) (w : World), cont listed = true → S w → K a w → wpAnyK P md ops (only R) S ops.size fuel listed a w) :
    ∀ (l : List Nat) (listed : Array Bool) (a : Act) (w : World), preB md ops fl cont l listed = true → S w → wpPre P ops R S fl K l a w → wpAnyK P md ops (only R) S ops.size (fuel + l.length) listed a w
  | [], listed, a, w, hB, hS, h => hcont listed a w hB hS h
  | k :: l, listed, a, w, hB, hS, h => by
    simp only [preB, Bool.and_eq_true] at hB
    obtain ⟨hk, hB'⟩ := hB
    unfold wpPre at h
    by_cases hf : fl.contains k = true
    · rw [if_pos hf] at h hk
      rw [Bool.and_eq_true] at hk
      obtain ⟨o, v, ho, hy, h'⟩ := h
      exact wpAnyK_first ho (Region.noSelect_spec hsel) (.inr ⟨rfl, fun j oj hj hoj => by rw [Array.getElem?_eq_none hj] at hoj; cases hoj⟩) (fuel + l.length) listed a w (Region.free_spec ho hk.2) (by simpa using hk.1) hy hS
        (pre_any hsel hcont l _ _ w hB' hS h')
    · rw [if_neg hf] at h hk
      simp only [decide_eq_true_eq] at hk
      refine ⟨fun h0 => (by rw [hk] at h0; cases h0), fun i hi => ?_⟩
      rw [hk] at hi
      have hik : i = k := by simpa using hi
      subst hik
      exact wpOp_mono (fun a' w' h3 => ⟨fun _ _ => h3.1, pre_any hsel hcont l _ a' w' hB' h3.1 h3.2⟩) h
theorem fork_any {R : Act → World → Prop} {fl : List Nat} (hsel : Region.noSelect ops = true) {k1 : Nat} {l1 : List Nat} {k2 : Nat} {l2 : List Nat} (hd : l1.length = l2.length) (listed : Array Bool) (a : Act) (w : World)
    (hB : forkB md ops fl k1 l1 k2 l2 listed = true) (_hS : S w) (h : wpFork P ops R S fl k1 l1 k2 l2 a w) : wpAnyK P md ops (only R) S ops.size (l1.length + 1) listed a w := by
  have hend : ∀ (listed : Array Bool) (a : Act) (w : World), (Region.ready md ops listed).isEmpty = true → S w → R a w → wpAnyK P md ops (only R) S ops.size 0 listed a w := fun listed a w h1 _ h3 => ⟨by simpa using h1, h3⟩
  simp only [forkB, Bool.and_eq_true] at hB
  obtain ⟨hr, hne, hB1, hB2⟩ := hB
  refine ⟨fun h0 => (by rw [h0] at hne; simp at hne), fun i hi => ?_⟩
  have h9 := (List.all_eq_true.1 hr) i hi
  simp only [decide_eq_true_eq] at h9
  rcases h9 with rfl | rfl
  · refine wpOp_mono (fun a' w' h3 => ⟨fun _ _ => h3.1, ?_⟩) h.1
    have := pre_any hsel hend l1 _ a' w' hB1 h3.1 h3.2
    rwa [Nat.zero_add] at this
  · refine wpOp_mono (fun a' w' h3 => ⟨fun _ _ => h3.1, ?_⟩) h.2
    have := pre_any hsel hend l2 _ a' w' hB2 h3.1 h3.2
    rwa [Nat.zero_add, ← hd] at this

theorem pre_float {R K : Act → World → Prop} {fl : List Nat} {k : Nat} {l : List Nat} {a : Act} {w : World} {o : Oper} (v : Value) (ho : ops[k]? = some o) (hf : fl.contains k = true)
    (hw : Region.wanted o (yielded ops a.tmps) = true) (hy : ∀ w, S w → (execOp a.eval o).run P w = .ok (.value v) w) (h : wpPre P ops R S fl K l (a.put o.dst v) w) : wpPre P ops R S fl K (k :: l) a w := by
  unfold wpPre; rw [if_pos hf]; exact ⟨o, v, ho, .inl ⟨hw, hy⟩, h⟩
theorem pre_move {R K : Act → World → Prop} {fl : List Nat} {k : Nat} {l : List Nat} {a : Act} {w : World} {o : Oper} (ho : ops[k]? = some o) (hf : fl.contains k = false)
    (hw : Region.wanted o (yielded ops a.tmps) = true)
    (h : ∀ K' : Act → World → Prop, (∀ a' w', S w' → wpPre P ops R S fl K l a' w' → K' a' w') → o.wp P a w K' (only R)) : wpPre P ops R S fl K (k :: l) a w := by
  unfold wpPre; rw [if_neg (by rw [hf]; simp)]
  unfold wpOp
  simp only [ho, hw, if_true]
  exact .inl (h _ fun a' w' h1 h2 => ⟨h1, h2⟩)
theorem pre_end {R K : Act → World → Prop} {fl : List Nat} {a : Act} {w : World} (h : K a w) : wpPre P ops R S fl K [] a w := h
theorem fork_both {R : Act → World → Prop} {fl : List Nat} {k1 k2 : Nat} {l1 l2 : List Nat} {a : Act} {w : World} {o1 o2 : Oper} (ho1 : ops[k1]? = some o1) (ho2 : ops[k2]? = some o2)
    (hw1 : Region.wanted o1 (yielded ops a.tmps) = true) (hw2 : Region.wanted o2 (yielded ops a.tmps) = true)
    (h1 : ∀ K' : Act → World → Prop, (∀ a' w', S w' → wpPre P ops R S fl R l1 a' w' → K' a' w') → o1.wp P a w K' (only R))
    (h2 : ∀ K' : Act → World → Prop, (∀ a' w', S w' → wpPre P ops R S fl R l2 a' w' → K' a' w') → o2.wp P a w K' (only R)) : wpFork P ops R S fl k1 l1 k2 l2 a w := by
  unfold wpFork wpOp
  simp only [ho1, ho2, hw1, hw2, if_true]
  exact ⟨.inl (h1 _ fun a' w' x y => ⟨x, y⟩), .inl (h2 _ fun a' w' x y => ⟨x, y⟩)⟩

/-- THE REGION that forks once. -/
theorem regionF {id : Nat} {Q : Exit → Act → World → Prop} {a : Act} {w : World} (S : World → Prop) (fl pre : List Nat) (k1 : Nat) (l1 : List Nat) (k2 : Nat) (l2 : List Nat) (R : Act → World → Prop) (hm : P.follows .mixedOrders = true) (hsel : Region.noSelect ops = true)
    (hB : preB .any ops fl (forkB .any ops fl k1 l1 k2 l2) pre (Array.replicate ops.size false) = true) (hd : l1.length = l2.length) (hlen : l1.length + 1 + pre.length = ops.size) (hS : S w.drew)
    (h : wpPre P ops R S fl (wpFork P ops R S fl k1 l1 k2 l2) pre a w.drew) (hR : ∀ a w, R a w → Q .normal a w) : (Code.region id ops true).wp P Q a w := by
  have h1 := wpAny_of_K _ _ _ _ (pre_any (md := .any) hsel (fun listed a w => fork_any hsel hd listed a w) pre _ a w.drew hB hS h)
  rw [hlen] at h1
  refine Code.wp_mono (fun e a w hq => ?_) (wp_region_any hm h1)
  cases e <;> first | exact hR _ _ hq | exact (hq : False).elim
end
end Go.Rd
