/-
  A region that draws its order, walked in ONE order that the prover names: some of its operations (the floats) yield the same value in every world that meets S; all others but the last ones keep S; these last ones wait for every float.
  Two forms: for a plain walk, and for the body of a range over a function (the wide fence, in a round; no operation of the region is a defer).
-/
import Derived.OrdersHeld
import Derived.Tactics
import Derived.OrdersIn
import Derived.TacticsIn
import Derived.RangeFuncCalls
namespace Go.Rd
open Go

/-- no operation of a region is a defer. -/
def noDefer (ops : Array Oper) : Bool := ops.all fun o => match o.op with | .defer _ => false | _ => true
theorem noDefer_spec {ops : Array Oper} (h : noDefer ops = true) {i : Nat} {o : Oper} (ho : ops[i]? = some o) : ∀ c, o.op ≠ .defer c := by
  intro c hc
  have hm : o ∈ ops := Array.mem_of_getElem? ho
  have := (Array.all_eq_true_iff_forall_mem.1 h) o hm
  simp [hc] at this

/-- does an operation wait for number i? -/
def waits (md : Region.Mode) (oj : Oper) (i : Nat) : Bool := oj.after.any fun e => Region.binds md e && e.on == i
theorem waits_spec {md : Region.Mode} {oj : Oper} {i : Nat} (h : waits md oj i = true) : ∃ e ∈ oj.after, Region.binds md e = true ∧ e.on = i := by
  unfold waits at h
  rw [Array.any_eq_true'] at h
  obtain ⟨e, he, hb⟩ := h
  rw [Bool.and_eq_true] at hb
  exact ⟨e, he, hb.1, by simpa using hb.2⟩
/-- from number T on every operation waits for each float. -/
def tailB (md : Region.Mode) (ops : Array Oper) (fl : List Nat) (T : Nat) : Bool :=
  (List.range ops.size).all fun j => decide (j < T) || fl.all fun i => match ops[j]? with | some oj => waits md oj i | none => true
theorem tailB_spec {md : Region.Mode} {ops : Array Oper} {fl : List Nat} {T : Nat} (h : tailB md ops fl T = true) {i j : Nat} {oj : Oper} (hi : i ∈ fl) (hj : T ≤ j) (ho : ops[j]? = some oj) : waits md oj i = true := by
  unfold tailB at h
  rw [List.all_eq_true] at h
  have h1 := h j (by simpa using (Array.getElem?_eq_some_iff.1 ho).1)
  have h2 : ¬ j < T := by omega
  simp only [h2, decide_false, Bool.false_or, List.all_eq_true] at h1
  have h3 := h1 i hi
  simpa [ho] using h3

/-- only a normal end. -/
def only (R : Act → World → Prop) : Exit → Act → World → Prop
  | .normal, a, w => R a w
  | _, _, _ => False
theorem only_out (R : Act → World → Prop) : ¬ LetsOut (only R) := fun ⟨_, _, h⟩ => h

section
variable {P : Program} {ops : Array Oper} {md : Region.Mode} {S : World → Prop} {T : Nat}

/-- whatever order is picked from here on; S holds behind every operation below T. -/
def wpAnyT (P : Program) (md : Region.Mode) (ops : Array Oper) (Q : Exit → Act → World → Prop) (S : World → Prop) (T : Nat) : Nat → Array Bool → Act → World → Prop
  | 0, listed, a, w => Region.ready md ops listed = [] ∧ Q .normal a w
  | fuel + 1, listed, a, w =>
    (Region.ready md ops listed = [] → Q .normal a w) ∧
    ∀ i ∈ Region.ready md ops listed, wpOp P ops Q i (fun a' w' => (i < T → S w') ∧ wpAnyT P md ops Q S T fuel (listed.setIfInBounds i true) a' w') a w

theorem wpAny_of_T {Q : Exit → Act → World → Prop} : ∀ (fuel : Nat) (listed : Array Bool) (a : Act) (w : World), wpAnyT P md ops Q S T fuel listed a w → wpAny P md ops Q fuel listed a w
  | 0, _, _, _, h => h
  | fuel + 1, _, _, _, h => ⟨h.1, fun i hi => wpOp_mono (fun a' w' h' => wpAny_of_T fuel _ a' w' h'.2) (h.2 i hi)⟩

/-- a float may be taken first. -/
theorem wpAnyT_first {R : Act → World → Prop} {i : Nat} {oi : Oper} {v : Value} (hi : ops[i]? = some oi) (hsel : ∀ (j : Nat) (o : Oper) cs b, ops[j]? = some o → o.op ≠ .select cs b)
    (hT : ∀ j oj, T ≤ j → ops[j]? = some oj → waits md oj i = true) (hiT : i < T) :
    ∀ (fuel : Nat) (listed : Array Bool) (a : Act) (w : World),
      (∀ j oj, ops[j]? = some oj → j ≠ i → listed.getD j true = false → (∀ e ∈ oj.after, Region.binds md e = true → e.on ≠ i) → oi.apart ops oj = true) →
      i ∈ Region.ready md ops listed → YieldsIf P ops S oi v a → S w →
      wpAnyT P md ops (only R) S T fuel (listed.setIfInBounds i true) (a.put oi.dst v) w → wpAnyT P md ops (only R) S T (fuel + 1) listed a w := by
  intro fuel
  induction fuel with
  | zero =>
    intro listed a w _ hr hy hS H
    refine ⟨fun h => (by rw [h] at hr; cases hr), fun j hj => ?_⟩
    by_cases hji : j = i
    · subst hji; exact hy.wpOp hi hS ⟨fun _ => hS, H⟩
    · have h0 := ready_mono hj hji
      rw [H.1] at h0
      cases h0
  | succ fuel ih =>
    intro listed a w hfree hr hy hS H
    refine ⟨fun h => (by rw [h] at hr; cases hr), fun j hj => ?_⟩
    by_cases hji : j = i
    · subst hji; exact hy.wpOp hi hS ⟨fun _ => hS, H⟩
    · obtain ⟨hjun, oj, hoj, hall⟩ := mem_ready.1 hj
      have hnot : ∀ e ∈ oj.after, Region.binds md e = true → e.on ≠ i := fun e he hb heq => by
        have h1 := hall e he hb
        have h0 := (mem_ready.1 hr).1
        rw [heq] at h1
        rcases Nat.lt_or_ge i listed.size with h' | h'
        · simp [h'] at h0 h1; rw [h0] at h1; cases h1
        · simp [Array.getElem?_eq_none h'] at h1
      have hjT : j < T := by
        apply Nat.lt_of_not_le
        intro hle
        obtain ⟨e, he, hb, heq⟩ := waits_spec (hT j oj hle hoj)
        exact hnot e he hb heq
      have h2 := wpOp_putIf hoj (hfree j oj hoj hji hjun hnot) (fun cs b => hsel i oi cs b hi) (fun cs b => hsel j oj cs b hoj) (fun c a w h => h) hy (H.2 j (ready_mono hj hji))
      have hfree' : ∀ k ok, ops[k]? = some ok → k ≠ i → (listed.setIfInBounds j true).getD k true = false →
          (∀ e ∈ ok.after, Region.binds md e = true → e.on ≠ i) → oi.apart ops ok = true := fun k ok hk hki hun hno => by
        refine hfree k ok hk hki ?_ hno
        by_cases hjk : j = k
        · subst hjk; exact hjun
        · rw [getD_set_ne true hjk] at hun; exact hun
      refine wpOp_mono (fun a' w' h3 => ⟨h3.2.1, ih (listed.setIfInBounds j true) a' w' hfree' (ready_mono hr (Ne.symm hji)) h3.1 (h3.2.1 hjT) ?_⟩) h2
      rw [Array.setIfInBounds_comm _ _ hji]
      exact h3.2.2

/-- the operations in the order that the prover names. -/
def wpSeq (P : Program) (ops : Array Oper) (R : Act → World → Prop) (S : World → Prop) (T : Nat) (fl : List Nat) : List Nat → Act → World → Prop
  | [], a, w => R a w
  | k :: rest, a, w => if fl.contains k then ∃ o v, ops[k]? = some o ∧ YieldsIf P ops S o v a ∧ wpSeq P ops R S T fl rest (a.put o.dst v) w
    else wpOp P ops (only R) k (fun a' w' => (k < T → S w') ∧ wpSeq P ops R S T fl rest a' w') a w

/-- may they be walked in that order? -/
def seqB (md : Region.Mode) (ops : Array Oper) (T : Nat) (fl : List Nat) : List Nat → Array Bool → Bool
  | [], listed => (Region.ready md ops listed).isEmpty
  | k :: rest, listed => (if fl.contains k then decide (k < T) && (Region.ready md ops listed).contains k && Region.free md ops listed k else decide (Region.ready md ops listed = [k])) &&
      decide (k < T ∨ rest.all (fun j => decide (T ≤ j) && !fl.contains j)) && seqB md ops T fl rest (listed.setIfInBounds k true)

theorem seq_any {R : Act → World → Prop} {fl : List Nat} (hsel : Region.noSelect ops = true) (hT : tailB md ops fl T = true) :
    ∀ (ord : List Nat) (listed : Array Bool) (a : Act) (w : World), seqB md ops T fl ord listed = true → ((∃ k ∈ ord, fl.contains k = true) → S w) → wpSeq P ops R S T fl ord a w → wpAnyT P md ops (only R) S T ord.length listed a w
  | [], listed, a, w, hB, _, h => ⟨by simpa [seqB] using hB, h⟩
  | k :: rest, listed, a, w, hB, hS, h => by
    simp only [seqB, Bool.and_eq_true] at hB
    obtain ⟨⟨hk, htl⟩, hB'⟩ := hB
    unfold wpSeq at h
    by_cases hf : fl.contains k = true
    · rw [if_pos hf] at h hk
      obtain ⟨o, v, ho, hy, h'⟩ := h
      simp only [Bool.and_eq_true, decide_eq_true_eq] at hk
      obtain ⟨⟨hkT, hr⟩, hfree⟩ := hk
      have hSw := hS ⟨k, by simp, hf⟩
      exact wpAnyT_first ho (Region.noSelect_spec hsel) (fun j oj hj hoj => tailB_spec hT (by simpa using hf) hj hoj) hkT rest.length listed a w (Region.free_spec ho hfree) (by simpa using hr) hy hSw
        (seq_any hsel hT rest _ _ w hB' (fun _ => hSw) h')
    · rw [if_neg hf] at h hk
      simp only [decide_eq_true_eq] at hk
      refine ⟨fun h0 => (by rw [hk] at h0; cases h0), fun i hi => ?_⟩
      rw [hk] at hi
      have hik : i = k := by simpa using hi
      subst hik
      refine wpOp_mono (fun a' w' h3 => ⟨h3.1, seq_any hsel hT rest _ a' w' hB' (fun hex => ?_) h3.2⟩) h
      simp only [decide_eq_true_eq] at htl
      rcases htl with htl | htl
      · exact h3.1 htl
      · obtain ⟨j, hj, hfj⟩ := hex
        have h4 := (List.all_eq_true.1 htl) j hj
        rw [hfj] at h4
        simp at h4

/-- a float. -/
theorem seq_float {R : Act → World → Prop} {fl : List Nat} {k : Nat} {rest : List Nat} {a : Act} {w : World} {o : Oper} (v : Value) (ho : ops[k]? = some o) (hf : fl.contains k = true)
    (hw : Region.wanted o (yielded ops a.tmps) = true) (hy : ∀ w, S w → (execOp a.eval o).run P w = .ok (.value v) w) (h : wpSeq P ops R S T fl rest (a.put o.dst v) w) : wpSeq P ops R S T fl (k :: rest) a w := by
  unfold wpSeq; rw [if_pos hf]; exact ⟨o, v, ho, .inl ⟨hw, hy⟩, h⟩
/-- a float whose guard says no. -/
theorem seq_skip {R : Act → World → Prop} {fl : List Nat} {k : Nat} {rest : List Nat} {a : Act} {w : World} {o : Oper} (ho : ops[k]? = some o) (hf : fl.contains k = true)
    (hw : Region.wanted o (yielded ops a.tmps) = false) (h : wpSeq P ops R S T fl rest (a.put o.dst undef) w) : wpSeq P ops R S T fl (k :: rest) a w := by
  unfold wpSeq; rw [if_pos hf]; exact ⟨o, undef, ho, .inr ⟨hw, rfl⟩, h⟩
/-- any other operation: behind it S is shown anew, but for the last ones. -/
theorem seq_move {R : Act → World → Prop} {fl : List Nat} {k : Nat} {rest : List Nat} {a : Act} {w : World} {o : Oper} (ho : ops[k]? = some o) (hf : fl.contains k = false)
    (hw : Region.wanted o (yielded ops a.tmps) = true)
    (h : ∀ K : Act → World → Prop, (∀ a' w', (k < T → S w') → wpSeq P ops R S T fl rest a' w' → K a' w') → o.wp P a w K (only R)) : wpSeq P ops R S T fl (k :: rest) a w := by
  unfold wpSeq; rw [if_neg (by rw [hf]; simp)]
  unfold wpOp
  simp only [ho, hw, if_true]
  exact .inl (h _ fun a' w' h1 h2 => ⟨h1, h2⟩)
theorem seq_end {R : Act → World → Prop} {fl : List Nat} {a : Act} {w : World} (h : R a w) : wpSeq P ops R S T fl [] a w := h

/-- THE REGION, in a plain walk. -/
theorem region {id : Nat} {Q : Exit → Act → World → Prop} {a : Act} {w : World} (S : World → Prop) (T : Nat) (fl ord : List Nat) (hm : P.follows .mixedOrders = true) (hsel : Region.noSelect ops = true)
    (hT : tailB .any ops fl T = true) (hB : seqB .any ops T fl ord (Array.replicate ops.size false) = true) (hlen : ord.length = ops.size) (hS : S w.drew)
    (h : wpSeq P ops (fun a w => Q .normal a w) S T fl ord a w.drew) : (Code.region id ops true).wp P Q a w := by
  have h1 := wpAny_of_T _ _ _ _ (seq_any (md := .any) hsel hT ord _ a w.drew hB (fun _ => hS) h)
  rw [hlen] at h1
  refine Code.wp_mono (fun e a w hq => ?_) (wp_region_any hm h1)
  cases e <;> first | exact hq | exact (hq : False).elim
end

/-! ### in a round -/
section
variable {P : Program} {ops : Array Oper} {md : Region.Mode} {l n : Nat}

theorem wpIn_of_wp {o : Oper} (hd : ∀ c, o.op ≠ .defer c) {a : Act} {w : World} {K : Act → World → Prop} {Q : Exit → Act → World → Prop} (hh : o.wp P a w K Q) : o.wpIn (Fence.wide.inRound l) n P a w K Q := by
  refine ⟨fun _ _ => trivial, ?_⟩
  rw [Oper.semAt_eq _ _ _ hd]
  unfold Oper.wp at hh
  generalize (execOp a.eval o).run P w = r at *
  cases r with
  | ok x w' =>
    cases x <;> simp only [Oper.upon] at hh <;> simp only [Oper.uponIn]
    case enter f args =>
      exact ⟨fun hdep => by simp [Fence.wide, Fence.inRound] at hdep, CallsIn.inRound l (callsIn_wide.2 hh)⟩
    case row row args =>
      refine ⟨fun hdep => by simp [Fence.wide, Fence.inRound] at hdep, fun c cs _ => ?_⟩
      obtain ⟨v, w'', hr, hs⟩ := hh c cs
      exact ⟨v, w'', hr, stepsIn_wide.2 hs⟩
    all_goals exact hh
  | halt x w' => cases x <;> simp only [Oper.upon] at hh <;> simp only [Oper.uponIn] <;> exact hh

theorem wpOpIn_of_wpOp (hd : noDefer ops = true) {Q : Exit → Act → World → Prop} (hQ : ¬ LetsOut Q) {i : Nat} {a : Act} {w : World} {K : Act → World → Prop} (hh : wpOp P ops Q i K a w) : wpOpIn (Fence.wide.inRound l) n P ops Q i K a w := by
  unfold wpOp at hh
  unfold wpOpIn
  split
  · rename_i ho; simpa only [ho] using hh
  · rename_i o ho
    simp only [ho] at hh
    split
    · rename_i hw
      simp only [hw, if_true] at hh
      rcases hh with hh | hh
      · exact wpIn_of_wp (noDefer_spec hd ho) hh
      · exact absurd hh.2 hQ
    · rename_i hw; simp only [hw] at hh; exact ⟨fun _ _ => trivial, hh⟩

theorem wpAnyIn_of_wpAny (hd : noDefer ops = true) {Q : Exit → Act → World → Prop} (hQ : ¬ LetsOut Q) : ∀ (fuel : Nat) (listed : Array Bool) (a : Act) (w : World), wpAny P md ops Q fuel listed a w → wpAnyIn (Fence.wide.inRound l) n P md ops Q fuel listed a w
  | 0, _, _, _, h => h
  | fuel + 1, _, _, _, h => ⟨h.1, fun i hi => wpOpIn_mono (fun a' w' h' => wpAnyIn_of_wpAny hd hQ fuel _ a' w' h') (wpOpIn_of_wpOp hd hQ (h.2 i hi))⟩

/-- THE REGION, in the body of a range over a function. -/
theorem regionIn {id : Nat} {Q : Exit → Act → World → Prop} {a : Act} {w : World} (S : World → Prop) (T : Nat) (fl ord : List Nat) (hm : P.follows .mixedOrders = true) (hd : noDefer ops = true) (hsel : Region.noSelect ops = true)
    (hT : tailB .any ops fl T = true) (hB : seqB .any ops T fl ord (Array.replicate ops.size false) = true) (hlen : ord.length = ops.size) (hS : S w.drew)
    (h : wpSeq P ops (fun a w => Q .normal a w) S T fl ord a w.drew) : (Code.region id ops true).wpIn (Fence.wide.inRound l) n P Q a w := by
  have h1 := wpAny_of_T _ _ _ _ (seq_any (md := .any) hsel hT ord _ a w.drew hB (fun _ => hS) h)
  rw [hlen] at h1
  refine wpIn_mono (wpIn_region_any hm (wpAnyIn_of_wpAny hd (only_out _) _ _ _ _ h1)) (fun e a w hq => ?_)
  cases e <;> first | exact hq | exact (hq : False).elim
end
end Go.Rd
