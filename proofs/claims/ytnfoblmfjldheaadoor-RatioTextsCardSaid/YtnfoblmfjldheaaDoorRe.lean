/-
  A region that draws its order, walked in ONE order that the prover names, once more: beside the floats that read memory there are plain ones, which yield the same value in whatever world, and may come behind an operation that turns memory. From number T on every operation waits for the floats that read memory; the plain ones need not be waited for.
  Two forms: for a plain walk, and for the body of a range over a function.
-/
import Derived.Test.YtnfoblmfjldheaaDoorRd
namespace Go.Rd
open Go

section
variable {P : Program} {ops : Array Oper} {md : Region.Mode} {S : World → Prop} {T : Nat}

/-- whatever order is picked from here on; every operation below T keeps S where it held. -/
def wpAnyK (P : Program) (md : Region.Mode) (ops : Array Oper) (Q : Exit → Act → World → Prop) (S : World → Prop) (T : Nat) : Nat → Array Bool → Act → World → Prop
  | 0, listed, a, w => Region.ready md ops listed = [] ∧ Q .normal a w
  | fuel + 1, listed, a, w =>
    (Region.ready md ops listed = [] → Q .normal a w) ∧
    ∀ i ∈ Region.ready md ops listed, wpOp P ops Q i (fun a' w' => (i < T → S w → S w') ∧ wpAnyK P md ops Q S T fuel (listed.setIfInBounds i true) a' w') a w

theorem wpAny_of_K {Q : Exit → Act → World → Prop} : ∀ (fuel : Nat) (listed : Array Bool) (a : Act) (w : World), wpAnyK P md ops Q S T fuel listed a w → wpAny P md ops Q fuel listed a w
  | 0, _, _, _, h => h
  | fuel + 1, _, _, _, h => ⟨h.1, fun i hi => wpOp_mono (fun a' w' h' => wpAny_of_K fuel _ a' w' h'.2) (h.2 i hi)⟩

/-- a float may be taken first: one that reads memory where S holds and all that may come ahead keep it; a plain one always. -/
theorem wpAnyK_first {R : Act → World → Prop} {i : Nat} {oi : Oper} {v : Value} {S' : World → Prop} (hi : ops[i]? = some oi) (hsel : ∀ (j : Nat) (o : Oper) cs b, ops[j]? = some o → o.op ≠ .select cs b)
    (hS' : (∀ w, S' w) ∨ (S' = S ∧ ∀ j oj, T ≤ j → ops[j]? = some oj → waits md oj i = true)) :
    ∀ (fuel : Nat) (listed : Array Bool) (a : Act) (w : World),
      (∀ j oj, ops[j]? = some oj → j ≠ i → listed.getD j true = false → (∀ e ∈ oj.after, Region.binds md e = true → e.on ≠ i) → oi.apart ops oj = true) →
      i ∈ Region.ready md ops listed → YieldsIf P ops S' oi v a → S' w →
      wpAnyK P md ops (only R) S T fuel (listed.setIfInBounds i true) (a.put oi.dst v) w → wpAnyK P md ops (only R) S T (fuel + 1) listed a w := by
  intro fuel
  induction fuel with
  | zero =>
    intro listed a w _ hr hy hS H
    refine ⟨fun h => (by rw [h] at hr; cases hr), fun j hj => ?_⟩
    by_cases hji : j = i
    · subst hji; exact hy.wpOp hi hS ⟨fun _ h => h, H⟩
    · have h0 := ready_mono hj hji
      rw [H.1] at h0
      cases h0
  | succ fuel ih =>
    intro listed a w hfree hr hy hS H
    refine ⟨fun h => (by rw [h] at hr; cases hr), fun j hj => ?_⟩
    by_cases hji : j = i
    · subst hji; exact hy.wpOp hi hS ⟨fun _ h => h, H⟩
    · obtain ⟨hjun, oj, hoj, hall⟩ := mem_ready.1 hj
      have hnot : ∀ e ∈ oj.after, Region.binds md e = true → e.on ≠ i := fun e he hb heq => by
        have h1 := hall e he hb
        have h0 := (mem_ready.1 hr).1
        rw [heq] at h1
        rcases Nat.lt_or_ge i listed.size with h' | h'
        · simp [h'] at h0 h1; rw [h0] at h1; cases h1
        · simp [Array.getElem?_eq_none h'] at h1
      have h2 := wpOp_putIf hoj (hfree j oj hoj hji hjun hnot) (fun cs b => hsel i oi cs b hi) (fun cs b => hsel j oj cs b hoj) (fun c a w h => h) hy (H.2 j (ready_mono hj hji))
      have hfree' : ∀ k ok, ops[k]? = some ok → k ≠ i → (listed.setIfInBounds j true).getD k true = false →
          (∀ e ∈ ok.after, Region.binds md e = true → e.on ≠ i) → oi.apart ops ok = true := fun k ok hk hki hun hno => by
        refine hfree k ok hk hki ?_ hno
        by_cases hjk : j = k
        · subst hjk; exact hjun
        · rw [getD_set_ne true hjk] at hun; exact hun
      refine wpOp_mono (fun a' w' h3 => ⟨h3.2.1, ih (listed.setIfInBounds j true) a' w' hfree' (ready_mono hr (Ne.symm hji)) h3.1 ?_ ?_⟩) h2
      · rcases hS' with hall' | ⟨rfl, hT⟩
        · exact hall' w'
        · have hjT : j < T := by
            apply Nat.lt_of_not_le
            intro hle
            obtain ⟨e, he, hb, heq⟩ := waits_spec (hT j oj hle hoj)
            exact hnot e he hb heq
          exact h3.2.1 hjT hS
      · rw [Array.setIfInBounds_comm _ _ hji]
        exact h3.2.2

/-- the operations in the order that the prover names: fp plain floats, fl floats that read memory. -/
def wpSeqK (P : Program) (ops : Array Oper) (R : Act → World → Prop) (S : World → Prop) (T : Nat) (fp fl : List Nat) : List Nat → Act → World → Prop
  | [], a, w => R a w
  | k :: rest, a, w => if fp.contains k then ∃ o v, ops[k]? = some o ∧ YieldsIf P ops (fun _ => True) o v a ∧ wpSeqK P ops R S T fp fl rest (a.put o.dst v) w
    else if fl.contains k then ∃ o v, ops[k]? = some o ∧ YieldsIf P ops S o v a ∧ wpSeqK P ops R S T fp fl rest (a.put o.dst v) w
    else wpOp P ops (only R) k (fun a' w' => (k < T → S w') ∧ wpSeqK P ops R S T fp fl rest a' w') a w

/-- may they be walked in that order? -/
def seqBK (md : Region.Mode) (ops : Array Oper) (T : Nat) (fp fl : List Nat) : List Nat → Array Bool → Bool
  | [], listed => (Region.ready md ops listed).isEmpty
  | k :: rest, listed => (if fp.contains k || fl.contains k then (Region.ready md ops listed).contains k && Region.free md ops listed k
      else decide (Region.ready md ops listed = [k]) && decide (k < T ∨ rest.all (fun j => fp.contains j || !fl.contains j))) && seqBK md ops T fp fl rest (listed.setIfInBounds k true)

theorem seq_anyK {R : Act → World → Prop} {fp fl : List Nat} (hsel : Region.noSelect ops = true) (hT : tailB md ops fl T = true) :
    ∀ (ord : List Nat) (listed : Array Bool) (a : Act) (w : World), seqBK md ops T fp fl ord listed = true → ((∃ k ∈ ord, fp.contains k = false ∧ fl.contains k = true) → S w) → wpSeqK P ops R S T fp fl ord a w → wpAnyK P md ops (only R) S T ord.length listed a w
  | [], listed, a, w, hB, _, h => ⟨by simpa [seqBK] using hB, h⟩
  | k :: rest, listed, a, w, hB, hS, h => by
    simp only [seqBK, Bool.and_eq_true] at hB
    obtain ⟨hk, hB'⟩ := hB
    unfold wpSeqK at h
    by_cases hp : fp.contains k = true
    · rw [if_pos hp] at h
      rw [hp, Bool.true_or, if_pos rfl, Bool.and_eq_true] at hk
      obtain ⟨o, v, ho, hy, h'⟩ := h
      exact wpAnyK_first ho (Region.noSelect_spec hsel) (.inl fun _ => trivial) rest.length listed a w (Region.free_spec ho hk.2) (by simpa using hk.1) hy trivial
        (seq_anyK hsel hT rest _ _ w hB' (fun ⟨j, hj, hjf⟩ => hS ⟨j, by simp [hj], hjf⟩) h')
    · have hpf : fp.contains k = false := by simpa using hp
      rw [if_neg hp] at h
      by_cases hf : fl.contains k = true
      · rw [if_pos hf] at h
        rw [hf, Bool.or_true, if_pos rfl, Bool.and_eq_true] at hk
        obtain ⟨o, v, ho, hy, h'⟩ := h
        exact wpAnyK_first ho (Region.noSelect_spec hsel) (.inr ⟨rfl, fun j oj hj hoj => tailB_spec hT (by simpa using hf) hj hoj⟩) rest.length listed a w (Region.free_spec ho hk.2) (by simpa using hk.1) hy (hS ⟨k, by simp, hpf, hf⟩)
          (seq_anyK hsel hT rest _ _ w hB' (fun ⟨j, hj, hjf⟩ => hS ⟨j, by simp [hj], hjf⟩) h')
      · have hff : fl.contains k = false := by simpa using hf
        rw [if_neg hf] at h
        rw [hpf, hff, Bool.or_false, if_neg (by simp), Bool.and_eq_true, decide_eq_true_eq, decide_eq_true_eq] at hk
        obtain ⟨hk1, htl⟩ := hk
        refine ⟨fun h0 => (by rw [hk1] at h0; cases h0), fun i hi => ?_⟩
        rw [hk1] at hi
        have hik : i = k := by simpa using hi
        subst hik
        refine wpOp_mono (fun a' w' h3 => ⟨fun hlt _ => h3.1 hlt, seq_anyK hsel hT rest _ a' w' hB' (fun hex => ?_) h3.2⟩) h
        rcases htl with htl | htl
        · exact h3.1 htl
        · obtain ⟨j, hj, hjp, hjf⟩ := hex
          have h4 := (List.all_eq_true.1 htl) j hj
          rw [hjp, hjf] at h4
          simp at h4

/-- a plain float. -/
theorem seqK_plain {R : Act → World → Prop} {fp fl : List Nat} {k : Nat} {rest : List Nat} {a : Act} {w : World} {o : Oper} (v : Value) (ho : ops[k]? = some o) (hf : fp.contains k = true)
    (hw : Region.wanted o (yielded ops a.tmps) = true) (hy : ∀ w : World, (execOp a.eval o).run P w = .ok (.value v) w) (h : wpSeqK P ops R S T fp fl rest (a.put o.dst v) w) : wpSeqK P ops R S T fp fl (k :: rest) a w := by
  unfold wpSeqK; rw [if_pos hf]; exact ⟨o, v, ho, .inl ⟨hw, fun w _ => hy w⟩, h⟩
/-- a float that reads memory. -/
theorem seqK_float {R : Act → World → Prop} {fp fl : List Nat} {k : Nat} {rest : List Nat} {a : Act} {w : World} {o : Oper} (v : Value) (ho : ops[k]? = some o) (hp : fp.contains k = false) (hf : fl.contains k = true)
    (hw : Region.wanted o (yielded ops a.tmps) = true) (hy : ∀ w, S w → (execOp a.eval o).run P w = .ok (.value v) w) (h : wpSeqK P ops R S T fp fl rest (a.put o.dst v) w) : wpSeqK P ops R S T fp fl (k :: rest) a w := by
  unfold wpSeqK; rw [if_neg (by rw [hp]; simp), if_pos hf]; exact ⟨o, v, ho, .inl ⟨hw, hy⟩, h⟩
/-- any other operation. -/
theorem seqK_move {R : Act → World → Prop} {fp fl : List Nat} {k : Nat} {rest : List Nat} {a : Act} {w : World} {o : Oper} (ho : ops[k]? = some o) (hp : fp.contains k = false) (hf : fl.contains k = false)
    (hw : Region.wanted o (yielded ops a.tmps) = true)
    (h : ∀ K : Act → World → Prop, (∀ a' w', (k < T → S w') → wpSeqK P ops R S T fp fl rest a' w' → K a' w') → o.wp P a w K (only R)) : wpSeqK P ops R S T fp fl (k :: rest) a w := by
  unfold wpSeqK; rw [if_neg (by rw [hp]; simp), if_neg (by rw [hf]; simp)]
  unfold wpOp
  simp only [ho, hw, if_true]
  exact .inl (h _ fun a' w' h1 h2 => ⟨h1, h2⟩)
theorem seqK_end {R : Act → World → Prop} {fp fl : List Nat} {a : Act} {w : World} (h : R a w) : wpSeqK P ops R S T fp fl [] a w := h

/-- THE REGION, in a plain walk. -/
theorem regionK {id : Nat} {Q : Exit → Act → World → Prop} {a : Act} {w : World} (S : World → Prop) (T : Nat) (fp fl ord : List Nat) (hm : P.follows .mixedOrders = true) (hsel : Region.noSelect ops = true)
    (hT : tailB .any ops fl T = true) (hB : seqBK .any ops T fp fl ord (Array.replicate ops.size false) = true) (hlen : ord.length = ops.size) (hS : S w.drew)
    (h : wpSeqK P ops (fun a w => Q .normal a w) S T fp fl ord a w.drew) : (Code.region id ops true).wp P Q a w := by
  have h1 := wpAny_of_K _ _ _ _ (seq_anyK (md := .any) hsel hT ord _ a w.drew hB (fun _ => hS) h)
  rw [hlen] at h1
  refine Code.wp_mono (fun e a w hq => ?_) (wp_region_any hm h1)
  cases e <;> first | exact hq | exact (hq : False).elim
end

section
variable {P : Program} {ops : Array Oper} {l n : Nat}
/-- THE REGION, in the body of a range over a function. -/
theorem regionInK {id : Nat} {Q : Exit → Act → World → Prop} {a : Act} {w : World} (S : World → Prop) (T : Nat) (fp fl ord : List Nat) (hm : P.follows .mixedOrders = true) (hd : noDefer ops = true) (hsel : Region.noSelect ops = true)
    (hT : tailB .any ops fl T = true) (hB : seqBK .any ops T fp fl ord (Array.replicate ops.size false) = true) (hlen : ord.length = ops.size) (hS : S w.drew)
    (h : wpSeqK P ops (fun a w => Q .normal a w) S T fp fl ord a w.drew) : (Code.region id ops true).wpIn (Fence.wide.inRound l) n P Q a w := by
  have h1 := wpAny_of_K _ _ _ _ (seq_anyK (md := .any) hsel hT ord _ a w.drew hB (fun _ => hS) h)
  rw [hlen] at h1
  refine wpIn_mono (wpIn_region_any hm (wpAnyIn_of_wpAny hd (only_out _) _ _ _ _ h1)) (fun e a w hq => ?_)
  cases e <;> first | exact hq | exact (hq : False).elim
end
end Go.Rd
