/-
  A range over slices.Backward of limbs: one law for a loop that goes through a slice from behind, whatever its body does with memory, as long as the caller's own invariant says what the places still to come hold. Of the program, the iterator's closure is function 88. No other condition.
-/
import Derived.Test.YtphllajedkpcbaaGreatDoorRa
import Derived.Test.YtphllajedkpcbaaGreatDoorRd
import Derived.RangeFuncNested
import Derived.RangeFuncBound
import Derived.RangeFuncCalls
import Derived.RangeFuncLeaves
import Derived.RangeFuncBox
import Derived.Shelf.Abstract
import Derived.Shelf.RegionOpen
import Derived.OwnWalkIn
import Derived.TacticsInMore
import Derived.LoopNIn
import Derived.LoopIn
namespace Go.Proofs.YtphllajedkpcbaaGreatDoor
open Go.RowKit Go.Dig Go.Shelf Go.Proofs
attribute [local go_sem] Oper.semAt_some

/-- slices.Backward: the slice is boxed; the function value captures the box. -/
theorem Backward_any (ad : Option Addr) (n cap : Nat) (w : World) :
    Calls Tryz.prog 69 #[.slice ad n cap] w fun e w' => e = .returned (.func (.func 88) #[] #[.pointer (some ⟨w.heap.size, 0, none⟩)]) ∧ w' = w.alloc (.cells #[.slice ad n cap] 27) := by
  go_enter Tryz.func69, Tryz.ntmps69
  go_wp2
  go_ret
  exact ⟨rfl, rfl⟩

set_option maxRecDepth 100000 in
set_option maxHeartbeats 1000000 in
/-- the iterator: J m says what holds while m places are still to come; Jx: a round has said no. -/
theorem back_in (l Bn N : Nat) (ad : Option Addr) (len cap : Nat) (hlen : len ≤ 1000000) (f : Nat → Nat) (J : Nat → World → Prop) (Jx : World → Prop)
    (hcell : ∀ k W, k < len → J (k + 1) W → W.cell? ⟨Bn, 0, none⟩ = some (.slice ad len cap) ∧ ∃ b off, ad = some ⟨b, off, none⟩ ∧ W.cell? ⟨b, off + k, none⟩ = some (.int .u64 (f k : Nat)))
    (hY : ∀ k W, k < len → J (k + 1) W → YieldAt Fence.wide (N - 1) Tryz.prog l #[.int .i64 (k : Int), .int .u64 (f k : Nat)] W fun e W' =>
      (e = .returned (.bool true) ∧ J k W') ∨ (e = .returned (.bool false) ∧ Jx W'))
    (W : World) (hbox : W.cell? ⟨Bn, 0, none⟩ = some (.slice ad len cap)) (h0 : J len W) :
    CallsIn Fence.wide N Tryz.prog 88 #[.func (.yield l) #[] #[], .pointer (some ⟨Bn, 0, none⟩)] W fun e W' => (∃ v, e = .returned v) ∧ (J 0 W' ∨ Jx W') := by
  refine callsIn_of_wp Tryz.func88 rfl trivial ?_ rfl
  simp only [Tryz.ntmps88, List.size_toArray, List.length_cons, List.length_nil, Nat.reduceAdd, Nat.reduceSub, Array.replicate_succ, Array.replicate_zero, List.push_toArray, List.append_toArray, List.nil_append, List.cons_append]
  gi_wp2_with fail
  gi_loopw [3] (fun p wr => ∃ (m : Nat), p = .int .i64 ((m : Int) - 1) ∧ m ≤ len ∧ J m wr) (fun p _ => (intOf p + 1).toNat)
  case atStart =>
    exact ⟨len, rfl, Nat.le_refl _, h0⟩
  case round =>
    obtain ⟨m, rfl, hm, hJ⟩ := hrel
    by_cases hz : m = 0
    · subst hz
      gi_wp2_with fail
      go_end0
      exact ⟨⟨_, rfl⟩, .inl hJ⟩
    · obtain ⟨k, rfl⟩ : ∃ k, m = k + 1 := ⟨m - 1, by omega⟩
      have hk : k < len := by omega
      obtain ⟨hb1, b, off, rfl, hc⟩ := hcell k wr hk hJ
      obtain ⟨fn, tmps, assign, body, hy, hR⟩ := hY k wr hk hJ
      have e1 : ((k + 1 : Nat) : Int) - 1 = (k : Int) := by omega
      rw [e1]
      clear e1 hz hbox
      gi_wp2_with fail
      refine ⟨fun h => (by cases h), ?_⟩
      refine hR.mono ?_
      rintro e W3 (⟨rfl, hJ3⟩ | ⟨rfl, hJx3⟩)
      · gi_wp2_with fail
        go_roundw
        case rel => exact ⟨k, rfl, by omega, hJ3⟩
        case measure => simp [intOf]
      · gi_wp2_with fail
        refine bodyPost_ret (results_none rfl _ _ _) rfl ?_
        exact ⟨⟨_, rfl⟩, .inr hJx3⟩

/-- what is asked where a body is left. -/
def backPost (B : Nat) (Ik : World → Prop) (Ix : Code → World → Prop) (W : World) : Exit → Act → World → Prop
  | .normal, _, W' => KeepsFrom B W W' ∧ Ik W'
  | .ret, _, W' => KeepsFrom B W W' ∧ Ix .ret W'
  | .exit id, _, W' => KeepsFrom B W W' ∧ Ix (.exit id) W'
  | .goto t, _, W' => KeepsFrom B W W' ∧ Ix (.goto t) W'
  | .panic _, _, _ => False
  | .outgrown, _, _ => False

/-- the law: I m holds while m places are still to come, and says what the next one holds. -/
theorem range_back {g : Operand} {ps : Array Tmp} {assign body : Code} {Q : Exit → Act → World → Prop} {a : Act} {w : World} {N : Nat} (Bn : Nat) (ad : Option Addr) (len cap : Nat) (hlen : len ≤ 1000000) (f : Nat → Nat)
    (hg : a.eval g = .func (.func 88) #[] #[.pointer (some ⟨Bn, 0, none⟩)]) (hps : ps.size = 2) (hbox : w.cell? ⟨Bn, 0, none⟩ = some (.slice ad len cap))
    (I : Nat → World → Prop) (Ix : Code → World → Prop) (hI : OwnFrom w.heap.size I) (hIx : OwnFrom w.heap.size Ix)
    (hcell : ∀ k W, k < len → I (k + 1) W → W.cell? ⟨Bn, 0, none⟩ = some (.slice ad len cap) ∧ ∃ b off, ad = some ⟨b, off, none⟩ ∧ W.cell? ⟨b, off + k, none⟩ = some (.int .u64 (f k : Nat)))
    (h0 : I len w) (a₁ : Nat → Act)
    (hassign : ∀ (l k : Nat) (W : World) (K : Act → World → Prop), K (a₁ k) W →
      assign.wpIn (Fence.wide.inRound l) (N - 1 - 1) Tryz.prog (Exit.then K (fun _ _ _ => False)) { tmps := (ps.zip #[.int .i64 (k : Int), .int .u64 (f k : Nat)]).foldl (fun t (p, v) => t.setIfInBounds p v) a.tmps, defers := [] } W)
    (hbody : ∀ (l k : Nat) (W : World), k < len → w.heap.size ≤ l → l < W.heap.size → I (k + 1) W → body.wpIn (Fence.wide.inRound l) (N - 1 - 1) Tryz.prog (backPost w.heap.size (I k) Ix W) (a₁ k) W)
    (hdone : ∀ (D : Nat) (W : World), w.heap.size ≤ D → I 0 W → W.heap[D]? = some (.deferred (some [])) → Q .normal { a with defers := { target := .collected D, args := #[] } :: a.defers } W)
    (hstop : ∀ (D : Nat) (c : Code) (W : World), w.heap.size ≤ D → Ix c W → W.heap[D]? = some (.deferred (some [])) → c.wpIn Fence.wide N Tryz.prog Q { a with defers := { target := .collected D, args := #[] } :: a.defers } W) :
    (Code.rangeFunc g ps assign body).wpIn Fence.wide N Tryz.prog Q a w := by
  apply wpIn_rangeFunc
  intro fn hfn
  -- the record of this loop, by its state and its pending jump; it lies at L, the block for deferred calls ahead of it at D
  let rc (st : LoopState) (pe : Option Code) : Loop := { state := st, pending := pe, fn := fn, tmps := a.tmps, params := ps, assign := assign, body := body, defers := w.heap.size }
  let W1 : World := (w.alloc (.deferred (some []))).alloc (.loop (rc .ready none))
  have hs1 : W1.heap.size = w.heap.size + 2 := by simp [W1]
  have hloop : W1.heap[w.heap.size + 1]? = some (.loop (rc .ready none)) := by
    have h := World.alloc_heap_new (w.alloc (.deferred (some []))) (.loop (rc .ready none))
    rw [World.size_alloc] at h
    exact h
  have hdef : W1.heap[w.heap.size]? = some (.deferred (some [])) := by
    have h := World.alloc_heap_new w (.deferred (some []))
    exact (Below.heap_alloc _ _ _ (by simp)).trans h
  have hbox1 : W1.cell? ⟨Bn, 0, none⟩ = some (.slice ad len cap) := by
    have hlt : Bn < w.heap.size := World.block_lt_of_cell? w _ hbox
    have hb : Below w.heap.size w W1 := ((Below.refl _ w).alloc (Nat.le_refl _) _).alloc (by simp) _
    exact (hb.cell (p := ⟨Bn, 0, none⟩) hlt).trans hbox
  refine ⟨w.heap.size + 1, [{ target := .collected w.heap.size, args := #[] }], W1, { target := .fn (.func 88) #[.pointer (some ⟨Bn, 0, none⟩)], args := #[.func (.yield (w.heap.size + 1)) #[] #[]] }, W1, 88,
    #[.func (.yield (w.heap.size + 1)) #[] #[], .pointer (some ⟨Bn, 0, none⟩)], W1, run_enterLoop_outer fn a.tmps ps assign body, ?_, fun _ _ => trivial, ?_, fun h => (by cases h), ?_⟩
  · simp only [resolve, hg]
    simp [go_sem]
  · simp [invoke, go_sem]
  -- what the iterator carries: the caller's word, and the two blocks of the loop's own
  refine (back_in (w.heap.size + 1) Bn (N - 1) ad len cap hlen f
    (fun m W => I m W ∧ W.heap[w.heap.size + 1]? = some (.loop (rc .ready none)) ∧ W.heap[w.heap.size]? = some (.deferred (some [])))
    (fun W => ∃ c, Ix c W ∧ W.heap[w.heap.size + 1]? = some (.loop (rc .done (some c))) ∧ W.heap[w.heap.size]? = some (.deferred (some [])))
    (fun k W hk h => hcell k W hk h.1) ?_ W1 hbox1 ⟨hI.alloc _ (hI.alloc _ h0), hloop, hdef⟩).mono ?_
  · rintro k W hk ⟨hi, hl, hd⟩
    have hlt : w.heap.size + 1 < W.heap.size := (Array.getElem?_eq_some_iff.1 hl).1
    refine ⟨fn, _, assign, body, run_yield hl (by rw [show (rc .ready none).params = ps from rfl, hps]; rfl), roundIn_of_wpIn hfn ?_⟩
    refine hassign _ k W _ ⟨_, run_beginRound hl rfl, ?_⟩
    -- the record is busy
    have hlb : (W.putObj (w.heap.size + 1) (.loop (rc .busy none))).heap[w.heap.size + 1]? = some (.loop (rc .busy none)) := World.putObj_heap_same hlt
    have hdb : (W.putObj (w.heap.size + 1) (.loop (rc .busy none))).heap[w.heap.size]? = some (.deferred (some [])) := (World.putObj_heap_other (by omega)).trans hd
    have hib : I (k + 1) (W.putObj (w.heap.size + 1) (.loop (rc .busy none))) := hI.putObj _ hi (by omega) hl rfl
    refine wpIn_mono (hbody (w.heap.size + 1) k _ hk (by omega) (by rw [World.putObj_size]; exact hlt) hib) ?_
    -- behind the body: the record is ready again, or done with a jump
    have hend : ∀ (j : Option Code) (W3 : World), KeepsFrom w.heap.size (W.putObj (w.heap.size + 1) (.loop (rc .busy none))) W3 →
        ∃ W4, (Instr.endRound (w.heap.size + 1) j).run Tryz.prog W3 = .ok (.bool j.isNone) W4 ∧ W4 = W3.putObj (w.heap.size + 1) (.loop (rc (if j.isNone then .ready else .done) j)) ∧
          W3.heap[w.heap.size + 1]? = some (.loop (rc .busy none)) ∧ W4.heap[w.heap.size + 1]? = some (.loop (rc (if j.isNone then .ready else .done) j)) ∧ W4.heap[w.heap.size]? = some (.deferred (some [])) := by
      intro j W3 hk3
      have h1 := hk3.same _ _ (by omega) hlb rfl
      have h2 := hk3.same _ _ (Nat.le_refl _) hdb rfl
      exact ⟨_, run_endRound j h1, rfl, h1, World.putObj_heap_same (Array.getElem?_eq_some_iff.1 h1).1, (World.putObj_heap_other (by omega)).trans h2⟩
    intro e a3 W3 hp
    cases e with
    | normal =>
      obtain ⟨W4, hr, rfl, h3, h4, h5⟩ := hend none W3 hp.1
      exact ⟨_, _, hr, .inl ⟨rfl, hI.putObj _ hp.2 (by omega) h3 rfl, h4, h5⟩⟩
    | ret =>
      obtain ⟨W4, hr, rfl, h3, h4, h5⟩ := hend (some .ret) W3 hp.1
      exact ⟨_, _, hr, .inr ⟨rfl, _, hIx.putObj _ hp.2 (by omega) h3 rfl, h4, h5⟩⟩
    | exit id =>
      obtain ⟨W4, hr, rfl, h3, h4, h5⟩ := hend (some (.exit id)) W3 hp.1
      exact ⟨_, _, hr, .inr ⟨rfl, _, hIx.putObj _ hp.2 (by omega) h3 rfl, h4, h5⟩⟩
    | goto t =>
      obtain ⟨W4, hr, rfl, h3, h4, h5⟩ := hend (some (.goto t)) W3 hp.1
      exact ⟨_, _, hr, .inr ⟨rfl, _, hIx.putObj _ hp.2 (by omega) h3 rfl, h4, h5⟩⟩
    | panic c => exact hp.elim
    | outgrown => exact hp.elim
  · rintro e W2 ⟨⟨v, rfl⟩, (⟨hi, hl, hd⟩ | ⟨c, hi, hl, hd⟩)⟩
    · exact ⟨none, _, run_endLoop hl (fun h => by cases h), hdone _ _ (Nat.le_refl _) (hI.putObj _ hi (by omega) hl rfl) ((World.putObj_heap_other (by omega)).trans hd)⟩
    · exact ⟨some c, _, run_endLoop hl (fun h => by cases h), hstop _ c _ (Nat.le_refl _) (hIx.putObj _ hi (by omega) hl rfl) ((World.putObj_heap_other (by omega)).trans hd)⟩
end Go.Proofs.YtphllajedkpcbaaGreatDoor
