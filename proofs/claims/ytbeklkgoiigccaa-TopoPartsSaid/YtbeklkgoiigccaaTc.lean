/-
  Contracts of the document's answers Cores and Domain of a topology. Condition: the topology is one.
-/
import Derived.Test.YtbeklkgoiigccaaTb
namespace Go.Proofs.Ytbeklkgoiigccaa
open Go.RowKit

/-- the document's topology of domains and of cores that are on. -/
abbrev TV (cs : List Nat) (on : Nat) : Array Value := tarr (cs.length : Int) (fun i => ofI cs (i : Int)) on.testBit
abbrev IT (w : World) (b : Nat) (cs : List Nat) (on : Nat) : Prop := IsT w b (cs.length : Int) (fun i => ofI cs (i : Int)) on.testBit
/-- a domain's cores, all or those that are on. -/
def pickN (cs : List Nat) (on d : Nat) (b : Bool) : Nat := if b then cs.getD d 0 &&& on else cs.getD d 0
theorem pickN_lt {cs : List Nat} {on : Nat} (h : TopoOk cs on) (d : Nat) (b : Bool) : pickN cs on d b < 18446744073709551616 := by
  unfold pickN; split
  · exact and_lt (h.small d)
  · exact h.small d
theorem results27 {fn : Func} {p u : Tmp} (h : fn.results = #[.cell p 27, .tmp u]) (tmps : Array Value) (w : World) (b : Nat) (f : Nat → Bool) (v : Value) (hp : tmps.getD p undef = .pointer (some ⟨b, 0, none⟩)) (hv : tmps.getD u undef = v) (hw : IsArr w b f) :
    (results fn tmps).run Try.prog w = .ok (.tuple #[.agg (arrB f), v]) w := by
  rw [results_cell_tmp h, hp, hv]
  simp only [asAddr, Sem.run_pure, Result.andThen_ok, run_loadVar_row w b 27 27 _ (0, 0) _ hw Try.underlying27 rfl (size30 f)]
theorem results29 {fn : Func} {p u : Tmp} (h : fn.results = #[.cell p 29, .tmp u]) (tmps : Array Value) (w : World) (b : Nat) (m : Int) (o : Nat → Int) (g : Nat → Bool) (v : Value) (hp : tmps.getD p undef = .pointer (some ⟨b, 0, none⟩)) (hv : tmps.getD u undef = v) (hw : IsT w b m o g) :
    (results fn tmps).run Try.prog w = .ok (.tuple #[.agg (tarr m o g), v]) w := by
  rw [results_cell_tmp h, hp, hv]
  simp only [asAddr, Sem.run_pure, Result.andThen_ok, run_loadVar_row w b 29 29 _ (0, 0) _ hw Try.underlying29 rfl (size29 m o g)]
theorem of_is {cs : List Nat} (h : Good8 cs) {d k : Nat} (hd : d < cs.length) (hk : k < 64) : (ofI cs (k : Int) == (d : Int)) = (cs.getD d 0).testBit k := by
  rw [← hasB_nat hk, Bool.eq_iff_iff, h.dom hd, beq_iff_eq]
  unfold ofI
  split
  · omega
  · constructor
    · intro h; omega
    · rintro rfl; omega

set_option maxRecDepth 100000 in
set_option maxHeartbeats 4000000 in
theorem rCores_yes (cs : List Nat) (on d : Nat) (b : Bool) (w : World) (ok : TopoOk cs on) (hd : d < cs.length) :
    Calls Try.prog 31 #[.agg (TV cs on), .int .i64 (d : Int), .bool b] w fun e w' => e = .returned (.tuple #[.agg (arrB (pickN cs on d b).testBit), .int .i64 0]) ∧ Below w.heap.size w w' := by
  have hT : IT (((w.alloc (.cells (TV cs on) 29)).alloc (.cells (arrB fun _ => false) 27)).alloc (.cells (arrB fun _ => false) 27)) w.heap.size cs on := ((IsT.new w _ _ _).alloc _).alloc _
  have hz1 : IsArr (((w.alloc (.cells (TV cs on) 29)).alloc (.cells (arrB fun _ => false) 27)).alloc (.cells (arrB fun _ => false) 27)) (w.heap.size + 1) (fun _ => false) := by
    have h := IsArr.new (w.alloc (.cells (TV cs on) 29)) (fun _ => false)
    rw [World.size_alloc] at h
    exact h.alloc _
  have hz2 : IsArr (((w.alloc (.cells (TV cs on) 29)).alloc (.cells (arrB fun _ => false) 27)).alloc (.cells (arrB fun _ => false) 27)) (w.heap.size + 1 + 1) (fun _ => false) := by
    have h := IsArr.new ((w.alloc (.cells (TV cs on) 29)).alloc (.cells (arrB fun _ => false) 27)) (fun _ => false)
    rw [World.size_alloc, World.size_alloc] at h
    exact h
  have hB : Below w.heap.size w (((w.alloc (.cells (TV cs on) 29)).alloc (.cells (arrB fun _ => false) 27)).alloc (.cells (arrB fun _ => false) 27)) := (((Below.refl _ w).alloc (Nat.le_refl _) _).alloc (by simp) _).alloc (by simp; omega) _
  have hc0 := hT.many
  have hle := ok.good.2.1
  have hNE : Hid (∀ k, k < 64 → (pickN cs on d b).testBit k = ((ofI cs (k : Int) == (d : Int)) && (!b || on.testBit k))) := Lib.hid (fun k hk => by
    rw [of_is ok.good hd hk]; unfold pickN
    cases b <;> simp)
  generalize hN : pickN cs on d b = N at *
  go_enter Try.func31, Try.ntmps31
  go_wp2_with (first | (refine wpList_box29 rfl _ rfl _ _ _ rfl ?_) | (refine wpList_alloc30 rfl rfl ?_; try simp only [World.size_alloc]) | (refine wpList_build30 rfl rfl ?_) | (refine wpList_store30 rfl _ _ rfl (w.heap.size + 1 + 1) (fun _ => false) (fun _ => false) rfl rfl hz2 ?_; intro w1 i1 t1; have hc1 := (hT.turn t1 (by omega)).many))
  have hT1 := hT.turn t1 (by omega)
  have hz3 := hz1.turn t1 (by omega)
  have hb1 := hB.trans (t1.below (B := w.heap.size) (by omega))
  clear hT hz1 hz2 hB t1 hc0 hc1
  rw [← bitsTo_zero N] at i1
  go_loopw [20] (fun i wr => ∃ k : Nat, k ≤ 64 ∧ i = .int .i64 k ∧ IsArr wr (w.heap.size + 1 + 1) (bitsTo N k) ∧ IsArr wr (w.heap.size + 1) (fun _ => false) ∧ IT wr w.heap.size cs on ∧ Below w.heap.size w wr) (fun i _ => 64 - (intOf i).toNat)
  case atStart => exact ⟨0, by omega, rfl, i1, hz3, hT1, hb1⟩
  case round =>
    obtain ⟨k, hk, rfl, hi, hz, hT, hb⟩ := hrel
    by_cases hlt : k < 64
    · have hc1 := hT.of hlt
      have hc2 := hT.on hlt
      have hc3 := hi.cell hlt
      have hf := hi.frozen k
      have hst := hNE.out k hlt
      have HS := Lib.hid (bitsTo_step N k)
      generalize hx : ofI cs (k : Int) = x at *
      generalize hg : on.testBit k = gk at *
      cases hq : (x == (d : Int))
      · rw [hq] at hst
        have HT := Lib.hid hst
        clear hst hx hg
        go_wp2_with fail
        refine ⟨⟨k + 1, by omega, by go_num, ?_, hz.turn (Turn.setCell _ _ _ _) (by omega), hT.turn (Turn.setCell _ _ _ _) (by omega), hb.trans ((Turn.setCell _ _ _ _).below (by omega))⟩, by simp [intOf]; omega⟩
        rw [← HS.out, HT.out]
        exact hi.set k _
      · rw [hq] at hst
        cases b
        · have HT := Lib.hid hst
          clear hst hx hg
          go_wp2_with fail
          refine ⟨⟨k + 1, by omega, by go_num, ?_, hz.turn (Turn.setCell _ _ _ _) (by omega), hT.turn (Turn.setCell _ _ _ _) (by omega), hb.trans ((Turn.setCell _ _ _ _).below (by omega))⟩, by simp [intOf]; omega⟩
          rw [← HS.out, HT.out]
          exact hi.set k _
        · have HT := Lib.hid hst
          clear hst hx hg
          go_wp2_with fail
          refine ⟨⟨k + 1, by omega, by go_num, ?_, hz.turn (Turn.setCell _ _ _ _) (by omega), hT.turn (Turn.setCell _ _ _ _) (by omega), hb.trans ((Turn.setCell _ _ _ _).below (by omega))⟩, by simp [intOf]; omega⟩
          rw [← HS.out, HT.out]
          exact hi.set k _
    · obtain rfl : k = 64 := by omega
      have HA := Lib.hid (bitsTo_all N)
      go_wp2_with (first | (refine wpList_load30 rfl _ rfl (w.heap.size + 1 + 1) (bitsTo N 64) rfl hi ?_) | (refine wpList_store30 rfl _ _ rfl (w.heap.size + 1) (bitsTo N 64) (fun _ => false) rfl rfl hz ?_; intro w2 i2 t2))
      refine bodyPost_ret (results27 rfl _ w2 (w.heap.size + 1) (bitsTo N 64) (.int .i64 0) rfl rfl i2) rfl ?_
      exact ⟨by rw [HA.out], hb.trans (t2.below (by omega))⟩

set_option maxRecDepth 100000 in
set_option maxHeartbeats 4000000 in
theorem rCores_no (cs : List Nat) (on : Nat) (d : Int) (b : Bool) (w : World) (hd : ¬ (0 ≤ d ∧ d < cs.length)) :
    Calls Try.prog 31 #[.agg (TV cs on), .int .i64 d, .bool b] w fun e w' => e = .returned (.tuple #[.agg (arrB (0 : Nat).testBit), .int .i64 5]) ∧ Below w.heap.size w w' := by
  have hT : IT (((w.alloc (.cells (TV cs on) 29)).alloc (.cells (arrB fun _ => false) 27)).alloc (.cells (arrB fun _ => false) 27)) w.heap.size cs on := ((IsT.new w _ _ _).alloc _).alloc _
  have hz1 : IsArr (((w.alloc (.cells (TV cs on) 29)).alloc (.cells (arrB fun _ => false) 27)).alloc (.cells (arrB fun _ => false) 27)) (w.heap.size + 1) (fun _ => false) := by
    have h := IsArr.new (w.alloc (.cells (TV cs on) 29)) (fun _ => false)
    rw [World.size_alloc] at h
    exact h.alloc _
  have hz2 : IsArr (((w.alloc (.cells (TV cs on) 29)).alloc (.cells (arrB fun _ => false) 27)).alloc (.cells (arrB fun _ => false) 27)) (w.heap.size + 1 + 1) (fun _ => false) := by
    have h := IsArr.new ((w.alloc (.cells (TV cs on) 29)).alloc (.cells (arrB fun _ => false) 27)) (fun _ => false)
    rw [World.size_alloc, World.size_alloc] at h
    exact h
  have hB : Below w.heap.size w (((w.alloc (.cells (TV cs on) 29)).alloc (.cells (arrB fun _ => false) 27)).alloc (.cells (arrB fun _ => false) 27)) := (((Below.refl _ w).alloc (Nat.le_refl _) _).alloc (by simp) _).alloc (by simp; omega) _
  have HA : Hid (arrB (0 : Nat).testBit = arrB fun _ => false) := Lib.hid (arrB_ext fun i _ => by simp)
  have hcase : (d < 0) ∨ (0 ≤ d ∧ cs.length ≤ d) := by omega
  clear hd
  rcases hcase with h1 | ⟨h1, h2⟩
  all_goals
    go_enter Try.func31, Try.ntmps31
    go_wp2_with (first | (refine wpList_box29 rfl _ rfl _ _ _ rfl ?_) | (refine wpList_alloc30 rfl rfl ?_; try simp only [World.size_alloc]) | (refine wpList_build30 rfl rfl ?_) | (refine wpList_store30 rfl _ _ rfl (w.heap.size + 1 + 1) (fun _ => false) (fun _ => false) rfl rfl hz2 ?_; intro w1 i1 t1; have hc1 := (hT.turn t1 (by omega)).many) | (refine wpList_load30 rfl _ rfl (w.heap.size + 1 + 1) (fun _ => false) rfl i1 ?_) | (refine wpList_store30 rfl _ _ rfl (w.heap.size + 1) (fun _ => false) (fun _ => false) rfl rfl (hz1.turn t1 (by omega)) ?_; intro w2 i2 t2))
    refine bodyPost_ret (results27 rfl _ w2 (w.heap.size + 1) (fun _ => false) (.int .i64 5) rfl rfl i2) rfl ?_
    exact ⟨by rw [HA.out], (hB.trans (t1.below (B := w.heap.size) (by omega))).trans (t2.below (by omega))⟩
end Go.Proofs.Ytbeklkgoiigccaa
