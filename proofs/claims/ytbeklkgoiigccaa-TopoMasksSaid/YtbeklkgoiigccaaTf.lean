/-
  Contracts of the document's answers Check and Effective of a topology. Conditions: the topology is one; the set is a number of 64 bits.
-/
import Derived.Test.YtbeklkgoiigccaaTe
namespace Go.Proofs.Ytbeklkgoiigccaa
open Go.RowKit

section
variable {ops : Array Oper} {rest : List Oper} {o : Oper} {a : Act} {w : World} {Q : Exit → Act → World → Prop}
theorem wpList_eql27 (hg : o.guard = none) (x y : Operand) (ty : TypeId) (ho : o.op = .binOp .eql 27 x y ty) (f g : Nat → Bool) (hx : a.eval x = .agg (arrB f)) (hy : a.eval y = .agg (arrB g)) (b : Bool) (hb : eqB f g = b) (h : wpList Try.prog ops Q rest (a.put o.dst (.bool b)) w) : wpList Try.prog ops Q (o :: rest) a w :=
  wpList_plain hg fun K hK => by
    unfold Oper.wp
    rw [exec_eql30 x y ty f g ho hx hy w, hb]
    exact hK _ _ h
end
/-- is there such a domain? -/
def domB (cs : List Nat) (d : Int) : Prop := 0 ≤ d ∧ d < cs.length
instance (cs : List Nat) (d : Int) : Decidable (domB cs d) := by unfold domB; exact inferInstance
/-- what Check answers. -/
def chkC (cs : List Nat) (d : Int) (S : Nat) : Int := if domB cs d then (if meetsB (cs.getD d.toNat 0) S then 0 else 8) else 5
/-- the effective mask. -/
def effN (cs : List Nat) (on : Nat) (d : Nat) (S : Nat) : Nat := if meetsB (cs.getD d 0 &&& on) S then (cs.getD d 0 &&& on) &&& S else cs.getD d 0 &&& on
theorem eq_none {A B : Nat} (hA : A < 18446744073709551616) : eqB (A &&& B).testBit (fun _ => false) = !meetsB A B := by
  rw [← eq_meets A B hA, Bool.not_not]

set_option maxRecDepth 100000 in
set_option maxHeartbeats 4000000 in
theorem rCheck_no (cs : List Nat) (on : Nat) (d : Int) (S : Nat) (w : World)  (hd : ¬ domB cs d) :
    Calls Try.prog 20 #[.agg (TV cs on), .int .i64 d, .agg (arrB S.testBit)] w fun e w' => e = .returned (.int .i64 5) ∧ Below w.heap.size w w' := by
  have hT : IT ((w.alloc (.cells (TV cs on) 29)).alloc (.cells (arrB S.testBit) 27)) w.heap.size cs on := (IsT.new w _ _ _).alloc _
  have hA : IsArr ((w.alloc (.cells (TV cs on) 29)).alloc (.cells (arrB S.testBit) 27)) (w.heap.size + 1) S.testBit := by
    have h := IsArr.new (w.alloc (.cells (TV cs on) 29)) S.testBit
    rw [World.size_alloc] at h
    exact h
  have hB : Below w.heap.size w ((w.alloc (.cells (TV cs on) 29)).alloc (.cells (arrB S.testBit) 27)) := ((Below.refl _ w).alloc (Nat.le_refl _) _).alloc (by simp) _
  have hl := hA.lt
  go_enter Try.func20, Try.ntmps20
  go_wp2_with (first | (refine wpList_box29 rfl _ rfl _ _ _ rfl ?_) | (refine wpList_box30 rfl _ rfl _ rfl ?_; try simp only [World.size_alloc]) | (refine wpList_load29 rfl _ rfl w.heap.size _ _ _ rfl hT ?_) | (refine wpList_build30 rfl rfl ?_) | (go_at_call 31; refine (rCores_no cs on d false _ hd).mono ?_; rintro e w1 ⟨rfl, hb1⟩; replace hB := hB.trans (hb1.mono (Nat.le_of_lt hT.lt)); replace hT := hT.below hb1 hT.lt; replace hA := hA.below hb1 hA.lt; clear hb1; have hl1 := hA.lt; have hC := IsArr.new w1 (fun _ => false); replace hT := hT.alloc (.cells (arrB fun _ => false) 27); replace hA := hA.alloc (.cells (arrB fun _ => false) 27); have hs := hA.lt; replace hB := hB.alloc (by omega) (.cells (arrB fun _ => false) 27); clear hs) | (refine wpList_alloc30 rfl rfl ?_) | (refine wpList_store30 rfl _ _ rfl w1.heap.size _ (fun _ => false) rfl rfl hC ?_; intro w2 i2 t2; replace hT := hT.turn t2 (by omega); replace hA := hA.turn t2 (by omega); replace hB := hB.trans (t2.below (by omega))) | fail)
  go_ret
  exact ⟨rfl, hB⟩

set_option maxRecDepth 100000 in
set_option maxHeartbeats 4000000 in
theorem rCheck_out (cs : List Nat) (on : Nat) (d : Nat) (S : Nat) (w : World) (ok : TopoOk cs on) (hd : d < cs.length) (hm : meetsB (cs.getD d 0) S = false) :
    Calls Try.prog 20 #[.agg (TV cs on), .int .i64 d, .agg (arrB S.testBit)] w fun e w' => e = .returned (.int .i64 8) ∧ Below w.heap.size w w' := by
  have HM := Lib.hid hm
  clear hm
  have hT : IT ((w.alloc (.cells (TV cs on) 29)).alloc (.cells (arrB S.testBit) 27)) w.heap.size cs on := (IsT.new w _ _ _).alloc _
  have hA : IsArr ((w.alloc (.cells (TV cs on) 29)).alloc (.cells (arrB S.testBit) 27)) (w.heap.size + 1) S.testBit := by
    have h := IsArr.new (w.alloc (.cells (TV cs on) 29)) S.testBit
    rw [World.size_alloc] at h
    exact h
  have hB : Below w.heap.size w ((w.alloc (.cells (TV cs on) 29)).alloc (.cells (arrB S.testBit) 27)) := ((Below.refl _ w).alloc (Nat.le_refl _) _).alloc (by simp) _
  have hl := hA.lt
  go_enter Try.func20, Try.ntmps20
  go_wp2_with (first | (refine wpList_box29 rfl _ rfl _ _ _ rfl ?_) | (refine wpList_box30 rfl _ rfl _ rfl ?_; try simp only [World.size_alloc]) | (refine wpList_load29 rfl _ rfl w.heap.size _ _ _ rfl hT ?_) | (refine wpList_build30 rfl rfl ?_) | (go_at_call 31; refine (rCores_yes cs on d false _ ok hd).mono ?_; rintro e w1 ⟨rfl, hb1⟩; replace hB := hB.trans (hb1.mono (Nat.le_of_lt hT.lt)); replace hT := hT.below hb1 hT.lt; replace hA := hA.below hb1 hA.lt; clear hb1; have hl1 := hA.lt; have hC := IsArr.new w1 (fun _ => false); replace hT := hT.alloc (.cells (arrB fun _ => false) 27); replace hA := hA.alloc (.cells (arrB fun _ => false) 27); have hs := hA.lt; replace hB := hB.alloc (by omega) (.cells (arrB fun _ => false) 27); clear hs) | (refine wpList_alloc30 rfl rfl ?_) | (refine wpList_store30 rfl _ _ rfl w1.heap.size _ (fun _ => false) rfl rfl hC ?_; intro w2 i2 t2; replace hT := hT.turn t2 (by omega); replace hA := hA.turn t2 (by omega); replace hB := hB.trans (t2.below (by omega))) | (refine wpList_load30 rfl _ rfl w1.heap.size _ rfl i2 ?_) | (refine wpList_load30 rfl _ rfl (w.heap.size + 1) _ rfl hA ?_) | (go_at_call 37; refine (Both_any _ S _).mono ?_; rintro e w3 ⟨rfl, hb3⟩; replace hB := hB.trans (hb3.mono (Nat.le_of_lt hT.lt)); replace hT := hT.below hb3 hT.lt; replace hA := hA.below hb3 hA.lt; clear hb3) | (refine wpList_eql27 rfl _ _ _ rfl _ _ rfl rfl true (by show eqB (cs.getD d 0 &&& S).testBit (fun _ => false) = _; rw [eq_none (ok.small d), HM.out]; rfl) ?_))
  go_ret
  exact ⟨rfl, hB⟩

set_option maxRecDepth 100000 in
set_option maxHeartbeats 4000000 in
theorem rCheck_in (cs : List Nat) (on : Nat) (d : Nat) (S : Nat) (w : World) (ok : TopoOk cs on) (hd : d < cs.length) (hm : meetsB (cs.getD d 0) S = true) :
    Calls Try.prog 20 #[.agg (TV cs on), .int .i64 d, .agg (arrB S.testBit)] w fun e w' => e = .returned (.int .i64 0) ∧ Below w.heap.size w w' := by
  have HM := Lib.hid hm
  clear hm
  have hT : IT ((w.alloc (.cells (TV cs on) 29)).alloc (.cells (arrB S.testBit) 27)) w.heap.size cs on := (IsT.new w _ _ _).alloc _
  have hA : IsArr ((w.alloc (.cells (TV cs on) 29)).alloc (.cells (arrB S.testBit) 27)) (w.heap.size + 1) S.testBit := by
    have h := IsArr.new (w.alloc (.cells (TV cs on) 29)) S.testBit
    rw [World.size_alloc] at h
    exact h
  have hB : Below w.heap.size w ((w.alloc (.cells (TV cs on) 29)).alloc (.cells (arrB S.testBit) 27)) := ((Below.refl _ w).alloc (Nat.le_refl _) _).alloc (by simp) _
  have hl := hA.lt
  go_enter Try.func20, Try.ntmps20
  go_wp2_with (first | (refine wpList_box29 rfl _ rfl _ _ _ rfl ?_) | (refine wpList_box30 rfl _ rfl _ rfl ?_; try simp only [World.size_alloc]) | (refine wpList_load29 rfl _ rfl w.heap.size _ _ _ rfl hT ?_) | (refine wpList_build30 rfl rfl ?_) | (go_at_call 31; refine (rCores_yes cs on d false _ ok hd).mono ?_; rintro e w1 ⟨rfl, hb1⟩; replace hB := hB.trans (hb1.mono (Nat.le_of_lt hT.lt)); replace hT := hT.below hb1 hT.lt; replace hA := hA.below hb1 hA.lt; clear hb1; have hl1 := hA.lt; have hC := IsArr.new w1 (fun _ => false); replace hT := hT.alloc (.cells (arrB fun _ => false) 27); replace hA := hA.alloc (.cells (arrB fun _ => false) 27); have hs := hA.lt; replace hB := hB.alloc (by omega) (.cells (arrB fun _ => false) 27); clear hs) | (refine wpList_alloc30 rfl rfl ?_) | (refine wpList_store30 rfl _ _ rfl w1.heap.size _ (fun _ => false) rfl rfl hC ?_; intro w2 i2 t2; replace hT := hT.turn t2 (by omega); replace hA := hA.turn t2 (by omega); replace hB := hB.trans (t2.below (by omega))) | (refine wpList_load30 rfl _ rfl w1.heap.size _ rfl i2 ?_) | (refine wpList_load30 rfl _ rfl (w.heap.size + 1) _ rfl hA ?_) | (go_at_call 37; refine (Both_any _ S _).mono ?_; rintro e w3 ⟨rfl, hb3⟩; replace hB := hB.trans (hb3.mono (Nat.le_of_lt hT.lt)); replace hT := hT.below hb3 hT.lt; replace hA := hA.below hb3 hA.lt; clear hb3) | (refine wpList_eql27 rfl _ _ _ rfl _ _ rfl rfl false (by show eqB (cs.getD d 0 &&& S).testBit (fun _ => false) = _; rw [eq_none (ok.small d), HM.out]; rfl) ?_))
  go_ret
  exact ⟨rfl, hB⟩

theorem rCheck_any (cs : List Nat) (on : Nat) (d : Int) (S : Nat) (w : World) (ok : TopoOk cs on) :
    Calls Try.prog 20 #[.agg (TV cs on), .int .i64 d, .agg (arrB S.testBit)] w fun e w' => e = .returned (.int .i64 (chkC cs d S)) ∧ Below w.heap.size w w' := by
  by_cases hd : domB cs d
  · obtain ⟨k, rfl⟩ : ∃ k : Nat, d = k := ⟨d.toNat, by have := hd.1; omega⟩
    have hk : k < cs.length := by have := hd.2; omega
    cases hm : meetsB (cs.getD k 0) S
    · rw [show chkC cs (k : Int) S = 8 by unfold chkC; rw [if_pos hd, Int.toNat_natCast, hm]; rfl]
      exact rCheck_out cs on k S w ok hk hm
    · rw [show chkC cs (k : Int) S = 0 by unfold chkC; rw [if_pos hd, Int.toNat_natCast, hm]; rfl]
      exact rCheck_in cs on k S w ok hk hm
  · rw [show chkC cs d S = 5 by unfold chkC; rw [if_neg hd]]
    exact rCheck_no cs on d S w hd
end Go.Proofs.Ytbeklkgoiigccaa
