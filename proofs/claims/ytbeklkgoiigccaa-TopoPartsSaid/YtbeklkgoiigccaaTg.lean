/-
  Contract of the document's answer Effective of a topology. Conditions: the topology is one; the set is a number of 64 bits.
-/
import Derived.Test.YtbeklkgoiigccaaTf
namespace Go.Proofs.Ytbeklkgoiigccaa
open Go.RowKit

set_option maxRecDepth 100000 in
set_option maxHeartbeats 4000000 in
theorem rEff_err (cs : List Nat) (on : Nat) (d : Int) (S : Nat) (w : World) (ok : TopoOk cs on) (c : Int) (hc : chkC cs d S = c) (h0 : (c == 0) = false) :
    Calls Try.prog 18 #[.agg (TV cs on), .int .i64 d, .agg (arrB S.testBit)] w fun e w' => e = .returned (.tuple #[.agg (arrB (0 : Nat).testBit), .int .i64 c]) ∧ Below w.heap.size w w' := by
  have HC := Lib.hid hc
  have HA : Hid (arrB (0 : Nat).testBit = arrB fun _ => false) := Lib.hid (arrB_ext fun i _ => by simp)
  clear hc
  have hT : IT (((w.alloc (.cells (TV cs on) 29)).alloc (.cells (arrB S.testBit) 27)).alloc (.cells (arrB fun _ => false) 27)) w.heap.size cs on := ((IsT.new w _ _ _).alloc _).alloc _
  have hA : IsArr (((w.alloc (.cells (TV cs on) 29)).alloc (.cells (arrB S.testBit) 27)).alloc (.cells (arrB fun _ => false) 27)) (w.heap.size + 1) S.testBit := by
    have h := IsArr.new (w.alloc (.cells (TV cs on) 29)) S.testBit
    rw [World.size_alloc] at h
    exact h.alloc _
  have hR : IsArr (((w.alloc (.cells (TV cs on) 29)).alloc (.cells (arrB S.testBit) 27)).alloc (.cells (arrB fun _ => false) 27)) (w.heap.size + 1 + 1) (fun _ => false) := by
    have h := IsArr.new ((w.alloc (.cells (TV cs on) 29)).alloc (.cells (arrB S.testBit) 27)) (fun _ => false)
    rw [World.size_alloc, World.size_alloc] at h
    exact h
  have hB : Below w.heap.size w (((w.alloc (.cells (TV cs on) 29)).alloc (.cells (arrB S.testBit) 27)).alloc (.cells (arrB fun _ => false) 27)) := (((Below.refl _ w).alloc (Nat.le_refl _) _).alloc (by simp) _).alloc (by simp; omega) _
  go_enter Try.func18, Try.ntmps18
  go_wp2_with (first | (refine wpList_box29 rfl _ rfl _ _ _ rfl ?_) | (refine wpList_box30 rfl _ rfl _ rfl ?_; try simp only [World.size_alloc]) | (refine wpList_load29 rfl _ rfl w.heap.size _ _ _ rfl hT ?_) | (refine wpList_build30 rfl rfl ?_) | (refine wpList_alloc30 rfl rfl ?_; try simp only [World.size_alloc]) | (go_at_call 20; refine (rCheck_any cs on _ S _ ok).mono ?_; rintro e w1 ⟨rfl, hb1⟩; rw [HC.out]; replace hB := hB.trans (hb1.mono (Nat.le_of_lt hT.lt)); replace hT := hT.below hb1 hT.lt; replace hA := hA.below hb1 hA.lt; replace hR := hR.below hb1 hR.lt; clear hb1) | (refine wpList_load30 rfl _ rfl (w.heap.size + 1) _ rfl hA ?_) | (refine wpList_store30 rfl _ _ rfl (w.heap.size + 1 + 1) _ (fun _ => false) rfl rfl hR ?_; intro w9 i9 t9))
  refine bodyPost_ret (results27 rfl _ w9 (w.heap.size + 1 + 1) _ (.int .i64 c) rfl rfl i9) rfl ?_
  exact ⟨by rw [HA.out], hB.trans (t9.below (by omega))⟩

set_option maxRecDepth 100000 in
set_option maxHeartbeats 4000000 in
theorem rEff_on (cs : List Nat) (on : Nat) (d : Nat) (S : Nat) (w : World) (ok : TopoOk cs on) (hd : d < cs.length) (hc : chkC cs d S = 0) (hm : meetsB (cs.getD d 0 &&& on) S = false) :
    Calls Try.prog 18 #[.agg (TV cs on), .int .i64 d, .agg (arrB S.testBit)] w fun e w' => e = .returned (.tuple #[.agg (arrB (cs.getD d 0 &&& on : Nat).testBit), .int .i64 0]) ∧ Below w.heap.size w w' := by
  have HC := Lib.hid hc
  have HM := Lib.hid hm
  clear hc hm
  have hT : IT (((w.alloc (.cells (TV cs on) 29)).alloc (.cells (arrB S.testBit) 27)).alloc (.cells (arrB fun _ => false) 27)) w.heap.size cs on := ((IsT.new w _ _ _).alloc _).alloc _
  have hA : IsArr (((w.alloc (.cells (TV cs on) 29)).alloc (.cells (arrB S.testBit) 27)).alloc (.cells (arrB fun _ => false) 27)) (w.heap.size + 1) S.testBit := by
    have h := IsArr.new (w.alloc (.cells (TV cs on) 29)) S.testBit
    rw [World.size_alloc] at h
    exact h.alloc _
  have hR : IsArr (((w.alloc (.cells (TV cs on) 29)).alloc (.cells (arrB S.testBit) 27)).alloc (.cells (arrB fun _ => false) 27)) (w.heap.size + 1 + 1) (fun _ => false) := by
    have h := IsArr.new ((w.alloc (.cells (TV cs on) 29)).alloc (.cells (arrB S.testBit) 27)) (fun _ => false)
    rw [World.size_alloc, World.size_alloc] at h
    exact h
  have hB : Below w.heap.size w (((w.alloc (.cells (TV cs on) 29)).alloc (.cells (arrB S.testBit) 27)).alloc (.cells (arrB fun _ => false) 27)) := (((Below.refl _ w).alloc (Nat.le_refl _) _).alloc (by simp) _).alloc (by simp; omega) _
  go_enter Try.func18, Try.ntmps18
  go_wp2_with (first | (refine wpList_box29 rfl _ rfl _ _ _ rfl ?_) | (refine wpList_box30 rfl _ rfl _ rfl ?_; try simp only [World.size_alloc]) | (refine wpList_load29 rfl _ rfl w.heap.size _ _ _ rfl hT ?_) | (refine wpList_build30 rfl rfl ?_) | (refine wpList_alloc30 rfl rfl ?_; try simp only [World.size_alloc]) | (go_at_call 20; refine (rCheck_any cs on _ S _ ok).mono ?_; rintro e w1 ⟨rfl, hb1⟩; rw [HC.out]; replace hB := hB.trans (hb1.mono (Nat.le_of_lt hT.lt)); replace hT := hT.below hb1 hT.lt; replace hA := hA.below hb1 hA.lt; replace hR := hR.below hb1 hR.lt; clear hb1) | (go_at_call 31; refine (rCores_yes cs on d true _ ok hd).mono ?_; rintro e w2 ⟨rfl, hb2⟩; replace hB := hB.trans (hb2.mono (Nat.le_of_lt hT.lt)); replace hT := hT.below hb2 hT.lt; replace hA := hA.below hb2 hA.lt; replace hR := hR.below hb2 hR.lt; clear hb2; have hl2 := hR.lt; have hC := IsArr.new w2 (fun _ => false); replace hT := hT.alloc (.cells (arrB fun _ => false) 27); replace hA := hA.alloc (.cells (arrB fun _ => false) 27); replace hR := hR.alloc (.cells (arrB fun _ => false) 27); replace hB := hB.alloc (by omega) (.cells (arrB fun _ => false) 27)) | (refine wpList_store30 rfl _ _ rfl w2.heap.size _ (fun _ => false) rfl rfl hC ?_; clear hC; intro w3 hC t3; replace hT := hT.turn t3 (by omega); replace hA := hA.turn t3 (by omega); replace hR := hR.turn t3 (by omega); replace hB := hB.trans (t3.below (by omega))) | (go_at_call 37; refine (Both_any _ S _).mono ?_; rintro e w4 ⟨rfl, hb4⟩; have hl3 := hC.lt; replace hB := hB.trans (hb4.mono (Nat.le_of_lt hT.lt)); replace hT := hT.below hb4 hT.lt; replace hA := hA.below hb4 hA.lt; replace hR := hR.below hb4 hR.lt; replace hC := hC.below hb4 hC.lt; clear hb4; have hl4 := hC.lt; have hD := IsArr.new w4 (fun _ => false); replace hT := hT.alloc (.cells (arrB fun _ => false) 27); replace hA := hA.alloc (.cells (arrB fun _ => false) 27); replace hR := hR.alloc (.cells (arrB fun _ => false) 27); replace hC := hC.alloc (.cells (arrB fun _ => false) 27); replace hB := hB.alloc (by omega) (.cells (arrB fun _ => false) 27)) | (refine wpList_store30 rfl _ _ rfl w4.heap.size _ (fun _ => false) rfl rfl hD ?_; clear hD; intro w5 hD t5; replace hT := hT.turn t5 (by omega); replace hA := hA.turn t5 (by omega); replace hR := hR.turn t5 (by omega); replace hC := hC.turn t5 (by omega); replace hB := hB.trans (t5.below (by omega))) | (refine wpList_eql27 rfl _ _ _ rfl _ _ rfl rfl true (by show eqB ((cs.getD d 0 &&& on) &&& S).testBit (fun _ => false) = _; rw [eq_none (and_lt (ok.small d)), HM.out]; rfl) ?_) | (refine wpList_store30 rfl _ _ rfl (w.heap.size + 1 + 1) _ (fun _ => false) rfl rfl hR ?_; intro w9 i9 t9) | (refine wpList_load30 rfl _ rfl (w.heap.size + 1) _ rfl hA ?_) | (refine wpList_load30 rfl _ rfl w2.heap.size _ rfl hC ?_) | (refine wpList_load30 rfl _ rfl w4.heap.size _ rfl hD ?_))
  refine bodyPost_ret (results27 rfl _ w9 (w.heap.size + 1 + 1) _ (.int .i64 0) rfl rfl i9) rfl ?_
  exact ⟨rfl, hB.trans (t9.below (by omega))⟩

set_option maxRecDepth 100000 in
set_option maxHeartbeats 4000000 in
theorem rEff_both (cs : List Nat) (on : Nat) (d : Nat) (S : Nat) (w : World) (ok : TopoOk cs on) (hd : d < cs.length) (hc : chkC cs d S = 0) (hm : meetsB (cs.getD d 0 &&& on) S = true) :
    Calls Try.prog 18 #[.agg (TV cs on), .int .i64 d, .agg (arrB S.testBit)] w fun e w' => e = .returned (.tuple #[.agg (arrB ((cs.getD d 0 &&& on) &&& S : Nat).testBit), .int .i64 0]) ∧ Below w.heap.size w w' := by
  have HC := Lib.hid hc
  have HM := Lib.hid hm
  clear hc hm
  have hT : IT (((w.alloc (.cells (TV cs on) 29)).alloc (.cells (arrB S.testBit) 27)).alloc (.cells (arrB fun _ => false) 27)) w.heap.size cs on := ((IsT.new w _ _ _).alloc _).alloc _
  have hA : IsArr (((w.alloc (.cells (TV cs on) 29)).alloc (.cells (arrB S.testBit) 27)).alloc (.cells (arrB fun _ => false) 27)) (w.heap.size + 1) S.testBit := by
    have h := IsArr.new (w.alloc (.cells (TV cs on) 29)) S.testBit
    rw [World.size_alloc] at h
    exact h.alloc _
  have hR : IsArr (((w.alloc (.cells (TV cs on) 29)).alloc (.cells (arrB S.testBit) 27)).alloc (.cells (arrB fun _ => false) 27)) (w.heap.size + 1 + 1) (fun _ => false) := by
    have h := IsArr.new ((w.alloc (.cells (TV cs on) 29)).alloc (.cells (arrB S.testBit) 27)) (fun _ => false)
    rw [World.size_alloc, World.size_alloc] at h
    exact h
  have hB : Below w.heap.size w (((w.alloc (.cells (TV cs on) 29)).alloc (.cells (arrB S.testBit) 27)).alloc (.cells (arrB fun _ => false) 27)) := (((Below.refl _ w).alloc (Nat.le_refl _) _).alloc (by simp) _).alloc (by simp; omega) _
  go_enter Try.func18, Try.ntmps18
  go_wp2_with (first | (refine wpList_box29 rfl _ rfl _ _ _ rfl ?_) | (refine wpList_box30 rfl _ rfl _ rfl ?_; try simp only [World.size_alloc]) | (refine wpList_load29 rfl _ rfl w.heap.size _ _ _ rfl hT ?_) | (refine wpList_build30 rfl rfl ?_) | (refine wpList_alloc30 rfl rfl ?_; try simp only [World.size_alloc]) | (go_at_call 20; refine (rCheck_any cs on _ S _ ok).mono ?_; rintro e w1 ⟨rfl, hb1⟩; rw [HC.out]; replace hB := hB.trans (hb1.mono (Nat.le_of_lt hT.lt)); replace hT := hT.below hb1 hT.lt; replace hA := hA.below hb1 hA.lt; replace hR := hR.below hb1 hR.lt; clear hb1) | (go_at_call 31; refine (rCores_yes cs on d true _ ok hd).mono ?_; rintro e w2 ⟨rfl, hb2⟩; replace hB := hB.trans (hb2.mono (Nat.le_of_lt hT.lt)); replace hT := hT.below hb2 hT.lt; replace hA := hA.below hb2 hA.lt; replace hR := hR.below hb2 hR.lt; clear hb2; have hl2 := hR.lt; have hC := IsArr.new w2 (fun _ => false); replace hT := hT.alloc (.cells (arrB fun _ => false) 27); replace hA := hA.alloc (.cells (arrB fun _ => false) 27); replace hR := hR.alloc (.cells (arrB fun _ => false) 27); replace hB := hB.alloc (by omega) (.cells (arrB fun _ => false) 27)) | (refine wpList_store30 rfl _ _ rfl w2.heap.size _ (fun _ => false) rfl rfl hC ?_; clear hC; intro w3 hC t3; replace hT := hT.turn t3 (by omega); replace hA := hA.turn t3 (by omega); replace hR := hR.turn t3 (by omega); replace hB := hB.trans (t3.below (by omega))) | (go_at_call 37; refine (Both_any _ S _).mono ?_; rintro e w4 ⟨rfl, hb4⟩; have hl3 := hC.lt; replace hB := hB.trans (hb4.mono (Nat.le_of_lt hT.lt)); replace hT := hT.below hb4 hT.lt; replace hA := hA.below hb4 hA.lt; replace hR := hR.below hb4 hR.lt; replace hC := hC.below hb4 hC.lt; clear hb4; have hl4 := hC.lt; have hD := IsArr.new w4 (fun _ => false); replace hT := hT.alloc (.cells (arrB fun _ => false) 27); replace hA := hA.alloc (.cells (arrB fun _ => false) 27); replace hR := hR.alloc (.cells (arrB fun _ => false) 27); replace hC := hC.alloc (.cells (arrB fun _ => false) 27); replace hB := hB.alloc (by omega) (.cells (arrB fun _ => false) 27)) | (refine wpList_store30 rfl _ _ rfl w4.heap.size _ (fun _ => false) rfl rfl hD ?_; clear hD; intro w5 hD t5; replace hT := hT.turn t5 (by omega); replace hA := hA.turn t5 (by omega); replace hR := hR.turn t5 (by omega); replace hC := hC.turn t5 (by omega); replace hB := hB.trans (t5.below (by omega))) | (refine wpList_eql27 rfl _ _ _ rfl _ _ rfl rfl false (by show eqB ((cs.getD d 0 &&& on) &&& S).testBit (fun _ => false) = _; rw [eq_none (and_lt (ok.small d)), HM.out]; rfl) ?_) | (refine wpList_store30 rfl _ _ rfl (w.heap.size + 1 + 1) _ (fun _ => false) rfl rfl hR ?_; intro w9 i9 t9) | (refine wpList_load30 rfl _ rfl (w.heap.size + 1) _ rfl hA ?_) | (refine wpList_load30 rfl _ rfl w2.heap.size _ rfl hC ?_) | (refine wpList_load30 rfl _ rfl w4.heap.size _ rfl hD ?_))
  refine bodyPost_ret (results27 rfl _ w9 (w.heap.size + 1 + 1) _ (.int .i64 0) rfl rfl i9) rfl ?_
  exact ⟨rfl, hB.trans (t9.below (by omega))⟩

theorem rEff_any (cs : List Nat) (on : Nat) (d : Nat) (S : Nat) (w : World) (ok : TopoOk cs on) (hd : d < cs.length) (hc : chkC cs d S = 0) :
    Calls Try.prog 18 #[.agg (TV cs on), .int .i64 (d : Int), .agg (arrB S.testBit)] w fun e w' => e = .returned (.tuple #[.agg (arrB (effN cs on d S).testBit), .int .i64 0]) ∧ Below w.heap.size w w' := by
  cases hm : meetsB (cs.getD d 0 &&& on) S
  · rw [show effN cs on d S = cs.getD d 0 &&& on by unfold effN; rw [hm]; rfl]
    exact rEff_on cs on d S w ok hd hc hm
  · rw [show effN cs on d S = (cs.getD d 0 &&& on) &&& S by unfold effN; rw [hm]; rfl]
    exact rEff_both cs on d S w ok hd hc hm
end Go.Proofs.Ytbeklkgoiigccaa
