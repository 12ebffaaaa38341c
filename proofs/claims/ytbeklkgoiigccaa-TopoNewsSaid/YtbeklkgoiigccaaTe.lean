/-
  Contracts of the document's answers Up and Down of a topology, whole. Condition: the topology is one.
-/
import Derived.Test.YtbeklkgoiigccaaTd
namespace Go.Proofs.Ytbeklkgoiigccaa
open Go.RowKit

set_option maxRecDepth 100000 in
set_option maxHeartbeats 4000000 in
theorem rDown_last (cs : List Nat) (on : Nat) (c : Int) (w : World) (ok : TopoOk cs on) (hd : domN cs c < cs.length) (hh : hasB on c = true) (hp : popN 64 (cs.getD (domN cs c) 0 &&& on) = 1) :
    Calls Try.prog 35 #[.agg (TV cs on), .int .i64 c] w fun e w' => e = .returned (.tuple #[.agg (TV cs on), .int .i64 9]) ∧ Below w.heap.size w w' := by
  have HC := Lib.hid (has_core (dom_has hd))
  obtain ⟨k, hk, rfl⟩ := core_nat HC.out
  rw [hasB_nat hk] at hh
  have HP := Lib.hid (show (coresOf (pickN cs on (domN cs (k : Int)) true)).length = popN 64 (cs.getD (domN cs (k : Int)) 0 &&& on) by rw [← pop_cores]; rfl)
  have hpl := popN_le 64 (cs.getD (domN cs (k : Int)) 0 &&& on)
  generalize popN 64 (cs.getD (domN cs (k : Int)) 0 &&& on) = q at *
  subst hp
  have hT : IT ((w.alloc (.cells (TV cs on) 29)).alloc (.cells tzero 29)) w.heap.size cs on := (IsT.new w _ _ _).alloc _
  have hZ : IsT ((w.alloc (.cells (TV cs on) 29)).alloc (.cells tzero 29)) (w.heap.size + 1) 0 (fun _ => 0) (fun _ => false) := by
    have h := IsT.new (w.alloc (.cells (TV cs on) 29)) 0 (fun _ => 0) (fun _ => false)
    rw [World.size_alloc] at h
    exact h
  have hB : Below w.heap.size w ((w.alloc (.cells (TV cs on) 29)).alloc (.cells tzero 29)) := ((Below.refl _ w).alloc (Nat.le_refl _) _).alloc (by simp) _
  have hS : ((w.alloc (.cells (TV cs on) 29)).alloc (.cells tzero 29)).heap.size = w.heap.size + 1 + 1 := by rw [World.size_alloc, World.size_alloc]
  go_enter Try.func35, Try.ntmps35
  go_wp2_with (first | (refine wpList_box29 rfl _ rfl _ _ _ rfl ?_) | (refine wpList_alloc29 rfl rfl ?_; try simp only [World.size_alloc]) | (refine wpList_load29 rfl _ rfl w.heap.size _ _ _ rfl hT ?_) | (go_at_call 32; refine (rDomain_yes cs on (k : Int) _ hd).mono ?_; rintro e w1 ⟨rfl, hb1⟩; replace hT : IT w1 w.heap.size cs on := hT.below hb1 (by rw [hS]; omega); replace hZ : IsT w1 (w.heap.size + 1) 0 (fun _ => 0) (fun _ => false) := hZ.below hb1 (by rw [hS]; omega); replace hB : Below w.heap.size w w1 := hB.trans (hb1.mono (by rw [hS]; omega)); clear hb1 hS; have hc := hT.on hk; rw [hh] at hc) | (go_at_call 31; refine (rCores_yes cs on _ true _ ok hd).mono ?_; rintro e w2 ⟨rfl, hb2⟩; have hz1 := hZ.lt; replace hT : IT w2 w.heap.size cs on := hT.below hb2 (by omega); replace hZ : IsT w2 (w.heap.size + 1) 0 (fun _ => 0) (fun _ => false) := hZ.below hb2 (by omega); replace hB : Below w.heap.size w w2 := hB.trans (hb2.mono (by omega)); have hz2 := hZ.lt; have hA := IsArr.new w2 (fun _ => false); replace hT := hT.alloc (.cells (arrB fun _ => false) 27); replace hZ := hZ.alloc (.cells (arrB fun _ => false) 27); replace hB := hB.alloc (by omega) (.cells (arrB fun _ => false) 27)) | (refine wpList_alloc30 rfl rfl ?_) | (refine wpList_store30 rfl _ _ rfl w2.heap.size _ (fun _ => false) rfl rfl hA ?_; intro w3 i3 t3; replace hT := hT.turn t3 (by omega); replace hZ := hZ.turn t3 (by omega); replace hB := hB.trans (t3.below (by omega))) | (refine wpList_load30 rfl _ rfl w2.heap.size _ rfl i3 ?_) | (go_at_call 47; refine (RefCores_any _ _).mono ?_; rintro e w4 ⟨v4, rfl, ho4, hb4⟩; have hz3 := hZ.lt; replace hT : IT w4 w.heap.size cs on := hT.below hb4 (by omega); replace hZ : IsT w4 (w.heap.size + 1) 0 (fun _ => 0) (fun _ => false) := hZ.below hb4 (by omega); replace hB : Below w.heap.size w w4 := hB.trans (hb4.mono (by omega)); obtain ⟨a4, c4, rfl⟩ := len_slice ho4; rw [HP.out]) | (refine wpList_store29 rfl _ _ rfl (w.heap.size + 1) _ _ _ _ _ _ rfl rfl hZ ?_; intro w9 i9 t9))
  refine bodyPost_ret (results29 rfl _ w9 (w.heap.size + 1) _ _ _ (.int .i64 9) rfl rfl i9) rfl ?_
  exact ⟨rfl, hB.trans (t9.below (by omega))⟩

set_option maxRecDepth 100000 in
set_option maxHeartbeats 4000000 in
theorem rDown_go (cs : List Nat) (on : Nat) (c : Int) (w : World) (ok : TopoOk cs on) (hd : domN cs c < cs.length) (hh : hasB on c = true) (hp : popN 64 (cs.getD (domN cs c) 0 &&& on) ≠ 1) :
    Calls Try.prog 35 #[.agg (TV cs on), .int .i64 c] w fun e w' => e = .returned (.tuple #[.agg (TV cs (withoutN on c)), .int .i64 0]) ∧ Below w.heap.size w w' := by
  have HC := Lib.hid (has_core (dom_has hd))
  obtain ⟨k, hk, rfl⟩ := core_nat HC.out
  rw [hasB_nat hk] at hh
  have HP := Lib.hid (show (coresOf (pickN cs on (domN cs (k : Int)) true)).length = popN 64 (cs.getD (domN cs (k : Int)) 0 &&& on) by rw [← pop_cores]; rfl)
  have hpl := popN_le 64 (cs.getD (domN cs (k : Int)) 0 &&& on)
  generalize popN 64 (cs.getD (domN cs (k : Int)) 0 &&& on) = q at *
  have hp2 : ((q : Int) == 1) = false := by rw [beq_eq_false_iff_ne]; omega
  have hT : IT ((w.alloc (.cells (TV cs on) 29)).alloc (.cells tzero 29)) w.heap.size cs on := (IsT.new w _ _ _).alloc _
  have hZ : IsT ((w.alloc (.cells (TV cs on) 29)).alloc (.cells tzero 29)) (w.heap.size + 1) 0 (fun _ => 0) (fun _ => false) := by
    have h := IsT.new (w.alloc (.cells (TV cs on) 29)) 0 (fun _ => 0) (fun _ => false)
    rw [World.size_alloc] at h
    exact h
  have hB : Below w.heap.size w ((w.alloc (.cells (TV cs on) 29)).alloc (.cells tzero 29)) := ((Below.refl _ w).alloc (Nat.le_refl _) _).alloc (by simp) _
  have hS : ((w.alloc (.cells (TV cs on) 29)).alloc (.cells tzero 29)).heap.size = w.heap.size + 1 + 1 := by rw [World.size_alloc, World.size_alloc]
  go_enter Try.func35, Try.ntmps35
  go_wp2_with (first | (refine wpList_box29 rfl _ rfl _ _ _ rfl ?_) | (refine wpList_alloc29 rfl rfl ?_; try simp only [World.size_alloc]) | (refine wpList_load29 rfl _ rfl w.heap.size _ _ _ rfl hT ?_) | (go_at_call 32; refine (rDomain_yes cs on (k : Int) _ hd).mono ?_; rintro e w1 ⟨rfl, hb1⟩; replace hT : IT w1 w.heap.size cs on := hT.below hb1 (by rw [hS]; omega); replace hZ : IsT w1 (w.heap.size + 1) 0 (fun _ => 0) (fun _ => false) := hZ.below hb1 (by rw [hS]; omega); replace hB : Below w.heap.size w w1 := hB.trans (hb1.mono (by rw [hS]; omega)); clear hb1 hS; have hc := hT.on hk; rw [hh] at hc) | (go_at_call 31; refine (rCores_yes cs on _ true _ ok hd).mono ?_; rintro e w2 ⟨rfl, hb2⟩; have hz1 := hZ.lt; replace hT : IT w2 w.heap.size cs on := hT.below hb2 (by omega); replace hZ : IsT w2 (w.heap.size + 1) 0 (fun _ => 0) (fun _ => false) := hZ.below hb2 (by omega); replace hB : Below w.heap.size w w2 := hB.trans (hb2.mono (by omega)); have hz2 := hZ.lt; have hA := IsArr.new w2 (fun _ => false); replace hT := hT.alloc (.cells (arrB fun _ => false) 27); replace hZ := hZ.alloc (.cells (arrB fun _ => false) 27); replace hB := hB.alloc (by omega) (.cells (arrB fun _ => false) 27)) | (refine wpList_alloc30 rfl rfl ?_) | (refine wpList_store30 rfl _ _ rfl w2.heap.size _ (fun _ => false) rfl rfl hA ?_; intro w3 i3 t3; replace hT := hT.turn t3 (by omega); replace hZ := hZ.turn t3 (by omega); replace hB := hB.trans (t3.below (by omega))) | (refine wpList_load30 rfl _ rfl w2.heap.size _ rfl i3 ?_) | (go_at_call 47; refine (RefCores_any _ _).mono ?_; rintro e w4 ⟨v4, rfl, ho4, hb4⟩; have hz3 := hZ.lt; replace hT : IT w4 w.heap.size cs on := hT.below hb4 (by omega); replace hZ : IsT w4 (w.heap.size + 1) 0 (fun _ => 0) (fun _ => false) := hZ.below hb4 (by omega); replace hB : Below w.heap.size w w4 := hB.trans (hb4.mono (by omega)); obtain ⟨a4, c4, rfl⟩ := len_slice ho4; rw [HP.out]; have hf := hT.frozen (65 + k); replace hc := hT.on hk) | (refine wpList_load29 rfl _ rfl w.heap.size _ _ _ rfl (hT.set2 hk false) ?_) | (refine wpList_store29 rfl _ _ rfl (w.heap.size + 1) _ _ _ _ _ _ rfl rfl (hZ.turn (Turn.setCell _ _ _ _) (by omega)) ?_; intro w9 i9 t9))
  refine bodyPost_ret (results29 rfl _ w9 (w.heap.size + 1) _ _ _ (.int .i64 0) rfl rfl i9) rfl ?_
  exact ⟨by rw [tarr_ext (fun _ _ => rfl) (fun i _ => upd_withoutP ok.onlt hk i)], (hB.trans ((Turn.setCell _ _ _ _).below (Nat.le_refl _))).trans (t9.below (by omega))⟩

theorem rUp_any (cs : List Nat) (on : Nat) (c : Int) (w : World) :
    Calls Try.prog 33 #[.agg (TV cs on), .int .i64 c] w fun e w' => e = .returned (.tuple #[.agg (TV cs (upN cs on c)), .int .i64 (upC cs on c)]) ∧ Below w.heap.size w w' := by
  by_cases hd : domN cs c < cs.length
  · cases hh : hasB on c
    · rw [show upN cs on c = withN on c by simp [upN, hd, hh], show upC cs on c = 0 by simp [upC, hd, hh]]; exact rUp_off cs on c w hd hh
    · rw [show upN cs on c = on by simp [upN, hd, hh], show upC cs on c = 10 by simp [upC, hd, hh]]; exact rUp_on cs on c w hd hh
  · rw [show upN cs on c = on by simp [upN, hd], show upC cs on c = 2 by simp [upC, hd]]; exact rUp_no cs on c w hd
theorem rDown_any (cs : List Nat) (on : Nat) (c : Int) (w : World) (ok : TopoOk cs on) :
    Calls Try.prog 35 #[.agg (TV cs on), .int .i64 c] w fun e w' => e = .returned (.tuple #[.agg (TV cs (downN cs on c)), .int .i64 (downC cs on c)]) ∧ Below w.heap.size w w' := by
  by_cases hd : domN cs c < cs.length
  · cases hh : hasB on c
    · rw [show downN cs on c = on by simp [downN, hd, hh], show downC cs on c = 10 by simp [downC, hd, hh]]; exact rDown_off cs on c w hd hh
    · by_cases hp : popN 64 (cs.getD (domN cs c) 0 &&& on) = 1
      · rw [show downN cs on c = on by unfold downN; rw [if_neg (fun h => h.2.2 hp)], show downC cs on c = 9 by unfold downC; rw [if_pos hd, hh, if_pos rfl, if_pos hp]]; exact rDown_last cs on c w ok hd hh hp
      · rw [show downN cs on c = withoutN on c by unfold downN; rw [if_pos ⟨hd, hh, hp⟩], show downC cs on c = 0 by unfold downC; rw [if_pos hd, hh, if_pos rfl, if_neg hp]]; exact rDown_go cs on c w ok hd hh hp
  · rw [show downN cs on c = on by simp [downN, hd], show downC cs on c = 2 by simp [downC, hd]]; exact rDown_no cs on c w hd
theorem TopoOk.up_any {cs : List Nat} {on : Nat} (h : TopoOk cs on) (c : Int) : TopoOk cs (upN cs on c) := by
  unfold upN; split
  · rename_i hh; exact h.up hh.1
  · exact h
theorem TopoOk.down_any {cs : List Nat} {on : Nat} (h : TopoOk cs on) (c : Int) : TopoOk cs (downN cs on c) := by
  unfold downN; split
  · rename_i hh; exact h.down hh.1 (by rw [has_and (dom_has hh.1)]; exact hh.2.1) hh.2.2
  · exact h
end Go.Proofs.Ytbeklkgoiigccaa
