/-
  Contracts of the document's answers Domain, Up, Down of a topology. Condition: the topology is one.
-/
import Derived.Test.YtbeklkgoiigccaaTc
namespace Go.Proofs.Ytbeklkgoiigccaa
open Go.RowKit

set_option maxRecDepth 100000 in
set_option maxHeartbeats 4000000 in
theorem rDomain_yes (cs : List Nat) (on : Nat) (c : Int) (w : World) (hd : domN cs c < cs.length) :
    Calls Try.prog 32 #[.agg (TV cs on), .int .i64 c] w fun e w' => e = .returned (.tuple #[.int .i64 (domN cs c : Nat), .int .i64 0]) ∧ Below w.heap.size w w' := by
  have HC := Lib.hid (has_core (dom_has hd))
  obtain ⟨k, hk, rfl⟩ := core_nat HC.out
  have hT : IT (w.alloc (.cells (TV cs on) 29)) w.heap.size cs on := IsT.new w _ _ _
  have hB : Below w.heap.size w (w.alloc (.cells (TV cs on) 29)) := (Below.refl _ w).alloc (Nat.le_refl _) _
  have hc := hT.of hk
  simp only [ofI_yes hd] at hc
  generalize domN cs (k : Int) = d at *
  go_enter Try.func32, Try.ntmps32
  go_wp2_with (first | (refine wpList_box29 rfl _ rfl _ _ _ rfl ?_) | (go_at_call 45; refine (Core_is (k : Int) true _ HC).mono ?_; rintro e w1 ⟨rfl, rfl⟩))
  go_ret2
  exact ⟨rfl, hB⟩
set_option maxRecDepth 100000 in
set_option maxHeartbeats 4000000 in
theorem rDomain_no (cs : List Nat) (on : Nat) (c : Int) (w : World) (hd : ¬ domN cs c < cs.length) :
    Calls Try.prog 32 #[.agg (TV cs on), .int .i64 c] w fun e w' => e = .returned (.tuple #[.int .i64 0, .int .i64 2]) ∧ Below w.heap.size w w' := by
  have hB : Below w.heap.size w (w.alloc (.cells (TV cs on) 29)) := (Below.refl _ w).alloc (Nat.le_refl _) _
  cases hcc : coreB c
  · have HC := Lib.hid hcc
    clear hcc
    go_enter Try.func32, Try.ntmps32
    go_wp2_with (first | (refine wpList_box29 rfl _ rfl _ _ _ rfl ?_) | (go_at_call 45; refine (Core_is c false _ HC).mono ?_; rintro e w1 ⟨rfl, rfl⟩))
    go_ret2
    exact ⟨rfl, hB⟩
  · have HC := Lib.hid hcc
    clear hcc
    obtain ⟨k, hk, rfl⟩ := core_nat HC.out
    have hT : IT (w.alloc (.cells (TV cs on) 29)) w.heap.size cs on := IsT.new w _ _ _
    have hc := hT.of hk
    simp only [ofI_no hd] at hc
    clear hd
    go_enter Try.func32, Try.ntmps32
    go_wp2_with (first | (refine wpList_box29 rfl _ rfl _ _ _ rfl ?_) | (go_at_call 45; refine (Core_is (k : Int) true _ HC).mono ?_; rintro e w1 ⟨rfl, rfl⟩))
    go_ret2
    exact ⟨rfl, hB⟩

theorem upd_withP {N k : Nat} (hk : k < 64) (i : Nat) : upd N.testBit k true i = (withN N (k : Int)).testBit i := by
  rw [withN_bit hk]
  unfold upd
  by_cases h : i = k
  · subst h; simp
  · have h' : ¬ k = i := fun e => h e.symm
    simp [h, h']
theorem upd_withoutP {N k : Nat} (hN : N < 18446744073709551616) (hk : k < 64) (i : Nat) : upd N.testBit k false i = (withoutN N (k : Int)).testBit i := by
  rw [withoutN_bit hN hk]
  unfold upd
  by_cases h : i = k
  · subst h; simp
  · have h' : ¬ k = i := fun e => h e.symm
    simp [h, h']
/-- what Up answers, and which cores are on then. -/
def upC (cs : List Nat) (on : Nat) (c : Int) : Int := if domN cs c < cs.length then (if hasB on c then 10 else 0) else 2
def upN (cs : List Nat) (on : Nat) (c : Int) : Nat := if domN cs c < cs.length ∧ hasB on c = false then withN on c else on
/-- what Down answers, and which cores are on then. -/
def downC (cs : List Nat) (on : Nat) (c : Int) : Int := if domN cs c < cs.length then (if hasB on c then (if popN 64 (cs.getD (domN cs c) 0 &&& on) = 1 then 9 else 0) else 10) else 2
def downN (cs : List Nat) (on : Nat) (c : Int) : Nat := if domN cs c < cs.length ∧ hasB on c = true ∧ popN 64 (cs.getD (domN cs c) 0 &&& on) ≠ 1 then withoutN on c else on
theorem len_slice {w : World} {base : Nat} {e : TypeId} {v : Value} {n : Nat} {xs : List Value} (h : w.ownsRow base e 1 v n xs) : ∃ a cap, v = .slice a n cap := by
  rcases h.2 with ⟨rfl, rfl⟩ | ⟨g, cap, cur, rfl, _⟩
  · exact ⟨_, _, rfl⟩
  · exact ⟨_, _, rfl⟩

set_option maxRecDepth 100000 in
set_option maxHeartbeats 4000000 in
theorem rUp_no (cs : List Nat) (on : Nat) (c : Int) (w : World) (hd : ¬ domN cs c < cs.length) :
    Calls Try.prog 33 #[.agg (TV cs on), .int .i64 c] w fun e w' => e = .returned (.tuple #[.agg (TV cs on), .int .i64 2]) ∧ Below w.heap.size w w' := by
  have hT : IT ((w.alloc (.cells (TV cs on) 29)).alloc (.cells tzero 29)) w.heap.size cs on := (IsT.new w _ _ _).alloc _
  have hZ : IsT ((w.alloc (.cells (TV cs on) 29)).alloc (.cells tzero 29)) (w.heap.size + 1) 0 (fun _ => 0) (fun _ => false) := by
    have h := IsT.new (w.alloc (.cells (TV cs on) 29)) 0 (fun _ => 0) (fun _ => false)
    rw [World.size_alloc] at h
    exact h
  have hB : Below w.heap.size w ((w.alloc (.cells (TV cs on) 29)).alloc (.cells tzero 29)) := ((Below.refl _ w).alloc (Nat.le_refl _) _).alloc (by simp) _
  have hS : ((w.alloc (.cells (TV cs on) 29)).alloc (.cells tzero 29)).heap.size = w.heap.size + 1 + 1 := by rw [World.size_alloc, World.size_alloc]
  go_enter Try.func33, Try.ntmps33
  go_wp2_with (first | (refine wpList_box29 rfl _ rfl _ _ _ rfl ?_) | (refine wpList_alloc29 rfl rfl ?_; try simp only [World.size_alloc]) | (refine wpList_load29 rfl _ rfl w.heap.size _ _ _ rfl hT ?_) | (go_at_call 32; refine (rDomain_no cs on c _ hd).mono ?_; rintro e w1 ⟨rfl, hb1⟩; replace hT : IT w1 w.heap.size cs on := hT.below hb1 (by rw [hS]; omega); replace hZ : IsT w1 (w.heap.size + 1) 0 (fun _ => 0) (fun _ => false) := hZ.below hb1 (by rw [hS]; omega); replace hB : Below w.heap.size w w1 := hB.trans (hb1.mono (by rw [hS]; omega)); clear hb1 hS) | (refine wpList_store29 rfl _ _ rfl (w.heap.size + 1) _ _ _ _ _ _ rfl rfl hZ ?_; intro w9 i9 t9))
  refine bodyPost_ret (results29 rfl _ w9 (w.heap.size + 1) _ _ _ (.int .i64 2) rfl rfl i9) rfl ?_
  exact ⟨rfl, hB.trans (t9.below (by omega))⟩

set_option maxRecDepth 100000 in
set_option maxHeartbeats 4000000 in
theorem rDown_no (cs : List Nat) (on : Nat) (c : Int) (w : World) (hd : ¬ domN cs c < cs.length) :
    Calls Try.prog 35 #[.agg (TV cs on), .int .i64 c] w fun e w' => e = .returned (.tuple #[.agg (TV cs on), .int .i64 2]) ∧ Below w.heap.size w w' := by
  have hT : IT ((w.alloc (.cells (TV cs on) 29)).alloc (.cells tzero 29)) w.heap.size cs on := (IsT.new w _ _ _).alloc _
  have hZ : IsT ((w.alloc (.cells (TV cs on) 29)).alloc (.cells tzero 29)) (w.heap.size + 1) 0 (fun _ => 0) (fun _ => false) := by
    have h := IsT.new (w.alloc (.cells (TV cs on) 29)) 0 (fun _ => 0) (fun _ => false)
    rw [World.size_alloc] at h
    exact h
  have hB : Below w.heap.size w ((w.alloc (.cells (TV cs on) 29)).alloc (.cells tzero 29)) := ((Below.refl _ w).alloc (Nat.le_refl _) _).alloc (by simp) _
  have hS : ((w.alloc (.cells (TV cs on) 29)).alloc (.cells tzero 29)).heap.size = w.heap.size + 1 + 1 := by rw [World.size_alloc, World.size_alloc]
  go_enter Try.func35, Try.ntmps35
  go_wp2_with (first | (refine wpList_box29 rfl _ rfl _ _ _ rfl ?_) | (refine wpList_alloc29 rfl rfl ?_; try simp only [World.size_alloc]) | (refine wpList_load29 rfl _ rfl w.heap.size _ _ _ rfl hT ?_) | (go_at_call 32; refine (rDomain_no cs on c _ hd).mono ?_; rintro e w1 ⟨rfl, hb1⟩; replace hT : IT w1 w.heap.size cs on := hT.below hb1 (by rw [hS]; omega); replace hZ : IsT w1 (w.heap.size + 1) 0 (fun _ => 0) (fun _ => false) := hZ.below hb1 (by rw [hS]; omega); replace hB : Below w.heap.size w w1 := hB.trans (hb1.mono (by rw [hS]; omega)); clear hb1 hS) | (refine wpList_store29 rfl _ _ rfl (w.heap.size + 1) _ _ _ _ _ _ rfl rfl hZ ?_; intro w9 i9 t9))
  refine bodyPost_ret (results29 rfl _ w9 (w.heap.size + 1) _ _ _ (.int .i64 2) rfl rfl i9) rfl ?_
  exact ⟨rfl, hB.trans (t9.below (by omega))⟩

set_option maxRecDepth 100000 in
set_option maxHeartbeats 4000000 in
theorem rUp_on (cs : List Nat) (on : Nat) (c : Int) (w : World) (hd : domN cs c < cs.length) (hh : hasB on c = true) :
    Calls Try.prog 33 #[.agg (TV cs on), .int .i64 c] w fun e w' => e = .returned (.tuple #[.agg (TV cs on), .int .i64 10]) ∧ Below w.heap.size w w' := by
  have HC := Lib.hid (has_core (dom_has hd))
  obtain ⟨k, hk, rfl⟩ := core_nat HC.out
  rw [hasB_nat hk] at hh
  have hT : IT ((w.alloc (.cells (TV cs on) 29)).alloc (.cells tzero 29)) w.heap.size cs on := (IsT.new w _ _ _).alloc _
  have hZ : IsT ((w.alloc (.cells (TV cs on) 29)).alloc (.cells tzero 29)) (w.heap.size + 1) 0 (fun _ => 0) (fun _ => false) := by
    have h := IsT.new (w.alloc (.cells (TV cs on) 29)) 0 (fun _ => 0) (fun _ => false)
    rw [World.size_alloc] at h
    exact h
  have hB : Below w.heap.size w ((w.alloc (.cells (TV cs on) 29)).alloc (.cells tzero 29)) := ((Below.refl _ w).alloc (Nat.le_refl _) _).alloc (by simp) _
  have hS : ((w.alloc (.cells (TV cs on) 29)).alloc (.cells tzero 29)).heap.size = w.heap.size + 1 + 1 := by rw [World.size_alloc, World.size_alloc]
  go_enter Try.func33, Try.ntmps33
  go_wp2_with (first | (refine wpList_box29 rfl _ rfl _ _ _ rfl ?_) | (refine wpList_alloc29 rfl rfl ?_; try simp only [World.size_alloc]) | (refine wpList_load29 rfl _ rfl w.heap.size _ _ _ rfl hT ?_) | (go_at_call 32; refine (rDomain_yes cs on (k : Int) _ hd).mono ?_; rintro e w1 ⟨rfl, hb1⟩; replace hT : IT w1 w.heap.size cs on := hT.below hb1 (by rw [hS]; omega); replace hZ : IsT w1 (w.heap.size + 1) 0 (fun _ => 0) (fun _ => false) := hZ.below hb1 (by rw [hS]; omega); replace hB : Below w.heap.size w w1 := hB.trans (hb1.mono (by rw [hS]; omega)); clear hb1 hS; have hc := hT.on hk; rw [hh] at hc) | (refine wpList_store29 rfl _ _ rfl (w.heap.size + 1) _ _ _ _ _ _ rfl rfl hZ ?_; intro w9 i9 t9))
  refine bodyPost_ret (results29 rfl _ w9 (w.heap.size + 1) _ _ _ (.int .i64 10) rfl rfl i9) rfl ?_
  exact ⟨rfl, hB.trans (t9.below (by omega))⟩

set_option maxRecDepth 100000 in
set_option maxHeartbeats 4000000 in
theorem rUp_off (cs : List Nat) (on : Nat) (c : Int) (w : World) (hd : domN cs c < cs.length) (hh : hasB on c = false) :
    Calls Try.prog 33 #[.agg (TV cs on), .int .i64 c] w fun e w' => e = .returned (.tuple #[.agg (TV cs (withN on c)), .int .i64 0]) ∧ Below w.heap.size w w' := by
  have HC := Lib.hid (has_core (dom_has hd))
  obtain ⟨k, hk, rfl⟩ := core_nat HC.out
  rw [hasB_nat hk] at hh
  have hT : IT ((w.alloc (.cells (TV cs on) 29)).alloc (.cells tzero 29)) w.heap.size cs on := (IsT.new w _ _ _).alloc _
  have hZ : IsT ((w.alloc (.cells (TV cs on) 29)).alloc (.cells tzero 29)) (w.heap.size + 1) 0 (fun _ => 0) (fun _ => false) := by
    have h := IsT.new (w.alloc (.cells (TV cs on) 29)) 0 (fun _ => 0) (fun _ => false)
    rw [World.size_alloc] at h
    exact h
  have hB : Below w.heap.size w ((w.alloc (.cells (TV cs on) 29)).alloc (.cells tzero 29)) := ((Below.refl _ w).alloc (Nat.le_refl _) _).alloc (by simp) _
  have hS : ((w.alloc (.cells (TV cs on) 29)).alloc (.cells tzero 29)).heap.size = w.heap.size + 1 + 1 := by rw [World.size_alloc, World.size_alloc]
  go_enter Try.func33, Try.ntmps33
  go_wp2_with (first | (refine wpList_box29 rfl _ rfl _ _ _ rfl ?_) | (refine wpList_alloc29 rfl rfl ?_; try simp only [World.size_alloc]) | (refine wpList_load29 rfl _ rfl w.heap.size _ _ _ rfl hT ?_) | (go_at_call 32; refine (rDomain_yes cs on (k : Int) _ hd).mono ?_; rintro e w1 ⟨rfl, hb1⟩; replace hT : IT w1 w.heap.size cs on := hT.below hb1 (by rw [hS]; omega); replace hZ : IsT w1 (w.heap.size + 1) 0 (fun _ => 0) (fun _ => false) := hZ.below hb1 (by rw [hS]; omega); replace hB : Below w.heap.size w w1 := hB.trans (hb1.mono (by rw [hS]; omega)); clear hb1 hS; have hc := hT.on hk; rw [hh] at hc; have hf := hT.frozen (65 + k)) | (refine wpList_load29 rfl _ rfl w.heap.size _ _ _ rfl (hT.set2 hk true) ?_) | (refine wpList_store29 rfl _ _ rfl (w.heap.size + 1) _ _ _ _ _ _ rfl rfl (hZ.turn (Turn.setCell _ _ _ _) (by omega)) ?_; intro w9 i9 t9))
  refine bodyPost_ret (results29 rfl _ w9 (w.heap.size + 1) _ _ _ (.int .i64 0) rfl rfl i9) rfl ?_
  exact ⟨by rw [tarr_ext (fun _ _ => rfl) (fun i _ => upd_withP hk i)], (hB.trans ((Turn.setCell _ _ _ _).below (Nat.le_refl _))).trans (t9.below (by omega))⟩

set_option maxRecDepth 100000 in
set_option maxHeartbeats 4000000 in
theorem rDown_off (cs : List Nat) (on : Nat) (c : Int) (w : World) (hd : domN cs c < cs.length) (hh : hasB on c = false) :
    Calls Try.prog 35 #[.agg (TV cs on), .int .i64 c] w fun e w' => e = .returned (.tuple #[.agg (TV cs on), .int .i64 10]) ∧ Below w.heap.size w w' := by
  have HC := Lib.hid (has_core (dom_has hd))
  obtain ⟨k, hk, rfl⟩ := core_nat HC.out
  rw [hasB_nat hk] at hh
  have hT : IT ((w.alloc (.cells (TV cs on) 29)).alloc (.cells tzero 29)) w.heap.size cs on := (IsT.new w _ _ _).alloc _
  have hZ : IsT ((w.alloc (.cells (TV cs on) 29)).alloc (.cells tzero 29)) (w.heap.size + 1) 0 (fun _ => 0) (fun _ => false) := by
    have h := IsT.new (w.alloc (.cells (TV cs on) 29)) 0 (fun _ => 0) (fun _ => false)
    rw [World.size_alloc] at h
    exact h
  have hB : Below w.heap.size w ((w.alloc (.cells (TV cs on) 29)).alloc (.cells tzero 29)) := ((Below.refl _ w).alloc (Nat.le_refl _) _).alloc (by simp) _
  have hS : ((w.alloc (.cells (TV cs on) 29)).alloc (.cells tzero 29)).heap.size = w.heap.size + 1 + 1 := by rw [World.size_alloc, World.size_alloc]
  go_enter Try.func35, Try.ntmps35
  go_wp2_with (first | (refine wpList_box29 rfl _ rfl _ _ _ rfl ?_) | (refine wpList_alloc29 rfl rfl ?_; try simp only [World.size_alloc]) | (refine wpList_load29 rfl _ rfl w.heap.size _ _ _ rfl hT ?_) | (go_at_call 32; refine (rDomain_yes cs on (k : Int) _ hd).mono ?_; rintro e w1 ⟨rfl, hb1⟩; replace hT : IT w1 w.heap.size cs on := hT.below hb1 (by rw [hS]; omega); replace hZ : IsT w1 (w.heap.size + 1) 0 (fun _ => 0) (fun _ => false) := hZ.below hb1 (by rw [hS]; omega); replace hB : Below w.heap.size w w1 := hB.trans (hb1.mono (by rw [hS]; omega)); clear hb1 hS; have hc := hT.on hk; rw [hh] at hc) | (refine wpList_store29 rfl _ _ rfl (w.heap.size + 1) _ _ _ _ _ _ rfl rfl hZ ?_; intro w9 i9 t9))
  refine bodyPost_ret (results29 rfl _ w9 (w.heap.size + 1) _ _ _ (.int .i64 10) rfl rfl i9) rfl ?_
  exact ⟨rfl, hB.trans (t9.below (by omega))⟩
end Go.Proofs.Ytbeklkgoiigccaa
