/-
  Contracts of the document's answers roundelref01.Cores and Put. No condition but that numbers fit their types.
-/
import Derived.Test.YtgmdbgdbjmlolaaDoorWi
import Derived.Maps.AppendAt
import Derived.RangeFuncBox
namespace Go.Proofs.YtgmdbgdbjmlolaaDoor
open Go.RowKit Go.Shelf

theorem Tryd.info3 : (Tryd.prog.info? 3).map (fun i => (i.zero, i.size, i.bytes)) = some (some (.int .i64 0), 1, 8) := by kernel_rfl
/-- a core as a value. -/
def encC (c : Nat) : Value := .int .i64 (c : Int)
/-- the cores below k. -/
def coresTo (N k : Nat) : List Nat := (List.range k).filter N.testBit
theorem coresTo_yes {N k : Nat} (h : N.testBit k = true) : coresTo N (k + 1) = coresTo N k ++ [k] := by simp [coresTo, List.range_succ, h]
theorem coresTo_no {N k : Nat} (h : N.testBit k = false) : coresTo N (k + 1) = coresTo N k := by simp [coresTo, List.range_succ, h]
theorem coresTo_len (N k : Nat) : (coresTo N k).length ≤ k := by
  have := List.length_filter_le N.testBit (List.range k)
  simpa [coresTo] using this

theorem ownsRow_le' {w : World} {base size n : Nat} {e : TypeId} {v : Value} {xs : List Value} (h : w.ownsRow (base + 1) e size v n xs) : w.ownsRow base e size v n xs := by
  refine ⟨h.1, ?_⟩
  rcases h.2 with h | ⟨g, cap, cur, h1, h2, h3⟩
  · exact .inl h
  · exact .inr ⟨g, cap, cur, h1, by omega, h3⟩

set_option maxRecDepth 100000 in
set_option maxHeartbeats 2000000 in
theorem RefCores_any (N : Nat) (w : World) :
    Calls Tryd.prog 17 #[.agg (arrB N.testBit)] w fun e w' => ∃ v, e = .returned v ∧ w'.ownsRow w.heap.size 3 1 v (coresOf N).length ((coresOf N).map encC) ∧ Below w.heap.size w w' := by
  obtain ⟨i0, hi, hz0, hz1, hz2⟩ := info_parts Tryd.info3
  have hI := IsArr.new w N.testBit
  have hB : Below w.heap.size w (w.alloc (.cells (arrB N.testBit) 30)) := (Below.refl _ w).alloc (Nat.le_refl _) _
  have hsz : w.heap.size + 1 ≤ (w.alloc (.cells (arrB N.testBit) 30)).heap.size := by simp
  go_enter Tryd.func17, Tryd.ntmps17
  go_wp2_with (refine wpList_box30 rfl _ rfl N.testBit rfl ?_)
  generalize w.alloc (.cells (arrB N.testBit) 30) = w1 at hI hB hsz ⊢
  go_loopw [3, 5] (fun v i wr => ∃ k : Nat, k ≤ 64 ∧ i = .int .i64 k ∧ wr.ownsRow (w.heap.size + 1) 3 1 v (coresTo N k).length ((coresTo N k).map encC) ∧ IsArr wr w.heap.size N.testBit ∧ Below w.heap.size w wr ∧ w.heap.size + 1 ≤ wr.heap.size) (fun _ i _ => 64 - (intOf i).toNat)
  case atStart => exact ⟨0, by omega, rfl, World.ownsRow_nil _ _ _ _, hI, hB, hsz⟩
  case round =>
    obtain ⟨k, hk, rfl, hrow, hA, hb, hs⟩ := hrel
    have hcl := coresTo_len N k
    by_cases hlt : k < 64
    · have hc := hA.cell hlt
      cases ht : N.testBit k <;> rw [ht] at hc
      · have HT := Lib.hid ht
        clear ht
        go_wp2_with fail
        exact ⟨⟨k + 1, by omega, by go_num, by rw [coresTo_no HT.out]; exact hrow, hA, hb, hs⟩, by simp [intOf]; omega⟩
      · have HT := Lib.hid ht
        clear ht
        go_wp2_with (at_builtin; refine wpList_append_own _ rfl _ _ 22 rfl (w.heap.size + 1) 3 i0 (.int .i64 0) 1 8 Tryd.underlying22 hi hz0 hz1 hz2 rfl (by decide) u3 _ _ rfl (hrow.alloc _) ⟨wr.heap.size, 0, none⟩ 1 1 [encC k] rfl rfl (cell_one_new _ _ _) (by simp [Value.oneCell', encC]) (by unfold maxLen; omega) (by omega) (by simp; omega) ?_; intro v' w2 hown' hgrow _)
        have hne : some w.heap.size ≠ u3.ownBlock := fun e => by have := (hrow.lt _ e.symm).1; omega
        have hA2 : IsArr w2 w.heap.size N.testBit := (hgrow.block w.heap.size (hA.alloc _).lt hne).trans (hA.alloc _)
        have hb2 : Below w.heap.size w w2 := (hb.alloc hb.size _).grown hgrow (Nat.le_trans hb.size (by simp)) (fun j ej => by have := (hrow.lt j ej).1; omega)
        have hs2 : w.heap.size + 1 ≤ w2.heap.size := by have := hA2.lt; omega
        refine ⟨⟨k + 1, by omega, by go_num, ?_, hA2, hb2, hs2⟩, by simp [intOf]; omega⟩
        rw [coresTo_yes HT.out, List.length_append, List.map_append]
        exact hown'
    · obtain rfl : k = 64 := by omega
      go_wp2_with fail
      go_ret
      exact ⟨u3, rfl, ownsRow_le' hrow, hb⟩

set_option maxRecDepth 100000 in
set_option maxHeartbeats 1000000 in
theorem Put_no (N : Nat) (c : Int) (t : Bool) (w : World) (hc : Hid (coreB c = false)) :
    Calls Tryd.prog 19 #[.agg (arrB N.testBit), .int .i64 c, .bool t] w fun e w' => e = .returned (.agg (arrB N.testBit)) ∧ Below w.heap.size w w' := by
  have hI := (IsArr.new w N.testBit).alloc (.cells (arrB fun _ => false) 30)
  have hR := IsArr.new (w.alloc (.cells (arrB N.testBit) 30)) (fun _ => false)
  have hB : Below w.heap.size w ((w.alloc (.cells (arrB N.testBit) 30)).alloc (.cells (arrB fun _ => false) 30)) := ((Below.refl _ w).alloc (Nat.le_refl _) _).alloc (by simp) _
  rw [World.size_alloc] at hR
  go_enter Tryd.func19, Tryd.ntmps19
  go_wp2_with (first | (refine wpList_box30 rfl _ rfl N.testBit rfl ?_) | (refine wpList_alloc30 rfl rfl ?_; try simp only [World.size_alloc]) | (go_at_call 16; refine (Core_is c false _ hc).mono ?_; rintro e w1 ⟨rfl, rfl⟩) | (refine wpList_load30 rfl _ rfl w.heap.size N.testBit rfl hI ?_) | (refine wpList_store30 rfl _ _ rfl (w.heap.size + 1) N.testBit (fun _ => false) rfl rfl hR ?_; intro w2 i2 t2))
  refine bodyPost_ret (results_cell_row rfl _ w2 (w.heap.size + 1) 30 (arrB N.testBit) (0, 0) _ rfl i2 Tryd.underlying30 rfl (size30 _)) rfl ?_
  exact ⟨rfl, hB.trans (t2.below (by omega))⟩
set_option maxRecDepth 100000 in
set_option maxHeartbeats 1000000 in
theorem Put_yes (N k : Nat) (t : Bool) (w : World) (hk : k < 64) (hc : Hid (coreB (k : Int) = true)) :
    Calls Tryd.prog 19 #[.agg (arrB N.testBit), .int .i64 (k : Int), .bool t] w fun e w' => e = .returned (.agg (arrB (upd N.testBit k t))) ∧ Below w.heap.size w w' := by
  have hI := (IsArr.new w N.testBit).alloc (.cells (arrB fun _ => false) 30)
  have hR := IsArr.new (w.alloc (.cells (arrB N.testBit) 30)) (fun _ => false)
  have hB : Below w.heap.size w ((w.alloc (.cells (arrB N.testBit) 30)).alloc (.cells (arrB fun _ => false) 30)) := ((Below.refl _ w).alloc (Nat.le_refl _) _).alloc (by simp) _
  rw [World.size_alloc] at hR
  go_enter Tryd.func19, Tryd.ntmps19
  go_wp2_with (first | (refine wpList_box30 rfl _ rfl N.testBit rfl ?_) | (refine wpList_alloc30 rfl rfl ?_; try simp only [World.size_alloc]))
  refine (Core_is (k : Int) true _ hc).mono ?_
  rintro e w1 ⟨rfl, rfl⟩
  generalize (w.alloc (.cells (arrB N.testBit) 30)).alloc (.cells (arrB fun _ => false) 30) = w1 at hI hR hB ⊢
  have hc2 := hI.cell hk
  have hf2 := hI.frozen k
  have hI2 := hI.set k t
  have hR2 := hR.turn (Turn.setCell w1 w.heap.size k (.bool t)) (by omega)
  have hB2 := hB.trans ((Turn.setCell w1 w.heap.size k (.bool t)).below (Nat.le_refl _))
  go_wp2_with (first | (refine wpList_load30 rfl _ rfl w.heap.size (upd N.testBit k t) rfl hI2 ?_) | (refine wpList_store30 rfl _ _ rfl (w.heap.size + 1) (upd N.testBit k t) (fun _ => false) rfl rfl hR2 ?_; intro w2 i2 t2))
  refine bodyPost_ret (results_cell_row rfl _ w2 (w.heap.size + 1) 30 (arrB (upd N.testBit k t)) (0, 0) _ rfl i2 Tryd.underlying30 rfl (size30 _)) rfl ?_
  exact ⟨rfl, hB2.trans (t2.below (by omega))⟩
theorem upd_without {N k : Nat} (hN : N < 18446744073709551616) (hk : k < 64) : arrB (upd N.testBit k false) = arrB (withoutN N (k : Int)).testBit := arrB_ext fun i _ => by
  rw [withoutN_bit hN hk]
  unfold upd
  by_cases h : i = k
  · subst h; simp
  · have h' : ¬ k = i := fun e => h e.symm
    simp [h, h']
/-- the document's set with a core. -/
theorem Put_with (N : Nat) (c : Int) (w : World) :
    Calls Tryd.prog 19 #[.agg (arrB N.testBit), .int .i64 c, .bool true] w fun e w' => e = .returned (.agg (arrB (withN N c).testBit)) ∧ Below w.heap.size w w' := by
  cases h : coreB c
  · rw [withN_no h]; exact Put_no N c true w (Lib.hid h)
  · obtain ⟨k, hk, rfl⟩ := core_nat h
    rw [← upd_with hk]; exact Put_yes N k true w hk (Lib.hid h)
/-- the document's set without a core. -/
theorem Put_without (N : Nat) (c : Int) (w : World) (hN : N < 18446744073709551616) :
    Calls Tryd.prog 19 #[.agg (arrB N.testBit), .int .i64 c, .bool false] w fun e w' => e = .returned (.agg (arrB (withoutN N c).testBit)) ∧ Below w.heap.size w w' := by
  cases h : coreB c
  · rw [withoutN_no hN h]; exact Put_no N c false w (Lib.hid h)
  · obtain ⟨k, hk, rfl⟩ := core_nat h
    rw [← upd_without hN hk]; exact Put_yes N k false w hk (Lib.hid h)
end Go.Proofs.YtgmdbgdbjmlolaaDoor
