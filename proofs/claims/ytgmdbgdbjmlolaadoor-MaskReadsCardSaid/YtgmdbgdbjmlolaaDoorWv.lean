/-
  The walk of MaskReads. Conditions: the tables and variables of Go's library lie as the rows say.
-/
import Derived.Test.YtgmdbgdbjmlolaaDoorWu
import Derived.Test.YtgmdbgdbjmlolaaDoorWs
namespace Go.Proofs.YtgmdbgdbjmlolaaDoor
open Go.RowKit Go.Shelf

theorem readMask_some {l : List UInt8} {n : Nat} (h : readMask l = some n) : l = textOf n ∧ n < 18446744073709551616 := by
  unfold readMask at h
  split at h
  · rename_i hl
    simp only [Option.some.injEq] at h
    subst h
    exact ⟨hl, by omega⟩
  · split at h
    · rename_i m hm
      split at h
      · rename_i ht
        simp only [Option.some.injEq] at h
        subst h
        exact ⟨ht.symm, readText_lt hm⟩
      · cases h
    · cases h
/-- both read a text as the same set's, or as none's. -/
theorem masks_same (l : List UInt8) : refMask l = readMask l := by
  cases h : refMask l with
  | some n =>
    obtain ⟨rfl, hn⟩ := refMask_some h
    rw [read_mask hn]
  | none =>
    cases h2 : readMask l with
    | none => rfl
    | some m =>
      obtain ⟨rfl, hm⟩ := readMask_some h2
      rw [ref_mask hm] at h
      cases h
set_option maxRecDepth 100000 in
set_option maxHeartbeats 1000000 in
theorem RefRead_none (w : World) :
    Calls Tryd.prog 31 #[encS noneL] w fun e w' => e = .returned (refVals (some 0)) ∧ Below w.heap.size w w' := by
  have hz0 : IsArr (w.alloc (.cells (arrB fun _ => false) 30)) w.heap.size (fun _ => false) := IsArr.new w _
  have hB : Below w.heap.size w (w.alloc (.cells (arrB fun _ => false) 30)) := (Below.refl _ w).alloc (Nat.le_refl _) _
  unfold encS noneL
  go_enter Tryd.func31, Tryd.ntmps31
  go_wp2_with (first | (refine wpList_alloc30 rfl rfl ?_) | (refine wpList_build30 rfl rfl ?_) | (refine wpList_store30 rfl _ _ rfl w.heap.size (fun _ => false) (fun _ => false) rfl rfl hz0 ?_; intro w1 i1 t1))
  refine bodyPost_ret (results30 rfl _ w1 w.heap.size (fun _ => false) (.int .i64 0) rfl rfl i1) rfl ?_
  refine ⟨?_, hB.trans (t1.below (Nat.le_refl _))⟩
  rw [ez]; rfl
theorem RefRead_all (l : List UInt8) (hl : l.length ≤ 400) (w : World) :
    Calls Tryd.prog 31 #[encS l] w fun e w' => e = .returned (refVals (readMask l)) ∧ Below w.heap.size w w' := by
  by_cases h : l = noneL
  · subst h
    have e : readMask noneL = some 0 := by unfold readMask; rw [if_pos rfl]
    rw [e]; exact RefRead_none w
  · rw [← masks_same]; exact RefRead_any l hl w h

set_option maxHeartbeats 1000000 in
/-- where the text is long, nothing is asked. -/
theorem reads_long (l : List UInt8) (w : World) (hw : Rw w) (hlen : 300 < l.length) (hmax : l.length ≤ 9223372036854775807) :
    Calls Tryd.prog 8 #[encS l] w fun e w' => e = .returned (.bool true) ∧ Below w.heap.size w w' := by
  unfold encS
  go_enter Tryd.func8, Tryd.ntmps8
  go_wp2_with fail
  refine (awake_any w hw.tab (by have := hw.size; omega)).mono ?_
  rintro e w1 ⟨rfl, hb1⟩
  have hw1 := hw.below hb1 hw.size
  go_wp2_with fail
  refine (awake_any w1 hw1.tab (by have := hw1.size; omega)).mono ?_
  rintro e w2 ⟨rfl, hb2⟩
  go_wp2_with fail
  go_ret
  exact ⟨rfl, hb1.trans (hb2.mono hb1.size)⟩

set_option maxRecDepth 100000 in
set_option maxHeartbeats 2000000 in
theorem reads_short (l : List UInt8) (w : World) (hw : Rw w) (hlen : l.length ≤ 300) :
    Calls Tryd.prog 8 #[encS l] w fun e w' => e = .returned (.bool true) ∧ Below w.heap.size w w' := by
  have H29 := Lib.hid (fun W (h : Rw W) => Read_any l W (by omega) h)
  have H31 := Lib.hid (fun W => RefRead_all l (by omega) W)
  obtain ⟨n, code, hn, hv1, hv2⟩ : ∃ (n : Nat) (code : Int), n < 18446744073709551616 ∧ readVals (readMask l) = .tuple #[.int .u64 (n : Int), .int .i64 code] ∧ refVals (readMask l) = .tuple #[.agg (arrB n.testBit), .int .i64 code] := by
    cases h : readMask l with
    | none => exact ⟨0, 17, by omega, rfl, rfl⟩
    | some n => exact ⟨n, 0, (readMask_some h).2, rfl, rfl⟩
  rw [hv1] at H29
  rw [hv2] at H31
  clear hv1 hv2
  unfold encS at H29 H31 ⊢
  go_enter Tryd.func8, Tryd.ntmps8
  go_wp2_with fail
  refine (awake_any w hw.tab (by have := hw.size; omega)).mono ?_
  rintro e w1 ⟨rfl, hb1⟩
  have hw1 := hw.below hb1 hw.size
  go_wp2_with fail
  refine (H29.out w1 hw1).mono ?_
  rintro e w2 ⟨rfl, hb2⟩
  have hB2 := hb1.trans (hb2.mono hb1.size)
  go_wp2_with fail
  refine (H31.out w2).mono ?_
  rintro e w3 ⟨rfl, hb3⟩
  have hI := IsArr.new w3 (fun _ => false)
  have hb : Below w.heap.size w w3 := hB2.trans (hb3.mono hB2.size)
  go_wp2_with (first | (refine wpList_alloc30 rfl rfl ?_) | (refine wpList_store30 rfl _ _ rfl w3.heap.size n.testBit (fun _ => false) rfl rfl hI ?_; intro w5 i5 t5) | (refine wpList_load30g rfl _ rfl w3.heap.size n.testBit rfl i5 ?_) | (go_at_call 13; refine (Is_same n _ hn).mono ?_; rintro e w6 ⟨rfl, hb6⟩))
  go_ret
  have hb5 : Below w.heap.size w w5 := (hb.trans ((Below.refl _ w3).alloc hb.size _)).trans (t5.below hb.size)
  exact ⟨rfl, hb5.trans (hb6.mono hb5.size)⟩
/-- MaskReads is true at any text. -/
theorem reads_any (s : ByteArray) (hs : s.size ≤ maxLen) (w : World) (hw : Rw w) :
    Calls Tryd.prog 8 #[.string s] w fun e w' => e = .returned (.bool true) ∧ Below w.heap.size w w' := by
  have e : s = ⟨s.data.toList.toArray⟩ := by apply ByteArray.ext; simp
  have hsz : s.data.toList.length ≤ 9223372036854775807 := by
    have h : s.data.toList.length = s.size := rfl
    unfold maxLen at hs; omega
  rw [e]
  by_cases hlen : s.data.toList.length ≤ 300
  · exact reads_short _ w hw hlen
  · exact reads_long _ w hw (by omega) hsz
end Go.Proofs.YtgmdbgdbjmlolaaDoor
