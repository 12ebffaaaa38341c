/-
  Contracts of the document's answers roundelref01.Cores and Put. No condition but that numbers fit their types.
-/
import Derived.Test.YtbeklkgoiigccaaWf
import Derived.Laws.ResultCell
import Derived.Maps.AppendAt
import Derived.RangeFuncBox
namespace Go.Proofs.Ytbeklkgoiigccaa
open Go.RowKit

theorem Try.info3 : (Try.prog.info? 3).map (fun i => (i.zero, i.size, i.bytes)) = some (some (.int .i64 0), 1, 8) := by kernel_rfl
/-- a core as a value. -/
def encC (c : Nat) : Value := .int .i64 (c : Int)
/-- the cores below k. -/
def coresTo (N k : Nat) : List Nat := (List.range k).filter N.testBit
theorem coresTo_yes {N k : Nat} (h : N.testBit k = true) : coresTo N (k + 1) = coresTo N k ++ [k] := by simp [coresTo, List.range_succ, h]
theorem coresTo_no {N k : Nat} (h : N.testBit k = false) : coresTo N (k + 1) = coresTo N k := by simp [coresTo, List.range_succ, h]
theorem coresTo_len (N k : Nat) : (coresTo N k).length ≤ k := by
  have := List.length_filter_le N.testBit (List.range k)
  simpa [coresTo] using this

theorem ownsRow_le' {w : World} {base size n : Nat} {e : TypeId} {v : Value} {xs : List Value} (h : w.ownsRow (base + 1) e size v n xs) : w.ownsRow base e size v n xs := by
  refine ⟨h.1, ?_⟩
  rcases h.2 with h | ⟨g, cap, cur, h1, h2, h3⟩
  · exact .inl h
  · exact .inr ⟨g, cap, cur, h1, by omega, h3⟩

set_option maxRecDepth 100000 in
set_option maxHeartbeats 2000000 in
theorem RefCores_any (N : Nat) (w : World) :
    Calls Try.prog 47 #[.agg (arrB N.testBit)] w fun e w' => ∃ v, e = .returned v ∧ w'.ownsRow w.heap.size 3 1 v (coresOf N).length ((coresOf N).map encC) ∧ Below w.heap.size w w' := by
  obtain ⟨i0, hi, hz0, hz1, hz2⟩ := info_parts Try.info3
  have hI := IsArr.new w N.testBit
  have hB : Below w.heap.size w (w.alloc (.cells (arrB N.testBit) 27)) := (Below.refl _ w).alloc (Nat.le_refl _) _
  have hsz : w.heap.size + 1 ≤ (w.alloc (.cells (arrB N.testBit) 27)).heap.size := by simp
  go_enter Try.func47, Try.ntmps47
  go_wp2_with (refine wpList_box30 rfl _ rfl N.testBit rfl ?_)
  generalize w.alloc (.cells (arrB N.testBit) 27) = w1 at hI hB hsz ⊢
  go_loopw [3, 5] (fun v i wr => ∃ k : Nat, k ≤ 64 ∧ i = .int .i64 k ∧ wr.ownsRow (w.heap.size + 1) 3 1 v (coresTo N k).length ((coresTo N k).map encC) ∧ IsArr wr w.heap.size N.testBit ∧ Below w.heap.size w wr ∧ w.heap.size + 1 ≤ wr.heap.size) (fun _ i _ => 64 - (intOf i).toNat)
  case atStart => exact ⟨0, by omega, rfl, World.ownsRow_nil _ _ _ _, hI, hB, hsz⟩
  case round =>
    obtain ⟨k, hk, rfl, hrow, hA, hb, hs⟩ := hrel
    have hcl := coresTo_len N k
    by_cases hlt : k < 64
    · have hc := hA.cell hlt
      cases ht : N.testBit k <;> rw [ht] at hc
      · have HT := Lib.hid ht
        clear ht
        go_wp2_with fail
        exact ⟨⟨k + 1, by omega, by go_num, by rw [coresTo_no HT.out]; exact hrow, hA, hb, hs⟩, by simp [intOf]; omega⟩
      · have HT := Lib.hid ht
        clear ht
        go_wp2_with (at_builtin; refine wpList_append_own _ rfl _ _ 85 rfl (w.heap.size + 1) 3 i0 (.int .i64 0) 1 8 Try.underlying85 hi hz0 hz1 hz2 rfl (by decide) u3 _ _ rfl (hrow.alloc _) ⟨wr.heap.size, 0, none⟩ 1 1 [encC k] rfl rfl (cell_one_new _ _ _) (by simp [Value.oneCell', encC]) (by unfold maxLen; omega) (by omega) (by simp; omega) ?_; intro v' w2 hown' hgrow _)
        have hne : some w.heap.size ≠ u3.ownBlock := fun e => by have := (hrow.lt _ e.symm).1; omega
        have hA2 : IsArr w2 w.heap.size N.testBit := (hgrow.block w.heap.size (hA.alloc _).lt hne).trans (hA.alloc _)
        have hb2 : Below w.heap.size w w2 := (hb.alloc hb.size _).grown hgrow (Nat.le_trans hb.size (by simp)) (fun j ej => by have := (hrow.lt j ej).1; omega)
        have hs2 : w.heap.size + 1 ≤ w2.heap.size := by have := hA2.lt; omega
        refine ⟨⟨k + 1, by omega, by go_num, ?_, hA2, hb2, hs2⟩, by simp [intOf]; omega⟩
        rw [coresTo_yes HT.out, List.length_append, List.map_append]
        exact hown'
    · obtain rfl : k = 64 := by omega
      go_wp2_with fail
      go_ret
      exact ⟨u3, rfl, ownsRow_le' hrow, hb⟩

set_option maxRecDepth 100000 in
set_option maxHeartbeats 1000000 in
theorem upd_without {N k : Nat} (hN : N < 18446744073709551616) (hk : k < 64) : arrB (upd N.testBit k false) = arrB (withoutN N (k : Int)).testBit := arrB_ext fun i _ => by
  rw [withoutN_bit hN hk]
  unfold upd
  by_cases h : i = k
  · subst h; simp
  · have h' : ¬ k = i := fun e => h e.symm
    simp [h, h']
end Go.Proofs.Ytbeklkgoiigccaa
