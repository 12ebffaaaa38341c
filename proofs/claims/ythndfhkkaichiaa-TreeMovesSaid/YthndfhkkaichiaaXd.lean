/-
  Contracts of slices.Contains and of the forest's Below, depth and root; isWeight. Condition: the forest is one.
-/
import Derived.Test.YthndfhkkaichiaaXc
namespace Go.Proofs.Ythndfhkkaichiaa
open Go.RowKit Go.Maps

set_option maxRecDepth 100000 in
set_option maxHeartbeats 4000000 in
theorem Index_nil (a : Option Addr) (c : Nat) (x : Int) (w : World) :
    Calls Try.prog 56 #[.slice a 0 c, .int .i64 x] w fun e w' => e = .returned (.int .i64 (-1)) ∧ w = w' := by
  go_enter Try.func56, Try.ntmps56
  go_wp2_with fail
  go_loop [8] (fun i => i = .int .i64 0) (fun _ => 0)
  case atStart => rfl
  case round =>
    obtain rfl := hrel
    go_wp2_with fail
    go_ret
    exact ⟨rfl, rfl⟩
theorem Index_row {w : World} {B : Nat} {a : Option Addr} {c : Nat} {l : List Int} (x : Int) (h : RowO w B (.slice a l.length c) l) (hl : l.length ≤ 64) :
    Calls Try.prog 56 #[.slice a l.length c, .int .i64 x] w fun e w' => e = .returned (.int .i64 (slotI l x)) ∧ w = w' := by
  by_cases h0 : l = []
  · subst h0
    exact Index_nil a c x w
  · obtain ⟨b, rfl, _⟩ := h.at (j := 0) (List.length_pos_iff.2 h0)
    refine Index_any b _ _ l x w rfl hl fun j hj => ?_
    obtain ⟨b', e, _, _, hc, _⟩ := h.at hj
    cases e
    exact hc
theorem slot_mem (l : List Int) (x : Int) : decide (0 ≤ slotI l x) = decide (x ∈ l) := by
  unfold slotI
  by_cases h : find l x < l.length
  · rw [if_pos h, decide_eq_true (find_lt.1 h), decide_eq_true (by omega)]
  · rw [if_neg h, decide_eq_false (fun e => h (find_lt.2 e))]
    decide
set_option maxRecDepth 100000 in
set_option maxHeartbeats 4000000 in
theorem Contains_row {w : World} {B : Nat} {a : Option Addr} {c : Nat} {l : List Int} (x : Int) (h : RowO w B (.slice a l.length c) l) (hl : l.length ≤ 64) :
    Calls Try.prog 45 #[.slice a l.length c, .int .i64 x] w fun e w' => e = .returned (.bool (decide (x ∈ l))) ∧ w = w' := by
  have HI := Lib.hid (Index_row x h hl)
  have HS := Lib.hid (slot_mem l x)
  clear h hl
  generalize l.length = n at *
  generalize slotI l x = s at *
  go_enter Try.func45, Try.ntmps45
  go_wp2_with (go_at_call 56; refine HI.out.mono ?_; rintro e w1 ⟨rfl, rfl⟩)
  go_ret
  exact ⟨by first | rfl | (rw [HS.out]; rfl), rfl⟩
section
variable (fp B : Nat) (L : List Gr) (l : List Int) (m k : Int)
set_option maxRecDepth 100000 in
set_option maxHeartbeats 4000000 in
theorem Below_any (x t : Int) (w : World) (h : IsF w B fp L l m k) (hx : I64 x) :
    Calls Try.prog 17 #[.pointer (some ⟨fp, 0, none⟩), .int .i64 x, .int .i64 t] w fun e w' => e = .returned (.bool (belowB L x t)) ∧ Below w.heap.size w w' := by
  have HP := Lib.hid (path_any fp B L l m k x w h hx)
  have h8 := h.ok.deep x
  unfold belowB
  clear h hx
  generalize pth L x = p at *
  go_enter Try.func17, Try.ntmps17
  go_wp2_with (first | (go_at_call 46; refine HP.out.mono ?_; rintro e w1 ⟨⟨a, c, rfl, hro⟩, hb⟩; have HC := Lib.hid (Contains_row t hro (by omega))) | (go_at_call 45; refine HC.out.mono ?_; rintro e w2 ⟨rfl, rfl⟩))
  go_ret
  exact ⟨rfl, hb⟩
set_option maxRecDepth 100000 in
set_option maxHeartbeats 4000000 in
theorem depth_any (x : Int) (w : World) (h : IsF w B fp L l m k) (hx : I64 x) :
    Calls Try.prog 41 #[.pointer (some ⟨fp, 0, none⟩), .int .i64 x] w fun e w' => e = .returned (.int .i64 (dep L x)) ∧ Below w.heap.size w w' := by
  have HP := Lib.hid (path_any fp B L l m k x w h hx)
  unfold dep
  clear h hx
  generalize pth L x = p at *
  go_enter Try.func41, Try.ntmps41
  go_wp2_with (go_at_call 46; refine HP.out.mono ?_; rintro e w1 ⟨⟨a, c, rfl, hro⟩, hb⟩)
  go_ret
  exact ⟨rfl, hb⟩
set_option maxRecDepth 100000 in
set_option maxHeartbeats 4000000 in
theorem root_any (x : Int) (w : World) (h : IsF w B fp L l m k) (hx : I64 x) (hh : has L x = true) :
    Calls Try.prog 43 #[.pointer (some ⟨fp, 0, none⟩), .int .i64 x] w fun e w' => e = .returned (.int .i64 (topI L x)) ∧ Below w.heap.size w w' := by
  have HP := Lib.hid (path_any fp B L l m k x w h hx)
  have h8 := h.ok.deep x
  have h1 : (pth L x).length ≠ 0 := by rw [h.ok.yes hh]; simp
  unfold topI
  clear h hx hh
  generalize pth L x = p at *
  obtain ⟨j, hj⟩ : ∃ j, p.length = j + 1 := ⟨p.length - 1, by omega⟩
  have hjp : j < p.length := by omega
  rw [hj, Nat.add_sub_cancel]
  rw [hj] at HP h8
  generalize hy : p.getD j 0 = y
  have HY := Lib.hid hy
  clear hj h1 hy
  go_enter Try.func43, Try.ntmps43
  go_wp2_with (go_at_call 46; refine HP.out.mono ?_; rintro e w1 ⟨⟨a, c, rfl, hro⟩, hb⟩; obtain ⟨b, rfl, _, _, hc, _⟩ := hro.at hjp; rw [HY.out] at hc)
  go_ret
  exact ⟨rfl, hb⟩
end
set_option maxRecDepth 100000 in
set_option maxHeartbeats 4000000 in
theorem isWeight_any (x : Int) (w : World) :
    Calls Try.prog 40 #[.int .i64 x] w fun e w' => e = .returned (.bool (decide (1 ≤ x ∧ x ≤ 10000))) ∧ w = w' := by
  by_cases h1 : 1 ≤ x
  · by_cases h2 : x ≤ 10000
    · go_enter Try.func40, Try.ntmps40
      go_wp2_with fail
      go_ret
      exact ⟨by simp [h1, h2], rfl⟩
    · go_enter Try.func40, Try.ntmps40
      go_wp2_with fail
      go_ret
      exact ⟨by simp [h2], rfl⟩
  · go_enter Try.func40, Try.ntmps40
    go_wp2_with fail
    go_ret
    exact ⟨by simp; omega, rfl⟩
end Go.Proofs.Ythndfhkkaichiaa
