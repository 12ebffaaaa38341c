/-
  Contracts of the program's functions that look up, put in and take out: slices.Index, New, Add, Drop, Slot, Id, Last, Skip. Condition: the table is one.
-/
import Derived.Test.YthndfhkkaichiaaUb
namespace Go.Proofs.Ythndfhkkaichiaa
open Go.RowKit

set_option maxRecDepth 100000 in
set_option maxHeartbeats 4000000 in
theorem Index_any (g n c : Nat) (l : List Int) (x : Int) (w : World) (hn : n = l.length) (hl : l.length ≤ 64) (hc : ∀ j, j < l.length → w.cell? ⟨g, j, none⟩ = some (.int .i64 (l.getD j 0))) :
    Calls Try.prog 56 #[.slice (some ⟨g, 0, none⟩) n c, .int .i64 x] w fun e w' => e = .returned (.int .i64 (slotI l x)) ∧ w = w' := by
  subst hn
  have HC := Lib.hid hc
  clear hc
  go_enter Try.func56, Try.ntmps56
  go_wp2_with fail
  go_loop [5, 8] (fun _ i => ∃ k : Nat, k ≤ l.length ∧ i = .int .i64 k ∧ Hid (∀ j, j < k → l.getD j 0 ≠ x)) (fun _ i => l.length - (intOf i).toNat)
  case atStart => exact ⟨0, by omega, rfl, Lib.hid (fun j hj => absurd hj (Nat.not_lt_zero _))⟩
  case round =>
    obtain ⟨k, hk, rfl, HN⟩ := hrel
    by_cases hlt : k < l.length
    · have hx := HC.out k hlt
      generalize hy : l.getD k 0 = y at *
      have HY := Lib.hid hy
      clear hy
      by_cases he : x = y
      · subst he
        go_wp2_with fail
        go_ret
        exact ⟨by rw [slotI_hit hlt HY.out HN.out]; rfl, rfl⟩
      · have h5 := beq_ff he
        go_wp2_with fail
        refine ⟨⟨k + 1, by omega, by go_num, Lib.hid (fun j hj => ?_)⟩, by simp [intOf]; omega⟩
        by_cases e : j = k
        · subst e; rw [HY.out]; exact fun h => he h.symm
        · exact HN.out j (by omega)
    · obtain rfl : k = l.length := by omega
      go_wp2_with fail
      go_ret
      exact ⟨by rw [slotI_none HN.out]; rfl, rfl⟩
theorem Index_tab (p g : Nat) (l : List Int) (m x : Int) (w : World) (h : IsTab w p g l m) (hl : l.length ≤ 64) :
    Calls Try.prog 56 #[.slice (some ⟨g, 0, none⟩) l.length l.length, .int .i64 x] w fun e w' => e = .returned (.int .i64 (slotI l x)) ∧ w = w' :=
  Index_any g _ _ l x w rfl hl fun _ hj => h.at hj
set_option maxRecDepth 100000 in
set_option maxHeartbeats 4000000 in
theorem Slot_any (p g : Nat) (l : List Int) (m x : Int) (w : World) (h : IsTab w p g l m) (hl : l.length ≤ 64) :
    Calls Try.prog 60 #[.pointer (some ⟨p, 0, none⟩), .int .i64 x] w fun e w' => e = .returned (.tuple #[.int .i64 (hasS l x), .int .i64 (hasE l x)]) ∧ w = w' := by
  have h0 := h.c0
  have HI := Lib.hid (Index_tab p g l m x w h hl)
  by_cases hb : hasB l x = true
  · have hb' : find l x < l.length ∧ x ≠ 0 := by simpa [hasB] using hb
    have h5 := beq_ff hb'.2
    have HS : Hid (slotI l x = (find l x : Int)) := Lib.hid (atI_slot l x hb)
    have HR : Hid (hasS l x = (find l x : Int) ∧ hasE l x = 0) := Lib.hid (by simp [hasS, hasE, hb])
    clear hb
    generalize find l x = k at *
    obtain ⟨h6, h7⟩ := hb'
    go_enter Try.func60, Try.ntmps60
    go_wp2_with (go_at_call 56; refine HI.out.mono ?_; rw [HS.out]; rintro e w1 ⟨rfl, rfl⟩)
    go_ret2
    exact ⟨by rw [HR.out.1, HR.out.2]; rfl, rfl⟩
  · have hb' : ¬ (find l x < l.length ∧ x ≠ 0) := by simpa [hasB] using hb
    have HR : Hid (hasS l x = 0 ∧ hasE l x = 3) := Lib.hid (by simp [hasS, hasE, hb])
    clear hb
    by_cases h1 : find l x < l.length
    · obtain rfl : x = 0 := by omega
      have HS : Hid (slotI l 0 = (find l 0 : Int)) := Lib.hid (by unfold slotI; rw [if_pos h1])
      clear hb'
      generalize find l 0 = k at *
      go_enter Try.func60, Try.ntmps60
      go_wp2_with (go_at_call 56; refine HI.out.mono ?_; rw [HS.out]; rintro e w1 ⟨rfl, rfl⟩)
      go_ret2
      exact ⟨by rw [HR.out.1, HR.out.2]; rfl, rfl⟩
    · have HS : Hid (slotI l x = -1) := Lib.hid (by unfold slotI; rw [if_neg h1])
      clear hb' h1
      go_enter Try.func60, Try.ntmps60
      go_wp2_with (go_at_call 56; refine HI.out.mono ?_; rw [HS.out]; rintro e w1 ⟨rfl, rfl⟩)
      go_ret2
      exact ⟨by rw [HR.out.1, HR.out.2]; rfl, rfl⟩
set_option maxRecDepth 100000 in
set_option maxHeartbeats 4000000 in
theorem Drop_any (p g : Nat) (l : List Int) (m x : Int) (w : World) (h : IsTab w p g l m) (hl : l.length ≤ 64) :
    Calls Try.prog 52 #[.pointer (some ⟨p, 0, none⟩), .int .i64 x] w fun e w' => e = .returned (.int .i64 (hasE l x)) ∧ IsTab w' p g (dropL l x) m ∧ Only p g w w' := by
  have h0 := h.c0
  have HI := Lib.hid (Slot_any p g l m x w h hl)
  by_cases hb : hasB l x = true
  · have hk : find l x < l.length := by have : find l x < l.length ∧ x ≠ 0 := by simpa [hasB] using hb
                                        exact this.1
    have HR : Hid (hasS l x = (find l x : Int) ∧ hasE l x = 0 ∧ dropL l x = l.set (find l x) 0) := Lib.hid (by simp [hasS, hasE, dropL, hb])
    clear hb
    generalize find l x = k at *
    have hx := h.at hk
    have h9 := h.fg k
    generalize l.getD k 0 = y at *
    go_enter Try.func52, Try.ntmps52
    go_wp2_with (go_at_call 60; refine HI.out.mono ?_; rw [HR.out.1, HR.out.2.1]; rintro e w1 ⟨rfl, rfl⟩)
    go_ret
    exact ⟨by rw [HR.out.2.1]; rfl, by rw [HR.out.2.2]; exact h.setI k 0, Only.of_turn_g (Turn.setCell _ _ _ _)⟩
  · have HR : Hid (hasS l x = 0 ∧ hasE l x = 3 ∧ dropL l x = l) := Lib.hid (by simp [hasS, hasE, dropL, hb])
    clear hb
    go_enter Try.func52, Try.ntmps52
    go_wp2_with (go_at_call 60; refine HI.out.mono ?_; rw [HR.out.1, HR.out.2.1]; rintro e w1 ⟨rfl, rfl⟩)
    go_ret
    exact ⟨by rw [HR.out.2.1]; rfl, by rw [HR.out.2.2]; exact h, Only.refl _ _ _⟩
end Go.Proofs.Ythndfhkkaichiaa
