/-
  Contracts of the small functions of package mask: isCore, only, Has, With, Without, In, Meets. No condition but that numbers fit their types.
-/
import Derived.Test.YtbeklkgoiigccaaRows
import Derived.Test.YtbeklkgoiigccaaMath
import Derived.WalkKit
import Derived.WalkSpells
import Derived.WalkLawsBesides
import Derived.Lib.Hide
namespace Go.Proofs.Ytbeklkgoiigccaa
open Go.RowKit

theorem ret_int {k : IntKind} {a b : Int} (h : a = b) : Ending.returned (.int k a) = .returned (.int k b) := by rw [h]
theorem ret_bool {a b : Bool} (h : a = b) : Ending.returned (.bool a) = .returned (.bool b) := by rw [h]
set_option maxHeartbeats 400000 in
theorem isCore_any (c : Int) (w : World) :
    Calls Try.prog 48 #[.int .i64 c] w fun e w' => e = .returned (.bool (coreB c)) ∧ w = w' := by
  by_cases h0 : 0 ≤ c
  · by_cases h1 : c < 64
    · rw [coreB_yes h0 h1]
      go_enter Try.func48, Try.ntmps48
      go_wp2
      go_ret
      exact ⟨rfl, rfl⟩
    · have h2 : 64 ≤ c := by omega
      rw [coreB_big h2]
      go_enter Try.func48, Try.ntmps48
      go_wp2
      go_ret
      exact ⟨rfl, rfl⟩
  · have h2 : c < 0 := by omega
    rw [coreB_neg h2]
    go_enter Try.func48, Try.ntmps48
    go_wp2
    go_ret
    exact ⟨rfl, rfl⟩

set_option maxHeartbeats 400000 in
theorem only_any (c : Int) (w : World) :
    Calls Try.prog 42 #[.int .i64 c] w fun e w' => e = .returned (.int .u64 (onlyN c : Nat)) ∧ w = w' := by
  by_cases h : coreB c = true
  · have hb := coreB_true h
    obtain ⟨h0, h1⟩ := hb
    have HE := Lib.hid (onlyN_yes h)
    go_enter Try.func42, Try.ntmps42
    go_wp2_with (go_at_call 48; refine (isCore_any _ _).mono ?_; rintro e w' ⟨rfl, rfl⟩)
    go_ret
    exact ⟨ret_int (by rw [HE.out, IntKind.wrap_u64]; exact pow_emod (by omega)), rfl⟩
  · have h : coreB c = false := by simpa using h
    have HE := Lib.hid (onlyN_no h)
    go_enter Try.func42, Try.ntmps42
    go_wp2_with (go_at_call 48; refine (isCore_any _ _).mono ?_; rintro e w' ⟨rfl, rfl⟩)
    go_ret
    rw [HE.out]
    exact ⟨rfl, rfl⟩

set_option maxHeartbeats 400000 in
theorem Has_any (n : Nat) (c : Int) (w : World) (hn : n < 18446744073709551616) :
    Calls Try.prog 27 #[.int .u64 n, .int .i64 c] w fun e w' => e = .returned (.bool (hasB n c)) ∧ w = w' := by
  go_enter Try.func27, Try.ntmps27
  go_wp2_with (go_at_call 42; refine (only_any _ _).mono ?_; rintro e w' ⟨rfl, rfl⟩)
  go_ret
  exact ⟨ret_bool (has_eq n c hn), rfl⟩
set_option maxHeartbeats 400000 in
theorem With_any (n : Nat) (c : Int) (w : World) (hn : n < 18446744073709551616) :
    Calls Try.prog 46 #[.int .u64 n, .int .i64 c] w fun e w' => e = .returned (.int .u64 (withN n c : Nat)) ∧ w = w' := by
  go_enter Try.func46, Try.ntmps46
  go_wp2_with (go_at_call 42; refine (only_any _ _).mono ?_; rintro e w' ⟨rfl, rfl⟩)
  go_ret
  exact ⟨ret_int (with_eq n c hn), rfl⟩
set_option maxHeartbeats 400000 in
theorem Without_any (n : Nat) (c : Int) (w : World) (hn : n < 18446744073709551616) :
    Calls Try.prog 44 #[.int .u64 n, .int .i64 c] w fun e w' => e = .returned (.int .u64 (withoutN n c : Nat)) ∧ w = w' := by
  go_enter Try.func44, Try.ntmps44
  go_wp2_with (go_at_call 42; refine (only_any _ _).mono ?_; rintro e w' ⟨rfl, rfl⟩)
  go_ret
  exact ⟨ret_int (without_eq n c hn), rfl⟩
set_option maxHeartbeats 400000 in
theorem In_any (n m : Nat) (w : World) (hn : n < 18446744073709551616) (hm : m < 18446744073709551616) :
    Calls Try.prog 22 #[.int .u64 n, .int .u64 m] w fun e w' => e = .returned (.bool (inB n m)) ∧ w = w' := by
  go_enter Try.func22, Try.ntmps22
  go_wp2
  go_ret
  exact ⟨ret_bool (in_eq n m hn hm), rfl⟩
set_option maxHeartbeats 400000 in
theorem Meets_any (n m : Nat) (w : World) (hn : n < 18446744073709551616) (hm : m < 18446744073709551616) :
    Calls Try.prog 30 #[.int .u64 n, .int .u64 m] w fun e w' => e = .returned (.bool (meetsB n m)) ∧ w = w' := by
  go_enter Try.func30, Try.ntmps30
  go_wp2
  go_ret
  exact ⟨ret_bool (meets_eq n m hn hm), rfl⟩
end Go.Proofs.Ytbeklkgoiigccaa
