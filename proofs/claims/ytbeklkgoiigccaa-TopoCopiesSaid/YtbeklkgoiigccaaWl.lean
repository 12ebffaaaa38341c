/-
  Contracts of math/bits.OnesCount64 and (mask.Set).Len: how many bits of any number are 1. No condition.
-/
import Derived.Test.YtbeklkgoiigccaaWa
import Derived.Test.YtbeklkgoiigccaaPop
import Derived.Laws.Bits128
namespace Go.Proofs.Ytbeklkgoiigccaa
open Go.RowKit

theorem m1_32 : m1 32 = 6148914691236517205 := by decide
theorem m2_16 : m2 16 = 3689348814741910323 := by decide
theorem m3_8 : m3 8 = 1085102592571150095 := by decide
theorem wrap_small {x : Int} (h0 : 0 ≤ x) (h1 : x < 18446744073709551616) : IntKind.u64.wrap x = x := by rw [IntKind.wrap_u64]; omega
theorem pc1 (n : Nat) (hn : n < 18446744073709551616) : IntKind.u64.wrap (bits BinOp.and IntKind.u64 ((n : Int) / 2) 6148914691236517205 + bits BinOp.and IntKind.u64 (n : Int) 6148914691236517205) = ((f1 32 n : Nat) : Int) ∧ f1 32 n < 18446744073709551616 := by
  have e1 := L1 32 n
  rw [m1_32] at e1
  have a1 := u64_and_nat (n / 2) 6148914691236517205 (by omega) (by omega)
  have a2 := u64_and_nat n 6148914691236517205 hn (by omega)
  have b1 : n / 2 &&& 6148914691236517205 ≤ 6148914691236517205 := Nat.and_le_right
  have b2 : n &&& 6148914691236517205 ≤ 6148914691236517205 := Nat.and_le_right
  rw [show ((n : Int) / 2) = ((n / 2 : Nat) : Int) by omega]
  have a1' : bits BinOp.and IntKind.u64 ((n / 2 : Nat) : Int) 6148914691236517205 = ((n / 2 &&& 6148914691236517205 : Nat) : Int) := a1
  have a2' : bits BinOp.and IntKind.u64 (n : Int) 6148914691236517205 = ((n &&& 6148914691236517205 : Nat) : Int) := a2
  rw [a1', a2', wrap_small (by omega) (by omega)]
  omega
theorem pc2 (n x : Nat) (hx : x = f1 32 n) (hl : x < 18446744073709551616) : IntKind.u64.wrap (bits BinOp.and IntKind.u64 ((x : Int) / 4) 3689348814741910323 + bits BinOp.and IntKind.u64 (x : Int) 3689348814741910323) = ((f2 16 n : Nat) : Int) ∧ f2 16 n ≤ 7378697629483820646 := by
  have e1 := L2 16 n
  rw [m2_16, show 2 * 16 = 32 by omega, ← hx] at e1
  have a1 := u64_and_nat (x / 4) 3689348814741910323 (by omega) (by omega)
  have a2 := u64_and_nat x 3689348814741910323 hl (by omega)
  have b1 : x / 4 &&& 3689348814741910323 ≤ 3689348814741910323 := Nat.and_le_right
  have b2 : x &&& 3689348814741910323 ≤ 3689348814741910323 := Nat.and_le_right
  rw [show ((x : Int) / 4) = ((x / 4 : Nat) : Int) by omega]
  have a1' : bits BinOp.and IntKind.u64 ((x / 4 : Nat) : Int) 3689348814741910323 = ((x / 4 &&& 3689348814741910323 : Nat) : Int) := a1
  have a2' : bits BinOp.and IntKind.u64 (x : Int) 3689348814741910323 = ((x &&& 3689348814741910323 : Nat) : Int) := a2
  rw [a1', a2', wrap_small (by omega) (by omega)]
  omega
theorem pc3 (n x : Nat) (hx : x = f2 16 n) (hl : x ≤ 7378697629483820646) : bits BinOp.and IntKind.u64 (IntKind.u64.wrap ((x : Int) / 16 + (x : Int))) 1085102592571150095 = ((f3 8 n : Nat) : Int) := by
  have e1 := L3 8 n
  rw [m3_8, show 2 * 8 = 16 by omega, ← hx] at e1
  have a1 := u64_and_nat (x / 16 + x) 1085102592571150095 (by omega) (by omega)
  rw [wrap_small (by omega) (by omega), show ((x : Int) / 16 + (x : Int)) = ((x / 16 + x : Nat) : Int) by omega, ← e1]
  exact a1
theorem pc4 (n x3 : Nat) (hx : x3 = f3 8 n) : ∃ x4 x5 x6 : Nat, IntKind.u64.wrap ((x3 : Int) + (x3 : Int) / 256) = (x4 : Int) ∧ IntKind.u64.wrap ((x4 : Int) + (x4 : Int) / 65536) = (x5 : Int) ∧ IntKind.u64.wrap ((x5 : Int) + (x5 : Int) / 4294967296) = (x6 : Int) ∧ bits .and .i64 (wrap64 (x6 : Int)) 127 = ((popN 64 n : Nat) : Int) := by
  obtain ⟨c0, c1, c2, c3, c4, c5, c6, c7, h0, h1, h2, h3, h4, h5, h6, h7, e, ep⟩ := f3_sum n
  rw [← hx] at e
  clear hx
  obtain ⟨x4, e4⟩ : ∃ x4 : Nat, x4 = x3 + x3 / 256 := ⟨_, rfl⟩
  obtain ⟨x5, e5⟩ : ∃ x5 : Nat, x5 = x4 + x4 / 65536 := ⟨_, rfl⟩
  obtain ⟨x6, e6⟩ : ∃ x6 : Nat, x6 = x5 + x5 / 4294967296 := ⟨_, rfl⟩
  have g4 : x4 = (c0 + c1) + 256 * ((c1 + c2) + 256 * ((c2 + c3) + 256 * ((c3 + c4) + 256 * ((c4 + c5) + 256 * ((c5 + c6) + 256 * ((c6 + c7) + 256 * ((c7)))))))) := by omega
  have g5 : x5 = (c0 + c1 + c2 + c3) + 256 * ((c1 + c2 + c3 + c4) + 256 * ((c2 + c3 + c4 + c5) + 256 * ((c3 + c4 + c5 + c6) + 256 * ((c4 + c5 + c6 + c7) + 256 * ((c5 + c6 + c7) + 256 * ((c6 + c7) + 256 * ((c7)))))))) := by clear e e4; omega
  have g6 : x6 = (c0 + c1 + c2 + c3 + c4 + c5 + c6 + c7) + 256 * ((c1 + c2 + c3 + c4 + c5 + c6 + c7) + 256 * ((c2 + c3 + c4 + c5 + c6 + c7) + 256 * ((c3 + c4 + c5 + c6 + c7) + 256 * ((c4 + c5 + c6 + c7) + 256 * ((c5 + c6 + c7) + 256 * ((c6 + c7) + 256 * ((c7)))))))) := by clear e e4 g4 e5; omega
  have b4 : x4 < 18446744073709551616 := by clear e e4 e5 e6 g5 g6; omega
  have b5 : x5 < 18446744073709551616 := by clear e e4 e5 e6 g4 g6; omega
  have b6 : x6 < 9223372036854775808 := by clear e e4 e5 e6 g4 g5; omega
  have r6 : x6 % 128 = popN 64 n := by rw [ep]; clear e e4 e5 e6 g4 g5 b4 b5 b6; omega
  clear e g4 g5 g6 h0 h1 h2 h3 h4 h5 h6 h7 ep
  have t4 : ((x3 : Int) + (x3 : Int) / 256) = (x4 : Int) := by clear e5 e6 r6; omega
  have t5 : ((x4 : Int) + (x4 : Int) / 65536) = (x5 : Int) := by clear e4 e6 r6 t4; omega
  have t6 : ((x5 : Int) + (x5 : Int) / 4294967296) = (x6 : Int) := by clear e4 e5 r6 t4 t5; omega
  refine ⟨x4, x5, x6, ?_, ?_, ?_, ?_⟩
  · rw [t4]; exact wrap_small (by omega) (by omega)
  · rw [t5]; exact wrap_small (by omega) (by omega)
  · rw [t6]; exact wrap_small (by omega) (by omega)
  · have hw : wrap64 (x6 : Int) = (x6 : Int) := by unfold wrap64; clear e4 e5 e6 t4 t5 t6 r6; omega
    rw [hw, i64_and127, ← r6]; rfl

set_option maxHeartbeats 1000000 in
theorem OnesCount_any (n : Nat) (w : World) (hn : n < 18446744073709551616) :
    Calls Try.prog 49 #[.int .u64 n] w fun e w' => e = .returned (.int .i64 (popN 64 n : Nat)) ∧ w = w' := by
  obtain ⟨e1, l1⟩ := pc1 n hn
  generalize h1 : f1 32 n = x1 at e1 l1
  obtain ⟨e2, l2⟩ := pc2 n x1 h1.symm l1
  generalize h2 : f2 16 n = x2 at e2 l2
  have e3 := pc3 n x2 h2.symm l2
  generalize h3 : f3 8 n = x3 at e3
  obtain ⟨x4, x5, x6, e4, e5, e6, e7⟩ := pc4 n x3 h3.symm
  generalize popN 64 n = r at e7
  clear h1 h2 h3 l1 l2
  have H7 := Lib.hid e7
  clear e7
  go_enter Try.func49, Try.ntmps49
  go_wp2
  go_ret
  exact ⟨ret_int H7.out, rfl⟩

set_option maxHeartbeats 400000 in
theorem Len_any (n : Nat) (w : World) (hn : n < 18446744073709551616) :
    Calls Try.prog 43 #[.int .u64 n] w fun e w' => e = .returned (.int .i64 (popN 64 n : Nat)) ∧ w = w' := by
  go_enter Try.func43, Try.ntmps43
  go_wp2_with (go_at_call 49; refine (OnesCount_any n _ hn).mono ?_; rintro e w' ⟨rfl, rfl⟩)
  go_ret
  exact ⟨rfl, rfl⟩
end Go.Proofs.Ytbeklkgoiigccaa
