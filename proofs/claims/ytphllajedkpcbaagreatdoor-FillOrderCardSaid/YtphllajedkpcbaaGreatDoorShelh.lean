/-
  Two contracts of Go's library at this program's numbers: math/bits.Add64, math/bits.Sub64; each out of the library's own contract by one application. Condition: the carry is 0 or 1.
-/
import Derived.Shelf.Spec.BitsCarry
import Derived.Test.YtphllajedkpcbaaGreatDoorProg
namespace Go.Proofs
open Go.Shelf
def Tryz.lays25_ren : Go.Shelf.Ren := ⟨fun | 25 => 65 | n => n, fun | 22 => 56 | n => n, fun | n => n⟩
theorem Tryz.lays25 : Go.Proofs.Lays7.n25 Tryz.prog Tryz.lays25_ren := {
  mixed := by kernel_rfl
  f25 := Tryz.func65.trans (congrArg some (by kernel_rfl))
  t22 := Tryz.underlying56
  a22 := Tryz.isAgg56
  z22 := Tryz.sizeOf56
  v22 := Tryz.zeroValue56
  i22 := by kernel_rfl }
def Tryz.lays26_ren : Go.Shelf.Ren := ⟨fun | 26 => 109 | n => n, fun | 22 => 56 | n => n, fun | n => n⟩
theorem Tryz.lays26 : Go.Proofs.Lays7.n26 Tryz.prog Tryz.lays26_ren := {
  mixed := by kernel_rfl
  f26 := Tryz.func109.trans (congrArg some (by kernel_rfl))
  t22 := Tryz.underlying56
  a22 := Tryz.isAgg56
  z22 := Tryz.sizeOf56
  v22 := Tryz.zeroValue56
  i22 := by kernel_rfl }
/-- the sum of two limbs and a carry: its limb, and what is carried. -/
theorem Tryz.add64 (x y c s d : Nat) (hc : c ≤ 1) (hs : (x + y + c) % 18446744073709551616 = s) (hd : (x + y + c) / 18446744073709551616 = d) (w : World) :
    (callFunc 65 #[.int .u64 x, .int .u64 y, .int .u64 c]).run Tryz.prog w = .ok (.value (.tuple #[.int .u64 (s : Int), .int .u64 (d : Int)])) w := by
  rw [← hs, ← hd]; exact Any7.bits_Add64 Tryz.lays25 x y c hc w
/-- the difference of two limbs and a borrow: its limb, and what is borrowed. -/
theorem Tryz.sub64 (x y b s d : Nat) (hb : b ≤ 1) (hs : (x + 18446744073709551616 - y - b) % 18446744073709551616 = s) (hd : (if x < y + b then 1 else 0) = d) (w : World) :
    (callFunc 109 #[.int .u64 x, .int .u64 y, .int .u64 b]).run Tryz.prog w = .ok (.value (.tuple #[.int .u64 (s : Int), .int .u64 (d : Int)])) w := by
  rw [← hs, ← hd]; exact Any7.bits_Sub64 Tryz.lays26 x y b hb w
end Go.Proofs
