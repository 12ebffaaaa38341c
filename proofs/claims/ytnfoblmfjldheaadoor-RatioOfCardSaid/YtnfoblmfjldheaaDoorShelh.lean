/-
  Two contracts of Go's library at this program's numbers: math/bits.Add64, math/bits.Sub64; each out of the library's own contract by one application. Condition: the carry is 0 or 1.
-/
import Derived.Shelf.Spec.BitsCarry
import Derived.Test.YtnfoblmfjldheaaDoorProg
namespace Go.Proofs
open Go.Shelf
def Tryd.lays25_ren : Go.Shelf.Ren := ⟨fun | 25 => 75 | n => n, fun | 22 => 64 | n => n, fun | n => n⟩
theorem Tryd.lays25 : Go.Proofs.Lays7.n25 Tryd.prog Tryd.lays25_ren := {
  mixed := by kernel_rfl
  f25 := Tryd.func75.trans (congrArg some (by kernel_rfl))
  t22 := Tryd.underlying64
  a22 := Tryd.isAgg64
  z22 := Tryd.sizeOf64
  v22 := Tryd.zeroValue64
  i22 := by kernel_rfl }
def Tryd.lays26_ren : Go.Shelf.Ren := ⟨fun | 26 => 69 | n => n, fun | 22 => 64 | n => n, fun | n => n⟩
theorem Tryd.lays26 : Go.Proofs.Lays7.n26 Tryd.prog Tryd.lays26_ren := {
  mixed := by kernel_rfl
  f26 := Tryd.func69.trans (congrArg some (by kernel_rfl))
  t22 := Tryd.underlying64
  a22 := Tryd.isAgg64
  z22 := Tryd.sizeOf64
  v22 := Tryd.zeroValue64
  i22 := by kernel_rfl }
/-- the sum of two limbs and a carry: its limb, and what is carried. -/
theorem Tryd.add64 (x y c s d : Nat) (hc : c ≤ 1) (hs : (x + y + c) % 18446744073709551616 = s) (hd : (x + y + c) / 18446744073709551616 = d) (w : World) :
    (callFunc 75 #[.int .u64 x, .int .u64 y, .int .u64 c]).run Tryd.prog w = .ok (.value (.tuple #[.int .u64 (s : Int), .int .u64 (d : Int)])) w := by
  rw [← hs, ← hd]; exact Any7.bits_Add64 Tryd.lays25 x y c hc w
/-- the difference of two limbs and a borrow: its limb, and what is borrowed. -/
theorem Tryd.sub64 (x y b s d : Nat) (hb : b ≤ 1) (hs : (x + 18446744073709551616 - y - b) % 18446744073709551616 = s) (hd : (if x < y + b then 1 else 0) = d) (w : World) :
    (callFunc 69 #[.int .u64 x, .int .u64 y, .int .u64 b]).run Tryd.prog w = .ok (.value (.tuple #[.int .u64 (s : Int), .int .u64 (d : Int)])) w := by
  rw [← hs, ← hd]; exact Any7.bits_Sub64 Tryd.lays26 x y b hb w
end Go.Proofs
