import Derived.Shelf.Spec.BitsCarry
import Derived.Test.YtohifgjeebhijaaGreatDoorProg
namespace Go.Proofs
open Go.Shelf
def Tryz.lays25_ren:Go.Shelf.Ren:=⟨fun | 25=>77 | n=>n,fun | 22=>94 | n=>n,fun | n=>n⟩
theorem Tryz.lays25:Go.Proofs.Lays7.n25 Tryz.prog Tryz.lays25_ren:={
 mixed:=by kernel_rfl
 f25:=Tryz.func77.trans (congrArg some (by kernel_rfl))
 t22:=Tryz.underlying94
 a22:=Tryz.isAgg94
 z22:=Tryz.sizeOf94
 v22:=Tryz.zeroValue94
 i22:=by kernel_rfl }
def Tryz.lays26_ren:Go.Shelf.Ren:=⟨fun | 26=>156 | n=>n,fun | 22=>94 | n=>n,fun | n=>n⟩
theorem Tryz.lays26:Go.Proofs.Lays7.n26 Tryz.prog Tryz.lays26_ren:={
 mixed:=by kernel_rfl
 f26:=Tryz.func156.trans (congrArg some (by kernel_rfl))
 t22:=Tryz.underlying94
 a22:=Tryz.isAgg94
 z22:=Tryz.sizeOf94
 v22:=Tryz.zeroValue94
 i22:=by kernel_rfl }
theorem Tryz.add64 (x y c s d:Nat) (hc:c≤1) (hs:(x+y+c) % 18446744073709551616=s) (hd:(x+y+c) / 18446744073709551616=d) (w:World):
  (callFunc 77 #[.int .u64 x,.int .u64 y,.int .u64 c]).run Tryz.prog w= .ok (.value (.tuple #[.int .u64 (s:Int),.int .u64 (d:Int)])) w:=by
 rw[←hs,←hd];exact Any7.bits_Add64 Tryz.lays25 x y c hc w
theorem Tryz.sub64 (x y b s d:Nat) (hb:b≤1) (hs:(x+18446744073709551616 - y - b) % 18446744073709551616=s) (hd:(if x<y+b then 1 else 0)=d) (w:World):
  (callFunc 156 #[.int .u64 x,.int .u64 y,.int .u64 b]).run Tryz.prog w= .ok (.value (.tuple #[.int .u64 (s:Int),.int .u64 (d:Int)])) w:=by
 rw[←hs,←hd];exact Any7.bits_Sub64 Tryz.lays26 x y b hb w
end Go.Proofs
