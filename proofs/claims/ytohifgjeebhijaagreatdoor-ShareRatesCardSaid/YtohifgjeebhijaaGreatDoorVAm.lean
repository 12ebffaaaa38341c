/-
  Short names for four laws. No condition.
-/
import Derived.Lib.Hide
namespace Go
theorem Hd {p:Prop} (h:p):RowKit.Hid p:=h
theorem lr {n:Nat}:n≤n:=Nat.le_refl n
theorem RowKit.Below.tr {a b c:World} (h:RowKit.Below a.heap.size a b) (k:RowKit.Below b.heap.size b c):RowKit.Below a.heap.size a c:=h.trans (k.mono h.size)
theorem A3 {p:Prop} (h:p:=by omega):p:=h
theorem A4 {p:Prop} (h:p:=by assumption):p:=h
theorem BD {p:Prop} (h:p:=by decide):p:=h
theorem B4 {p:Prop} (h:p:=by simp):p:=h
theorem Cp {p:Prop} (h:p:=by rfl):p:=h
theorem Cq {p:Prop} (h:p:=by simp;omega):p:=h
end Go
