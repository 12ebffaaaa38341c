/-
  Short names for six laws of lists. No condition.
-/
namespace Go
theorem gA {α : Type _} {l : List α} {i : Nat} : l.toArray[i]? = l[i]? := List.getElem?_toArray
theorem gB {α : Type _} {a : α} {i : Nat} {l : List α} : (a :: l)[i+1]? = l[i]? := rfl
theorem gC {α : Type _} {a : α} {l : List α} : (a :: l)[0]? = some a := rfl
theorem sA {α : Type _} {l : List α} {i : Nat} {a : α} : l.toArray.setIfInBounds i a = (l.set i a).toArray := List.setIfInBounds_toArray ..
theorem sB {α : Type _} {x : α} {xs : List α} {n : Nat} {a : α} : (x :: xs).set (n+1) a = x :: xs.set n a := rfl
theorem sC {α : Type _} {x : α} {xs : List α} {a : α} : (x :: xs).set 0 a = a :: xs := rfl
end Go
