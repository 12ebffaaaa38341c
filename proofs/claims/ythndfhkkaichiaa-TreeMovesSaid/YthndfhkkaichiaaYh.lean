/-
  Two structs that are equal; a move in what a law keeps. No condition.
-/
import Derived.Test.YthndfhkkaichiaaYl
import Derived.Laws.StructEq
namespace Go.Proofs.Ythndfhkkaichiaa
open Go.RowKit Go.Maps

theorem fields44 : Try.prog.underlying 44 = some (.struct (Try.prog.fieldsOf 44)) := by kernel_rfl
theorem held44 : Try.prog.stoodInHeld 44 = false := by kernel_rfl
set_option maxRecDepth 10000 in
theorem eql44 (a b c d e f g : Int) (w : World) : (binOp .eql 44 (.agg #[.int .i64 a, .int .i64 b, .int .i64 c, .int .i64 d, .int .i64 e, .int .i64 f, .int .i64 g]) (.agg #[.int .i64 a, .int .i64 b, .int .i64 c, .int .i64 d, .int .i64 e, .int .i64 f, .int .i64 g])).run Try.prog w = .ok (.bool true) w := by
  have hi : ∀ (x : Int) (W : World), (Op.equalIn 9999 3 (.int .i64 x) (.int .i64 x)).run Try.prog W = .ok true W := by
    intro x W
    rw [run_equalIn_int W 9998 3 _ .i64 x x Try.underlying3]
    simp
  rw [run_eql_struct, run_equalIn_agg w 9999 44 _ _ fields44 held44]
  unfold Program.fieldsOf
  rw [Try.underlying44]
  simp [Op.eqFields, part, hi]
theorem eqlU (a b c d e f g : Int) (w : World) : (binOp .eql 44 (.agg (cellsU a b c d e f g)) (.agg (cellsU a b c d e f g))).run Try.prog w = .ok (.bool true) w := eql44 a b c d e f g w
section
variable {W w w' : World} {fp b R : Nat} {L Lr : List Gr} {m k mr : Int}
theorem RowO.wr {ts : List Nat} {B B' : Nat} {v : Value} {l : List Int} (h : RowO w B v l) (hw : Wr ts B' w w') (h3 : 3 ∉ ts) : RowO w' B v l :=
  h.same fun k cur hb _ => hw.typ k cur 3 (0, 0) hb h3
theorem St.move (h : St W fp b R w L m k Lr mr) {x p : Int} (hx : I64 x) (hp : I64 p) (hk : k < 1000) :
    Calls Try.prog 15 #[.pointer (some ⟨fp, 0, none⟩), .int .i64 x, .int .i64 p] w fun e w' => e = .returned (.int .i64 (moveC L x p)) ∧ St W fp b R w' (moveN L x p) m (k + 1) Lr mr ∧ Wr [77] W.heap.size w w' := by
  obtain ⟨l, hl, hF⟩ := h.F
  refine (Move_any fp W.heap.size L l m k x p w hF hx hp hk).mono ?_
  rintro e w1 ⟨rfl, h1, h2⟩
  exact ⟨rfl, h.act ⟨l, hl, h1⟩ h2 (by decide) (by decide), h2⟩
theorem St.isIt {a : Option Addr} {c : Nat} (h : St W fp b R w L m k L m) (hr : RowG w (.slice a L.length c) L) :
    Calls Try.prog 12 #[.pointer (some ⟨fp, 0, none⟩), .agg (cellsF (R : Int) m (.slice a L.length c))] w fun e w' => e = .returned (.bool true) ∧ Below w.heap.size w w' := by
  obtain ⟨l, hl, hF⟩ := h.F
  subst hl
  exact Is_any fp W.heap.size (R := l.length) a c L l m k w hF hr
end
/-- the ids below a group. -/
def bel (L : List Gr) (x : Int) (V : List Int) : List Int := V.filter fun y => belowB L y x
theorem bel_yes {L : List Gr} {x : Int} {V : List Int} {j : Nat} (h : j < V.length) (hb : belowB L (V.getD j 0) x = true) : bel L x (V.take (j + 1)) = bel L x (V.take j) ++ [V.getD j 0] := by
  unfold bel
  rw [List.take_succ_eq_append_getElem h, List.filter_append]
  have e : V[j] = V.getD j 0 := by simp [List.getD, h]
  rw [e, List.filter_cons_of_pos (p := fun y => belowB L y x) hb]
  rfl
theorem bel_no {L : List Gr} {x : Int} {V : List Int} {j : Nat} (h : j < V.length) (hb : belowB L (V.getD j 0) x = false) : bel L x (V.take (j + 1)) = bel L x (V.take j) := by
  unfold bel
  rw [List.take_succ_eq_append_getElem h, List.filter_append]
  have e : V[j] = V.getD j 0 := by simp [List.getD, h]
  rw [e, List.filter_cons_of_neg (p := fun y => belowB L y x) (by simp only [hb]; decide)]
  simp
theorem bel_len (L : List Gr) (x : Int) (V : List Int) : (bel L x V).length ≤ V.length := List.length_filter_le _ _
theorem bel_at {L : List Gr} {x : Int} {V : List Int} {j : Nat} (h : j < (bel L x V).length) : belowB L ((bel L x V).getD j 0) x = true ∧ (bel L x V).getD j 0 ∈ V := by
  have hm : (bel L x V).getD j 0 ∈ bel L x V := by
    simp only [List.getD_eq_getElem?_getD, List.getElem?_eq_getElem h, Option.getD_some]
    exact List.getElem_mem h
  have := List.mem_filter.1 hm
  exact ⟨this.2, this.1⟩
end Go.Proofs.Ythndfhkkaichiaa
