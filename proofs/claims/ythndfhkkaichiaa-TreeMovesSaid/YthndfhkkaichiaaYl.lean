/-
  What a law's forest of 20 answers, the document's beside it. Condition: it is one.
-/
import Derived.Test.YthndfhkkaichiaaYc
import Derived.Test.YthndfhkkaichiaaYf
namespace Go.Proofs.Ythndfhkkaichiaa
open Go.RowKit Go.Maps

theorem new20 (N : Nat) (hN : N = 20) (w : World) :
    Calls Try.prog 9 #[.int .i64 20] w fun e w' => (∃ fp l, e = .returned (.tuple #[.pointer (some ⟨fp, 0, none⟩), .int .i64 0]) ∧ l.length = N ∧ IsF w' w.heap.size fp [] l 0 0) ∧ Below w.heap.size w w' := by
  subst hN
  exact NewF_yes 20 w (by omega) (by omega)
theorem rnew20 (N : Nat) (hN : N = 20) (w : World) :
    Calls Try.prog 10 #[.int .i64 20] w fun e w' => (∃ v, e = .returned (.tuple #[v, .int .i64 0]) ∧ DocF w' v (N : Int) 0 []) ∧ Below w.heap.size w w' := by
  subst hN
  exact rNew_yes 20 w (by omega) (by omega)
section
variable {W w w' : World} {fp b R : Nat} {L Lr : List Gr} {m k mr : Int}
theorem St.ok (h : St W fp b R w L m k Lr mr) : Ok L m k := by obtain ⟨_, _, hF⟩ := h.F; exact hF.ok
theorem St.idOk (h : St W fp b R w L m k Lr mr) {x : Int} (hh : has L x = true) : I64 x := by
  have h1 := h.ok.id hh
  have h2 := h.ok.mle
  have h3 := h.ok.k1
  exact ⟨by omega, by omega⟩
theorem St.group (h : St W fp b R w L m k Lr mr) {x : Int} (hx : I64 x) (hh : has L x = true) :
    Calls Try.prog 16 #[.pointer (some ⟨fp, 0, none⟩), .int .i64 x] w fun e w' => e = .returned (.tuple #[.agg (cellsU x (gr L x).pa (gr L x).wt (dep L x) (topI L x) (gr L x).me (gr L x).aw), .int .i64 0]) ∧ St W fp b R w' L m k Lr mr ∧ Below w.heap.size w w' := by
  obtain ⟨l, _, hF⟩ := h.F
  refine (Group_yes fp W.heap.size L l m k x w hF hx hh).mono ?_
  rintro e w1 ⟨rfl, hb⟩
  exact ⟨rfl, h.below hb, hb⟩
theorem St.groupNo (h : St W fp b R w L m k Lr mr) {x : Int} (hx : I64 x) (hh : has L x = false) :
    Calls Try.prog 16 #[.pointer (some ⟨fp, 0, none⟩), .int .i64 x] w fun e w' => e = .returned (.tuple #[.agg (cellsU 0 0 0 0 0 0 0), .int .i64 4]) ∧ St W fp b R w' L m k Lr mr ∧ Below w.heap.size w w' := by
  obtain ⟨l, _, hF⟩ := h.F
  refine (Group_no fp W.heap.size L l m k x w hF hx hh).mono ?_
  rintro e w1 ⟨rfl, hb⟩
  exact ⟨rfl, h.below hb, hb⟩
theorem St.kids (h : St W fp b R w L m k Lr mr) {x : Int} (hx : ¬ x = -1) :
    Calls Try.prog 19 #[.pointer (some ⟨fp, 0, none⟩), .int .i64 x] w fun e w' => (∃ a c, e = .returned (.slice a (Proofs.Ythndfhkkaichiaa.kids L x).length c) ∧ RowO w' w.heap.size (.slice a (Proofs.Ythndfhkkaichiaa.kids L x).length c) (Proofs.Ythndfhkkaichiaa.kids L x)) ∧ St W fp b R w' L m k Lr mr ∧ Below w.heap.size w w' := by
  obtain ⟨l, _, hF⟩ := h.F
  refine (Children_any fp W.heap.size L l m k x w hF hx).mono ?_
  rintro e w1 ⟨h1, hb⟩
  exact ⟨h1, h.below hb, hb⟩
theorem St.active (h : St W fp b R w L m k Lr mr) (x : Int) :
    Calls Try.prog 21 #[.pointer (some ⟨fp, 0, none⟩), .int .i64 x] w fun e w' => e = .returned (.int .i64 (actI L x)) ∧ St W fp b R w' L m k Lr mr ∧ Below w.heap.size w w' := by
  obtain ⟨l, _, hF⟩ := h.F
  refine (Active_any fp W.heap.size L l m k x w hF).mono ?_
  rintro e w1 ⟨rfl, hb⟩
  exact ⟨rfl, h.below hb, hb⟩
theorem St.ids (h : St W fp b R w L m k Lr mr) :
    Calls Try.prog 20 #[.pointer (some ⟨fp, 0, none⟩)] w fun e w' => (∃ a c, e = .returned (.slice a (idsG L).length c) ∧ RowO w' w.heap.size (.slice a (idsG L).length c) (idsG L)) ∧ St W fp b R w' L m k Lr mr ∧ Below w.heap.size w w' := by
  obtain ⟨l, _, hF⟩ := h.F
  refine (IdsF_any fp W.heap.size L l m k w hF).mono ?_
  rintro e w1 ⟨h1, hb⟩
  exact ⟨h1, h.below hb, hb⟩
theorem St.isBelow (h : St W fp b R w L m k Lr mr) {x : Int} (hx : I64 x) (t : Int) :
    Calls Try.prog 17 #[.pointer (some ⟨fp, 0, none⟩), .int .i64 x, .int .i64 t] w fun e w' => e = .returned (.bool (belowB L x t)) ∧ St W fp b R w' L m k Lr mr ∧ Below w.heap.size w w' := by
  obtain ⟨l, _, hF⟩ := h.F
  refine (Below_any fp W.heap.size L l m k x t w hF hx).mono ?_
  rintro e w1 ⟨rfl, hb⟩
  exact ⟨rfl, h.below hb, hb⟩
end
theorem ids_has {L : List Gr} {j : Nat} (h : j < (idsG L).length) : has L ((idsG L).getD j 0) = true := has_ids.2 (by
  simp only [List.getD_eq_getElem?_getD, List.getElem?_eq_getElem h, Option.getD_some]
  exact List.getElem_mem h)
end Go.Proofs.Ythndfhkkaichiaa
