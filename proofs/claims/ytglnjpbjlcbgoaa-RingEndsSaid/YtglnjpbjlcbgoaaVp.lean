/-
  The program's Nodes, its iterator called with a function of a statement, and Len. Condition: the ring set is one.
-/
import Derived.Test.YtglnjpbjlcbgoaaVi
import Derived.RangeFuncNested
import Derived.RangeFuncBound
import Derived.RangeFuncCalls
import Derived.RangeFuncLeaves
import Derived.RangeFuncBox
import Derived.Shelf.RegionOpen
import Derived.OwnWalkIn
import Derived.TacticsInMore
import Derived.LoopNIn
import Derived.LoopIn
import Derived.Deep.LoopGhost
import Derived.Sort.LoopGhostIn
namespace Go.Proofs.Ytglnjpbjlcbgoaa
open Go.RowKit Go.Shelf
attribute [local go_sem] Oper.semAt_some

/-- the node at i; -1 behind the last one. -/
def stepI (xs : List Nat) (i : Nat) : Int := if i < xs.length then (xs.getD i 0 : Nat) else -1
theorem step_zero (xs : List Nat) : hdI xs = stepI xs 0 := rfl
theorem step_next {N : Nat} {ls : List (List Nat)} (ok : OkL N ls) {k : Int} {i : Nat} (hi : i < (rowI ls k).length) : nextI ls ((rowI ls k).getD i 0 : Nat) = stepI (rowI ls k) (i + 1) := by
  unfold rowI at *
  split at hi
  · rename_i h0
    rw [if_pos h0]
    have h := At.of_lt hi
    obtain ⟨e1, e2⟩ := at_find ok h
    unfold nextI stepI
    rw [e1, e2, at_hasB h]
    simp
  · simp at hi
theorem Nodes_any (p : Nat) (k : Int) (w : World) :
    Calls Try.prog 12 #[.pointer (some ⟨p, 0, none⟩), .int .i64 k] w fun e w' => e = .returned (.func (.func 31) #[] #[.pointer (some ⟨w.heap.size, 0, none⟩), .pointer (some ⟨w.heap.size + 1, 0, none⟩)]) ∧ w' = (w.alloc (.cells #[.pointer (some ⟨p, 0, none⟩)] 24)).alloc (.cells #[.int .i64 k] 3) := by
  go_enter Try.func12, Try.ntmps12
  go_wp2
  go_ret
  exact ⟨by simp, rfl⟩
set_option maxRecDepth 100000 in
set_option maxHeartbeats 4000000 in
/-- the iterator, called with function 29: J i holds while i nodes have been told; Jx: it has said no. -/
theorem each_29 (p g c N b1 b2 : Nat) (k : Int) (ls : List (List Nat)) (c1 c2 c3 : Value) (J Jx : Nat → World → Prop) (ok : OkL N ls)
    (hJ : ∀ i W, J i W → Ring W p g c N ls ∧ W.cell? ⟨b1, 0, none⟩ = some (.pointer (some ⟨p, 0, none⟩)) ∧ W.cell? ⟨b2, 0, none⟩ = some (.int .i64 k)) (hS : ∀ i W W', J i W → Same W W' → J i W')
    (hY : ∀ i W, i < (rowI ls k).length → J i W → Calls Try.prog 29 #[.int .i64 ((rowI ls k).getD i 0 : Nat), c1, c2, c3] W fun e W' => (e = .returned (.bool true) ∧ J (i + 1) W') ∨ (e = .returned (.bool false) ∧ Jx (i + 1) W'))
    (w : World) (h0 : J 0 w) :
    Calls Try.prog 31 #[.func (.func 29) #[] #[c1, c2, c3], .pointer (some ⟨b1, 0, none⟩), .pointer (some ⟨b2, 0, none⟩)] w fun e W' => (∃ v, e = .returned v) ∧ (J (rowI ls k).length W' ∨ ∃ i, i < (rowI ls k).length ∧ Jx (i + 1) W') := by
  have HN : Hid (∀ i, i < (rowI ls k).length → nextI ls ((rowI ls k).getD i 0 : Nat) = stepI (rowI ls k) (i + 1)) := Lib.hid (fun i hi => step_next ok hi)
  have HH : Hid (hdI (rowI ls k) = stepI (rowI ls k) 0) := Lib.hid rfl
  have HY := Lib.hid hY
  have HS := Lib.hid hS
  clear hY hS ok
  generalize hxs : rowI ls k = xs at *
  have HX := Lib.hid hxs
  clear hxs
  obtain ⟨hr, hc1, hc2⟩ := hJ 0 w h0
  go_enter Try.func31, Try.ntmps31
  go_wp2_with fail
  refine (First_any hr k).mono ?_
  rw [HX.out, HH.out]
  rintro e w1 ⟨rfl, s1⟩
  have h1 := HS.out 0 w w1 h0 s1
  clear hr hc1 hc2 h0 s1 HH
  go_wp2_with fail
  go_loopg [4] xs.length (fun q y wr => ∃ (i : Nat) (z : Int), y = .int .i64 z ∧ Hid (i + q = xs.length) ∧ Hid (z = stepI xs i) ∧ Hid (J i wr))
  case atStart => exact ⟨0, _, rfl, Lib.hid (Nat.zero_add _), Lib.hid rfl, Lib.hid h1⟩
  case round =>
    clear h1
    obtain ⟨i, z, rfl, HQ, HZ, HJ⟩ := hrel
    obtain ⟨hr, hc1, hc2⟩ := hJ i wr HJ.out
    by_cases hq : gk = 0
    · have hil : i = xs.length := by have := HQ.out; omega
      obtain rfl : z = -1 := by rw [HZ.out, hil]; exact if_neg (Nat.lt_irrefl _)
      have HE := Lib.hid hil
      clear hil hq HZ HQ
      go_wp2_with fail
      go_end0
      exact ⟨⟨_, rfl⟩, .inl (HE.out ▸ HJ.out)⟩
    · have hil : i < xs.length := by have := HQ.out; omega
      obtain ⟨x, hx⟩ : ∃ x : Nat, x = xs.getD i 0 := ⟨_, rfl⟩
      obtain rfl : z = (x : Int) := by rw [HZ.out, hx]; exact if_pos hil
      have HYi := Lib.hid (HY.out i wr hil HJ.out)
      have HNi := Lib.hid (HN.out i hil)
      rw [← hx] at HYi HNi
      have HIL := Lib.hid hil
      clear hx HZ hil
      have hz : ((x : Int) != -1) = true := bne_tt (by omega)
      go_wp2_with fail
      refine HYi.out.mono ?_
      rintro e w2 (⟨rfl, h2⟩ | ⟨rfl, h2⟩)
      · obtain ⟨hr2, hc12, hc22⟩ := hJ (i + 1) w2 h2
        clear hr hc1 hc2 HJ
        go_wp2_with fail
        refine (Next_any hr2 (x : Int)).mono ?_
        rw [HNi.out]
        rintro e w3 ⟨rfl, s3⟩
        have h3 := HS.out _ _ _ h2 s3
        go_wp2_with fail
        go_roundg (gk - 1)
        case measure => omega
        case rel => exact ⟨i + 1, _, rfl, Lib.hid (by have := HQ.out; omega), Lib.hid rfl, Lib.hid h3⟩
      · go_wp2_with fail
        go_end0
        exact ⟨⟨_, rfl⟩, .inr ⟨i, HIL.out, h2⟩⟩
set_option maxRecDepth 100000 in
set_option maxHeartbeats 4000000 in
/-- the iterator, called with function 23: J i holds while i nodes have been told; Jx: it has said no. -/
theorem each_23 (p g c N b1 b2 : Nat) (k : Int) (ls : List (List Nat)) (c1 c2 c3 : Value) (J Jx : Nat → World → Prop) (ok : OkL N ls)
    (hJ : ∀ i W, J i W → Ring W p g c N ls ∧ W.cell? ⟨b1, 0, none⟩ = some (.pointer (some ⟨p, 0, none⟩)) ∧ W.cell? ⟨b2, 0, none⟩ = some (.int .i64 k)) (hS : ∀ i W W', J i W → Same W W' → J i W')
    (hY : ∀ i W, i < (rowI ls k).length → J i W → Calls Try.prog 23 #[.int .i64 ((rowI ls k).getD i 0 : Nat), c1, c2, c3] W fun e W' => (e = .returned (.bool true) ∧ J (i + 1) W') ∨ (e = .returned (.bool false) ∧ Jx (i + 1) W'))
    (w : World) (h0 : J 0 w) :
    Calls Try.prog 31 #[.func (.func 23) #[] #[c1, c2, c3], .pointer (some ⟨b1, 0, none⟩), .pointer (some ⟨b2, 0, none⟩)] w fun e W' => (∃ v, e = .returned v) ∧ (J (rowI ls k).length W' ∨ ∃ i, i < (rowI ls k).length ∧ Jx (i + 1) W') := by
  have HN : Hid (∀ i, i < (rowI ls k).length → nextI ls ((rowI ls k).getD i 0 : Nat) = stepI (rowI ls k) (i + 1)) := Lib.hid (fun i hi => step_next ok hi)
  have HH : Hid (hdI (rowI ls k) = stepI (rowI ls k) 0) := Lib.hid rfl
  have HY := Lib.hid hY
  have HS := Lib.hid hS
  clear hY hS ok
  generalize hxs : rowI ls k = xs at *
  have HX := Lib.hid hxs
  clear hxs
  obtain ⟨hr, hc1, hc2⟩ := hJ 0 w h0
  go_enter Try.func31, Try.ntmps31
  go_wp2_with fail
  refine (First_any hr k).mono ?_
  rw [HX.out, HH.out]
  rintro e w1 ⟨rfl, s1⟩
  have h1 := HS.out 0 w w1 h0 s1
  clear hr hc1 hc2 h0 s1 HH
  go_wp2_with fail
  go_loopg [4] xs.length (fun q y wr => ∃ (i : Nat) (z : Int), y = .int .i64 z ∧ Hid (i + q = xs.length) ∧ Hid (z = stepI xs i) ∧ Hid (J i wr))
  case atStart => exact ⟨0, _, rfl, Lib.hid (Nat.zero_add _), Lib.hid rfl, Lib.hid h1⟩
  case round =>
    clear h1
    obtain ⟨i, z, rfl, HQ, HZ, HJ⟩ := hrel
    obtain ⟨hr, hc1, hc2⟩ := hJ i wr HJ.out
    by_cases hq : gk = 0
    · have hil : i = xs.length := by have := HQ.out; omega
      obtain rfl : z = -1 := by rw [HZ.out, hil]; exact if_neg (Nat.lt_irrefl _)
      have HE := Lib.hid hil
      clear hil hq HZ HQ
      go_wp2_with fail
      go_end0
      exact ⟨⟨_, rfl⟩, .inl (HE.out ▸ HJ.out)⟩
    · have hil : i < xs.length := by have := HQ.out; omega
      obtain ⟨x, hx⟩ : ∃ x : Nat, x = xs.getD i 0 := ⟨_, rfl⟩
      obtain rfl : z = (x : Int) := by rw [HZ.out, hx]; exact if_pos hil
      have HYi := Lib.hid (HY.out i wr hil HJ.out)
      have HNi := Lib.hid (HN.out i hil)
      rw [← hx] at HYi HNi
      have HIL := Lib.hid hil
      clear hx HZ hil
      have hz : ((x : Int) != -1) = true := bne_tt (by omega)
      go_wp2_with fail
      refine HYi.out.mono ?_
      rintro e w2 (⟨rfl, h2⟩ | ⟨rfl, h2⟩)
      · obtain ⟨hr2, hc12, hc22⟩ := hJ (i + 1) w2 h2
        clear hr hc1 hc2 HJ
        go_wp2_with fail
        refine (Next_any hr2 (x : Int)).mono ?_
        rw [HNi.out]
        rintro e w3 ⟨rfl, s3⟩
        have h3 := HS.out _ _ _ h2 s3
        go_wp2_with fail
        go_roundg (gk - 1)
        case measure => omega
        case rel => exact ⟨i + 1, _, rfl, Lib.hid (by have := HQ.out; omega), Lib.hid rfl, Lib.hid h3⟩
      · go_wp2_with fail
        go_end0
        exact ⟨⟨_, rfl⟩, .inr ⟨i, HIL.out, h2⟩⟩
set_option maxRecDepth 100000 in
set_option maxHeartbeats 4000000 in
/-- the iterator, called with function 13: J i holds while i nodes have been told; Jx: it has said no. -/
theorem each_13 (p g c N b1 b2 : Nat) (k : Int) (ls : List (List Nat)) (c1 c2 : Value) (J Jx : Nat → World → Prop) (ok : OkL N ls)
    (hJ : ∀ i W, J i W → Ring W p g c N ls ∧ W.cell? ⟨b1, 0, none⟩ = some (.pointer (some ⟨p, 0, none⟩)) ∧ W.cell? ⟨b2, 0, none⟩ = some (.int .i64 k)) (hS : ∀ i W W', J i W → Same W W' → J i W')
    (hY : ∀ i W, i < (rowI ls k).length → J i W → Calls Try.prog 13 #[.int .i64 ((rowI ls k).getD i 0 : Nat), c1, c2] W fun e W' => (e = .returned (.bool true) ∧ J (i + 1) W') ∨ (e = .returned (.bool false) ∧ Jx (i + 1) W'))
    (w : World) (h0 : J 0 w) :
    Calls Try.prog 31 #[.func (.func 13) #[] #[c1, c2], .pointer (some ⟨b1, 0, none⟩), .pointer (some ⟨b2, 0, none⟩)] w fun e W' => (∃ v, e = .returned v) ∧ (J (rowI ls k).length W' ∨ ∃ i, i < (rowI ls k).length ∧ Jx (i + 1) W') := by
  have HN : Hid (∀ i, i < (rowI ls k).length → nextI ls ((rowI ls k).getD i 0 : Nat) = stepI (rowI ls k) (i + 1)) := Lib.hid (fun i hi => step_next ok hi)
  have HH : Hid (hdI (rowI ls k) = stepI (rowI ls k) 0) := Lib.hid rfl
  have HY := Lib.hid hY
  have HS := Lib.hid hS
  clear hY hS ok
  generalize hxs : rowI ls k = xs at *
  have HX := Lib.hid hxs
  clear hxs
  obtain ⟨hr, hc1, hc2⟩ := hJ 0 w h0
  go_enter Try.func31, Try.ntmps31
  go_wp2_with fail
  refine (First_any hr k).mono ?_
  rw [HX.out, HH.out]
  rintro e w1 ⟨rfl, s1⟩
  have h1 := HS.out 0 w w1 h0 s1
  clear hr hc1 hc2 h0 s1 HH
  go_wp2_with fail
  go_loopg [4] xs.length (fun q y wr => ∃ (i : Nat) (z : Int), y = .int .i64 z ∧ Hid (i + q = xs.length) ∧ Hid (z = stepI xs i) ∧ Hid (J i wr))
  case atStart => exact ⟨0, _, rfl, Lib.hid (Nat.zero_add _), Lib.hid rfl, Lib.hid h1⟩
  case round =>
    clear h1
    obtain ⟨i, z, rfl, HQ, HZ, HJ⟩ := hrel
    obtain ⟨hr, hc1, hc2⟩ := hJ i wr HJ.out
    by_cases hq : gk = 0
    · have hil : i = xs.length := by have := HQ.out; omega
      obtain rfl : z = -1 := by rw [HZ.out, hil]; exact if_neg (Nat.lt_irrefl _)
      have HE := Lib.hid hil
      clear hil hq HZ HQ
      go_wp2_with fail
      go_end0
      exact ⟨⟨_, rfl⟩, .inl (HE.out ▸ HJ.out)⟩
    · have hil : i < xs.length := by have := HQ.out; omega
      obtain ⟨x, hx⟩ : ∃ x : Nat, x = xs.getD i 0 := ⟨_, rfl⟩
      obtain rfl : z = (x : Int) := by rw [HZ.out, hx]; exact if_pos hil
      have HYi := Lib.hid (HY.out i wr hil HJ.out)
      have HNi := Lib.hid (HN.out i hil)
      rw [← hx] at HYi HNi
      have HIL := Lib.hid hil
      clear hx HZ hil
      have hz : ((x : Int) != -1) = true := bne_tt (by omega)
      go_wp2_with fail
      refine HYi.out.mono ?_
      rintro e w2 (⟨rfl, h2⟩ | ⟨rfl, h2⟩)
      · obtain ⟨hr2, hc12, hc22⟩ := hJ (i + 1) w2 h2
        clear hr hc1 hc2 HJ
        go_wp2_with fail
        refine (Next_any hr2 (x : Int)).mono ?_
        rw [HNi.out]
        rintro e w3 ⟨rfl, s3⟩
        have h3 := HS.out _ _ _ h2 s3
        go_wp2_with fail
        go_roundg (gk - 1)
        case measure => omega
        case rel => exact ⟨i + 1, _, rfl, Lib.hid (by have := HQ.out; omega), Lib.hid rfl, Lib.hid h3⟩
      · go_wp2_with fail
        go_end0
        exact ⟨⟨_, rfl⟩, .inr ⟨i, HIL.out, h2⟩⟩
end Go.Proofs.Ytglnjpbjlcbgoaa
