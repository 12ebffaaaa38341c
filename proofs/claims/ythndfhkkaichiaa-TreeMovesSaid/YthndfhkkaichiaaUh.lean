/-
  Contracts of the program's functions that list: slices.Clone, taken, Ids, Len, Room. Condition: the table is one.
-/
import Derived.Test.YthndfhkkaichiaaUf
import Derived.Test.YthndfhkkaichiaaMsh
import Derived.Sort.OwnSortedInts
namespace Go.Proofs.Ythndfhkkaichiaa
open Go.RowKit Go.Sort

set_option maxRecDepth 100000 in
set_option maxHeartbeats 4000000 in
theorem isFree_any (x : Int) (w : World) : Calls Try.prog 74 #[.int .i64 x] w fun e w' => e = .returned (.bool (x == 0)) ∧ ∃ q, w' = w.drewN q := by
  cases h : (x == 0)
  · go_enter Try.func74, Try.ntmps74
    go_wp2_with fail
    go_ret
    exact ⟨rfl, 0, rfl⟩
  · go_enter Try.func74, Try.ntmps74
    go_wp2_with fail
    go_ret
    exact ⟨rfl, 0, rfl⟩
theorem isFree_at (w : World) : PredAt Try.prog 74 #[] (Value.int .i64) (fun x : Int => x == 0) w := fun W x _ => isFree_any x W
theorem isFree_over (b off n : Nat) (w : World) : PredOver Try.prog 74 #[] (Value.int .i64) (fun x : Int => x == 0) b off n w := fun _ _ _ x _ => isFree_any x _
theorem enters33 : ∀ (args : Array Value) (w : World), (callFunc 74 args).run Try.prog w = .ok (.enter 74 args) w := fun args w => by kernel_rfl
theorem zero3 : ∀ w : World, (zeroValue 3).run Try.prog w = .ok (Value.int .i64 0) w := fun w => by kernel_rfl
theorem grow_none (w : World) : Sort.grow w #[] = w := by
  unfold Sort.grow
  rw [Array.append_empty]
theorem cut_row {w : World} {B g n c : Nat} {l ys : List Int} {q : Nat} (h : RowO w B (.slice (some ⟨g, 0, none⟩) n c) l) (hy : ys.length ≤ l.length) (zs : List Int) (hz : (ys ++ zs).length = l.length) :
    RowO (putRow (Value.int .i64) (Sort.ahead w q) g 0 (ys ++ zs).toArray) B (.slice (some ⟨g, 0, none⟩) ys.length c) ys := by
  rcases h.2 with ⟨h0, _⟩ | ⟨g', cap, cur, e, hbg, hg, h3, h4, h5, htake⟩
  · cases h0
  · cases e
    have h6 := heap_sortedI (n := q) (os := #[]) (ys ++ zs).toArray hg
    have h7 : (putCells (Value.int .i64) 0 (ys ++ zs).toArray cur).toList.take (ys.length * 1) = encI ys := by
      have h8 := take_putCellsI cur (ys ++ zs) (by omega)
      have h9 := congrArg (List.take ys.length) h8
      rw [List.take_take, Nat.min_eq_left (by simp)] at h9
      rw [Nat.mul_one, h9]
      simp [encI]
    refine ⟨by simp [encI], .inr ⟨g, c, _, rfl, hbg, ?_, by omega, h4, by simp [putCells, h5], h7⟩⟩
    rwa [grow_none] at h6
theorem grown_row {w : World} {g q : Nat} (d : Array Int) : w.grownBy (putRow (Value.int .i64) (Sort.ahead w q) g 0 d) (some g) := by
  have := grownBy_sortedI (w := w) (g := g) (n := q) (os := #[]) d
  rwa [grow_none] at this
theorem RowO.holds {w : World} {B g n c : Nat} {l : List Int} (h : RowO w B (.slice (some ⟨g, 0, none⟩) n c) l) : Holds (Value.int .i64) w g 0 l.toArray := by
  rcases h.2 with ⟨h0, _⟩ | ⟨g', cap, cur, e, hbg, hg, h3, h4, h5, htake⟩
  · cases h0
  · cases e
    exact holds_of_blockI hg (by simpa [encI] using htake)
theorem eql28 (w : World) (a : Option Addr) (n c : Nat) : (binOp .eql 50 (.slice a n c) (.slice none 0 0)).run Try.prog w = .ok (.bool a.isNone) w := Lib.run_eql_slice_nil w 50 3 a n c 0 0 Try.underlying50
set_option maxRecDepth 100000 in
set_option maxHeartbeats 4000000 in
theorem Clone_any (p g : Nat) (l : List Int) (m : Int) (w : World) (h : IsTab w p g l m) (h1 : 1 ≤ l.length) (h64 : l.length ≤ 64) :
    Calls Try.prog 73 #[.slice (some ⟨g, 0, none⟩) l.length l.length] w fun e w' => (∃ b c, e = .returned (.slice (some ⟨b, 0, none⟩) l.length c) ∧ RowO w' w.heap.size (.slice (some ⟨b, 0, none⟩) l.length c) l) ∧ Below w.heap.size w w' := by
  have q28 := eql28
  have hE := RowO.empty w w.heap.size (Nat.le_refl _)
  have hS : SrcI (w.alloc (.cells #[] 3)) (.slice (some ⟨g, 0, none⟩) l.length l.length) l := by
    have ha := h.alloc (.cells #[] 3)
    exact ⟨_, _, rfl, fun _ => ⟨g, 0, rfl, ha.ltg, fun j hj => by rw [Nat.zero_add]; exact ha.at hj⟩⟩
  have hb : Below w.heap.size w (w.alloc (.cells #[] 3)) := (Below.refl _ w).alloc (Nat.le_refl _) _
  go_enter Try.func73, Try.ntmps73
  go_wp2_with (first | (at_builtin; refine wpList_append rfl _ _ rfl w.heap.size _ _ [] l rfl rfl (by simp) hE hS (by simp; omega) ?_; intro v3 w3 h3 g3; rw [List.nil_append] at h3; obtain ⟨a3, c3, rfl⟩ := h3.sl; obtain ⟨b3, rfl, hb3, hb4, -⟩ := h3.at (j := 0) (by omega)))
  go_ret
  exact ⟨⟨b3, c3, rfl, h3⟩, hb.grown g3 (by simp) (fun j e => (hE.lt j e).1)⟩
set_option maxRecDepth 100000 in
set_option maxHeartbeats 4000000 in
theorem taken_any (p g : Nat) (l : List Int) (m : Int) (w : World) (h : IsTab w p g l m) (n1 : 1 ≤ l.length) (n64 : l.length ≤ 64) :
    Calls Try.prog 59 #[.pointer (some ⟨p, 0, none⟩)] w fun e w' => (∃ b c, e = .returned (.slice (some ⟨b, 0, none⟩) (taken l).length c) ∧ RowO w' w.heap.size (.slice (some ⟨b, 0, none⟩) (taken l).length c) (taken l)) ∧ Below w.heap.size w w' := by
  have h0 := h.c0
  have HC := Lib.hid (Clone_any p g l m w h n1 n64)
  go_enter Try.func59, Try.ntmps59
  go_wp2_with fail
  refine HC.out.mono ?_
  rintro e w1 ⟨⟨b, c, rfl, hr⟩, hb⟩
  clear h0 HC h
  go_wp2_with fail
  obtain ⟨_, _, ec, hc1, hc2⟩ := hr.cap
  obtain ⟨b', eb, hwb, hbs, -⟩ := hr.at (j := 0) (by omega)
  cases ec
  cases eb
  have hD := Try.slices_DeleteFunc (Value.int .i64) (fun _ => rfl) (fun x : Int => x == 0) 74 #[] enters33 0 zero3 b 0 c l.toArray w1 (isFree_at w1) (isFree_over b 0 _ w1) hr.holds (by simp; omega) (by simpa using hc1)
  simp only [List.size_toArray] at hD
  refine hD.mono ?_
  rintro e w2 ⟨rfl, q, rfl⟩
  have hy := taken_len l
  have hz : (taken l ++ List.replicate (l.length - (taken l).length) 0).length = l.length := by simp; omega
  have hr2 := cut_row (q := q) hr hy _ hz
  have hg := grown_row (w := w1) (g := b) (q := q) (taken l ++ List.replicate (l.length - (taken l).length) 0).toArray
  have hb2 : Below w.heap.size w _ := hb.grown hg hb.size (fun j e => by cases e; exact hwb)
  clear hD
  have e1 : (l.filter fun x => !(x == 0)) = taken l := rfl
  rw [e1]
  generalize putRow (Value.int .i64) (Sort.ahead w1 q) b 0 (taken l ++ List.replicate (l.length - (taken l).length) 0).toArray = w3 at *
  go_wp2_with fail
  go_ret
  exact ⟨⟨b, c, rfl, hr2⟩, hb2⟩
set_option maxRecDepth 100000 in
set_option maxHeartbeats 4000000 in
theorem Ids_any (p g : Nat) (l : List Int) (m : Int) (w : World) (h : IsTab w p g l m) (n1 : 1 ≤ l.length) (n64 : l.length ≤ 64) :
    Calls Try.prog 48 #[.pointer (some ⟨p, 0, none⟩)] w fun e w' => (∃ a c, e = .returned (.slice a (idsN l).length c) ∧ RowO w' w.heap.size (.slice a (idsN l).length c) (idsN l)) ∧ Below w.heap.size w w' := by
  have HC := Lib.hid (taken_any p g l m w h n1 n64)
  have hy := taken_len l
  rw [ids_len]
  go_enter Try.func48, Try.ntmps48
  go_wp2_with fail
  refine HC.out.mono ?_
  rintro e w1 ⟨⟨b, c, rfl, hr⟩, hb⟩
  clear HC h
  go_wp2_with fail
  have hbw : w.heap.size ≤ b ∧ b < w1.heap.size := hr.lt b rfl
  refine (Try.slices_Sort_int b 0 c (taken l) w1 hr.holds hbw.2 (by omega)).mono ?_
  rintro e w2 ⟨rfl, q, os, rfl⟩
  have hg := grownBy_sortedI (w := w1) (g := b) (n := q) (os := os) (idsN l).toArray
  have hb2 : Below w.heap.size w _ := hb.grown hg hb.size (fun j e => by cases e; exact hbw.1)
  have hr2 : RowO (Sort.grow (putRow (Value.int .i64) (Sort.ahead w1 q) b 0 (idsN l).toArray) os) w.heap.size (.slice (some ⟨b, 0, none⟩) (taken l).length c) (idsN l) := by
    rcases hr.2 with ⟨h0, _⟩ | ⟨g', cap, cur, e, hbg, hg, h3, h4, h5, htake⟩
    · cases h0
    · cases e
      unfold RowO
      rw [ids_len]
      exact ownsRow_sortedI (ids_len l) hbw.1 hg h3 h4 h5
  have e1 : ((taken l).mergeSort fun x y => decide (x ≤ y)) = idsN l := rfl
  rw [e1]
  generalize Sort.grow (putRow (Value.int .i64) (Sort.ahead w1 q) b 0 (idsN l).toArray) os = w3 at *
  go_wp2_with fail
  go_ret
  exact ⟨⟨some ⟨b, 0, none⟩, c, rfl, hr2⟩, hb2⟩
end Go.Proofs.Ythndfhkkaichiaa
