/-
  The program's topology in memory, and contracts of its functions that just read: isDomain, Domains, Cores, Online, Of, On. Condition: the topology is one.
-/
import Derived.Test.YtbeklkgoiigccaaTg
namespace Go.Proofs.Ytbeklkgoiigccaa
open Go.RowKit

/-- at p lies a topology whose domains lie in g. -/
structure IsTopo (w : World) (p g : Nat) (cs : List Nat) (on : Nat) : Prop where
  ptr : ∃ cap, w.heap[p]? = some (.cells #[.slice (some ⟨g, 0, none⟩) cs.length cap] 72 (0, 0)) ∧ cs.length ≤ cap
  row : ∃ cur, w.heap[g]? = some (.cells cur 74 (0, 0)) ∧ cs.length * 2 ≤ cur.size ∧ cur.toList.take (cs.length * 2) = drow cs on
  ne : p ≠ g
section
variable {w w' : World} {p g : Nat} {cs : List Nat} {on : Nat}
theorem IsTopo.ltp (h : IsTopo w p g cs on) : p < w.heap.size := by
  obtain ⟨_, h1, _⟩ := h.ptr
  exact (Array.getElem?_eq_some_iff.1 h1).1
theorem IsTopo.ltg (h : IsTopo w p g cs on) : g < w.heap.size := by
  obtain ⟨_, h1, _⟩ := h.row
  exact (Array.getElem?_eq_some_iff.1 h1).1
theorem IsTopo.same (h : IsTopo w p g cs on) (h1 : w'.heap[p]? = w.heap[p]?) (h2 : w'.heap[g]? = w.heap[g]?) : IsTopo w' p g cs on :=
  ⟨by rw [h1]; exact h.ptr, by rw [h2]; exact h.row, h.ne⟩
theorem IsTopo.below {B : Nat} (h : IsTopo w p g cs on) (hb : Below B w w') (hp : p < B) (hg : g < B) : IsTopo w' p g cs on := h.same (hb.block p hp) (hb.block g hg)
theorem IsTopo.belowS (h : IsTopo w p g cs on) (hb : Below w.heap.size w w') : IsTopo w' p g cs on := h.below hb h.ltp h.ltg
theorem IsTopo.alloc (h : IsTopo w p g cs on) (o : Obj) : IsTopo (w.alloc o) p g cs on := h.same (heap_alloc_old w o h.ltp) (heap_alloc_old w o h.ltg)
theorem IsTopo.turn {c : Nat} (h : IsTopo w p g cs on) (ht : Turn c w w') (hp : p ≠ c) (hg : g ≠ c) : IsTopo w' p g cs on := h.same (ht.block p hp) (ht.block g hg)
theorem IsTopo.cell (h : IsTopo w p g cs on) : ∃ cap, w.cell? ⟨p, 0, none⟩ = some (.slice (some ⟨g, 0, none⟩) cs.length cap) ∧ cs.length ≤ cap := by
  obtain ⟨cap, h1, h2⟩ := h.ptr
  exact ⟨cap, by rw [cell_of_row w p 0 _ 72 (0, 0) h1]; rfl, h2⟩
theorem IsTopo.at (h : IsTopo w p g cs on) {i : Nat} (hi : i < cs.length * 2) : w.cell? ⟨g, i, none⟩ = (drow cs on)[i]? := by
  obtain ⟨cur, h1, h2, h3⟩ := h.row
  rw [cell_of_row w g i _ 74 (0, 0) h1, ← h3, List.getElem?_take, if_pos hi]
  simp
theorem IsTopo.cores (h : IsTopo w p g cs on) {d : Nat} (hd : d < cs.length) : w.cell? ⟨g, d * 2, none⟩ = some (.int .u64 ((cs.getD d 0 : Nat) : Int)) := by
  rw [h.at (by omega), drow_cores cs on d hd]
theorem IsTopo.onl (h : IsTopo w p g cs on) {d : Nat} (hd : d < cs.length) : w.cell? ⟨g, d * 2 + 1, none⟩ = some (.int .u64 ((cs.getD d 0 &&& on : Nat) : Int)) := by
  rw [h.at (by omega), drow_on cs on d hd]
end

set_option maxRecDepth 100000 in
set_option maxHeartbeats 4000000 in
theorem Domains_any (p g : Nat) (cs : List Nat) (on : Nat) (w : World) (h : IsTopo w p g cs on) :
    Calls Try.prog 25 #[.pointer (some ⟨p, 0, none⟩)] w fun e w' => e = .returned (.int .i64 (cs.length : Nat)) ∧ w = w' := by
  obtain ⟨cap, hc, hcap⟩ := h.cell
  go_enter Try.func25, Try.ntmps25
  go_wp2_with fail
  go_ret
  exact ⟨rfl, rfl⟩
set_option maxRecDepth 100000 in
set_option maxHeartbeats 4000000 in
theorem isDomain_any (p g : Nat) (cs : List Nat) (on : Nat) (d : Int) (w : World) (h : IsTopo w p g cs on) :
    Calls Try.prog 36 #[.pointer (some ⟨p, 0, none⟩), .int .i64 d] w fun e w' => e = .returned (.bool (decide (domB cs d))) ∧ w = w' := by
  obtain ⟨cap, hc, hcap⟩ := h.cell
  by_cases h0 : 0 ≤ d
  · by_cases h1 : d < cs.length
    · have HD : Hid (decide (domB cs d) = true) := Lib.hid (by simp [domB, h0, h1])
      go_enter Try.func36, Try.ntmps36
      go_wp2_with fail
      go_ret
      exact ⟨by rw [HD.out]; rfl, rfl⟩
    · have HD : Hid (decide (domB cs d) = false) := Lib.hid (by simp [domB, h0, h1])
      go_enter Try.func36, Try.ntmps36
      go_wp2_with fail
      go_ret
      exact ⟨by rw [HD.out]; rfl, rfl⟩
  · have HD : Hid (decide (domB cs d) = false) := Lib.hid (by simp [domB, h0])
    go_enter Try.func36, Try.ntmps36
    go_wp2_with fail
    go_ret
    exact ⟨by rw [HD.out]; rfl, rfl⟩
theorem isDomain_is (p g : Nat) (cs : List Nat) (on : Nat) (d : Int) (t : Bool) (w : World) (h : IsTopo w p g cs on) (ht : Hid (decide (domB cs d) = t)) :
    Calls Try.prog 36 #[.pointer (some ⟨p, 0, none⟩), .int .i64 d] w fun e w' => e = .returned (.bool t) ∧ w = w' := by rw [← ht.out]; exact isDomain_any p g cs on d w h
theorem domB_nat {cs : List Nat} {d : Nat} (h : d < cs.length) : decide (domB cs (d : Int)) = true := by simp [domB]; omega

set_option maxRecDepth 100000 in
set_option maxHeartbeats 4000000 in
theorem Cores_yes (p g : Nat) (cs : List Nat) (on d : Nat) (w : World) (h : IsTopo w p g cs on) (hd : d < cs.length) :
    Calls Try.prog 26 #[.pointer (some ⟨p, 0, none⟩), .int .i64 (d : Int)] w fun e w' => e = .returned (.tuple #[.int .u64 ((cs.getD d 0 : Nat) : Int), .int .i64 0]) ∧ w = w' := by
  obtain ⟨cap, hc, hcap⟩ := h.cell
  have hr := h.cores hd
  have HD := Lib.hid (domB_nat hd)
  generalize cs.getD d 0 = x at *
  go_enter Try.func26, Try.ntmps26
  go_wp2_with (go_at_call 36; refine (isDomain_is p g cs on d true _ h HD).mono ?_; rintro e w1 ⟨rfl, rfl⟩)
  go_ret2
  exact ⟨rfl, rfl⟩
set_option maxRecDepth 100000 in
set_option maxHeartbeats 4000000 in
theorem Cores_no (p g : Nat) (cs : List Nat) (on : Nat) (d : Int) (w : World) (h : IsTopo w p g cs on) (hd : ¬ domB cs d) :
    Calls Try.prog 26 #[.pointer (some ⟨p, 0, none⟩), .int .i64 d] w fun e w' => e = .returned (.tuple #[.int .u64 0, .int .i64 5]) ∧ w = w' := by
  have HD : Hid (decide (domB cs d) = false) := Lib.hid (by simp [hd])
  go_enter Try.func26, Try.ntmps26
  go_wp2_with (go_at_call 36; refine (isDomain_is p g cs on d false _ h HD).mono ?_; rintro e w1 ⟨rfl, rfl⟩)
  go_ret2
  exact ⟨rfl, rfl⟩
set_option maxRecDepth 100000 in
set_option maxHeartbeats 4000000 in
theorem Online_yes (p g : Nat) (cs : List Nat) (on d : Nat) (w : World) (h : IsTopo w p g cs on) (hd : d < cs.length) :
    Calls Try.prog 15 #[.pointer (some ⟨p, 0, none⟩), .int .i64 (d : Int)] w fun e w' => e = .returned (.tuple #[.int .u64 ((cs.getD d 0 &&& on : Nat) : Int), .int .i64 0]) ∧ w = w' := by
  obtain ⟨cap, hc, hcap⟩ := h.cell
  have hr := h.onl hd
  have HD := Lib.hid (domB_nat hd)
  generalize cs.getD d 0 &&& on = x at *
  go_enter Try.func15, Try.ntmps15
  go_wp2_with (go_at_call 36; refine (isDomain_is p g cs on d true _ h HD).mono ?_; rintro e w1 ⟨rfl, rfl⟩)
  go_ret2
  exact ⟨rfl, rfl⟩
set_option maxRecDepth 100000 in
set_option maxHeartbeats 4000000 in
theorem Online_no (p g : Nat) (cs : List Nat) (on : Nat) (d : Int) (w : World) (h : IsTopo w p g cs on) (hd : ¬ domB cs d) :
    Calls Try.prog 15 #[.pointer (some ⟨p, 0, none⟩), .int .i64 d] w fun e w' => e = .returned (.tuple #[.int .u64 0, .int .i64 5]) ∧ w = w' := by
  have HD : Hid (decide (domB cs d) = false) := Lib.hid (by simp [hd])
  go_enter Try.func15, Try.ntmps15
  go_wp2_with (go_at_call 36; refine (isDomain_is p g cs on d false _ h HD).mono ?_; rintro e w1 ⟨rfl, rfl⟩)
  go_ret2
  exact ⟨rfl, rfl⟩
end Go.Proofs.Ytbeklkgoiigccaa
