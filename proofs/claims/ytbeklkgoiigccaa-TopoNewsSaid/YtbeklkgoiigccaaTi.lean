/-
  Contracts of the program's Of and On. Condition: the topology is one.
-/
import Derived.Test.YtbeklkgoiigccaaTh
namespace Go.Proofs.Ytbeklkgoiigccaa
open Go.RowKit

set_option maxRecDepth 100000 in
set_option maxHeartbeats 4000000 in
theorem Of1_is (a b : Nat) (c : Int) (t : Bool) (q : Nat) (w : World) (hq : w.cell? ⟨q, 0, none⟩ = some (.int .i64 c)) (hl : q < w.heap.size) (ha : a < 18446744073709551616) (ht : Hid (hasB a c = t)) :
    Calls Try.prog 41 #[.agg #[.int .u64 (a : Int), .int .u64 (b : Int)], .pointer (some ⟨q, 0, none⟩)] w fun e w' => e = .returned (.bool t) ∧ Below w.heap.size w w' := by
  have hB : Below w.heap.size w (w.alloc (.cells #[.int .u64 (a : Int), .int .u64 (b : Int)] 74)) := (Below.refl _ w).alloc (Nat.le_refl _) _
  have hq2 := (hB.cell (p := ⟨q, 0, none⟩) hl).trans hq
  go_enter Try.func41, Try.ntmps41
  go_wp2_with (go_at_call 27; refine (Has_is a c t _ ha ht).mono ?_; rintro e w1 ⟨rfl, rfl⟩)
  go_ret
  exact ⟨rfl, hB⟩
set_option maxRecDepth 100000 in
set_option maxHeartbeats 4000000 in
theorem Index_any (g cap : Nat) (cs : List Nat) (on : Nat) (c : Int) (p q : Nat) (w : World) (h : IsTopo w p g cs on) (ok : TopoOk cs on) (hq : w.cell? ⟨q, 0, none⟩ = some (.int .i64 c)) (hl : q < w.heap.size) :
    Calls Try.prog 40 #[.slice (some ⟨g, 0, none⟩) cs.length cap, .func (.func 41) #[] #[.pointer (some ⟨q, 0, none⟩)]] w fun e w' => e = .returned (.int .i64 (ofI cs c)) ∧ Below w.heap.size w w' := by
  have hle := ok.good.2.1
  go_enter Try.func40, Try.ntmps40
  go_wp2_with fail
  go_loopw [8] (fun i wr => ∃ k : Nat, k ≤ cs.length ∧ i = .int .i64 k ∧ Hid (k ≤ domN cs c) ∧ IsTopo wr p g cs on ∧ wr.cell? ⟨q, 0, none⟩ = some (.int .i64 c) ∧ Below w.heap.size w wr) (fun i _ => cs.length - (intOf i).toNat)
  case atStart => exact ⟨0, by omega, rfl, Lib.hid (Nat.zero_le _), h, hq, Below.refl _ w⟩
  case round =>
    obtain ⟨k, hk, rfl, HK, hT, hq1, hb⟩ := hrel
    by_cases hlt : k < cs.length
    · have hc1 := hT.cores hlt
      have hc2 := hT.onl hlt
      have hs := hb.size
      have hsm := ok.small k
      have HN : Hid (∀ t, hasB (cs.getD k 0) c = t → if t then domN cs c = k else k + 1 ≤ domN cs c) := Lib.hid (fun t ht => by
        cases t
        · exact dom_on hlt HK.out ht
        · exact dom_here HK.out ht)
      cases hh : hasB (cs.getD k 0) c
      · have HH := Lib.hid hh
        have HD := Lib.hid (HN.out _ hh)
        clear hh HN
        generalize cs.getD k 0 = x at *
        generalize x &&& on = y at *
        go_wp2_with (go_at_call 41; refine (Of1_is x y c false q _ hq1 (by omega) hsm HH).mono ?_; rintro e w2 ⟨rfl, hb2⟩)
        exact ⟨⟨k + 1, by omega, by go_num, Lib.hid (by simpa using HD.out), hT.belowS hb2, (hb2.cell (p := ⟨q, 0, none⟩) (Nat.lt_of_lt_of_le hl hs)).trans hq1, hb.trans (hb2.mono hs)⟩, by simp [intOf]; omega⟩
      · have HH := Lib.hid hh
        have HD := Lib.hid (HN.out _ hh)
        clear hh HN
        generalize cs.getD k 0 = x at *
        generalize x &&& on = y at *
        go_wp2_with (go_at_call 41; refine (Of1_is x y c true q _ hq1 (by omega) hsm HH).mono ?_; rintro e w2 ⟨rfl, hb2⟩)
        go_ret
        have h1 : domN cs c = k := by simpa using HD.out
        exact ⟨by rw [ofI_yes (by omega), h1]; rfl, hb.trans (hb2.mono hs)⟩
    · obtain rfl : k = cs.length := by omega
      go_wp2_with fail
      go_ret
      exact ⟨by rw [ofI_no (by have := HK.out; omega)]; rfl, hb⟩
set_option maxRecDepth 100000 in
set_option maxHeartbeats 4000000 in
theorem Of_yes (p g : Nat) (cs : List Nat) (on : Nat) (c : Int) (w : World) (h : IsTopo w p g cs on) (ok : TopoOk cs on) (hd : domN cs c < cs.length) :
    Calls Try.prog 24 #[.pointer (some ⟨p, 0, none⟩), .int .i64 c] w fun e w' => e = .returned (.tuple #[.int .i64 (domN cs c : Nat), .int .i64 0]) ∧ Below w.heap.size w w' := by
  have hB : Below w.heap.size w (w.alloc (.cells #[.int .i64 c] 3)) := (Below.refl _ w).alloc (Nat.le_refl _) _
  have h2 := h.alloc (.cells #[.int .i64 c] 3)
  obtain ⟨cap, hc, _⟩ := h2.cell
  have hq : (w.alloc (.cells #[.int .i64 c] 3)).cell? ⟨w.heap.size, 0, none⟩ = some (.int .i64 c) := by
    rw [cell_of_row _ w.heap.size 0 _ 3 (0, 0) (heap_alloc_new w _)]; rfl
  have hs : w.heap.size < (w.alloc (.cells #[.int .i64 c] 3)).heap.size := by simp
  have HI := Lib.hid (Index_any g cap cs on c p w.heap.size _ h2 ok hq hs)
  rw [ofI_yes hd] at HI
  generalize domN cs c = d at *
  go_enter Try.func24, Try.ntmps24
  go_wp2_with (go_at_call 40; refine HI.out.mono ?_; rintro e w2 ⟨rfl, hb2⟩)
  go_ret2
  exact ⟨rfl, hB.trans (hb2.mono (Nat.le_of_lt hs))⟩
set_option maxRecDepth 100000 in
set_option maxHeartbeats 4000000 in
theorem Of_no (p g : Nat) (cs : List Nat) (on : Nat) (c : Int) (w : World) (h : IsTopo w p g cs on) (ok : TopoOk cs on) (hd : ¬ domN cs c < cs.length) :
    Calls Try.prog 24 #[.pointer (some ⟨p, 0, none⟩), .int .i64 c] w fun e w' => e = .returned (.tuple #[.int .i64 0, .int .i64 2]) ∧ Below w.heap.size w w' := by
  have hB : Below w.heap.size w (w.alloc (.cells #[.int .i64 c] 3)) := (Below.refl _ w).alloc (Nat.le_refl _) _
  have h2 := h.alloc (.cells #[.int .i64 c] 3)
  obtain ⟨cap, hc, _⟩ := h2.cell
  have hq : (w.alloc (.cells #[.int .i64 c] 3)).cell? ⟨w.heap.size, 0, none⟩ = some (.int .i64 c) := by
    rw [cell_of_row _ w.heap.size 0 _ 3 (0, 0) (heap_alloc_new w _)]; rfl
  have hs : w.heap.size < (w.alloc (.cells #[.int .i64 c] 3)).heap.size := by simp
  have HI := Lib.hid (Index_any g cap cs on c p w.heap.size _ h2 ok hq hs)
  rw [ofI_no hd] at HI
  clear hd
  go_enter Try.func24, Try.ntmps24
  go_wp2_with (go_at_call 40; refine HI.out.mono ?_; rintro e w2 ⟨rfl, hb2⟩)
  go_ret2
  exact ⟨rfl, hB.trans (hb2.mono (Nat.le_of_lt hs))⟩
/-- is a core on? -/
def onB (cs : List Nat) (on : Nat) (c : Int) : Bool := decide (domN cs c < cs.length) && hasB on c
set_option maxRecDepth 100000 in
set_option maxHeartbeats 4000000 in
theorem On_any (p g : Nat) (cs : List Nat) (on : Nat) (c : Int) (w : World) (h : IsTopo w p g cs on) (ok : TopoOk cs on) :
    Calls Try.prog 28 #[.pointer (some ⟨p, 0, none⟩), .int .i64 c] w fun e w' => e = .returned (.bool (onB cs on c)) ∧ Below w.heap.size w w' := by
  have hle := ok.good.2.1
  by_cases hd : domN cs c < cs.length
  · have HB : Hid (onB cs on c = hasB on c) := Lib.hid (by simp [onB, hd])
    have HI := Lib.hid (Of_yes p g cs on c w h ok hd)
    have HH : Hid (hasB (cs.getD (domN cs c) 0 &&& on) c = hasB on c) := Lib.hid (has_and (dom_has hd))
    have hlt : cs.getD (domN cs c) 0 &&& on < 18446744073709551616 := and_lt (ok.small _)
    have HR : Hid (∀ w', IsTopo w' p g cs on → w'.cell? ⟨g, domN cs c * 2 + 1, none⟩ = some (.int .u64 ((cs.getD (domN cs c) 0 &&& on : Nat) : Int))) := Lib.hid (fun w' hT => hT.onl hd)
    generalize cs.getD (domN cs c) 0 &&& on = y at *
    generalize domN cs c = d at *
    go_enter Try.func28, Try.ntmps28
    go_wp2_with (first | (go_at_call 24; refine HI.out.mono ?_; rintro e w2 ⟨rfl, hb2⟩; have hT := h.belowS hb2; obtain ⟨cap, hc, hcap⟩ := hT.cell; have hr := HR.out w2 hT) | (go_at_call 27; refine (Has_is _ c _ _ hlt HH).mono ?_; rintro e w1 ⟨rfl, rfl⟩))
    go_ret
    exact ⟨by rw [HB.out]; rfl, hb2⟩
  · have HB : Hid (onB cs on c = false) := Lib.hid (by simp [onB, hd])
    have HI := Lib.hid (Of_no p g cs on c w h ok hd)
    clear hd
    go_enter Try.func28, Try.ntmps28
    go_wp2_with (go_at_call 24; refine HI.out.mono ?_; rintro e w2 ⟨rfl, hb2⟩)
    go_ret
    exact ⟨by rw [HB.out]; rfl, hb2⟩
end Go.Proofs.Ytbeklkgoiigccaa
