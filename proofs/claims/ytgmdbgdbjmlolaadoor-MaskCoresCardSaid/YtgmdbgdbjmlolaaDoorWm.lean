/-
  The walk of the statement MaskCores: the iterator of a set's cores, called with the statement's own function. Condition: the table of math/bits lies as its initialiser lays it.
-/
import Derived.Test.YtgmdbgdbjmlolaaDoorWk
import Derived.RangeFuncNested
namespace Go.Proofs.YtgmdbgdbjmlolaaDoor
open Go.RowKit Go.Shelf

set_option maxRecDepth 100000 in
set_option maxHeartbeats 1000000 in
theorem lawfn_any (B b3 g len cap j m : Nat) (c : Int) (W : World) (h7 : Boxed W (B + 2) 4 (.bool true)) (h6 : Boxed W (B + 1) 3 (.int .i64 (j : Int))) (h5 : Boxed W B 22 (.slice (some ⟨g, 0, none⟩) len cap))
    (h3 : Boxed W b3 5 (.int .u8 (m : Int))) (hj : j < len) (hlen : len ≤ 64) (hcell : W.cell? ⟨g, j, none⟩ = some (.int .i64 c)) (hm : m ≤ 255) (hb3 : b3 < B) (t : Bool) (ht : decide ((j : Int) + 1 < (m : Int)) = t) :
    Calls Tryd.prog 27 #[.int .i64 c, .pointer (some ⟨B + 2, 0, none⟩), .pointer (some ⟨B + 1, 0, none⟩), .pointer (some ⟨B, 0, none⟩), .pointer (some ⟨b3, 0, none⟩)] W
      fun e w' => e = .returned (.bool t) ∧ w' = (W.setCell ⟨B + 2, 0, none⟩ (.bool true)).setCell ⟨B + 1, 0, none⟩ (.int .i64 ((j : Int) + 1)) := by
  have c7 := h7.cell
  have f7 := h7.frozen
  have c6 := h6.cell
  have f6 := h6.frozen
  have c5 := h5.cell
  have c3 := h3.cell
  have d61 := (h6.other (B' := B + 2) (by omega) (.bool true))
  have c61 := d61.cell
  have f61 := d61.frozen
  have c71 := (h7.set (.bool true)).cell
  have c72 := ((h7.set (.bool true)).other (B' := B + 1) (by omega) (.int .i64 ((j : Int) + 1))).cell
  have c62 := (d61.set (.int .i64 ((j : Int) + 1))).cell
  have c32 := ((h3.other (B' := B + 2) (by omega) (.bool true)).other (B' := B + 1) (by omega) (.int .i64 ((j : Int) + 1))).cell
  go_enter Tryd.func27, Tryd.ntmps27
  go_wp2_with fail
  go_ret
  exact ⟨rfl, rfl⟩

/-- what the statement's function and the iterator keep: j cores have been told. -/
structure CW (w : World) (B b3 g cap m N j : Nat) (W : World) : Prop where
  h7 : Boxed W (B + 2) 4 (.bool true)
  h6 : Boxed W (B + 1) 3 (.int .i64 (j : Int))
  h5 : Boxed W B 22 (.slice (some ⟨g, 0, none⟩) (coresOf N).length cap)
  h3 : Boxed W b3 5 (.int .u8 (m : Int))
  h8 : Boxed W (B + 3) 25 (.int .u64 N)
  row : ∀ (i c : Nat), (coresOf N)[i]? = some c → W.cell? ⟨g, i, none⟩ = some (.int .i64 (c : Int))
  tab : Tab W
  below : Below w.heap.size w W

theorem CW.step {w : World} {B b3 g cap m N j : Nat} {W : World} (h : CW w B b3 g cap m N j W) (hb3 : b3 < B) (hg : g < B) (hB : w.heap.size ≤ B) (h0 : 0 < w.heap.size) :
    CW w B b3 g cap m N (j + 1) ((W.setCell ⟨B + 2, 0, none⟩ (.bool true)).setCell ⟨B + 1, 0, none⟩ (.int .i64 ((j : Int) + 1))) := by
  have hbe : Below w.heap.size W ((W.setCell ⟨B + 2, 0, none⟩ (.bool true)).setCell ⟨B + 1, 0, none⟩ (.int .i64 ((j : Int) + 1))) :=
    ((Below.refl _ W).setCell (p := ⟨B + 2, 0, none⟩) (by show w.heap.size ≤ B + 2; omega) _).setCell (p := ⟨B + 1, 0, none⟩) (by show w.heap.size ≤ B + 1; omega) _
  refine ⟨((h.h7.set (.bool true)).other (by omega) _), ?_, (h.h5.other (by omega) _).other (by omega) _, (h.h3.other (by omega) _).other (by omega) _, (h.h8.other (by omega) _).other (by omega) _, fun i c hi => ?_, h.tab.below hbe h0, h.below.trans hbe⟩
  · have h1 := (h.h6.other (B' := B + 2) (by omega) (.bool true)).set (.int .i64 ((j : Int) + 1))
    rw [show ((j + 1 : Nat) : Int) = (j : Int) + 1 by omega]
    exact h1
  · rw [World.cell?_setCell_other, World.cell?_setCell_other]
    · exact h.row i c hi
    · intro e; cases e; omega
    · intro e; cases e; omega

set_option maxRecDepth 100000 in
set_option maxHeartbeats 1000000 in
theorem iter_law (w : World) (B b3 g cap m N : Nat) (W : World) (hN : N < 18446744073709551616) (hm : m ≤ 255) (hb3 : b3 < B) (hg : g < B) (hB : w.heap.size ≤ B) (h0 : 0 < w.heap.size) (h : CW w B b3 g cap m N 0 W) :
    Calls Tryd.prog 37 #[.func (.func 27) #[] #[.pointer (some ⟨B + 2, 0, none⟩), .pointer (some ⟨B + 1, 0, none⟩), .pointer (some ⟨B, 0, none⟩), .pointer (some ⟨b3, 0, none⟩)], .pointer (some ⟨B + 3, 0, none⟩)] W
      fun e W' => e = .returned (.tuple #[]) ∧ ∃ k : Nat, k = min (coresOf N).length (max m 1) ∧ CW w B b3 g cap m N k W' := by
  have c8 := h.h8.cell
  have hcl := cores_len N
  go_enter Tryd.func37, Tryd.ntmps37
  go_wp2_with fail
  go_loopw [3] (fun p wr => ∃ (j r : Nat), p = .int .u64 r ∧ r < 18446744073709551616 ∧ Hid ((coresOf N).drop j = coresOf r) ∧ (j = 0 ∨ j < m) ∧ j ≤ (coresOf N).length ∧ CW w B b3 g cap m N j wr) (fun p _ => (intOf p).toNat)
  case atStart => exact ⟨0, N, rfl, hN, Lib.hid rfl, .inl rfl, Nat.zero_le _, h⟩
  case round =>
    obtain ⟨j, r, rfl, hr, Hd, hj, hjl, hW⟩ := hrel
    by_cases hz : r = 0
    · subst hz
      have hlen : (coresOf N).length ≤ j := by
        have h1 := Hd.out
        rw [cores_zero] at h1
        exact List.drop_eq_nil_iff.1 h1
      go_wp2_with fail
      go_end0
      exact ⟨rfl, j, by omega, hW⟩
    · obtain ⟨c, hc⟩ : ∃ c : Nat, c = Lib.ctz 64 r := ⟨_, rfl⟩
      have hstep := cores_step hz hr
      rw [← hc] at hstep
      have hget : (coresOf N)[j]? = some c := by
        have h1 : ((coresOf N).drop j)[0]? = some c := by rw [Hd.out, hstep]; rfl
        rwa [List.getElem?_drop, Nat.add_zero] at h1
      have hjlt : j < (coresOf N).length := (List.getElem?_eq_some_iff.1 hget).1
      have hnext : (coresOf N).drop (j + 1) = coresOf (withoutN r (c : Int)) := by
        rw [← List.drop_drop, Hd.out, hstep]; rfl
      have HF : Hid (firstZ r = (c : Int)) := Lib.hid (by unfold firstZ; rw [if_neg hz, hc])
      have hlt : withoutN r (c : Int) < r := without_lt (by rw [hc]; exact (ctz_facts hz hr).2.1)
      have hlt2 : withoutN r (c : Int) < 18446744073709551616 := by omega
      have hz1 : ((r : Int) != 0) = true := by rw [bne_iff_ne]; omega
      have HN := Lib.hid hnext
      clear hnext hstep hc hz Hd
      have hcell := hW.row j c hget
      have hW2 := hW.step hb3 hg hB h0
      clear hget
      have hfn := lawfn_any B b3 g (coresOf N).length cap j m (c : Int) wr hW.h7 hW.h6 hW.h5 hW.h3 hjlt hcl hcell hm hb3 (decide ((j : Int) + 1 < (m : Int))) rfl
      have HFN := Lib.hid hfn
      clear hfn hcell
      go_wp2_with fail
      refine (First_is r c wr hr HF.out hW.tab).mono ?_
      rintro e w' ⟨rfl, rfl⟩
      cases hd : decide ((j : Int) + 1 < (m : Int))
      · rw [hd] at HFN
        have hd2 : ¬ (j : Int) + 1 < (m : Int) := of_decide_eq_false hd
        clear hd
        go_wp2_with fail
        refine HFN.out.mono ?_
        rintro e W3 ⟨rfl, rfl⟩
        go_wp2_with fail
        refine bodyPost_ret (results_none rfl _ _ _) rfl ?_
        exact ⟨rfl, j + 1, by omega, hW2⟩
      · rw [hd] at HFN
        have hd2 : (j : Int) + 1 < (m : Int) := of_decide_eq_true hd
        clear hd
        go_wp2_with fail
        refine HFN.out.mono ?_
        rintro e W3 ⟨rfl, hW3⟩
        rw [← hW3] at hW2
        clear hW3 HFN
        go_wp2_with fail
        refine (First_is r c W3 hr HF.out hW2.tab).mono ?_
        rintro e w' ⟨rfl, rfl⟩
        go_wp2_with fail
        refine (Without_any r (c : Int) W3 hr).mono ?_
        rintro e w' ⟨rfl, rfl⟩
        go_wp2_with fail
        go_roundw
        case rel => exact ⟨j + 1, withoutN r (c : Int), rfl, hlt2, HN, .inr (by omega), by omega, hW2⟩
        case measure => simp [intOf]; omega

set_option maxHeartbeats 400000 in
theorem iter_none (f : Value) (b8 : Nat) (W : World) (h8 : Boxed W b8 25 (.int .u64 0)) :
    Calls Tryd.prog 37 #[f, .pointer (some ⟨b8, 0, none⟩)] W fun e W' => e = .returned (.tuple #[]) ∧ W = W' := by
  have c8 := h8.cell
  go_enter Tryd.func37, Tryd.ntmps37
  go_wp2_with fail
  refine wp_loop_rounds 1 ?_
  rw [rounds_succ]
  go_wp2_with fail
  go_end0
  exact ⟨rfl, rfl⟩

set_option maxRecDepth 100000 in
set_option maxHeartbeats 2000000 in
theorem cores_more (N m : Nat) (w : World) (hT : Tab w) (hw : 0 < w.heap.size) (hN : N < 18446744073709551616) (hm : m ≤ 255) (hN0 : N ≠ 0) :
    Calls Tryd.prog 6 #[.int .u64 N, .int .u8 m] w fun e w' => e = .returned (.bool true) ∧ Below w.heap.size w w' := by
  have hB0 : Below w.heap.size w (w.alloc (.cells #[.int .u8 (m : Int)] 5)) := (Below.refl _ w).alloc (Nat.le_refl _) _
  have b3 := Boxed.new w 5 (.int .u8 (m : Int))
  have hlen : 0 < (coresOf N).length := by rw [cores_step hN0 hN]; simp
  have hlen64 := cores_len N
  clear hN0
  go_enter Tryd.func6, Tryd.ntmps6
  go_wp2_with fail
  refine (awake_any _ (hT.below hB0 hw) (by simp)).mono ?_
  rintro e w1 ⟨rfl, hb1⟩
  have hB1 : Below w.heap.size w w1 := hB0.trans (hb1.mono (by simp))
  have b31 : Boxed w1 w.heap.size 5 (.int .u8 (m : Int)) := (hb1.block w.heap.size b3.lt).trans b3
  go_wp2_with fail
  refine (Bits_any N _ hN).mono ?_
  rintro e w2 ⟨rfl, hb2⟩
  have hB2 : Below w.heap.size w w2 := hB1.trans (hb2.mono hB1.size)
  have b32 : Boxed w2 w.heap.size 5 (.int .u8 (m : Int)) := (hb2.block w.heap.size b31.lt).trans b31
  go_wp2_with fail
  refine (RefCores_any N w2).mono ?_
  rintro e w3 ⟨v, rfl, hrow, hb3⟩
  have hB3 : Below w.heap.size w w3 := hB2.trans (hb3.mono hB2.size)
  have b33 : Boxed w3 w.heap.size 5 (.int .u8 (m : Int)) := (hb3.block w.heap.size b32.lt).trans b32
  clear hb1 hb2 hb3 b31 b32 hB1 hB2 hB0 b3
  obtain ⟨g, cap, rfl⟩ := Go.Joins.ownsRow_form hrow hlen
  have hg : g < w3.heap.size := ((hrow.lt g rfl).2)
  have hcells : ∀ (i c : Nat), (coresOf N)[i]? = some c → w3.cell? ⟨g, i, none⟩ = some (.int .i64 (c : Int)) := fun i c hi => by
    have h1 := hrow.cellAt i (by have := (List.getElem?_eq_some_iff.1 hi).1; omega)
    rw [List.getElem?_map, hi] at h1
    exact h1
  have HC := Lib.hid hcells
  clear hcells hrow
  go_wp2_with fail
  refine (Cores_any N _).mono ?_
  rintro e w4 ⟨rfl, hw4⟩
  have hCW : CW w w3.heap.size w.heap.size g cap m N 0 w4 := by
    have k5 := Boxed.new w3 22 (.slice (some ⟨g, 0, none⟩) (coresOf N).length cap)
    have k6 := Boxed.new (w3.alloc (.cells #[.slice (some ⟨g, 0, none⟩) (coresOf N).length cap] 22)) 3 (.int .i64 0)
    have k7 := Boxed.new ((w3.alloc (.cells #[.slice (some ⟨g, 0, none⟩) (coresOf N).length cap] 22)).alloc (.cells #[.int .i64 0] 3)) 4 (.bool true)
    have k8 := Boxed.new (((w3.alloc (.cells #[.slice (some ⟨g, 0, none⟩) (coresOf N).length cap] 22)).alloc (.cells #[.int .i64 0] 3)).alloc (.cells #[.bool true] 4)) 25 (.int .u64 N)
    rw [World.size_alloc] at k6
    rw [World.size_alloc, World.size_alloc] at k7
    rw [World.size_alloc, World.size_alloc, World.size_alloc] at k8
    have hbe : Below w3.heap.size w3 w4 := by
      rw [hw4]
      exact ((((Below.refl _ w3).alloc (Nat.le_refl _) _).alloc (by simp) _).alloc (by simp; omega) _).alloc (by simp; omega) _
    have hbw : Below w.heap.size w w4 := hB3.trans (hbe.mono hB3.size)
    refine ⟨?_, ?_, ?_, (hbe.block w.heap.size b33.lt).trans b33, ?_, fun i c hi => (hbe.cell (p := ⟨g, i, none⟩) hg).trans (HC.out i c hi), hT.below hbw hw, hbw⟩
    · rw [hw4]; exact k7.alloc _
    · rw [hw4]; exact (k6.alloc _).alloc _
    · rw [hw4]; exact ((k5.alloc _).alloc _).alloc _
    · rw [hw4]; exact k8
  rw [← hw4] at *
  clear hw4
  simp only [World.size_alloc]
  go_wp2_with fail
  refine (iter_law w w3.heap.size w.heap.size g cap m N w4 hN hm b33.lt hg hB3.size hw hCW).mono ?_
  rintro e w5 ⟨rfl, k, hk, h5⟩
  have c7 : w5.cell? ⟨w3.heap.size + 1 + 1, 0, none⟩ = some (.bool true) := h5.h7.cell
  have c6 : w5.cell? ⟨w3.heap.size + 1, 0, none⟩ = some (.int .i64 (k : Int)) := h5.h6.cell
  have c5 := h5.h5.cell
  have c3 := h5.h3.cell
  have hmm : min ((coresOf N).length : Int) (max (m : Int) 1) = (k : Int) := by omega
  clear hk
  go_wp2_with fail
  go_ret
  exact ⟨rfl, h5.below⟩

set_option maxRecDepth 100000 in
set_option maxHeartbeats 2000000 in
theorem cores_zero_law (m : Nat) (w : World) (hT : Tab w) (hw : 0 < w.heap.size) (hm : m ≤ 255) :
    Calls Tryd.prog 6 #[.int .u64 0, .int .u8 m] w fun e w' => e = .returned (.bool true) ∧ Below w.heap.size w w' := by
  have hB0 : Below w.heap.size w (w.alloc (.cells #[.int .u8 (m : Int)] 5)) := (Below.refl _ w).alloc (Nat.le_refl _) _
  have b3 := Boxed.new w 5 (.int .u8 (m : Int))
  go_enter Tryd.func6, Tryd.ntmps6
  go_wp2_with fail
  refine (awake_any _ (hT.below hB0 hw) (by simp)).mono ?_
  rintro e w1 ⟨rfl, hb1⟩
  have hB1 : Below w.heap.size w w1 := hB0.trans (hb1.mono (by simp))
  have b31 : Boxed w1 w.heap.size 5 (.int .u8 (m : Int)) := (hb1.block w.heap.size b3.lt).trans b3
  go_wp2_with fail
  refine (Bits_any 0 _ (by omega)).mono ?_
  rintro e w2 ⟨rfl, hb2⟩
  have hB2 : Below w.heap.size w w2 := hB1.trans (hb2.mono hB1.size)
  have b32 : Boxed w2 w.heap.size 5 (.int .u8 (m : Int)) := (hb2.block w.heap.size b31.lt).trans b31
  go_wp2_with fail
  refine (RefCores_any 0 w2).mono ?_
  rintro e w3 ⟨v, rfl, hrow, hb3⟩
  have hB3 : Below w.heap.size w w3 := hB2.trans (hb3.mono hB2.size)
  have b33 : Boxed w3 w.heap.size 5 (.int .u8 (m : Int)) := (hb3.block w.heap.size b32.lt).trans b32
  clear hb1 hb2 hb3 b31 b32 hB1 hB2 hB0 b3
  obtain ⟨ad, cap, rfl⟩ : ∃ ad cap, v = .slice ad 0 cap := by
    rw [cores_zero] at hrow
    rcases hrow.2 with ⟨rfl, _⟩ | ⟨g, cap, cur, rfl, _⟩
    · exact ⟨_, _, rfl⟩
    · exact ⟨_, _, rfl⟩
  clear hrow
  go_wp2_with fail
  refine (Cores_any 0 _).mono ?_
  rintro e w4 ⟨rfl, hw4⟩
  have k5 := Boxed.new w3 22 (.slice ad 0 cap)
  have k6 := Boxed.new (w3.alloc (.cells #[.slice ad 0 cap] 22)) 3 (.int .i64 0)
  have k7 := Boxed.new ((w3.alloc (.cells #[.slice ad 0 cap] 22)).alloc (.cells #[.int .i64 0] 3)) 4 (.bool true)
  have k8 := Boxed.new (((w3.alloc (.cells #[.slice ad 0 cap] 22)).alloc (.cells #[.int .i64 0] 3)).alloc (.cells #[.bool true] 4)) 25 (.int .u64 0)
  rw [World.size_alloc] at k6
  rw [World.size_alloc, World.size_alloc] at k7
  rw [World.size_alloc, World.size_alloc, World.size_alloc] at k8
  have hbe : Below w3.heap.size w3 w4 := by
    rw [hw4]
    exact ((((Below.refl _ w3).alloc (Nat.le_refl _) _).alloc (by simp) _).alloc (by simp; omega) _).alloc (by simp; omega) _
  have hbw : Below w.heap.size w w4 := hB3.trans (hbe.mono hB3.size)
  have b34 : Boxed w4 w.heap.size 5 (.int .u8 (m : Int)) := (hbe.block w.heap.size b33.lt).trans b33
  have c3 := b34.cell
  have c7 : w4.cell? ⟨w3.heap.size + 1 + 1, 0, none⟩ = some (.bool true) := by rw [hw4]; exact (k7.alloc _).cell
  have c6 : w4.cell? ⟨w3.heap.size + 1, 0, none⟩ = some (.int .i64 0) := by rw [hw4]; exact ((k6.alloc _).alloc _).cell
  have c5 : w4.cell? ⟨w3.heap.size, 0, none⟩ = some (.slice ad 0 cap) := by rw [hw4]; exact (((k5.alloc _).alloc _).alloc _).cell
  have k8' : Boxed w4 (w3.heap.size + 1 + 1 + 1) 25 (.int .u64 0) := by rw [hw4]; exact k8
  clear hw4 k5 k6 k7 k8 hbe b33 b34
  simp only [World.size_alloc]
  go_wp2_with fail
  refine (iter_none _ (w3.heap.size + 1 + 1 + 1) w4 k8').mono ?_
  rintro e w' ⟨rfl, rfl⟩
  have hmm : min (0 : Int) (max (m : Int) 1) = 0 := by omega
  go_wp2_with fail
  go_ret
  exact ⟨rfl, hbw⟩

/-- MaskCores is true at any set and any bound. -/
theorem cores_any (N m : Nat) (w : World) (hT : Tab w) (hw : 0 < w.heap.size) (hN : N < 18446744073709551616) (hm : m ≤ 255) :
    Calls Tryd.prog 6 #[.int .u64 N, .int .u8 m] w fun e w' => e = .returned (.bool true) ∧ Below w.heap.size w w' := by
  by_cases h : N = 0
  · subst h; exact cores_zero_law m w hT hw hm
  · exact cores_more N m w hT hw hN hm h
end Go.Proofs.YtgmdbgdbjmlolaaDoor
