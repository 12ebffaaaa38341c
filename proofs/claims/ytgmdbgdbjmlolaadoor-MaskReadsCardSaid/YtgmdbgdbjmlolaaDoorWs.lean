/-
  The walk of MaskTexts. Conditions: the tables and variables of Go's library lie as the rows say.
-/
import Derived.Test.YtgmdbgdbjmlolaaDoorWr
import Derived.Test.YtgmdbgdbjmlolaaDoorWp
namespace Go.Proofs.YtgmdbgdbjmlolaaDoor
open Go.RowKit Go.Shelf

theorem textOf_len {N : Nat} (hN : N < 18446744073709551616) : (textOf N).length ≤ 400 := by
  rw [textTo_all hN]
  have := textTo_len (N := N) (k := 64) hN (by omega)
  split
  · simp
  · omega

set_option maxRecDepth 100000 in
set_option maxHeartbeats 2000000 in
theorem texts_any (N : Nat) (hN : N < 18446744073709551616) (w : World) (hw : Rw w) :
    Calls Tryd.prog 7 #[.int .u64 N] w fun e w' => e = .returned (.bool true) ∧ Below w.heap.size w w' := by
  have hl := textOf_len hN
  have H28 := Lib.hid (fun W h1 h2 => Text_any N hN W h1 h2)
  have H29 := Lib.hid (fun W (h : Rw W) => Read_any (textOf N) W hl h)
  have H30 := Lib.hid (fun W => RefText_any N hN W)
  rw [read_mask hN] at H29
  unfold encS at H28 H29 H30
  unfold readVals at H29
  generalize textOf N = t at hl H28 H29 H30
  have htt : (t == t) = true := beq_self_eq_true t
  go_enter Tryd.func7, Tryd.ntmps7
  go_wp2_with fail
  refine (awake_any w hw.tab (by have := hw.size; omega)).mono ?_
  rintro e w1 ⟨rfl, hb1⟩
  have hw1 := hw.below hb1 hw.size
  go_wp2_with fail
  refine (H28.out w1 hw1.tab (by have := hw1.size; omega)).mono ?_
  rintro e w2 ⟨rfl, hb2⟩
  have hw2 := hw1.below hb2 hw1.size
  have hB2 := hb1.trans (hb2.mono hb1.size)
  go_wp2_with fail
  refine (H29.out w2 hw2).mono ?_
  rintro e w3 ⟨rfl, hb3⟩
  have hw3 := hw2.below hb3 hw2.size
  have hB3 := hB2.trans (hb3.mono hB2.size)
  go_wp2_with fail
  refine (Bits_any N w3 hN).mono ?_
  rintro e w4 ⟨rfl, hb4⟩
  have hB4 := hB3.trans (hb4.mono hB3.size)
  go_wp2_with fail
  refine (H30.out w4).mono ?_
  rintro e w5 ⟨rfl, hb5⟩
  have hB5 := hB4.trans (hb5.mono hB4.size)
  go_wp2_with fail
  go_ret
  exact ⟨rfl, hB5⟩
end Go.Proofs.YtgmdbgdbjmlolaaDoor
