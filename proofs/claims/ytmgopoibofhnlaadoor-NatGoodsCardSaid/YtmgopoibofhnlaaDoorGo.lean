/-
  The walk of NatGoods: for every slice of limbs, and every number, it answers true and leaves all memory as it was. No condition.
-/
import Derived.Test.YtmgopoibofhnlaaDoorLb
namespace Go.Proofs.YtmgopoibofhnlaaDoor
open Go.RowKit Go.Dig Go.Shelf Go.Proofs

set_option maxRecDepth 100000 in
set_option maxHeartbeats 2000000 in
theorem goods_any (v : Value) (l : List Nat) (n : Nat) (w : World) (h : RowA w v l) (hn : n < 18446744073709551616) :
    Calls Tryd.prog 3 #[v, .int .u64 (n : Int)] w fun e w' => e = .returned (.bool true) ∧ Below w.heap.size w w' := by
  have R := Lib.hid h
  have H12 := Lib.hid (awake_any w)
  obtain ⟨ad, cap, rfl, hcap, -⟩ := h.row
  clear h
  by_cases hl : l.length ≤ 20
  · go_enter Tryd.func3, Tryd.ntmps3
    go_wp2_with fail
    refine H12.out.mono ?_
    rintro e w1 ⟨rfl, hb1⟩
    have H14 := Lib.hid (copied_any _ l w1 (R.out.below hb1) (by omega))
    go_wp2_with fail
    refine H14.out.mono ?_
    rintro e w2 ⟨v2, rfl, hv2, hb2⟩
    have hB2 : Below w.heap.size w w2 := hb1.trans (hb2.mono hb1.size)
    have H13 := Lib.hid (nGood_any v2 l w2 hv2 (by omega))
    go_wp2_with fail
    refine H13.out.mono ?_
    rintro e w3 ⟨rfl, rfl⟩
    have H15 := Lib.hid (rGood_any _ l w2 ((R.out.below hB2).row) (by omega))
    go_wp2_with fail
    refine H15.out.mono ?_
    rintro e w3 ⟨rfl, rfl⟩
    have H17 := Lib.hid (nOf_any n w2 hn)
    generalize goodB l = gb
    have hgb : (gb == gb) = true := by simp
    go_wp2_with fail
    refine H17.out.mono ?_
    rintro e w3 ⟨v3, rfl, hv3, hb3⟩
    have hB3 : Below w.heap.size w w3 := hB2.trans (hb3.mono hB2.size)
    have hrow : RowU (w3.alloc (.cells #[.int .u64 (n : Int)] 23)) (.slice (some ⟨w3.heap.size, 0, none⟩) 1 1) [n] :=
      RowU.of_owns (B := w3.heap.size) (World.ownsRow_lit w3 #[.int .u64 (n : Int)] 1 (Nat.le_refl _) (by unfold maxLen; omega) rfl)
    have hb4 : Below w3.heap.size w3 (w3.alloc (.cells #[.int .u64 (n : Int)] 23)) := (Below.refl _ w3).alloc (Nat.le_refl _) _
    have H18 := Lib.hid (Limbs_any _ [n] _ hrow (Small.cons hn Small.nil) (by simp))
    have hVn : V [n] = n := by simp [V, val]
    rw [hVn] at H18
    clear hrow hVn
    go_wp2_with fail
    refine H18.out.mono ?_
    rintro e w5 ⟨v5, rfl, hv5, hb5⟩
    have hB4 := hB3.trans (hb4.mono hB3.size)
    have hB5 : Below w.heap.size w w5 := hB4.trans (hb5.mono hB4.size)
    have hln : (L n).length ≤ 1 := (dig_len (by omega) _ 1).2 (by omega)
    have H16 := Lib.hid (Is_true v3 v5 n w5 ((hv3.below hb4).below hb5) hv5 (by omega))
    go_wp2_with fail
    refine H16.out.mono ?_
    rintro e w6 ⟨rfl, hb6⟩
    go_wp2_with fail
    go_ret
    exact ⟨rfl, hB5.trans (hb6.mono hB5.size)⟩
  · go_enter Tryd.func3, Tryd.ntmps3
    go_wp2_with fail
    refine H12.out.mono ?_
    rintro e w1 ⟨rfl, hb1⟩
    have H12b := Lib.hid (awake_any w1)
    go_wp2_with fail
    refine H12b.out.mono ?_
    rintro e w2 ⟨rfl, hb2⟩
    go_wp2_with fail
    go_ret
    exact ⟨rfl, hb1.trans (hb2.mono hb1.size)⟩
end Go.Proofs.YtmgopoibofhnlaaDoor
