/-
  Whether limbs that are none are a ratio. No condition.
-/
import Derived.Test.YtnfoblmfjldheaaDoorQf
namespace Go.Proofs.YtnfoblmfjldheaaDoor
open Go.RowKit Go.Dig Go.Shelf Go.Proofs

theorem RowU.slg {w : World} {v : Value} {l : List Nat} (h : RowU w v l) : ∃ p : Sl, v = .slice p.a p.n p.c ∧ RowU w (.slice p.a p.n p.c) l := by
  obtain ⟨a, c, rfl, h1, h2⟩ := h
  exact ⟨⟨a, l.length, c⟩, rfl, ⟨a, c, rfl, h1, h2⟩⟩
abbrev RL (w : World) (p : Sl) (l : List Nat) : Prop := RowU w (.slice p.a p.n p.c) l
set_option maxRecDepth 100000 in
set_option maxHeartbeats 4000000 in
theorem qgood_no1 (a1 b1 : Sl) (l11 l12 : List Nat) (w : World) (ra1 : RL w a1 l11) (rb1 : RL w b1 l12) (K1 : Hid (l11.length ≤ 1000000)) (HG1 : Hid (goodB l11 = false)) :
    Calls Tryd.prog 15 #[.agg #[.slice a1.a a1.n a1.c, .slice b1.a b1.n b1.c]] w fun e w' => e = .returned (.bool false) ∧ Below w.heap.size w w' := by
  go_enter Tryd.func15, Tryd.ntmps15
  have hb : Below w.heap.size w (w.alloc (.cells #[.slice a1.a a1.n a1.c, .slice b1.a b1.n b1.c] 30)) := ((Below.refl _ _).alloc (Nat.le_refl _) _)
  replace ra1 := ra1.below hb
  replace rb1 := rb1.below hb
  have hB := hb
  have P1 : Pair (w.alloc (.cells #[.slice a1.a a1.n a1.c, .slice b1.a b1.n b1.c] 30)) (w.heap.size) 30 (.slice a1.a a1.n a1.c) (.slice b1.a b1.n b1.c) := by
    have h := Pair.new w 30 (.slice a1.a a1.n a1.c) (.slice b1.a b1.n b1.c)
    simpa only [World.size_alloc] using h
  clear hb
  have c0P1 := P1.c0
  have c1P1 := P1.c1
  have H2 := Lib.hid (nGood_any (.slice a1.a a1.n a1.c) l11 (w.alloc (.cells #[.slice a1.a a1.n a1.c, .slice b1.a b1.n b1.c] 30)) ra1 K1.out)
  rw [HG1.out] at H2
  go_wp2_with fail
  clear c0P1 c1P1
  refine H2.out.mono ?_
  rintro e w3 ⟨rfl, rfl⟩
  clear H2
  have c0P1 := P1.c0
  have c1P1 := P1.c1
  go_wp2_with fail
  go_ret
  exact ⟨rfl, hB⟩

set_option maxRecDepth 100000 in
set_option maxHeartbeats 4000000 in
theorem qgood_no2 (a1 b1 : Sl) (l11 l12 : List Nat) (w : World) (ra1 : RL w a1 l11) (rb1 : RL w b1 l12) (K1 : Hid (l11.length ≤ 1000000)) (K2 : Hid (l12.length ≤ 1000000)) (HG1 : Hid (goodB l11 = true)) (HG2 : Hid (goodB l12 = false)) :
    Calls Tryd.prog 15 #[.agg #[.slice a1.a a1.n a1.c, .slice b1.a b1.n b1.c]] w fun e w' => e = .returned (.bool false) ∧ Below w.heap.size w w' := by
  go_enter Tryd.func15, Tryd.ntmps15
  have hb : Below w.heap.size w (w.alloc (.cells #[.slice a1.a a1.n a1.c, .slice b1.a b1.n b1.c] 30)) := ((Below.refl _ _).alloc (Nat.le_refl _) _)
  replace ra1 := ra1.below hb
  replace rb1 := rb1.below hb
  have hB := hb
  have P1 : Pair (w.alloc (.cells #[.slice a1.a a1.n a1.c, .slice b1.a b1.n b1.c] 30)) (w.heap.size) 30 (.slice a1.a a1.n a1.c) (.slice b1.a b1.n b1.c) := by
    have h := Pair.new w 30 (.slice a1.a a1.n a1.c) (.slice b1.a b1.n b1.c)
    simpa only [World.size_alloc] using h
  clear hb
  have c0P1 := P1.c0
  have c1P1 := P1.c1
  have H2 := Lib.hid (nGood_any (.slice a1.a a1.n a1.c) l11 (w.alloc (.cells #[.slice a1.a a1.n a1.c, .slice b1.a b1.n b1.c] 30)) ra1 K1.out)
  rw [HG1.out] at H2
  go_wp2_with fail
  clear c0P1 c1P1
  refine H2.out.mono ?_
  rintro e w3 ⟨rfl, rfl⟩
  clear H2
  have c0P1 := P1.c0
  have c1P1 := P1.c1
  have H4 := Lib.hid (nGood_any (.slice b1.a b1.n b1.c) l12 (w.alloc (.cells #[.slice a1.a a1.n a1.c, .slice b1.a b1.n b1.c] 30)) rb1 K2.out)
  rw [HG2.out] at H4
  go_wp2_with fail
  clear c0P1 c1P1
  refine H4.out.mono ?_
  rintro e w5 ⟨rfl, rfl⟩
  clear H4
  have c0P1 := P1.c0
  have c1P1 := P1.c1
  go_wp2_with fail
  go_ret
  exact ⟨rfl, hB⟩

set_option maxRecDepth 100000 in
set_option maxHeartbeats 4000000 in
theorem qgood_no3 (a1 b1 : Sl) (l11 : List Nat) (w : World) (ra1 : RL w a1 l11) (rb1 : RL w b1 (L 0)) (K1 : Hid (l11.length ≤ 1000000)) (K2 : Hid ((L 0).length ≤ 1000000)) (HG1 : Hid (goodB l11 = true)) (HG2 : Hid (goodB (L 0) = true)) :
    Calls Tryd.prog 15 #[.agg #[.slice a1.a a1.n a1.c, .slice b1.a b1.n b1.c]] w fun e w' => e = .returned (.bool false) ∧ Below w.heap.size w w' := by
  go_enter Tryd.func15, Tryd.ntmps15
  have hb : Below w.heap.size w (w.alloc (.cells #[.slice a1.a a1.n a1.c, .slice b1.a b1.n b1.c] 30)) := ((Below.refl _ _).alloc (Nat.le_refl _) _)
  replace ra1 := ra1.below hb
  replace rb1 := rb1.below hb
  have hB := hb
  have P1 : Pair (w.alloc (.cells #[.slice a1.a a1.n a1.c, .slice b1.a b1.n b1.c] 30)) (w.heap.size) 30 (.slice a1.a a1.n a1.c) (.slice b1.a b1.n b1.c) := by
    have h := Pair.new w 30 (.slice a1.a a1.n a1.c) (.slice b1.a b1.n b1.c)
    simpa only [World.size_alloc] using h
  clear hb
  have c0P1 := P1.c0
  have c1P1 := P1.c1
  have H2 := Lib.hid (nGood_any (.slice a1.a a1.n a1.c) l11 (w.alloc (.cells #[.slice a1.a a1.n a1.c, .slice b1.a b1.n b1.c] 30)) ra1 K1.out)
  rw [HG1.out] at H2
  go_wp2_with fail
  clear c0P1 c1P1
  refine H2.out.mono ?_
  rintro e w3 ⟨rfl, rfl⟩
  clear H2
  have c0P1 := P1.c0
  have c1P1 := P1.c1
  have H4 := Lib.hid (nGood_any (.slice b1.a b1.n b1.c) (L 0) (w.alloc (.cells #[.slice a1.a a1.n a1.c, .slice b1.a b1.n b1.c] 30)) rb1 K2.out)
  rw [HG2.out] at H4
  go_wp2_with fail
  clear c0P1 c1P1
  refine H4.out.mono ?_
  rintro e w5 ⟨rfl, rfl⟩
  clear H4
  have c0P1 := P1.c0
  have c1P1 := P1.c1
  have H6 := Lib.hid (isZero_nat (.slice b1.a b1.n b1.c) 0 (w.alloc (.cells #[.slice a1.a a1.n a1.c, .slice b1.a b1.n b1.c] 30)) rb1 (by show (0 : Nat) ≤ 1000; omega) true rfl)
  go_wp2_with fail
  clear c0P1 c1P1
  refine H6.out.mono ?_
  rintro e w7 ⟨rfl, hb⟩
  clear H6
  replace P1 := P1.below hb
  replace ra1 := ra1.below hb
  replace rb1 := rb1.below hb
  replace hB := hB.trans (hb.mono hB.size)
  clear hb
  have c0P1 := P1.c0
  have c1P1 := P1.c1
  go_wp2_with fail
  go_ret
  exact ⟨rfl, hB⟩

end Go.Proofs.YtnfoblmfjldheaaDoor
