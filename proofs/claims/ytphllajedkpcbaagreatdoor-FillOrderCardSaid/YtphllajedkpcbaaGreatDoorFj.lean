/-
  The program's Level and Fill, told in rationals. Condition: at most a hundred weights; not more than a hundred limbs; a denominator below 2 to the 600th.
-/
import Derived.Test.YtphllajedkpcbaaGreatDoorFi
namespace Go.Proofs.YtphllajedkpcbaaGreatDoor
open Go.RowKit Go.Dig Go.Shelf Go.Proofs Go.Rq

set_option maxRecDepth 100000 in
set_option maxHeartbeats 4000000 in
theorem Level_bad (p q a b : Sl) (x : Rat) (ws cs : List Int) (w : World) (hx : RQ w p q x) (ha : RI w a ws) (hc : RI w b cs) (hlw : ws.length ≤ 100) (cd : Int) (_hcd : cd ≠ 0) (hcb : (cd == 0) = false) (HC : Hid (errOf x ws cs = cd)) :
    Calls Tryz.prog 11 #[.agg #[.slice p.a p.n p.c, .slice q.a q.n q.c], .slice a.a a.n a.c, .slice b.a b.n b.c] w fun e w' => e = .returned (.tuple #[.agg #[.slice none 0 0, .slice none 0 0], .int .i64 cd]) ∧ Below w.heap.size w w' := by
  go_enter Tryz.func11, Tryz.ntmps11
  have hb : Below w.heap.size w ((w.alloc (.cells #[.slice p.a p.n p.c, .slice q.a q.n q.c] 29)).alloc (.cells #[.slice none 0 0, .slice none 0 0] 29)) := (((Below.refl _ _).alloc (Nat.le_refl _) _).alloc (by simp) _)
  replace hx := hx.below hb
  replace ha := ha.below hb
  replace hc := hc.below hb
  have hB := hb
  have P1 : Pair ((w.alloc (.cells #[.slice p.a p.n p.c, .slice q.a q.n q.c] 29)).alloc (.cells #[.slice none 0 0, .slice none 0 0] 29)) (w.heap.size) 29 (.slice p.a p.n p.c) (.slice q.a q.n q.c) := by
    have h := (Pair.new w 29 (.slice p.a p.n p.c) (.slice q.a q.n q.c)).alloc (.cells #[.slice none 0 0, .slice none 0 0] 29)
    simpa only [World.size_alloc] using h
  have P2 : Pair ((w.alloc (.cells #[.slice p.a p.n p.c, .slice q.a q.n q.c] 29)).alloc (.cells #[.slice none 0 0, .slice none 0 0] 29)) (w.heap.size + 1) 29 (.slice none 0 0) (.slice none 0 0) := by
    have h := Pair.new (w.alloc (.cells #[.slice p.a p.n p.c, .slice q.a q.n q.c] 29)) 29 (.slice none 0 0) (.slice none 0 0)
    simpa only [World.size_alloc] using h
  clear hb
  have c0P1 := P1.c0
  have c1P1 := P1.c1
  have c0P2 := P2.c0
  have c1P2 := P2.c1
  have H3 := Lib.hid (check_any p q a b x ws cs ((w.alloc (.cells #[.slice p.a p.n p.c, .slice q.a q.n q.c] 29)).alloc (.cells #[.slice none 0 0, .slice none 0 0] 29)) hx ha hc hlw)
  rw [HC.out] at H3
  go_wp2_with fail
  clear c0P1 c1P1 c0P2 c1P2
  refine H3.out.mono ?_
  rintro e w4 ⟨rfl, hb⟩
  clear H3
  replace P1 := P1.below hb
  replace P2 := P2.below hb
  replace hx := hx.below hb
  replace ha := ha.below hb
  replace hc := hc.below hb
  replace hB := hB.trans (hb.mono hB.size)
  clear hb
  have c0P1 := P1.c0
  have c1P1 := P1.c1
  have c0P2 := P2.c0
  have c1P2 := P2.c1
  have z0 := P2.z0
  have z1 := P2.z1
  have hsz := hB.size
  go_wp2_with fail
  replace hB := Below.pset (B := w.heap.size + 1) hB (by omega) (.slice none 0 0) (.slice none 0 0)
  have PX := P2.set (.slice none 0 0) (.slice none 0 0)
  generalize (w4.setCell ⟨w.heap.size + 1, 0, none⟩ (.slice none 0 0)).setCell ⟨w.heap.size + 1, 1, none⟩ (.slice none 0 0) = WW at PX hB ⊢
  refine bodyPost_ret (v := .tuple #[.agg #[.slice none 0 0, .slice none 0 0], .int .i64 cd]) ?_ rfl ⟨rfl, hB⟩
  simp [results, Tryz.f11, go_sem, PX.c0, PX.c1]

set_option maxRecDepth 100000 in
set_option maxHeartbeats 4000000 in
theorem Level_good (p q a b : Sl) (x : Rat) (ks : List Kid) (D : Nat) (w : World) (hx : RQ w p q x) (ha : RI w a (ks.map fun k => (k.1 : Int))) (hc : RI w b (ks.map fun k => (k.2 : Int))) (hl : ks.length ≤ 32) (HKK : Hid (∀ k ∈ ks, okKid k)) (HF : Hid (Fine D x)) (HX : Hid (x ≤ ((caps ks : Nat) : Rat))) (HE : Hid (errOf x (ks.map fun k => (k.1 : Int)) (ks.map fun k => (k.2 : Int)) = 0)) :
    Calls Tryz.prog 11 #[.agg #[.slice p.a p.n p.c, .slice q.a q.n q.c], .slice a.a a.n a.c, .slice b.a b.n b.c] w fun e w' => ∃ u v : Sl, e = .returned (.tuple #[.agg #[.slice u.a u.n u.c, .slice v.a v.n v.c], .int .i64 0]) ∧ RQ w' u v (docLevel x ks) ∧ Below w.heap.size w w' := by
  go_enter Tryz.func11, Tryz.ntmps11
  have hb : Below w.heap.size w ((w.alloc (.cells #[.slice p.a p.n p.c, .slice q.a q.n q.c] 29)).alloc (.cells #[.slice none 0 0, .slice none 0 0] 29)) := (((Below.refl _ _).alloc (Nat.le_refl _) _).alloc (by simp) _)
  replace hx := hx.below hb
  replace ha := ha.below hb
  replace hc := hc.below hb
  have hB := hb
  have P1 : Pair ((w.alloc (.cells #[.slice p.a p.n p.c, .slice q.a q.n q.c] 29)).alloc (.cells #[.slice none 0 0, .slice none 0 0] 29)) (w.heap.size) 29 (.slice p.a p.n p.c) (.slice q.a q.n q.c) := by
    have h := (Pair.new w 29 (.slice p.a p.n p.c) (.slice q.a q.n q.c)).alloc (.cells #[.slice none 0 0, .slice none 0 0] 29)
    simpa only [World.size_alloc] using h
  have P2 : Pair ((w.alloc (.cells #[.slice p.a p.n p.c, .slice q.a q.n q.c] 29)).alloc (.cells #[.slice none 0 0, .slice none 0 0] 29)) (w.heap.size + 1) 29 (.slice none 0 0) (.slice none 0 0) := by
    have h := Pair.new (w.alloc (.cells #[.slice p.a p.n p.c, .slice q.a q.n q.c] 29)) 29 (.slice none 0 0) (.slice none 0 0)
    simpa only [World.size_alloc] using h
  clear hb
  have c0P1 := P1.c0
  have c1P1 := P1.c1
  have c0P2 := P2.c0
  have c1P2 := P2.c1
  have H3 := Lib.hid (check_any p q a b x (ks.map fun k => (k.1 : Int)) (ks.map fun k => (k.2 : Int)) ((w.alloc (.cells #[.slice p.a p.n p.c, .slice q.a q.n q.c] 29)).alloc (.cells #[.slice none 0 0, .slice none 0 0] 29)) hx ha hc (by rw [List.length_map]; omega))
  rw [HE.out] at H3
  go_wp2_with fail
  clear c0P1 c1P1 c0P2 c1P2
  refine H3.out.mono ?_
  rintro e w4 ⟨rfl, hb⟩
  clear H3
  replace P1 := P1.below hb
  replace P2 := P2.below hb
  replace hx := hx.below hb
  replace ha := ha.below hb
  replace hc := hc.below hb
  replace hB := hB.trans (hb.mono hB.size)
  clear hb
  have c0P1 := P1.c0
  have c1P1 := P1.c1
  have c0P2 := P2.c0
  have c1P2 := P2.c1
  have H7 := Lib.hid (level_any p q a b x ks D w4 hx ha hc hl HKK HF HX)
  go_wp2_with fail
  clear c0P1 c1P1 c0P2 c1P2
  refine H7.out.mono ?_
  rintro e w8 ⟨x5, y6, rfl, rx5, hb⟩
  clear H7
  replace P1 := P1.below hb
  replace P2 := P2.below hb
  replace hx := hx.below hb
  replace ha := ha.below hb
  replace hc := hc.below hb
  replace hB := hB.trans (hb.mono hB.size)
  clear hb
  have c0P1 := P1.c0
  have c1P1 := P1.c1
  have c0P2 := P2.c0
  have c1P2 := P2.c1
  have z0 := P2.z0
  have z1 := P2.z1
  have hsz := hB.size
  go_wp2_with fail
  replace rx5 := rx5.pset P2 (.slice x5.a x5.n x5.c) (.slice y6.a y6.n y6.c)
  replace hB := Below.pset (B := w.heap.size + 1) hB (by omega) (.slice x5.a x5.n x5.c) (.slice y6.a y6.n y6.c)
  have PX := P2.set (.slice x5.a x5.n x5.c) (.slice y6.a y6.n y6.c)
  generalize (w8.setCell ⟨w.heap.size + 1, 0, none⟩ (.slice x5.a x5.n x5.c)).setCell ⟨w.heap.size + 1, 1, none⟩ (.slice y6.a y6.n y6.c) = WW at rx5 PX hB ⊢
  refine bodyPost_ret (v := .tuple #[.agg #[.slice x5.a x5.n x5.c, .slice y6.a y6.n y6.c], .int .i64 0]) ?_ rfl ⟨x5, y6, rfl, rx5, hB⟩
  simp [results, Tryz.f11, go_sem, PX.c0, PX.c1]

set_option maxRecDepth 100000 in
set_option maxHeartbeats 4000000 in
theorem Fill_bad (p q a b : Sl) (x : Rat) (ws cs : List Int) (w : World) (hx : RQ w p q x) (ha : RI w a ws) (hc : RI w b cs) (hlw : ws.length ≤ 100) (cd : Int) (_hcd : cd ≠ 0) (hcb : (cd == 0) = false) (HC : Hid (errOf x ws cs = cd)) :
    Calls Tryz.prog 10 #[.agg #[.slice p.a p.n p.c, .slice q.a q.n q.c], .slice a.a a.n a.c, .slice b.a b.n b.c] w fun e w' => e = .returned (.tuple #[.slice none 0 0, .int .i64 cd]) ∧ Below w.heap.size w w' := by
  go_enter Tryz.func10, Tryz.ntmps10
  have hb : Below w.heap.size w (w.alloc (.cells #[.slice p.a p.n p.c, .slice q.a q.n q.c] 29)) := ((Below.refl _ _).alloc (Nat.le_refl _) _)
  replace hx := hx.below hb
  replace ha := ha.below hb
  replace hc := hc.below hb
  have hB := hb
  have P1 : Pair (w.alloc (.cells #[.slice p.a p.n p.c, .slice q.a q.n q.c] 29)) (w.heap.size) 29 (.slice p.a p.n p.c) (.slice q.a q.n q.c) := by
    have h := Pair.new w 29 (.slice p.a p.n p.c) (.slice q.a q.n q.c)
    simpa only [World.size_alloc] using h
  clear hb
  have c0P1 := P1.c0
  have c1P1 := P1.c1
  have H2 := Lib.hid (Level_bad p q a b x ws cs (w.alloc (.cells #[.slice p.a p.n p.c, .slice q.a q.n q.c] 29)) hx ha hc hlw cd _hcd hcb HC)
  go_wp2_with fail
  clear c0P1 c1P1
  refine H2.out.mono ?_
  rintro e w3 ⟨rfl, hb⟩
  clear H2
  replace P1 := P1.below hb
  replace hx := hx.below hb
  replace ha := ha.below hb
  replace hc := hc.below hb
  replace hB := hB.trans (hb.mono hB.size)
  clear hb
  have hb : Below w3.heap.size w3 (w3.alloc (.cells #[.slice none 0 0, .slice none 0 0] 29)) := ((Below.refl _ _).alloc (Nat.le_refl _) _)
  replace P1 := P1.below hb
  replace hx := hx.below hb
  replace ha := ha.below hb
  replace hc := hc.below hb
  replace hB := hB.trans (hb.mono hB.size)
  have P4 : Pair (w3.alloc (.cells #[.slice none 0 0, .slice none 0 0] 29)) (w3.heap.size) 29 (.slice none 0 0) (.slice none 0 0) := by
    have h := Pair.new w3 29 (.slice none 0 0) (.slice none 0 0)
    simpa only [World.size_alloc] using h
  clear hb
  have c0P1 := P1.c0
  have c1P1 := P1.c1
  have c0P4 := P4.c0
  have c1P4 := P4.c1
  go_wp2_with fail
  go_ret2
  exact ⟨rfl, hB⟩

end Go.Proofs.YtphllajedkpcbaaGreatDoor
