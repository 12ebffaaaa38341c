/-
  FillCaps: no child gets more than its cap; one below its cap has at least its share by another one's weight. No condition.
-/
import Derived.Test.YtphllajedkpcbaaGreatDoorFn
namespace Go.Proofs.YtphllajedkpcbaaGreatDoor
open Go.RowKit Go.Dig Go.Shelf Go.Proofs Go.Rq

theorem fair2 {l : Rat} {wt cp wk ck : Nat} (h : given l (wt, cp) < (cp : Rat)) : given l (wk, ck) * (wt : Rat) ≤ given l (wt, cp) * (wk : Rat) := by
  have h1 : given l (wt, cp) = l * (wt : Rat) := by
    unfold given at h ⊢
    dsimp only at h ⊢
    split at h
    · grind
    · rename_i h2
      rw [if_neg h2]
  have h2 := given_le_mul l (wk, ck)
  dsimp only at h2
  rw [h1]
  have h3 : given l (wk, ck) * (wt : Rat) ≤ l * (wk : Rat) * (wt : Rat) := le_mul h2
  grind
set_option maxRecDepth 100000 in
set_option maxHeartbeats 4000000 in
theorem caps_l1 (A B : Int) (a b : Sl) (ws cs : List Int) (w : World) (ha : RI w a ws) (hc : RI w b cs) (h : 12 < ws.length) :
    Calls Tryz.prog 4 #[.agg #[.int .i64 A, .int .i64 B], .slice a.a a.n a.c, .slice b.a b.n b.c] w fun e w' => e = .returned (.bool true) ∧ Below w.heap.size w w' := by
  have ea := ha.len
  have h1 : (12 : Int) < (a.n : Int) := by omega
  clear ea
  go_enter Tryz.func4, Tryz.ntmps4
  have hb : Below w.heap.size w (w.alloc (.cells #[.int .i64 A, .int .i64 B] 23)) := ((Below.refl _ _).alloc (Nat.le_refl _) _)
  replace ha := ha.below hb
  replace hc := hc.below hb
  have hB := hb
  have P1 : Pair (w.alloc (.cells #[.int .i64 A, .int .i64 B] 23)) (w.heap.size) 23 (.int .i64 A) (.int .i64 B) := by
    have h := Pair.new w 23 (.int .i64 A) (.int .i64 B)
    simpa only [World.size_alloc] using h
  clear hb
  have c0P1 := P1.c0
  have c1P1 := P1.c1
  have H1 := Lib.hid (awake4 (w.alloc (.cells #[.int .i64 A, .int .i64 B] 23)))
  go_wp2_with fail
  clear c0P1 c1P1
  refine H1.out.mono ?_
  rintro e w1 ⟨rfl, hb⟩
  clear H1
  replace P1 := P1.below hb
  replace ha := ha.below hb
  replace hc := hc.below hb
  replace hB := hB.trans (hb.mono hB.size)
  clear hb
  have c0P1 := P1.c0
  have c1P1 := P1.c1
  have H2 := Lib.hid (awake4 w1)
  go_wp2_with fail
  clear c0P1 c1P1
  refine H2.out.mono ?_
  rintro e w2 ⟨rfl, hb⟩
  clear H2
  replace P1 := P1.below hb
  replace ha := ha.below hb
  replace hc := hc.below hb
  replace hB := hB.trans (hb.mono hB.size)
  clear hb
  have c0P1 := P1.c0
  have c1P1 := P1.c1
  go_wp2_with fail
  go_ret
  exact ⟨rfl, hB⟩

set_option maxRecDepth 100000 in
set_option maxHeartbeats 4000000 in
theorem caps_l2 (A B : Int) (a b : Sl) (ws cs : List Int) (w : World) (ha : RI w a ws) (hc : RI w b cs) (h0 : ws.length ≤ 12) (h : 12 < cs.length) :
    Calls Tryz.prog 4 #[.agg #[.int .i64 A, .int .i64 B], .slice a.a a.n a.c, .slice b.a b.n b.c] w fun e w' => e = .returned (.bool true) ∧ Below w.heap.size w w' := by
  have ea := ha.len
  have ec := hc.len
  have h2 : ¬ (12 : Int) < (a.n : Int) := by omega
  have h1 : (12 : Int) < (b.n : Int) := by omega
  clear ea ec
  go_enter Tryz.func4, Tryz.ntmps4
  have hb : Below w.heap.size w (w.alloc (.cells #[.int .i64 A, .int .i64 B] 23)) := ((Below.refl _ _).alloc (Nat.le_refl _) _)
  replace ha := ha.below hb
  replace hc := hc.below hb
  have hB := hb
  have P1 : Pair (w.alloc (.cells #[.int .i64 A, .int .i64 B] 23)) (w.heap.size) 23 (.int .i64 A) (.int .i64 B) := by
    have h := Pair.new w 23 (.int .i64 A) (.int .i64 B)
    simpa only [World.size_alloc] using h
  clear hb
  have c0P1 := P1.c0
  have c1P1 := P1.c1
  have H1 := Lib.hid (awake4 (w.alloc (.cells #[.int .i64 A, .int .i64 B] 23)))
  go_wp2_with fail
  clear c0P1 c1P1
  refine H1.out.mono ?_
  rintro e w1 ⟨rfl, hb⟩
  clear H1
  replace P1 := P1.below hb
  replace ha := ha.below hb
  replace hc := hc.below hb
  replace hB := hB.trans (hb.mono hB.size)
  clear hb
  have c0P1 := P1.c0
  have c1P1 := P1.c1
  have H2 := Lib.hid (awake4 w1)
  go_wp2_with fail
  clear c0P1 c1P1
  refine H2.out.mono ?_
  rintro e w2 ⟨rfl, hb⟩
  clear H2
  replace P1 := P1.below hb
  replace ha := ha.below hb
  replace hc := hc.below hb
  replace hB := hB.trans (hb.mono hB.size)
  clear hb
  have c0P1 := P1.c0
  have c1P1 := P1.c1
  go_wp2_with fail
  go_ret
  exact ⟨rfl, hB⟩

set_option maxRecDepth 100000 in
set_option maxHeartbeats 4000000 in
theorem caps_bad (A B : Int) (m d : Nat) (a b : Sl) (ws cs : List Int) (w : World) (ha : RI w a ws) (hc : RI w b cs) (hA : max A 0 = (m : Int)) (hD : max B 1 = (d : Int)) (hm : m < 9223372036854775808) (hd : d < 9223372036854775808) (HD0 : Hid (d ≠ 0)) (h1' : ws.length ≤ 12) (h2' : cs.length ≤ 12) (cd : Int) (hcd : cd ≠ 0) (hcb : (cd == 0) = false) (HC : Hid (errOf (rat m d) ws cs = cd)) :
    Calls Tryz.prog 4 #[.agg #[.int .i64 A, .int .i64 B], .slice a.a a.n a.c, .slice b.a b.n b.c] w fun e w' => e = .returned (.bool true) ∧ Below w.heap.size w w' := by
  have ea := ha.len
  have ec := hc.len
  have h1 : ¬ (12 : Int) < (a.n : Int) := by omega
  have h2 : ¬ (12 : Int) < (b.n : Int) := by omega
  clear ea ec
  go_enter Tryz.func4, Tryz.ntmps4
  have hb : Below w.heap.size w (w.alloc (.cells #[.int .i64 A, .int .i64 B] 23)) := ((Below.refl _ _).alloc (Nat.le_refl _) _)
  replace ha := ha.below hb
  replace hc := hc.below hb
  have hB := hb
  have P1 : Pair (w.alloc (.cells #[.int .i64 A, .int .i64 B] 23)) (w.heap.size) 23 (.int .i64 A) (.int .i64 B) := by
    have h := Pair.new w 23 (.int .i64 A) (.int .i64 B)
    simpa only [World.size_alloc] using h
  clear hb
  have c0P1 := P1.c0
  have c1P1 := P1.c1
  have H2 := Lib.hid (awake4 (w.alloc (.cells #[.int .i64 A, .int .i64 B] 23)))
  go_wp2_with fail
  clear c0P1 c1P1
  refine H2.out.mono ?_
  rintro e w3 ⟨rfl, hb⟩
  clear H2
  replace P1 := P1.below hb
  replace ha := ha.below hb
  replace hc := hc.below hb
  replace hB := hB.trans (hb.mono hB.size)
  clear hb
  have c0P1 := P1.c0
  have c1P1 := P1.c1
  have H8 := Lib.hid (both_any A B m d w3 hA hD hm hd HD0)
  go_wp2_with fail
  clear c0P1 c1P1
  refine H8.out.mono ?_
  rintro e w9 ⟨p4, q5, p6, q7, rfl, rp4, rp6, hb⟩
  clear H8
  replace P1 := P1.below hb
  replace ha := ha.below hb
  replace hc := hc.below hb
  replace hB := hB.trans (hb.mono hB.size)
  clear hb
  have hb : Below w9.heap.size w9 ((w9.alloc (.cells #[.slice p4.a p4.n p4.c, .slice q5.a q5.n q5.c] 29)).alloc (.cells #[.slice p6.a p6.n p6.c, .slice q7.a q7.n q7.c] 32)) := (((Below.refl _ _).alloc (Nat.le_refl _) _).alloc (by simp) _)
  replace P1 := P1.below hb
  replace ha := ha.below hb
  replace hc := hc.below hb
  replace rp4 := rp4.below hb
  replace rp6 := rp6.below hb
  replace hB := hB.trans (hb.mono hB.size)
  have P10 : Pair ((w9.alloc (.cells #[.slice p4.a p4.n p4.c, .slice q5.a q5.n q5.c] 29)).alloc (.cells #[.slice p6.a p6.n p6.c, .slice q7.a q7.n q7.c] 32)) (w9.heap.size) 29 (.slice p4.a p4.n p4.c) (.slice q5.a q5.n q5.c) := by
    have h := (Pair.new w9 29 (.slice p4.a p4.n p4.c) (.slice q5.a q5.n q5.c)).alloc (.cells #[.slice p6.a p6.n p6.c, .slice q7.a q7.n q7.c] 32)
    simpa only [World.size_alloc] using h
  have P11 : Pair ((w9.alloc (.cells #[.slice p4.a p4.n p4.c, .slice q5.a q5.n q5.c] 29)).alloc (.cells #[.slice p6.a p6.n p6.c, .slice q7.a q7.n q7.c] 32)) (w9.heap.size + 1) 32 (.slice p6.a p6.n p6.c) (.slice q7.a q7.n q7.c) := by
    have h := Pair.new (w9.alloc (.cells #[.slice p4.a p4.n p4.c, .slice q5.a q5.n q5.c] 29)) 32 (.slice p6.a p6.n p6.c) (.slice q7.a q7.n q7.c)
    simpa only [World.size_alloc] using h
  clear hb
  have c0P1 := P1.c0
  have c1P1 := P1.c1
  have c0P10 := P10.c0
  have c1P10 := P10.c1
  have c0P11 := P11.c0
  have c1P11 := P11.c1
  have H12 := Lib.hid (Fill_bad p4 q5 a b (rat m d) ws cs ((w9.alloc (.cells #[.slice p4.a p4.n p4.c, .slice q5.a q5.n q5.c] 29)).alloc (.cells #[.slice p6.a p6.n p6.c, .slice q7.a q7.n q7.c] 32)) rp4 ha hc (by omega) cd hcd hcb HC)
  go_wp2_with fail
  clear c0P1 c1P1 c0P10 c1P10 c0P11 c1P11
  refine H12.out.mono ?_
  rintro e w13 ⟨rfl, hb⟩
  clear H12
  replace P1 := P1.below hb
  replace P10 := P10.below hb
  replace P11 := P11.below hb
  replace ha := ha.below hb
  replace hc := hc.below hb
  replace rp4 := rp4.below hb
  replace rp6 := rp6.below hb
  replace hB := hB.trans (hb.mono hB.size)
  clear hb
  have c0P1 := P1.c0
  have c1P1 := P1.c1
  have c0P10 := P10.c0
  have c1P10 := P10.c1
  have c0P11 := P11.c0
  have c1P11 := P11.c1
  go_wp2_with fail
  go_ret
  exact ⟨rfl, hB⟩

set_option maxRecDepth 100000 in
set_option maxHeartbeats 4000000 in
theorem caps_good (A B : Int) (m d : Nat) (a b : Sl) (ks : List Kid) (w : World) (ha : RI w a (ks.map fun k => (k.1 : Int))) (hc : RI w b (ks.map fun k => (k.2 : Int))) (hA : max A 0 = (m : Int)) (hD : max B 1 = (d : Int)) (hm : m < 9223372036854775808) (hd : d < 9223372036854775808) (HD0 : Hid (d ≠ 0)) (hl : ks.length ≤ 12) (HKK : Hid (∀ k ∈ ks, okKid k)) (HX : Hid (rat m d ≤ ((caps ks : Nat) : Rat))) (HE : Hid (errOf (rat m d) (ks.map fun k => (k.1 : Int)) (ks.map fun k => (k.2 : Int)) = 0)) :
    Calls Tryz.prog 4 #[.agg #[.int .i64 A, .int .i64 B], .slice a.a a.n a.c, .slice b.a b.n b.c] w fun e w' => e = .returned (.bool true) ∧ Below w.heap.size w w' := by
  obtain ⟨aa, an, al⟩ := a
  obtain ⟨ba, bn, bl⟩ := b
  have ea := ha.len
  have ec := hc.len
  rw [List.length_map] at ea ec
  dsimp only at ea ec
  subst ea ec
  dsimp only
  have HF : Hid (Fine d (rat m d)) := Lib.hid (fine_rat hd HD0.out)
  have HX0 : Hid (0 ≤ rat m d) := Lib.hid (rat_nonneg m d)
  have h1 : ¬ (12 : Int) < (ks.length : Int) := by omega
  go_enter Tryz.func4, Tryz.ntmps4
  have hb : Below w.heap.size w (w.alloc (.cells #[.int .i64 A, .int .i64 B] 23)) := ((Below.refl _ _).alloc (Nat.le_refl _) _)
  replace ha := ha.below hb
  replace hc := hc.below hb
  have hB := hb
  have P1 : Pair (w.alloc (.cells #[.int .i64 A, .int .i64 B] 23)) (w.heap.size) 23 (.int .i64 A) (.int .i64 B) := by
    have h := Pair.new w 23 (.int .i64 A) (.int .i64 B)
    simpa only [World.size_alloc] using h
  clear hb
  have c0P1 := P1.c0
  have c1P1 := P1.c1
  have H2 := Lib.hid (awake4 (w.alloc (.cells #[.int .i64 A, .int .i64 B] 23)))
  go_wp2_with fail
  clear c0P1 c1P1
  refine H2.out.mono ?_
  rintro e w3 ⟨rfl, hb⟩
  clear H2
  replace P1 := P1.below hb
  replace ha := ha.below hb
  replace hc := hc.below hb
  replace hB := hB.trans (hb.mono hB.size)
  clear hb
  have c0P1 := P1.c0
  have c1P1 := P1.c1
  have H8 := Lib.hid (both_any A B m d w3 hA hD hm hd HD0)
  go_wp2_with fail
  clear c0P1 c1P1
  refine H8.out.mono ?_
  rintro e w9 ⟨p4, q5, p6, q7, rfl, rp4, rp6, hb⟩
  clear H8
  replace P1 := P1.below hb
  replace ha := ha.below hb
  replace hc := hc.below hb
  replace hB := hB.trans (hb.mono hB.size)
  clear hb
  have hb : Below w9.heap.size w9 ((w9.alloc (.cells #[.slice p4.a p4.n p4.c, .slice q5.a q5.n q5.c] 29)).alloc (.cells #[.slice p6.a p6.n p6.c, .slice q7.a q7.n q7.c] 32)) := (((Below.refl _ _).alloc (Nat.le_refl _) _).alloc (by simp) _)
  replace P1 := P1.below hb
  replace ha := ha.below hb
  replace hc := hc.below hb
  replace rp4 := rp4.below hb
  replace rp6 := rp6.below hb
  replace hB := hB.trans (hb.mono hB.size)
  have P10 : Pair ((w9.alloc (.cells #[.slice p4.a p4.n p4.c, .slice q5.a q5.n q5.c] 29)).alloc (.cells #[.slice p6.a p6.n p6.c, .slice q7.a q7.n q7.c] 32)) (w9.heap.size) 29 (.slice p4.a p4.n p4.c) (.slice q5.a q5.n q5.c) := by
    have h := (Pair.new w9 29 (.slice p4.a p4.n p4.c) (.slice q5.a q5.n q5.c)).alloc (.cells #[.slice p6.a p6.n p6.c, .slice q7.a q7.n q7.c] 32)
    simpa only [World.size_alloc] using h
  have P11 : Pair ((w9.alloc (.cells #[.slice p4.a p4.n p4.c, .slice q5.a q5.n q5.c] 29)).alloc (.cells #[.slice p6.a p6.n p6.c, .slice q7.a q7.n q7.c] 32)) (w9.heap.size + 1) 32 (.slice p6.a p6.n p6.c) (.slice q7.a q7.n q7.c) := by
    have h := Pair.new (w9.alloc (.cells #[.slice p4.a p4.n p4.c, .slice q5.a q5.n q5.c] 29)) 32 (.slice p6.a p6.n p6.c) (.slice q7.a q7.n q7.c)
    simpa only [World.size_alloc] using h
  clear hb
  have c0P1 := P1.c0
  have c1P1 := P1.c1
  have c0P10 := P10.c0
  have c1P10 := P10.c1
  have c0P11 := P11.c0
  have c1P11 := P11.c1
  have H12 := Lib.hid (Fill_good p4 q5 ⟨aa, ks.length, al⟩ ⟨ba, ks.length, bl⟩ (rat m d) ks d ((w9.alloc (.cells #[.slice p4.a p4.n p4.c, .slice q5.a q5.n q5.c] 29)).alloc (.cells #[.slice p6.a p6.n p6.c, .slice q7.a q7.n q7.c] 32)) rp4 ha hc (by omega) HKK HF HX HE)
  go_wp2_with fail
  clear c0P1 c1P1 c0P10 c1P10 c0P11 c1P11
  refine H12.out.mono ?_
  rintro e w13 ⟨v, rfl, hv, hb⟩
  clear H12
  replace P1 := P1.below hb
  replace P10 := P10.below hb
  replace P11 := P11.below hb
  replace ha := ha.below hb
  replace hc := hc.below hb
  replace rp4 := rp4.below hb
  replace rp6 := rp6.below hb
  replace hB := hB.trans (hb.mono hB.size)
  clear hb
  clear P1 P10 P11 rp4 rp6
  obtain ⟨lvl, hlvl⟩ : ∃ l, l = docLevel (rat m d) ks := ⟨_, rfl⟩
  have HSZ : Hid (∀ kid, okKid kid → ∀ n : Nat, n ≤ 10000 → Sz (given (docLevel (rat m d) ks) kid * n)) := Lib.hid (given_sz HF.out HX0.out (by omega) HKK.out HX.out)
  rw [← hlvl] at hv HSZ
  clear hlvl
  obtain ⟨vad, vcap, rfl⟩ := hv.cut
  go_wp2_with fail
  refine (?_ : ∀ (z0 z3 z4 z5 z6 z7 z8 z10 z11 z12 z13 z14 z15 z16 z17 z18 z19 z20 z21 z22 z23 z24 z25 z26 z27 z28 z29 z30 z31 z32 z33 z34 z35 z36 z37 z38 z39 z40 z41 z42 z43 z44 z45 z48 z49 z50 z51 z52 z53 z54 z55 z56 z57 z58 z59 z60 z61 z62 z63 z64 z65 z66 z67 z68 z69 z70 z71 z72 z73 z74 z75 z76 z77 z78 z79 z80 z81 z82 z83 z84 z85 z86 z87 z88 z89 z90 z91 z92 z93 z94 z95 z96 z97 z98 z99 z100 z101 z102 : Value), Code.wp _ _ _ { tmps := List.toArray (z0 :: .slice aa ks.length al :: .slice ba ks.length bl :: z3 :: z4 :: z5 :: z6 :: z7 :: z8 :: .slice vad ks.length vcap :: z10 :: z11 :: z12 :: z13 :: z14 :: z15 :: z16 :: z17 :: z18 :: z19 :: z20 :: z21 :: z22 :: z23 :: z24 :: z25 :: z26 :: z27 :: z28 :: z29 :: z30 :: z31 :: z32 :: z33 :: z34 :: z35 :: z36 :: z37 :: z38 :: z39 :: z40 :: z41 :: z42 :: z43 :: z44 :: z45 :: .int .i64 (ks.length : Int) :: .int .i64 0 :: z48 :: z49 :: z50 :: z51 :: z52 :: z53 :: z54 :: z55 :: z56 :: z57 :: z58 :: z59 :: z60 :: z61 :: z62 :: z63 :: z64 :: z65 :: z66 :: z67 :: z68 :: z69 :: z70 :: z71 :: z72 :: z73 :: z74 :: z75 :: z76 :: z77 :: z78 :: z79 :: z80 :: z81 :: z82 :: z83 :: z84 :: z85 :: z86 :: z87 :: z88 :: z89 :: z90 :: z91 :: z92 :: z93 :: z94 :: z95 :: z96 :: z97 :: z98 :: z99 :: z100 :: z101 :: z102 :: []), defers := [] } _) _ _ _ _ _ _ _ _ _ _ _ _ _ _ _ _ _ _ _ _ _ _ _ _ _ _ _ _ _ _ _ _ _ _ _ _ _ _ _ _ _ _ _ _ _ _ _ _ _ _ _ _ _ _ _ _ _ _ _ _ _ _ _ _ _ _ _ _ _ _ _ _ _ _ _ _ _ _ _ _ _ _ _ _ _ _ _ _ _ _ _ _ _ _ _ _ _ _
  intro z0 z3 z4 z5 z6 z7 z8 z10 z11 z12 z13 z14 z15 z16 z17 z18 z19 z20 z21 z22 z23 z24 z25 z26 z27 z28 z29 z30 z31 z32 z33 z34 z35 z36 z37 z38 z39 z40 z41 z42 z43 z44 z45 z48 z49 z50 z51 z52 z53 z54 z55 z56 z57 z58 z59 z60 z61 z62 z63 z64 z65 z66 z67 z68 z69 z70 z71 z72 z73 z74 z75 z76 z77 z78 z79 z80 z81 z82 z83 z84 z85 z86 z87 z88 z89 z90 z91 z92 z93 z94 z95 z96 z97 z98 z99 z100 z101 z102
  go_loopw [47] (fun i wr => ∃ k : Nat, k ≤ ks.length ∧ i = .int .i64 (k : Int) ∧ Hid (RI wr ⟨aa, ks.length, al⟩ (ks.map fun k => (k.1 : Int))) ∧ Hid (RI wr ⟨ba, ks.length, bl⟩ (ks.map fun k => (k.2 : Int))) ∧ Hid (RowQ wr (.slice vad ks.length vcap) (ks.map (given lvl))) ∧ Hid (Below w.heap.size w wr)) (fun mi _ => ks.length - (intOf mi).toNat)
  case atStart => exact ⟨0, Nat.zero_le _, rfl, Lib.hid ha, Lib.hid hc, Lib.hid hv, Lib.hid hB⟩
  case round =>
    clear ha hc hv hB
    obtain ⟨i, hi, rfl, Hha, Hhc, Hhv, HBB⟩ := hrel
    have ha := Hha.out
    have hc := Hhc.out
    have hv := Hhv.out
    have hB := HBB.out
    clear Hha Hhc Hhv HBB
    by_cases hlt : i < ks.length
    · skip
      obtain ⟨b1, o1, ec, ic⟩ := hc.at hlt
      obtain ⟨b2, o2, ea, iw⟩ := ha.at hlt
      obtain ⟨VB, vc2, ev, p, q, sc, hq⟩ := hv.at hlt
      injection ev with ev1 ev2 ev3
      subst ea ec ev1 ev3
      clear ev2
      have hmi := kget_mem hlt
      have hkk := HKK.out _ hmi
      generalize ks.getD i (0, 0) = kid at ic iw hq hkk hmi
      obtain ⟨wt, cp⟩ := kid
      dsimp only at ic iw
      have hwt := hkk.2.1
      have hcp := hkk.2.2
      dsimp only at hwt hcp
      have HKI := Lib.hid (And.intro hkk hmi)
      clear hkk hmi
      go_wp2_with fail
      have hb : Below wr.heap.size wr wr.drew := (Below.refl _ _).drew
      replace ha := ha.below hb
      replace hc := hc.below hb
      replace hv := hv.below hb
      replace hq := hq.below hb
      replace iw := iw.below hb
      replace ic := ic.below hb
      replace sc := sc.below hb
      replace hB := hB.trans (hb.mono hB.size)
      clear hb
      refine Rd.regionT (fun X => IC X b1 (o1 + i) (cp : Int) ∧ SC X VB i p q) [0, 1, 2, 3, 4, 5, 6, 7, 10] (.one 0 (.one 1 (.one 2 (.one 3 (.one 4 (.one 5 (.one 6 (.one 7 (.one 8 (.one 9 (.one 10 .done))))))))))) (fun ac W => ∃ (T : Bool) (y50 y51 y52 y53 y54 y55 y56 y57 y58 y59 : Value), ac = { tmps := List.toArray (z0 :: .slice (some ⟨b2, o2, none⟩) ks.length al :: .slice (some ⟨b1, o1, none⟩) ks.length bl :: z3 :: z4 :: z5 :: u6 :: z7 :: z8 :: .slice (some ⟨VB, 0, none⟩) ks.length vcap :: z10 :: .int .i64 (i : Int) :: u12 :: z13 :: z14 :: z15 :: z16 :: z17 :: z18 :: z19 :: z20 :: z21 :: z22 :: z23 :: z24 :: z25 :: z26 :: z27 :: z28 :: z29 :: z30 :: z31 :: z32 :: z33 :: z34 :: z35 :: z36 :: z37 :: z38 :: z39 :: z40 :: z41 :: z42 :: z43 :: z44 :: z45 :: .int .i64 (ks.length : Int) :: .int .i64 (i : Int) :: .bool true :: .int .i64 (i : Int) :: y50 :: y51 :: y52 :: y53 :: y54 :: y55 :: y56 :: y57 :: y58 :: y59 :: .bool T :: u61 :: u62 :: u63 :: u64 :: u65 :: u66 :: u67 :: u68 :: u69 :: u70 :: u71 :: u72 :: u73 :: u74 :: u75 :: u76 :: u77 :: u78 :: u79 :: u80 :: u81 :: u82 :: u83 :: u84 :: u85 :: u86 :: u87 :: u88 :: u89 :: u90 :: u91 :: u92 :: u93 :: u94 :: u95 :: u96 :: u97 :: u98 :: u99 :: u100 :: u101 :: u102 :: []), defers := [] } ∧ RI W ⟨some ⟨b2, o2, none⟩, ks.length, al⟩ (ks.map fun k => (k.1 : Int)) ∧ RI W ⟨some ⟨b1, o1, none⟩, ks.length, bl⟩ (ks.map fun k => (k.2 : Int)) ∧ RowQ W (.slice (some ⟨VB, 0, none⟩) ks.length vcap) (ks.map (given lvl)) ∧ RQ W p q (given lvl (wt, cp)) ∧ IC W b2 (o2 + i) (wt : Int) ∧ IC W b1 (o1 + i) (cp : Int) ∧ SC W VB i p q ∧ T = decide ((cp : Rat) < given lvl (wt, cp)) ∧ Below w.heap.size w W) (by kernel_rfl) (by kernel_rfl) (by kernel_rfl) ⟨ic, sc⟩ ?tree ?next
      case tree =>
        generalize wr.drew = w14 at ha hc hv hq iw ic sc hB ⊢
        refine Rd.tr_float (.slice (some ⟨VB, 0, none⟩) ks.length vcap) (by simp only [List.getElem?_toArray, List.getElem?_cons_zero]; rfl) rfl (by rfl) (fun X _ => by go_simp) ?_
        simp only [Act.put, List.setIfInBounds_toArray, List.set_cons_succ, List.set_cons_zero]
        refine Rd.tr_float (.int .i64 (i : Int)) (by simp only [List.getElem?_toArray, List.getElem?_cons_succ, List.getElem?_cons_zero]; rfl) rfl (by rfl) (fun X _ => by go_simp) ?_
        simp only [Act.put, List.setIfInBounds_toArray, List.set_cons_succ, List.set_cons_zero]
        refine Rd.tr_float (.pointer (some ⟨VB, i * 2, none⟩)) (by simp only [List.getElem?_toArray, List.getElem?_cons_succ, List.getElem?_cons_zero]; rfl) rfl (by rfl) (fun X _ => by go_simp) ?_
        simp only [Act.put, List.setIfInBounds_toArray, List.set_cons_succ, List.set_cons_zero]
        refine Rd.tr_float (.agg #[.slice p.a p.n p.c, .slice q.a q.n q.c]) (by simp only [List.getElem?_toArray, List.getElem?_cons_succ, List.getElem?_cons_zero]; rfl) rfl (by rfl) (fun X hX => by have h0 := (hX.2).2.1; have h1 := (hX.2).2.2; go_simp) ?_
        simp only [Act.put, List.setIfInBounds_toArray, List.set_cons_succ, List.set_cons_zero]
        refine Rd.tr_float (.slice (some ⟨b1, o1, none⟩) ks.length bl) (by simp only [List.getElem?_toArray, List.getElem?_cons_succ, List.getElem?_cons_zero]; rfl) rfl (by rfl) (fun X _ => by go_simp) ?_
        simp only [Act.put, List.setIfInBounds_toArray, List.set_cons_succ, List.set_cons_zero]
        refine Rd.tr_float (.int .i64 (i : Int)) (by simp only [List.getElem?_toArray, List.getElem?_cons_succ, List.getElem?_cons_zero]; rfl) rfl (by rfl) (fun X _ => by go_simp) ?_
        simp only [Act.put, List.setIfInBounds_toArray, List.set_cons_succ, List.set_cons_zero]
        refine Rd.tr_float (.pointer (some ⟨b1, o1 + i, none⟩)) (by simp only [List.getElem?_toArray, List.getElem?_cons_succ, List.getElem?_cons_zero]; rfl) rfl (by rfl) (fun X _ => by go_simp) ?_
        simp only [Act.put, List.setIfInBounds_toArray, List.set_cons_succ, List.set_cons_zero]
        refine Rd.tr_float (.int .i64 (cp : Int)) (by simp only [List.getElem?_toArray, List.getElem?_cons_succ, List.getElem?_cons_zero]; rfl) rfl (by rfl) (fun X hX => by have h0 := (hX.1).2; go_simp) ?_
        simp only [Act.put, List.setIfInBounds_toArray, List.set_cons_succ, List.set_cons_zero]
        refine Rd.tr_move (by simp only [List.getElem?_toArray, List.getElem?_cons_succ, List.getElem?_cons_zero]; rfl) rfl (by rfl) (fun K hK => ?_)
        have H17 := Lib.hid (Qint (cp) (by omega) w14)
        go_simp
        refine H17.out.mono ?_
        rintro e w18 ⟨x15, y16, rfl, rx15, hb⟩
        clear H17
        replace ha := ha.below hb
        replace hc := hc.below hb
        replace hv := hv.below hb
        replace hq := hq.below hb
        replace iw := iw.below hb
        replace ic := ic.below hb
        replace sc := sc.below hb
        replace hB := hB.trans (hb.mono hB.size)
        clear hb
        refine hK _ _ ⟨ic, sc⟩ ?_
        clear hK K
        refine Rd.tr_move (by simp only [List.getElem?_toArray, List.getElem?_cons_succ, List.getElem?_cons_zero]; rfl) rfl (by rfl) (fun K hK => ?_)
        have H19 := Lib.hid (Qcmp p q x15 y16 (given lvl (wt, cp)) (((cp : Nat) : Rat)) w18 hq rx15)
        go_simp
        refine H19.out.mono ?_
        rintro e w20 ⟨rfl, hb⟩
        clear H19
        replace ha := ha.below hb
        replace hc := hc.below hb
        replace hv := hv.below hb
        replace hq := hq.below hb
        replace iw := iw.below hb
        replace ic := ic.below hb
        replace sc := sc.below hb
        replace rx15 := rx15.below hb
        replace hB := hB.trans (hb.mono hB.size)
        clear hb
        refine hK _ _ ⟨ic, sc⟩ ?_
        clear hK K
        refine Rd.tr_float (.bool (decide (0 < (cmpQ (given lvl (wt, cp)) (((cp : Nat) : Rat)))))) (by simp only [List.getElem?_toArray, List.getElem?_cons_succ, List.getElem?_cons_zero]; rfl) rfl (by rfl) (fun X _ => by go_simp) ?_
        simp only [Act.put, List.setIfInBounds_toArray, List.set_cons_succ, List.set_cons_zero]
        exact Rd.tr_end (⟨_, _, _, _, _, _, _, _, _, _, _, rfl, ha, hc, hv, hq, iw, ic, sc, (by simp only [cmpQ_gt]), hB⟩)
      case next =>
        rintro a22 W21 ⟨T, y50, y51, y52, y53, y54, y55, y56, y57, y58, y59, rfl, ha, hc, hv, hq, iw, ic, sc, hT, hB⟩
        rw [decide_eq_false (Rat.not_lt.2 (given_le lvl (wt, cp)))] at hT
        subst hT
        go_wp2_with fail
        go_loopw [63] (fun ii wr => ∃ k : Nat, k ≤ ks.length ∧ ii = .int .i64 (k : Int) ∧ Hid (RI wr ⟨some ⟨b2, o2, none⟩, ks.length, al⟩ (ks.map fun k => (k.1 : Int))) ∧ Hid (RI wr ⟨some ⟨b1, o1, none⟩, ks.length, bl⟩ (ks.map fun k => (k.2 : Int))) ∧ Hid (RowQ wr (.slice (some ⟨VB, 0, none⟩) ks.length vcap) (ks.map (given lvl))) ∧ Hid (RQ wr p q (given lvl (wt, cp))) ∧ Hid (IC wr b2 (o2 + i) (wt : Int)) ∧ Hid (IC wr b1 (o1 + i) (cp : Int)) ∧ Hid (SC wr VB i p q) ∧ Hid (Below w.heap.size w wr)) (fun mii _ => ks.length - (intOf mii).toNat)
        case atStart => exact ⟨0, Nat.zero_le _, rfl, Lib.hid ha, Lib.hid hc, Lib.hid hv, Lib.hid hq, Lib.hid iw, Lib.hid ic, Lib.hid sc, Lib.hid hB⟩
        case round =>
          clear ha hc hv hq iw ic sc hB
          obtain ⟨k, hk, rfl, Hha, Hhc, Hhv, Hhq, Hiw, Hic, Hsc, HBB⟩ := hrel
          have ha := Hha.out
          have hc := Hhc.out
          have hv := Hhv.out
          have hq := Hhq.out
          have iw := Hiw.out
          have ic := Hic.out
          have sc := Hsc.out
          have hB := HBB.out
          clear Hha Hhc Hhv Hhq Hiw Hic Hsc HBB
          by_cases hlk : k < ks.length
          · skip
            obtain ⟨b3, o3, ek, kw⟩ := ha.at hlk
            cases ek
            obtain ⟨VB2, vc3, ev, pk, qk, sk, hqk⟩ := hv.at hlk
            cases ev
            have hmk := kget_mem hlk
            have hkk := HKK.out _ hmk
            generalize ks.getD k (0, 0) = kid at kw hqk hkk hmk
            obtain ⟨wk, ck⟩ := kid
            dsimp only at kw
            have hwk := hkk.2.1
            dsimp only at hwk
            have HFA : Hid (given lvl (wt, cp) < (cp : Rat) → ¬ given lvl (wt, cp) * (wk : Rat) < given lvl (wk, ck) * (wt : Rat)) := Lib.hid (fun h => Rat.not_lt.2 (fair2 h))
            have HZ1 : Hid (Sz (given lvl (wt, cp) * (wk : Rat))) := Lib.hid (HSZ.out _ HKI.out.1 wk hwk)
            have HZ2 : Hid (Sz (given lvl (wk, ck) * (wt : Rat))) := Lib.hid (HSZ.out _ hkk wt hwt)
            clear hkk hmk
            by_cases HO9 : given lvl (wt, cp) < (cp : Rat)
            · skip
              have HO := Lib.hid HO9
              clear HO9
              go_wp2_with fail
              have hb : Below wr.heap.size wr wr.drew := (Below.refl _ _).drew
              replace ha := ha.below hb
              replace hc := hc.below hb
              replace hv := hv.below hb
              replace hq := hq.below hb
              replace iw := iw.below hb
              replace ic := ic.below hb
              replace sc := sc.below hb
              replace hqk := hqk.below hb
              replace kw := kw.below hb
              replace sk := sk.below hb
              replace hB := hB.trans (hb.mono hB.size)
              clear hb
              refine Rd.regionT (fun X => IC X b1 (o1 + i) (cp : Int) ∧ SC X VB i p q ∧ IC X b2 (o2 + i) (wt : Int) ∧ IC X b2 (o2 + k) (wk : Int) ∧ SC X VB k pk qk) [0, 1, 2, 3, 4, 5, 6, 7, 10, 11, 12, 13, 14, 15, 16, 17, 18, 19, 22, 23, 24, 25, 26, 27, 28, 29, 33, 34] (.one 0 (.one 1 (.one 2 (.one 3 (.one 4 (.one 5 (.one 6 (.one 7 (.one 8 (.one 9 (.one 10 (.one 11 (.one 12 (.one 13 (.one 14 (.one 15 (.one 16 (.one 17 (.one 18 (.one 19 (.one 22 (.one 23 (.one 24 (.one 25 (.one 26 (.one 27 (.one 28 (.one 29 (.one 20 (.one 21 (.one 30 (.one 31 (.one 32 (.one 33 (.one 34 .done))))))))))))))))))))))))))))))))))) (fun ac W => ∃ (T : Bool) (y66 y67 y68 y69 y70 y71 y72 y73 y74 y75 y76 y77 y78 y79 y80 y81 y82 y83 y84 y85 y86 y87 y88 y89 y90 y91 y92 y93 y94 y95 y96 y97 y98 y99 : Value), ac = { tmps := List.toArray (z0 :: .slice (some ⟨b2, o2, none⟩) ks.length al :: .slice (some ⟨b1, o1, none⟩) ks.length bl :: z3 :: z4 :: z5 :: u6 :: z7 :: z8 :: .slice (some ⟨VB, 0, none⟩) ks.length vcap :: z10 :: .int .i64 (i : Int) :: .int .i64 (k : Int) :: z13 :: z14 :: z15 :: z16 :: z17 :: z18 :: z19 :: z20 :: z21 :: z22 :: z23 :: z24 :: z25 :: z26 :: z27 :: z28 :: z29 :: z30 :: z31 :: z32 :: z33 :: z34 :: z35 :: z36 :: z37 :: z38 :: z39 :: z40 :: z41 :: z42 :: z43 :: z44 :: z45 :: .int .i64 (ks.length : Int) :: .int .i64 (i : Int) :: .bool true :: .int .i64 (i : Int) :: y50 :: y51 :: y52 :: y53 :: y54 :: y55 :: y56 :: y57 :: y58 :: y59 :: .bool false :: .slice (some ⟨VB, 0, none⟩) ks.length vcap :: .int .i64 (ks.length : Int) :: .int .i64 (k : Int) :: .bool true :: .int .i64 (k : Int) :: y66 :: y67 :: y68 :: y69 :: y70 :: y71 :: y72 :: y73 :: y74 :: y75 :: y76 :: y77 :: y78 :: y79 :: y80 :: y81 :: y82 :: y83 :: y84 :: y85 :: y86 :: y87 :: y88 :: y89 :: y90 :: y91 :: y92 :: y93 :: y94 :: y95 :: y96 :: y97 :: y98 :: y99 :: .bool T :: u101 :: u102 :: []), defers := [] } ∧ RI W ⟨some ⟨b2, o2, none⟩, ks.length, al⟩ (ks.map fun k => (k.1 : Int)) ∧ RI W ⟨some ⟨b1, o1, none⟩, ks.length, bl⟩ (ks.map fun k => (k.2 : Int)) ∧ RowQ W (.slice (some ⟨VB, 0, none⟩) ks.length vcap) (ks.map (given lvl)) ∧ RQ W p q (given lvl (wt, cp)) ∧ IC W b2 (o2 + i) (wt : Int) ∧ IC W b1 (o1 + i) (cp : Int) ∧ SC W VB i p q ∧ RQ W pk qk (given lvl (wk, ck)) ∧ IC W b2 (o2 + k) (wk : Int) ∧ SC W VB k pk qk ∧ T = decide (given lvl (wt, cp) * (wk : Rat) < given lvl (wk, ck) * (wt : Rat)) ∧ Below w.heap.size w W) (by kernel_rfl) (by kernel_rfl) (by kernel_rfl) ⟨ic, sc, iw, kw, sk⟩ ?tree ?next
              case tree =>
                generalize wr.drew = w23 at ha hc hv hq iw ic sc hqk kw sk hB ⊢
                refine Rd.tr_float (.slice (some ⟨VB, 0, none⟩) ks.length vcap) (by simp only [List.getElem?_toArray, List.getElem?_cons_zero]; rfl) rfl (by rfl) (fun X _ => by go_simp) ?_
                simp only [Act.put, List.setIfInBounds_toArray, List.set_cons_succ, List.set_cons_zero]
                refine Rd.tr_float (.int .i64 (i : Int)) (by simp only [List.getElem?_toArray, List.getElem?_cons_succ, List.getElem?_cons_zero]; rfl) rfl (by rfl) (fun X _ => by go_simp) ?_
                simp only [Act.put, List.setIfInBounds_toArray, List.set_cons_succ, List.set_cons_zero]
                refine Rd.tr_float (.pointer (some ⟨VB, i * 2, none⟩)) (by simp only [List.getElem?_toArray, List.getElem?_cons_succ, List.getElem?_cons_zero]; rfl) rfl (by rfl) (fun X _ => by go_simp) ?_
                simp only [Act.put, List.setIfInBounds_toArray, List.set_cons_succ, List.set_cons_zero]
                refine Rd.tr_float (.agg #[.slice p.a p.n p.c, .slice q.a q.n q.c]) (by simp only [List.getElem?_toArray, List.getElem?_cons_succ, List.getElem?_cons_zero]; rfl) rfl (by rfl) (fun X hX => by have h0 := (hX.2.1).2.1; have h1 := (hX.2.1).2.2; go_simp) ?_
                simp only [Act.put, List.setIfInBounds_toArray, List.set_cons_succ, List.set_cons_zero]
                refine Rd.tr_float (.slice (some ⟨b1, o1, none⟩) ks.length bl) (by simp only [List.getElem?_toArray, List.getElem?_cons_succ, List.getElem?_cons_zero]; rfl) rfl (by rfl) (fun X _ => by go_simp) ?_
                simp only [Act.put, List.setIfInBounds_toArray, List.set_cons_succ, List.set_cons_zero]
                refine Rd.tr_float (.int .i64 (i : Int)) (by simp only [List.getElem?_toArray, List.getElem?_cons_succ, List.getElem?_cons_zero]; rfl) rfl (by rfl) (fun X _ => by go_simp) ?_
                simp only [Act.put, List.setIfInBounds_toArray, List.set_cons_succ, List.set_cons_zero]
                refine Rd.tr_float (.pointer (some ⟨b1, o1 + i, none⟩)) (by simp only [List.getElem?_toArray, List.getElem?_cons_succ, List.getElem?_cons_zero]; rfl) rfl (by rfl) (fun X _ => by go_simp) ?_
                simp only [Act.put, List.setIfInBounds_toArray, List.set_cons_succ, List.set_cons_zero]
                refine Rd.tr_float (.int .i64 (cp : Int)) (by simp only [List.getElem?_toArray, List.getElem?_cons_succ, List.getElem?_cons_zero]; rfl) rfl (by rfl) (fun X hX => by have h0 := (hX.1).2; go_simp) ?_
                simp only [Act.put, List.setIfInBounds_toArray, List.set_cons_succ, List.set_cons_zero]
                refine Rd.tr_move (by simp only [List.getElem?_toArray, List.getElem?_cons_succ, List.getElem?_cons_zero]; rfl) rfl (by rfl) (fun K hK => ?_)
                have H26 := Lib.hid (Qint (cp) (by omega) w23)
                go_simp
                refine H26.out.mono ?_
                rintro e w27 ⟨x24, y25, rfl, rx24, hb⟩
                clear H26
                replace ha := ha.below hb
                replace hc := hc.below hb
                replace hv := hv.below hb
                replace hq := hq.below hb
                replace iw := iw.below hb
                replace ic := ic.below hb
                replace sc := sc.below hb
                replace hqk := hqk.below hb
                replace kw := kw.below hb
                replace sk := sk.below hb
                replace hB := hB.trans (hb.mono hB.size)
                clear hb
                refine hK _ _ ⟨ic, sc, iw, kw, sk⟩ ?_
                clear hK K
                refine Rd.tr_move (by simp only [List.getElem?_toArray, List.getElem?_cons_succ, List.getElem?_cons_zero]; rfl) rfl (by rfl) (fun K hK => ?_)
                have H28 := Lib.hid (Qcmp p q x24 y25 (given lvl (wt, cp)) (((cp : Nat) : Rat)) w27 hq rx24)
                go_simp
                refine H28.out.mono ?_
                rintro e w29 ⟨rfl, hb⟩
                clear H28
                replace ha := ha.below hb
                replace hc := hc.below hb
                replace hv := hv.below hb
                replace hq := hq.below hb
                replace iw := iw.below hb
                replace ic := ic.below hb
                replace sc := sc.below hb
                replace hqk := hqk.below hb
                replace kw := kw.below hb
                replace sk := sk.below hb
                replace rx24 := rx24.below hb
                replace hB := hB.trans (hb.mono hB.size)
                clear hb
                refine hK _ _ ⟨ic, sc, iw, kw, sk⟩ ?_
                clear hK K
                refine Rd.tr_float (.bool true) (by simp only [List.getElem?_toArray, List.getElem?_cons_succ, List.getElem?_cons_zero]; rfl) rfl (by rfl) (fun X _ => by have hO := cmpQ_lt.2 HO.out; go_simp) ?_
                simp only [Act.put, List.setIfInBounds_toArray, List.set_cons_succ, List.set_cons_zero]
                refine Rd.tr_float (.bool true) (by simp only [List.getElem?_toArray, List.getElem?_cons_succ, List.getElem?_cons_zero]; rfl) rfl (by rfl) (fun X _ => by go_simp) ?_
                simp only [Act.put, List.setIfInBounds_toArray, List.set_cons_succ, List.set_cons_zero]
                refine Rd.tr_float (.slice (some ⟨VB, 0, none⟩) ks.length vcap) (by simp only [List.getElem?_toArray, List.getElem?_cons_succ, List.getElem?_cons_zero]; rfl) rfl (by rfl) (fun X _ => by go_simp) ?_
                simp only [Act.put, List.setIfInBounds_toArray, List.set_cons_succ, List.set_cons_zero]
                refine Rd.tr_float (.int .i64 (i : Int)) (by simp only [List.getElem?_toArray, List.getElem?_cons_succ, List.getElem?_cons_zero]; rfl) rfl (by rfl) (fun X _ => by go_simp) ?_
                simp only [Act.put, List.setIfInBounds_toArray, List.set_cons_succ, List.set_cons_zero]
                refine Rd.tr_float (.pointer (some ⟨VB, i * 2, none⟩)) (by simp only [List.getElem?_toArray, List.getElem?_cons_succ, List.getElem?_cons_zero]; rfl) rfl (by rfl) (fun X _ => by go_simp) ?_
                simp only [Act.put, List.setIfInBounds_toArray, List.set_cons_succ, List.set_cons_zero]
                refine Rd.tr_float (.agg #[.slice p.a p.n p.c, .slice q.a q.n q.c]) (by simp only [List.getElem?_toArray, List.getElem?_cons_succ, List.getElem?_cons_zero]; rfl) rfl (by rfl) (fun X hX => by have h0 := (hX.2.1).2.1; have h1 := (hX.2.1).2.2; go_simp) ?_
                simp only [Act.put, List.setIfInBounds_toArray, List.set_cons_succ, List.set_cons_zero]
                refine Rd.tr_float (.slice (some ⟨b2, o2, none⟩) ks.length al) (by simp only [List.getElem?_toArray, List.getElem?_cons_succ, List.getElem?_cons_zero]; rfl) rfl (by rfl) (fun X _ => by go_simp) ?_
                simp only [Act.put, List.setIfInBounds_toArray, List.set_cons_succ, List.set_cons_zero]
                refine Rd.tr_float (.int .i64 (k : Int)) (by simp only [List.getElem?_toArray, List.getElem?_cons_succ, List.getElem?_cons_zero]; rfl) rfl (by rfl) (fun X _ => by go_simp) ?_
                simp only [Act.put, List.setIfInBounds_toArray, List.set_cons_succ, List.set_cons_zero]
                refine Rd.tr_float (.pointer (some ⟨b2, o2 + k, none⟩)) (by simp only [List.getElem?_toArray, List.getElem?_cons_succ, List.getElem?_cons_zero]; rfl) rfl (by rfl) (fun X _ => by go_simp) ?_
                simp only [Act.put, List.setIfInBounds_toArray, List.set_cons_succ, List.set_cons_zero]
                refine Rd.tr_float (.int .i64 (wk : Int)) (by simp only [List.getElem?_toArray, List.getElem?_cons_succ, List.getElem?_cons_zero]; rfl) rfl (by rfl) (fun X hX => by have h0 := (hX.2.2.2.1).2; go_simp) ?_
                simp only [Act.put, List.setIfInBounds_toArray, List.set_cons_succ, List.set_cons_zero]
                refine Rd.tr_float (.slice (some ⟨VB, 0, none⟩) ks.length vcap) (by simp only [List.getElem?_toArray, List.getElem?_cons_succ, List.getElem?_cons_zero]; rfl) rfl (by rfl) (fun X _ => by go_simp) ?_
                simp only [Act.put, List.setIfInBounds_toArray, List.set_cons_succ, List.set_cons_zero]
                refine Rd.tr_float (.int .i64 (k : Int)) (by simp only [List.getElem?_toArray, List.getElem?_cons_succ, List.getElem?_cons_zero]; rfl) rfl (by rfl) (fun X _ => by go_simp) ?_
                simp only [Act.put, List.setIfInBounds_toArray, List.set_cons_succ, List.set_cons_zero]
                refine Rd.tr_float (.pointer (some ⟨VB, k * 2, none⟩)) (by simp only [List.getElem?_toArray, List.getElem?_cons_succ, List.getElem?_cons_zero]; rfl) rfl (by rfl) (fun X _ => by go_simp) ?_
                simp only [Act.put, List.setIfInBounds_toArray, List.set_cons_succ, List.set_cons_zero]
                refine Rd.tr_float (.agg #[.slice pk.a pk.n pk.c, .slice qk.a qk.n qk.c]) (by simp only [List.getElem?_toArray, List.getElem?_cons_succ, List.getElem?_cons_zero]; rfl) rfl (by rfl) (fun X hX => by have h0 := (hX.2.2.2.2).2.1; have h1 := (hX.2.2.2.2).2.2; go_simp) ?_
                simp only [Act.put, List.setIfInBounds_toArray, List.set_cons_succ, List.set_cons_zero]
                refine Rd.tr_float (.slice (some ⟨b2, o2, none⟩) ks.length al) (by simp only [List.getElem?_toArray, List.getElem?_cons_succ, List.getElem?_cons_zero]; rfl) rfl (by rfl) (fun X _ => by go_simp) ?_
                simp only [Act.put, List.setIfInBounds_toArray, List.set_cons_succ, List.set_cons_zero]
                refine Rd.tr_float (.int .i64 (i : Int)) (by simp only [List.getElem?_toArray, List.getElem?_cons_succ, List.getElem?_cons_zero]; rfl) rfl (by rfl) (fun X _ => by go_simp) ?_
                simp only [Act.put, List.setIfInBounds_toArray, List.set_cons_succ, List.set_cons_zero]
                refine Rd.tr_float (.pointer (some ⟨b2, o2 + i, none⟩)) (by simp only [List.getElem?_toArray, List.getElem?_cons_succ, List.getElem?_cons_zero]; rfl) rfl (by rfl) (fun X _ => by go_simp) ?_
                simp only [Act.put, List.setIfInBounds_toArray, List.set_cons_succ, List.set_cons_zero]
                refine Rd.tr_float (.int .i64 (wt : Int)) (by simp only [List.getElem?_toArray, List.getElem?_cons_succ, List.getElem?_cons_zero]; rfl) rfl (by rfl) (fun X hX => by have h0 := (hX.2.2.1).2; go_simp) ?_
                simp only [Act.put, List.setIfInBounds_toArray, List.set_cons_succ, List.set_cons_zero]
                refine Rd.tr_move (by simp only [List.getElem?_toArray, List.getElem?_cons_succ, List.getElem?_cons_zero]; rfl) rfl (by rfl) (fun K hK => ?_)
                have H32 := Lib.hid (Qint (wk) (by omega) w29)
                go_simp
                refine H32.out.mono ?_
                rintro e w33 ⟨x30, y31, rfl, rx30, hb⟩
                clear H32
                replace ha := ha.below hb
                replace hc := hc.below hb
                replace hv := hv.below hb
                replace hq := hq.below hb
                replace iw := iw.below hb
                replace ic := ic.below hb
                replace sc := sc.below hb
                replace hqk := hqk.below hb
                replace kw := kw.below hb
                replace sk := sk.below hb
                replace rx24 := rx24.below hb
                replace hB := hB.trans (hb.mono hB.size)
                clear hb
                refine hK _ _ ⟨ic, sc, iw, kw, sk⟩ ?_
                clear hK K
                refine Rd.tr_move (by simp only [List.getElem?_toArray, List.getElem?_cons_succ, List.getElem?_cons_zero]; rfl) rfl (by rfl) (fun K hK => ?_)
                have H36 := Lib.hid (Qmul p q x30 y31 (given lvl (wt, cp)) (((wk : Nat) : Rat)) w33 hq rx30 HZ1.out )
                go_simp
                refine H36.out.mono ?_
                rintro e w37 ⟨x34, y35, rfl, rx34, hb⟩
                clear H36
                replace ha := ha.below hb
                replace hc := hc.below hb
                replace hv := hv.below hb
                replace hq := hq.below hb
                replace iw := iw.below hb
                replace ic := ic.below hb
                replace sc := sc.below hb
                replace hqk := hqk.below hb
                replace kw := kw.below hb
                replace sk := sk.below hb
                replace rx24 := rx24.below hb
                replace rx30 := rx30.below hb
                replace hB := hB.trans (hb.mono hB.size)
                clear hb
                refine hK _ _ ⟨ic, sc, iw, kw, sk⟩ ?_
                clear hK K
                refine Rd.tr_move (by simp only [List.getElem?_toArray, List.getElem?_cons_succ, List.getElem?_cons_zero]; rfl) rfl (by rfl) (fun K hK => ?_)
                have H40 := Lib.hid (Qint (wt) (by omega) w37)
                go_simp
                refine H40.out.mono ?_
                rintro e w41 ⟨x38, y39, rfl, rx38, hb⟩
                clear H40
                replace ha := ha.below hb
                replace hc := hc.below hb
                replace hv := hv.below hb
                replace hq := hq.below hb
                replace iw := iw.below hb
                replace ic := ic.below hb
                replace sc := sc.below hb
                replace hqk := hqk.below hb
                replace kw := kw.below hb
                replace sk := sk.below hb
                replace rx24 := rx24.below hb
                replace rx30 := rx30.below hb
                replace rx34 := rx34.below hb
                replace hB := hB.trans (hb.mono hB.size)
                clear hb
                refine hK _ _ ⟨ic, sc, iw, kw, sk⟩ ?_
                clear hK K
                refine Rd.tr_move (by simp only [List.getElem?_toArray, List.getElem?_cons_succ, List.getElem?_cons_zero]; rfl) rfl (by rfl) (fun K hK => ?_)
                have H44 := Lib.hid (Qmul pk qk x38 y39 (given lvl (wk, ck)) (((wt : Nat) : Rat)) w41 hqk rx38 HZ2.out )
                go_simp
                refine H44.out.mono ?_
                rintro e w45 ⟨x42, y43, rfl, rx42, hb⟩
                clear H44
                replace ha := ha.below hb
                replace hc := hc.below hb
                replace hv := hv.below hb
                replace hq := hq.below hb
                replace iw := iw.below hb
                replace ic := ic.below hb
                replace sc := sc.below hb
                replace hqk := hqk.below hb
                replace kw := kw.below hb
                replace sk := sk.below hb
                replace rx24 := rx24.below hb
                replace rx30 := rx30.below hb
                replace rx34 := rx34.below hb
                replace rx38 := rx38.below hb
                replace hB := hB.trans (hb.mono hB.size)
                clear hb
                refine hK _ _ ⟨ic, sc, iw, kw, sk⟩ ?_
                clear hK K
                refine Rd.tr_move (by simp only [List.getElem?_toArray, List.getElem?_cons_succ, List.getElem?_cons_zero]; rfl) rfl (by rfl) (fun K hK => ?_)
                have H46 := Lib.hid (Qcmp x34 y35 x42 y43 (given lvl (wt, cp) * (wk : Rat)) (given lvl (wk, ck) * (wt : Rat)) w45 rx34 rx42)
                go_simp
                refine H46.out.mono ?_
                rintro e w47 ⟨rfl, hb⟩
                clear H46
                replace ha := ha.below hb
                replace hc := hc.below hb
                replace hv := hv.below hb
                replace hq := hq.below hb
                replace iw := iw.below hb
                replace ic := ic.below hb
                replace sc := sc.below hb
                replace hqk := hqk.below hb
                replace kw := kw.below hb
                replace sk := sk.below hb
                replace rx24 := rx24.below hb
                replace rx30 := rx30.below hb
                replace rx34 := rx34.below hb
                replace rx38 := rx38.below hb
                replace rx42 := rx42.below hb
                replace hB := hB.trans (hb.mono hB.size)
                clear hb
                refine hK _ _ ⟨ic, sc, iw, kw, sk⟩ ?_
                clear hK K
                refine Rd.tr_float (.bool (decide ((cmpQ (given lvl (wt, cp) * (wk : Rat)) (given lvl (wk, ck) * (wt : Rat))) < 0))) (by simp only [List.getElem?_toArray, List.getElem?_cons_succ, List.getElem?_cons_zero]; rfl) rfl (by rfl) (fun X _ => by go_simp) ?_
                simp only [Act.put, List.setIfInBounds_toArray, List.set_cons_succ, List.set_cons_zero]
                refine Rd.tr_float (.bool (decide ((cmpQ (given lvl (wt, cp) * (wk : Rat)) (given lvl (wk, ck) * (wt : Rat))) < 0))) (by simp only [List.getElem?_toArray, List.getElem?_cons_succ, List.getElem?_cons_zero]; rfl) rfl (by rfl) (fun X _ => by go_simp) ?_
                simp only [Act.put, List.setIfInBounds_toArray, List.set_cons_succ, List.set_cons_zero]
                exact Rd.tr_end (⟨_, _, _, _, _, _, _, _, _, _, _, _, _, _, _, _, _, _, _, _, _, _, _, _, _, _, _, _, _, _, _, _, _, _, _, rfl, ha, hc, hv, hq, iw, ic, sc, hqk, kw, sk, (by simp only [cmpQ_lt]), hB⟩)
              case next =>
                rintro a49 W48 ⟨T, y66, y67, y68, y69, y70, y71, y72, y73, y74, y75, y76, y77, y78, y79, y80, y81, y82, y83, y84, y85, y86, y87, y88, y89, y90, y91, y92, y93, y94, y95, y96, y97, y98, y99, rfl, ha, hc, hv, hq, iw, ic, sc, hqk, kw, sk, hT, hB⟩
                rw [decide_eq_false (HFA.out HO.out)] at hT
                subst hT
                go_wp2_with fail
                go_round
                case rel => exact ⟨k + 1, by omega, by go_num, Lib.hid ha, Lib.hid hc, Lib.hid hv, Lib.hid hq, Lib.hid iw, Lib.hid ic, Lib.hid sc, Lib.hid hB⟩
                case measure => simp [intOf]; omega
            · skip
              have HO := Lib.hid HO9
              clear HO9
              go_wp2_with fail
              have hb : Below wr.heap.size wr wr.drew := (Below.refl _ _).drew
              replace ha := ha.below hb
              replace hc := hc.below hb
              replace hv := hv.below hb
              replace hq := hq.below hb
              replace iw := iw.below hb
              replace ic := ic.below hb
              replace sc := sc.below hb
              replace hqk := hqk.below hb
              replace kw := kw.below hb
              replace sk := sk.below hb
              replace hB := hB.trans (hb.mono hB.size)
              clear hb
              refine Rd.regionT (fun X => IC X b1 (o1 + i) (cp : Int) ∧ SC X VB i p q ∧ IC X b2 (o2 + i) (wt : Int) ∧ IC X b2 (o2 + k) (wk : Int) ∧ SC X VB k pk qk) [0, 1, 2, 3, 4, 5, 6, 7, 10, 11, 12, 13, 14, 15, 16, 17, 18, 19, 22, 23, 24, 25, 26, 27, 28, 29, 33, 34] (.one 0 (.one 1 (.one 2 (.one 3 (.one 4 (.one 5 (.one 6 (.one 7 (.one 8 (.one 9 (.one 10 (.one 11 (.one 12 (.one 13 (.one 14 (.one 15 (.one 16 (.one 17 (.one 18 (.one 19 (.one 22 (.one 23 (.one 24 (.one 25 (.one 26 (.one 27 (.one 28 (.one 29 (.one 20 (.one 21 (.one 30 (.one 31 (.one 32 (.one 33 (.one 34 .done))))))))))))))))))))))))))))))))))) (fun ac W => ∃  (y66 y67 y68 y69 y70 y71 y72 y73 y74 y75 y76 y77 y78 y79 y80 y81 y82 y83 y84 y85 y86 y87 y88 y89 y90 y91 y92 y93 y94 y95 y96 y97 y98 y99 : Value), ac = { tmps := List.toArray (z0 :: .slice (some ⟨b2, o2, none⟩) ks.length al :: .slice (some ⟨b1, o1, none⟩) ks.length bl :: z3 :: z4 :: z5 :: u6 :: z7 :: z8 :: .slice (some ⟨VB, 0, none⟩) ks.length vcap :: z10 :: .int .i64 (i : Int) :: .int .i64 (k : Int) :: z13 :: z14 :: z15 :: z16 :: z17 :: z18 :: z19 :: z20 :: z21 :: z22 :: z23 :: z24 :: z25 :: z26 :: z27 :: z28 :: z29 :: z30 :: z31 :: z32 :: z33 :: z34 :: z35 :: z36 :: z37 :: z38 :: z39 :: z40 :: z41 :: z42 :: z43 :: z44 :: z45 :: .int .i64 (ks.length : Int) :: .int .i64 (i : Int) :: .bool true :: .int .i64 (i : Int) :: y50 :: y51 :: y52 :: y53 :: y54 :: y55 :: y56 :: y57 :: y58 :: y59 :: .bool false :: .slice (some ⟨VB, 0, none⟩) ks.length vcap :: .int .i64 (ks.length : Int) :: .int .i64 (k : Int) :: .bool true :: .int .i64 (k : Int) :: y66 :: y67 :: y68 :: y69 :: y70 :: y71 :: y72 :: y73 :: y74 :: y75 :: y76 :: y77 :: y78 :: y79 :: y80 :: y81 :: y82 :: y83 :: y84 :: y85 :: y86 :: y87 :: y88 :: y89 :: y90 :: y91 :: y92 :: y93 :: y94 :: y95 :: y96 :: y97 :: y98 :: y99 :: .bool false :: u101 :: u102 :: []), defers := [] } ∧ RI W ⟨some ⟨b2, o2, none⟩, ks.length, al⟩ (ks.map fun k => (k.1 : Int)) ∧ RI W ⟨some ⟨b1, o1, none⟩, ks.length, bl⟩ (ks.map fun k => (k.2 : Int)) ∧ RowQ W (.slice (some ⟨VB, 0, none⟩) ks.length vcap) (ks.map (given lvl)) ∧ RQ W p q (given lvl (wt, cp)) ∧ IC W b2 (o2 + i) (wt : Int) ∧ IC W b1 (o1 + i) (cp : Int) ∧ SC W VB i p q ∧ RQ W pk qk (given lvl (wk, ck)) ∧ IC W b2 (o2 + k) (wk : Int) ∧ SC W VB k pk qk ∧ Below w.heap.size w W) (by kernel_rfl) (by kernel_rfl) (by kernel_rfl) ⟨ic, sc, iw, kw, sk⟩ ?tree ?next
              case tree =>
                generalize wr.drew = w50 at ha hc hv hq iw ic sc hqk kw sk hB ⊢
                refine Rd.tr_float (.slice (some ⟨VB, 0, none⟩) ks.length vcap) (by simp only [List.getElem?_toArray, List.getElem?_cons_zero]; rfl) rfl (by rfl) (fun X _ => by go_simp) ?_
                simp only [Act.put, List.setIfInBounds_toArray, List.set_cons_succ, List.set_cons_zero]
                refine Rd.tr_float (.int .i64 (i : Int)) (by simp only [List.getElem?_toArray, List.getElem?_cons_succ, List.getElem?_cons_zero]; rfl) rfl (by rfl) (fun X _ => by go_simp) ?_
                simp only [Act.put, List.setIfInBounds_toArray, List.set_cons_succ, List.set_cons_zero]
                refine Rd.tr_float (.pointer (some ⟨VB, i * 2, none⟩)) (by simp only [List.getElem?_toArray, List.getElem?_cons_succ, List.getElem?_cons_zero]; rfl) rfl (by rfl) (fun X _ => by go_simp) ?_
                simp only [Act.put, List.setIfInBounds_toArray, List.set_cons_succ, List.set_cons_zero]
                refine Rd.tr_float (.agg #[.slice p.a p.n p.c, .slice q.a q.n q.c]) (by simp only [List.getElem?_toArray, List.getElem?_cons_succ, List.getElem?_cons_zero]; rfl) rfl (by rfl) (fun X hX => by have h0 := (hX.2.1).2.1; have h1 := (hX.2.1).2.2; go_simp) ?_
                simp only [Act.put, List.setIfInBounds_toArray, List.set_cons_succ, List.set_cons_zero]
                refine Rd.tr_float (.slice (some ⟨b1, o1, none⟩) ks.length bl) (by simp only [List.getElem?_toArray, List.getElem?_cons_succ, List.getElem?_cons_zero]; rfl) rfl (by rfl) (fun X _ => by go_simp) ?_
                simp only [Act.put, List.setIfInBounds_toArray, List.set_cons_succ, List.set_cons_zero]
                refine Rd.tr_float (.int .i64 (i : Int)) (by simp only [List.getElem?_toArray, List.getElem?_cons_succ, List.getElem?_cons_zero]; rfl) rfl (by rfl) (fun X _ => by go_simp) ?_
                simp only [Act.put, List.setIfInBounds_toArray, List.set_cons_succ, List.set_cons_zero]
                refine Rd.tr_float (.pointer (some ⟨b1, o1 + i, none⟩)) (by simp only [List.getElem?_toArray, List.getElem?_cons_succ, List.getElem?_cons_zero]; rfl) rfl (by rfl) (fun X _ => by go_simp) ?_
                simp only [Act.put, List.setIfInBounds_toArray, List.set_cons_succ, List.set_cons_zero]
                refine Rd.tr_float (.int .i64 (cp : Int)) (by simp only [List.getElem?_toArray, List.getElem?_cons_succ, List.getElem?_cons_zero]; rfl) rfl (by rfl) (fun X hX => by have h0 := (hX.1).2; go_simp) ?_
                simp only [Act.put, List.setIfInBounds_toArray, List.set_cons_succ, List.set_cons_zero]
                refine Rd.tr_move (by simp only [List.getElem?_toArray, List.getElem?_cons_succ, List.getElem?_cons_zero]; rfl) rfl (by rfl) (fun K hK => ?_)
                have H53 := Lib.hid (Qint (cp) (by omega) w50)
                go_simp
                refine H53.out.mono ?_
                rintro e w54 ⟨x51, y52, rfl, rx51, hb⟩
                clear H53
                replace ha := ha.below hb
                replace hc := hc.below hb
                replace hv := hv.below hb
                replace hq := hq.below hb
                replace iw := iw.below hb
                replace ic := ic.below hb
                replace sc := sc.below hb
                replace hqk := hqk.below hb
                replace kw := kw.below hb
                replace sk := sk.below hb
                replace hB := hB.trans (hb.mono hB.size)
                clear hb
                refine hK _ _ ⟨ic, sc, iw, kw, sk⟩ ?_
                clear hK K
                refine Rd.tr_move (by simp only [List.getElem?_toArray, List.getElem?_cons_succ, List.getElem?_cons_zero]; rfl) rfl (by rfl) (fun K hK => ?_)
                have H55 := Lib.hid (Qcmp p q x51 y52 (given lvl (wt, cp)) (((cp : Nat) : Rat)) w54 hq rx51)
                go_simp
                refine H55.out.mono ?_
                rintro e w56 ⟨rfl, hb⟩
                clear H55
                replace ha := ha.below hb
                replace hc := hc.below hb
                replace hv := hv.below hb
                replace hq := hq.below hb
                replace iw := iw.below hb
                replace ic := ic.below hb
                replace sc := sc.below hb
                replace hqk := hqk.below hb
                replace kw := kw.below hb
                replace sk := sk.below hb
                replace rx51 := rx51.below hb
                replace hB := hB.trans (hb.mono hB.size)
                clear hb
                refine hK _ _ ⟨ic, sc, iw, kw, sk⟩ ?_
                clear hK K
                refine Rd.tr_float (.bool false) (by simp only [List.getElem?_toArray, List.getElem?_cons_succ, List.getElem?_cons_zero]; rfl) rfl (by rfl) (fun X _ => by have hO := Int.not_lt.1 (fun h => HO.out (cmpQ_lt.1 h)); go_simp) ?_
                simp only [Act.put, List.setIfInBounds_toArray, List.set_cons_succ, List.set_cons_zero]
                refine Rd.tr_float (.bool false) (by simp only [List.getElem?_toArray, List.getElem?_cons_succ, List.getElem?_cons_zero]; rfl) rfl (by rfl) (fun X _ => by go_simp) ?_
                simp only [Act.put, List.setIfInBounds_toArray, List.set_cons_succ, List.set_cons_zero]
                refine Rd.tr_skip (by simp only [List.getElem?_toArray, List.getElem?_cons_succ, List.getElem?_cons_zero]; rfl) rfl (by rfl) ?_
                simp only [Act.put, List.setIfInBounds_toArray, List.set_cons_succ, List.set_cons_zero]
                refine Rd.tr_skip (by simp only [List.getElem?_toArray, List.getElem?_cons_succ, List.getElem?_cons_zero]; rfl) rfl (by rfl) ?_
                simp only [Act.put, List.setIfInBounds_toArray, List.set_cons_succ, List.set_cons_zero]
                refine Rd.tr_skip (by simp only [List.getElem?_toArray, List.getElem?_cons_succ, List.getElem?_cons_zero]; rfl) rfl (by rfl) ?_
                simp only [Act.put, List.setIfInBounds_toArray, List.set_cons_succ, List.set_cons_zero]
                refine Rd.tr_skip (by simp only [List.getElem?_toArray, List.getElem?_cons_succ, List.getElem?_cons_zero]; rfl) rfl (by rfl) ?_
                simp only [Act.put, List.setIfInBounds_toArray, List.set_cons_succ, List.set_cons_zero]
                refine Rd.tr_skip (by simp only [List.getElem?_toArray, List.getElem?_cons_succ, List.getElem?_cons_zero]; rfl) rfl (by rfl) ?_
                simp only [Act.put, List.setIfInBounds_toArray, List.set_cons_succ, List.set_cons_zero]
                refine Rd.tr_skip (by simp only [List.getElem?_toArray, List.getElem?_cons_succ, List.getElem?_cons_zero]; rfl) rfl (by rfl) ?_
                simp only [Act.put, List.setIfInBounds_toArray, List.set_cons_succ, List.set_cons_zero]
                refine Rd.tr_skip (by simp only [List.getElem?_toArray, List.getElem?_cons_succ, List.getElem?_cons_zero]; rfl) rfl (by rfl) ?_
                simp only [Act.put, List.setIfInBounds_toArray, List.set_cons_succ, List.set_cons_zero]
                refine Rd.tr_skip (by simp only [List.getElem?_toArray, List.getElem?_cons_succ, List.getElem?_cons_zero]; rfl) rfl (by rfl) ?_
                simp only [Act.put, List.setIfInBounds_toArray, List.set_cons_succ, List.set_cons_zero]
                refine Rd.tr_skip (by simp only [List.getElem?_toArray, List.getElem?_cons_succ, List.getElem?_cons_zero]; rfl) rfl (by rfl) ?_
                simp only [Act.put, List.setIfInBounds_toArray, List.set_cons_succ, List.set_cons_zero]
                refine Rd.tr_skip (by simp only [List.getElem?_toArray, List.getElem?_cons_succ, List.getElem?_cons_zero]; rfl) rfl (by rfl) ?_
                simp only [Act.put, List.setIfInBounds_toArray, List.set_cons_succ, List.set_cons_zero]
                refine Rd.tr_skip (by simp only [List.getElem?_toArray, List.getElem?_cons_succ, List.getElem?_cons_zero]; rfl) rfl (by rfl) ?_
                simp only [Act.put, List.setIfInBounds_toArray, List.set_cons_succ, List.set_cons_zero]
                refine Rd.tr_skip (by simp only [List.getElem?_toArray, List.getElem?_cons_succ, List.getElem?_cons_zero]; rfl) rfl (by rfl) ?_
                simp only [Act.put, List.setIfInBounds_toArray, List.set_cons_succ, List.set_cons_zero]
                refine Rd.tr_skip (by simp only [List.getElem?_toArray, List.getElem?_cons_succ, List.getElem?_cons_zero]; rfl) rfl (by rfl) ?_
                simp only [Act.put, List.setIfInBounds_toArray, List.set_cons_succ, List.set_cons_zero]
                refine Rd.tr_skip (by simp only [List.getElem?_toArray, List.getElem?_cons_succ, List.getElem?_cons_zero]; rfl) rfl (by rfl) ?_
                simp only [Act.put, List.setIfInBounds_toArray, List.set_cons_succ, List.set_cons_zero]
                refine Rd.tr_skip (by simp only [List.getElem?_toArray, List.getElem?_cons_succ, List.getElem?_cons_zero]; rfl) rfl (by rfl) ?_
                simp only [Act.put, List.setIfInBounds_toArray, List.set_cons_succ, List.set_cons_zero]
                refine Rd.tr_skip (by simp only [List.getElem?_toArray, List.getElem?_cons_succ, List.getElem?_cons_zero]; rfl) rfl (by rfl) ?_
                simp only [Act.put, List.setIfInBounds_toArray, List.set_cons_succ, List.set_cons_zero]
                refine Rd.tr_mskip (by simp only [List.getElem?_toArray, List.getElem?_cons_succ, List.getElem?_cons_zero]; rfl) rfl (by rfl) ⟨ic, sc, iw, kw, sk⟩ ?_
                simp only [Act.put, List.setIfInBounds_toArray, List.set_cons_succ, List.set_cons_zero]
                refine Rd.tr_mskip (by simp only [List.getElem?_toArray, List.getElem?_cons_succ, List.getElem?_cons_zero]; rfl) rfl (by rfl) ⟨ic, sc, iw, kw, sk⟩ ?_
                simp only [Act.put, List.setIfInBounds_toArray, List.set_cons_succ, List.set_cons_zero]
                refine Rd.tr_mskip (by simp only [List.getElem?_toArray, List.getElem?_cons_succ, List.getElem?_cons_zero]; rfl) rfl (by rfl) ⟨ic, sc, iw, kw, sk⟩ ?_
                simp only [Act.put, List.setIfInBounds_toArray, List.set_cons_succ, List.set_cons_zero]
                refine Rd.tr_mskip (by simp only [List.getElem?_toArray, List.getElem?_cons_succ, List.getElem?_cons_zero]; rfl) rfl (by rfl) ⟨ic, sc, iw, kw, sk⟩ ?_
                simp only [Act.put, List.setIfInBounds_toArray, List.set_cons_succ, List.set_cons_zero]
                refine Rd.tr_mskip (by simp only [List.getElem?_toArray, List.getElem?_cons_succ, List.getElem?_cons_zero]; rfl) rfl (by rfl) ⟨ic, sc, iw, kw, sk⟩ ?_
                simp only [Act.put, List.setIfInBounds_toArray, List.set_cons_succ, List.set_cons_zero]
                refine Rd.tr_skip (by simp only [List.getElem?_toArray, List.getElem?_cons_succ, List.getElem?_cons_zero]; rfl) rfl (by rfl) ?_
                simp only [Act.put, List.setIfInBounds_toArray, List.set_cons_succ, List.set_cons_zero]
                refine Rd.tr_float (.bool false) (by simp only [List.getElem?_toArray, List.getElem?_cons_succ, List.getElem?_cons_zero]; rfl) rfl (by rfl) (fun X _ => by go_simp) ?_
                simp only [Act.put, List.setIfInBounds_toArray, List.set_cons_succ, List.set_cons_zero]
                exact Rd.tr_end (⟨_, _, _, _, _, _, _, _, _, _, _, _, _, _, _, _, _, _, _, _, _, _, _, _, _, _, _, _, _, _, _, _, _, _, rfl, ha, hc, hv, hq, iw, ic, sc, hqk, kw, sk, hB⟩)
              case next =>
                rintro a58 W57 ⟨y66, y67, y68, y69, y70, y71, y72, y73, y74, y75, y76, y77, y78, y79, y80, y81, y82, y83, y84, y85, y86, y87, y88, y89, y90, y91, y92, y93, y94, y95, y96, y97, y98, y99, rfl, ha, hc, hv, hq, iw, ic, sc, hqk, kw, sk, hB⟩
                go_wp2_with fail
                go_round
                case rel => exact ⟨k + 1, by omega, by go_num, Lib.hid ha, Lib.hid hc, Lib.hid hv, Lib.hid hq, Lib.hid iw, Lib.hid ic, Lib.hid sc, Lib.hid hB⟩
                case measure => simp [intOf]; omega
          · skip
            go_wp2_with fail
            go_round
            case rel => exact ⟨i + 1, by omega, by go_num, Lib.hid ha, Lib.hid hc, Lib.hid hv, Lib.hid hB⟩
            case measure => simp [intOf]; omega
    · skip
      go_wp2_with fail
      go_ret
      exact ⟨rfl, hB⟩

theorem fillCaps_any (A B : Int) (a b : Sl) (ws cs : List Int) (w : World) (ha : RI w a ws) (hc : RI w b cs) (hA1 : A < 9223372036854775808) (hB1 : B < 9223372036854775808) :
    Calls Tryz.prog 4 #[.agg #[.int .i64 A, .int .i64 B], .slice a.a a.n a.c, .slice b.a b.n b.c] w fun e w' => e = .returned (.bool true) ∧ Below w.heap.size w w' := by
  by_cases h1 : 12 < ws.length
  · exact caps_l1 A B a b ws cs w ha hc h1
  by_cases h2 : 12 < cs.length
  · exact caps_l2 A B a b ws cs w ha hc (by omega) h2
  have hA : max A 0 = (((max A 0).toNat : Nat) : Int) := by omega
  have hD : max B 1 = (((max B 1).toNat : Nat) : Int) := by omega
  have hm : (max A 0).toNat < 9223372036854775808 := by omega
  have hd : (max B 1).toNat < 9223372036854775808 := by omega
  have HD0 : Hid ((max B 1).toNat ≠ 0) := Lib.hid (by omega)
  generalize (max A 0).toNat = m at hA hm
  generalize (max B 1).toNat = d at hD hd HD0
  by_cases h0 : errOf (rat m d) ws cs = 0
  · obtain ⟨ks, rfl, rfl, hk, hl, hx⟩ := err_kids h0
    exact caps_good A B m d a b ks w ha hc hA hD hm hd HD0 (by rw [List.length_map] at h1; omega) (Lib.hid hk) (Lib.hid hx) (Lib.hid h0)
  · exact caps_bad A B m d a b ws cs w ha hc hA hD hm hd HD0 (by omega) (by omega) _ h0 (by simpa using h0) (Lib.hid rfl)
end Go.Proofs.YtphllajedkpcbaaGreatDoor
