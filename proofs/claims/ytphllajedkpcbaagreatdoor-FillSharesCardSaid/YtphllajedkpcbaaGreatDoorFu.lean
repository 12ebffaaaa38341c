/-
  FillShares: what each child gets, the level, or what is wrong, are the document's; in all it is what is shared. No condition.
-/
import Derived.Test.YtphllajedkpcbaaGreatDoorFz
namespace Go.Proofs.YtphllajedkpcbaaGreatDoor
open Go.RowKit Go.Dig Go.Shelf Go.Proofs Go.Rq

/-- rows that do not lie in a block. -/
def RNQ (w : World) (v : Value) (rs : List Rat) (B : Nat) : Prop := RowQ w v rs ∧ (rs ≠ [] → v.ownBlock ≠ some B)
def RNK (w : World) (v : Value) (rs : List Rat) (B : Nat) : Prop := RowK w v rs ∧ (rs ≠ [] → v.ownBlock ≠ some B)
def SD (w : World) (b j : Nat) (p q : Sl) (B : Nat) : Prop := SC w b j p q ∧ b ≠ B
section
variable {w w' : World} {v : Value} {rs : List Rat} {B b j : Nat} {t : TypeId} {p q : Sl} {x y : Option Addr} {n c m d : Nat}
theorem SD.below (h : SD w b j p q B) (hb : Below w.heap.size w w') : SD w' b j p q B := ⟨h.1.below hb, h.2⟩
theorem SD.pset (h : SD w b j p q B) (_hp : Pair w B t (.slice x n c) (.slice y m d)) (x' y' : Value) : SD ((w.setCell ⟨B, 0, none⟩ x').setCell ⟨B, 1, none⟩ y') b j p q B := by
  have e := (Below.heap_setCell (w.setCell ⟨B, 0, none⟩ x') ⟨B, 1, none⟩ y' b h.2).trans (Below.heap_setCell w ⟨B, 0, none⟩ x' b h.2)
  exact ⟨⟨by simpa [World.setCell] using h.1.1, (World.cell?_of_block (w := w) (a := ⟨b, j * 2, none⟩) e).trans h.1.2.1, (World.cell?_of_block (w := w) (a := ⟨b, j * 2 + 1, none⟩) e).trans h.1.2.2⟩, h.2⟩
theorem RowX.pset {K : World → Sl → Sl → Rat → Prop} (h : RowX K w v rs) (hne : rs ≠ [] → v.ownBlock ≠ some B) (x' y' : Value) (hK : ∀ p q r, K w p q r → K ((w.setCell ⟨B, 0, none⟩ x').setCell ⟨B, 1, none⟩ y') p q r) : RowX K ((w.setCell ⟨B, 0, none⟩ x').setCell ⟨B, 1, none⟩ y') v rs := by
  obtain ⟨ad, cap, rfl, h2⟩ := h
  refine ⟨ad, cap, rfl, fun hr => ?_⟩
  obtain ⟨C, rfl, h3, h4⟩ := h2 hr
  have hC : C ≠ B := fun e => hne hr (by rw [e]; rfl)
  have e := (Below.heap_setCell (w.setCell ⟨B, 0, none⟩ x') ⟨B, 1, none⟩ y' C hC).trans (Below.heap_setCell w ⟨B, 0, none⟩ x' C hC)
  refine ⟨C, rfl, by simpa [World.setCell] using h3, fun j hj => ?_⟩
  obtain ⟨p, q, c1, c2, c3⟩ := h4 j hj
  exact ⟨p, q, (World.cell?_of_block (w := w) (a := ⟨C, j * 2, none⟩) e).trans c1, (World.cell?_of_block (w := w) (a := ⟨C, j * 2 + 1, none⟩) e).trans c2, hK _ _ _ c3⟩
theorem RNQ.below (h : RNQ w v rs B) (hb : Below w.heap.size w w') : RNQ w' v rs B := ⟨RowX.below h.1 (fun _ _ _ k => k.below hb) hb, h.2⟩
theorem RNK.below (h : RNK w v rs B) (hb : Below w.heap.size w w') : RNK w' v rs B := ⟨RowX.below h.1 (fun _ _ _ k => k.below hb) hb, h.2⟩
theorem RNQ.pset (h : RNQ w v rs B) (hp : Pair w B t (.slice x n c) (.slice y m d)) (x' y' : Value) : RNQ ((w.setCell ⟨B, 0, none⟩ x').setCell ⟨B, 1, none⟩ y') v rs B := ⟨RowX.pset h.1 h.2 x' y' (fun _ _ _ k => k.pset hp x' y'), h.2⟩
theorem RNK.pset (h : RNK w v rs B) (hp : Pair w B t (.slice x n c) (.slice y m d)) (x' y' : Value) : RNK ((w.setCell ⟨B, 0, none⟩ x').setCell ⟨B, 1, none⟩ y') v rs B := ⟨RowX.pset h.1 h.2 x' y' (fun _ _ _ k => k.pset hp x' y'), h.2⟩
theorem RowX.new {K : World → Sl → Sl → Rat → Prop} (h : RowX K w v rs) (hB : w.heap.size ≤ B) : rs ≠ [] → v.ownBlock ≠ some B := by
  intro hr e
  obtain ⟨ad, cap, rfl, h2⟩ := h
  obtain ⟨C, rfl, h3, _⟩ := h2 hr
  have e2 : C = B := Option.some.inj e
  omega
theorem RowK.below {vs : List Rat} {u : Value} (h : RowK w u vs) (hb : Below w.heap.size w w') : RowK w' u vs := RowX.below h (fun _ _ _ k => k.below hb) hb
end
theorem sum_sz {D : Nat} {x : Rat} {ks : List Kid} (hF : Fine D x) (h0 : 0 ≤ x) (hl : ks.length ≤ 32) (hk : ∀ k ∈ ks, okKid k) (hx : x ≤ ((caps ks : Nat) : Rat)) (js : List Kid) (hj : ∀ k ∈ js, k ∈ ks) (hjl : js.length ≤ ks.length) : Sz (sum (docLevel x ks) js) := by
  obtain ⟨E, hE, hE2, hw, hd0, hd1⟩ := docLevel_whole (D := D) hF.2.2 h0 (fun k hk' => (hk k hk').1) (fun k hk' => (hk k hk').2.1) (fun k hk' => (hk k hk').2.2) hx
  have hwl := weights_le ks hk
  have hE3 : E ≤ 2 ^ 64 := by
    refine Nat.le_trans hE2 ?_
    have : weights ks + 1 ≤ 320001 := by omega
    exact Nat.le_trans (Nat.mul_le_mul_left _ this) (by decide)
  refine Sz.whole (D := D * E) (B := 2048) (Nat.mul_ne_zero hF.1 hE) (whole_sum hw js) (sum_nonneg hd0 js) ?_ (mul_big hF.2.1 hE3) (big_small 3000 (by decide) (by omega))
  exact Rat.le_trans (sum_le_caps _ js) (Rat.natCast_le_natCast.2 (by have := caps_le2 js (fun k hk' => (hk k (hj k hk')).2.2); omega))
set_option maxRecDepth 100000 in
set_option maxHeartbeats 4000000 in
theorem shares_l1 (A B : Int) (a b : Sl) (ws cs : List Int) (w : World) (ha : RI w a ws) (hc : RI w b cs) (h : 36 < ws.length) :
    Calls Tryz.prog 3 #[.agg #[.int .i64 A, .int .i64 B], .slice a.a a.n a.c, .slice b.a b.n b.c] w fun e w' => e = .returned (.bool true) ∧ Below w.heap.size w w' := by
  have ea := ha.len
  have h1 : (36 : Int) < (a.n : Int) := by omega
  clear ea
  go_enter Tryz.func3, Tryz.ntmps3
  have hb : Below w.heap.size w (w.alloc (.cells #[.int .i64 A, .int .i64 B] 23)) := ((Below.refl _ _).alloc (Nat.le_refl _) _)
  replace ha := ha.below hb
  replace hc := hc.below hb
  have hB := hb
  have P1 : Pair (w.alloc (.cells #[.int .i64 A, .int .i64 B] 23)) (w.heap.size) 23 (.int .i64 A) (.int .i64 B) := by
    have h := Pair.new w 23 (.int .i64 A) (.int .i64 B)
    simpa only [World.size_alloc] using h
  clear hb
  have c0P1 := P1.c0
  have c1P1 := P1.c1
  have H1 := Lib.hid (awake4 (w.alloc (.cells #[.int .i64 A, .int .i64 B] 23)))
  go_wp2_with fail
  clear c0P1 c1P1
  refine H1.out.mono ?_
  rintro e w1 ⟨rfl, hb⟩
  clear H1
  replace P1 := P1.below hb
  replace ha := ha.below hb
  replace hc := hc.below hb
  replace hB := hB.trans (hb.mono hB.size)
  clear hb
  have c0P1 := P1.c0
  have c1P1 := P1.c1
  have H2 := Lib.hid (awake4 w1)
  go_wp2_with fail
  clear c0P1 c1P1
  refine H2.out.mono ?_
  rintro e w2 ⟨rfl, hb⟩
  clear H2
  replace P1 := P1.below hb
  replace ha := ha.below hb
  replace hc := hc.below hb
  replace hB := hB.trans (hb.mono hB.size)
  clear hb
  have c0P1 := P1.c0
  have c1P1 := P1.c1
  go_wp2_with fail
  go_ret
  exact ⟨rfl, hB⟩

set_option maxRecDepth 100000 in
set_option maxHeartbeats 4000000 in
theorem shares_l2 (A B : Int) (a b : Sl) (ws cs : List Int) (w : World) (ha : RI w a ws) (hc : RI w b cs) (h0 : ws.length ≤ 36) (h : 36 < cs.length) :
    Calls Tryz.prog 3 #[.agg #[.int .i64 A, .int .i64 B], .slice a.a a.n a.c, .slice b.a b.n b.c] w fun e w' => e = .returned (.bool true) ∧ Below w.heap.size w w' := by
  have ea := ha.len
  have ec := hc.len
  have h2 : ¬ (36 : Int) < (a.n : Int) := by omega
  have h1 : (36 : Int) < (b.n : Int) := by omega
  clear ea ec
  go_enter Tryz.func3, Tryz.ntmps3
  have hb : Below w.heap.size w (w.alloc (.cells #[.int .i64 A, .int .i64 B] 23)) := ((Below.refl _ _).alloc (Nat.le_refl _) _)
  replace ha := ha.below hb
  replace hc := hc.below hb
  have hB := hb
  have P1 : Pair (w.alloc (.cells #[.int .i64 A, .int .i64 B] 23)) (w.heap.size) 23 (.int .i64 A) (.int .i64 B) := by
    have h := Pair.new w 23 (.int .i64 A) (.int .i64 B)
    simpa only [World.size_alloc] using h
  clear hb
  have c0P1 := P1.c0
  have c1P1 := P1.c1
  have H1 := Lib.hid (awake4 (w.alloc (.cells #[.int .i64 A, .int .i64 B] 23)))
  go_wp2_with fail
  clear c0P1 c1P1
  refine H1.out.mono ?_
  rintro e w1 ⟨rfl, hb⟩
  clear H1
  replace P1 := P1.below hb
  replace ha := ha.below hb
  replace hc := hc.below hb
  replace hB := hB.trans (hb.mono hB.size)
  clear hb
  have c0P1 := P1.c0
  have c1P1 := P1.c1
  have H2 := Lib.hid (awake4 w1)
  go_wp2_with fail
  clear c0P1 c1P1
  refine H2.out.mono ?_
  rintro e w2 ⟨rfl, hb⟩
  clear H2
  replace P1 := P1.below hb
  replace ha := ha.below hb
  replace hc := hc.below hb
  replace hB := hB.trans (hb.mono hB.size)
  clear hb
  have c0P1 := P1.c0
  have c1P1 := P1.c1
  go_wp2_with fail
  go_ret
  exact ⟨rfl, hB⟩

set_option maxRecDepth 100000 in
set_option maxHeartbeats 4000000 in
theorem shares_bad (A B : Int) (m d : Nat) (a b : Sl) (ws cs : List Int) (w : World) (ha : RI w a ws) (hc : RI w b cs) (hA : max A 0 = (m : Int)) (hD : max B 1 = (d : Int)) (hm : m < 9223372036854775808) (hd : d < 9223372036854775808) (HD0 : Hid (d ≠ 0)) (h1' : ws.length ≤ 36) (h2' : cs.length ≤ 36) (cd : Int) (hcd : cd ≠ 0) (hcb : (cd == 0) = false) (HC : Hid (errOf (rat m d) ws cs = cd)) :
    Calls Tryz.prog 3 #[.agg #[.int .i64 A, .int .i64 B], .slice a.a a.n a.c, .slice b.a b.n b.c] w fun e w' => e = .returned (.bool true) ∧ Below w.heap.size w w' := by
  have ea := ha.len
  have ec := hc.len
  have h1 : ¬ (36 : Int) < (a.n : Int) := by omega
  have h2 : ¬ (36 : Int) < (b.n : Int) := by omega
  clear ea ec
  go_enter Tryz.func3, Tryz.ntmps3
  have hb : Below w.heap.size w (w.alloc (.cells #[.int .i64 A, .int .i64 B] 23)) := ((Below.refl _ _).alloc (Nat.le_refl _) _)
  replace ha := ha.below hb
  replace hc := hc.below hb
  have hB := hb
  have P1 : Pair (w.alloc (.cells #[.int .i64 A, .int .i64 B] 23)) (w.heap.size) 23 (.int .i64 A) (.int .i64 B) := by
    have h := Pair.new w 23 (.int .i64 A) (.int .i64 B)
    simpa only [World.size_alloc] using h
  clear hb
  have c0P1 := P1.c0
  have c1P1 := P1.c1
  have H2 := Lib.hid (awake4 (w.alloc (.cells #[.int .i64 A, .int .i64 B] 23)))
  go_wp2_with fail
  clear c0P1 c1P1
  refine H2.out.mono ?_
  rintro e w3 ⟨rfl, hb⟩
  clear H2
  replace P1 := P1.below hb
  replace ha := ha.below hb
  replace hc := hc.below hb
  replace hB := hB.trans (hb.mono hB.size)
  clear hb
  have c0P1 := P1.c0
  have c1P1 := P1.c1
  have H8 := Lib.hid (both_any A B m d w3 hA hD hm hd HD0)
  go_wp2_with fail
  clear c0P1 c1P1
  refine H8.out.mono ?_
  rintro e w9 ⟨p4, q5, p6, q7, rfl, rp4, rp6, hb⟩
  clear H8
  replace P1 := P1.below hb
  replace ha := ha.below hb
  replace hc := hc.below hb
  replace hB := hB.trans (hb.mono hB.size)
  clear hb
  have hb : Below w9.heap.size w9 ((w9.alloc (.cells #[.slice p4.a p4.n p4.c, .slice q5.a q5.n q5.c] 29)).alloc (.cells #[.slice p6.a p6.n p6.c, .slice q7.a q7.n q7.c] 32)) := (((Below.refl _ _).alloc (Nat.le_refl _) _).alloc (by simp) _)
  replace P1 := P1.below hb
  replace ha := ha.below hb
  replace hc := hc.below hb
  replace rp4 := rp4.below hb
  replace rp6 := rp6.below hb
  replace hB := hB.trans (hb.mono hB.size)
  have P10 : Pair ((w9.alloc (.cells #[.slice p4.a p4.n p4.c, .slice q5.a q5.n q5.c] 29)).alloc (.cells #[.slice p6.a p6.n p6.c, .slice q7.a q7.n q7.c] 32)) (w9.heap.size) 29 (.slice p4.a p4.n p4.c) (.slice q5.a q5.n q5.c) := by
    have h := (Pair.new w9 29 (.slice p4.a p4.n p4.c) (.slice q5.a q5.n q5.c)).alloc (.cells #[.slice p6.a p6.n p6.c, .slice q7.a q7.n q7.c] 32)
    simpa only [World.size_alloc] using h
  have P11 : Pair ((w9.alloc (.cells #[.slice p4.a p4.n p4.c, .slice q5.a q5.n q5.c] 29)).alloc (.cells #[.slice p6.a p6.n p6.c, .slice q7.a q7.n q7.c] 32)) (w9.heap.size + 1) 32 (.slice p6.a p6.n p6.c) (.slice q7.a q7.n q7.c) := by
    have h := Pair.new (w9.alloc (.cells #[.slice p4.a p4.n p4.c, .slice q5.a q5.n q5.c] 29)) 32 (.slice p6.a p6.n p6.c) (.slice q7.a q7.n q7.c)
    simpa only [World.size_alloc] using h
  clear hb
  have c0P1 := P1.c0
  have c1P1 := P1.c1
  have c0P10 := P10.c0
  have c1P10 := P10.c1
  have c0P11 := P11.c0
  have c1P11 := P11.c1
  have H12 := Lib.hid (Fill_bad p4 q5 a b (rat m d) ws cs ((w9.alloc (.cells #[.slice p4.a p4.n p4.c, .slice q5.a q5.n q5.c] 29)).alloc (.cells #[.slice p6.a p6.n p6.c, .slice q7.a q7.n q7.c] 32)) rp4 ha hc (by omega) cd hcd hcb HC)
  go_wp2_with fail
  clear c0P1 c1P1 c0P10 c1P10 c0P11 c1P11
  refine H12.out.mono ?_
  rintro e w13 ⟨rfl, hb⟩
  clear H12
  replace P1 := P1.below hb
  replace P10 := P10.below hb
  replace P11 := P11.below hb
  replace ha := ha.below hb
  replace hc := hc.below hb
  replace rp4 := rp4.below hb
  replace rp6 := rp6.below hb
  replace hB := hB.trans (hb.mono hB.size)
  clear hb
  have c0P1 := P1.c0
  have c1P1 := P1.c1
  have c0P10 := P10.c0
  have c1P10 := P10.c1
  have c0P11 := P11.c0
  have c1P11 := P11.c1
  have H14 := Lib.hid (Level_bad p4 q5 a b (rat m d) ws cs w13 rp4 ha hc (by omega) cd hcd hcb HC)
  go_wp2_with fail
  clear c0P1 c1P1 c0P10 c1P10 c0P11 c1P11
  refine H14.out.mono ?_
  rintro e w15 ⟨rfl, hb⟩
  clear H14
  replace P1 := P1.below hb
  replace P10 := P10.below hb
  replace P11 := P11.below hb
  replace ha := ha.below hb
  replace hc := hc.below hb
  replace rp4 := rp4.below hb
  replace rp6 := rp6.below hb
  replace hB := hB.trans (hb.mono hB.size)
  clear hb
  have hb : Below w15.heap.size w15 (w15.alloc (.cells #[.slice none 0 0, .slice none 0 0] 29)) := ((Below.refl _ _).alloc (Nat.le_refl _) _)
  replace P1 := P1.below hb
  replace P10 := P10.below hb
  replace P11 := P11.below hb
  replace ha := ha.below hb
  replace hc := hc.below hb
  replace rp4 := rp4.below hb
  replace rp6 := rp6.below hb
  replace hB := hB.trans (hb.mono hB.size)
  have P16 : Pair (w15.alloc (.cells #[.slice none 0 0, .slice none 0 0] 29)) (w15.heap.size) 29 (.slice none 0 0) (.slice none 0 0) := by
    have h := Pair.new w15 29 (.slice none 0 0) (.slice none 0 0)
    simpa only [World.size_alloc] using h
  clear hb
  have c0P1 := P1.c0
  have c1P1 := P1.c1
  have c0P10 := P10.c0
  have c1P10 := P10.c1
  have c0P11 := P11.c0
  have c1P11 := P11.c1
  have c0P16 := P16.c0
  have c1P16 := P16.c1
  have H17 := Lib.hid (Fill_doc_bad p6 q7 a b (rat m d) ws cs (w15.alloc (.cells #[.slice none 0 0, .slice none 0 0] 29)) rp6 ha hc cd hcd hcb HC)
  go_wp2_with fail
  clear c0P1 c1P1 c0P10 c1P10 c0P11 c1P11 c0P16 c1P16
  refine H17.out.mono ?_
  rintro e w18 ⟨rfl, hb⟩
  clear H17
  replace P1 := P1.below hb
  replace P10 := P10.below hb
  replace P11 := P11.below hb
  replace P16 := P16.below hb
  replace ha := ha.below hb
  replace hc := hc.below hb
  replace rp4 := rp4.below hb
  replace rp6 := rp6.below hb
  replace hB := hB.trans (hb.mono hB.size)
  clear hb
  have c0P1 := P1.c0
  have c1P1 := P1.c1
  have c0P10 := P10.c0
  have c1P10 := P10.c1
  have c0P11 := P11.c0
  have c1P11 := P11.c1
  have c0P16 := P16.c0
  have c1P16 := P16.c1
  go_wp2_with fail
  go_ret
  exact ⟨rfl, hB⟩

set_option maxRecDepth 100000 in
set_option maxHeartbeats 4000000 in
theorem shares_good (A B : Int) (m d : Nat) (a b : Sl) (ks : List Kid) (w : World) (ha : RI w a (ks.map fun k => (k.1 : Int))) (hc : RI w b (ks.map fun k => (k.2 : Int))) (hA : max A 0 = (m : Int)) (hD : max B 1 = (d : Int)) (hm : m < 9223372036854775808) (hd : d < 9223372036854775808) (HD0 : Hid (d ≠ 0)) (hl : ks.length ≤ 32) (HKK : Hid (∀ k ∈ ks, okKid k)) (HX : Hid (rat m d ≤ ((caps ks : Nat) : Rat))) (HE : Hid (errOf (rat m d) (ks.map fun k => (k.1 : Int)) (ks.map fun k => (k.2 : Int)) = 0)) :
    Calls Tryz.prog 3 #[.agg #[.int .i64 A, .int .i64 B], .slice a.a a.n a.c, .slice b.a b.n b.c] w fun e w' => e = .returned (.bool true) ∧ Below w.heap.size w w' := by
  obtain ⟨aa, an, al⟩ := a
  obtain ⟨ba, bn, bl⟩ := b
  have ea := ha.len
  have ec := hc.len
  rw [List.length_map] at ea ec
  dsimp only at ea ec
  subst ea ec
  dsimp only
  have HF : Hid (Fine d (rat m d)) := Lib.hid (fine_rat hd HD0.out)
  have HX0 : Hid (0 ≤ rat m d) := Lib.hid (rat_nonneg m d)
  have h1 : ¬ (36 : Int) < (ks.length : Int) := by omega
  have HCZ : Hid (cmpQ (sum (docLevel (rat m d) ks) ks) (rat m d) = 0) := Lib.hid (by rw [(doc_level (fun k hk => (HKK.out k hk).1) HX0.out HX.out).eq]; exact cmpQ_self _)
  go_enter Tryz.func3, Tryz.ntmps3
  have hb : Below w.heap.size w (w.alloc (.cells #[.int .i64 A, .int .i64 B] 23)) := ((Below.refl _ _).alloc (Nat.le_refl _) _)
  replace ha := ha.below hb
  replace hc := hc.below hb
  have hB := hb
  have P1 : Pair (w.alloc (.cells #[.int .i64 A, .int .i64 B] 23)) (w.heap.size) 23 (.int .i64 A) (.int .i64 B) := by
    have h := Pair.new w 23 (.int .i64 A) (.int .i64 B)
    simpa only [World.size_alloc] using h
  clear hb
  have c0P1 := P1.c0
  have c1P1 := P1.c1
  have H2 := Lib.hid (awake4 (w.alloc (.cells #[.int .i64 A, .int .i64 B] 23)))
  go_wp2_with fail
  clear c0P1 c1P1
  refine H2.out.mono ?_
  rintro e w3 ⟨rfl, hb⟩
  clear H2
  replace P1 := P1.below hb
  replace ha := ha.below hb
  replace hc := hc.below hb
  replace hB := hB.trans (hb.mono hB.size)
  clear hb
  have c0P1 := P1.c0
  have c1P1 := P1.c1
  have H8 := Lib.hid (both_any A B m d w3 hA hD hm hd HD0)
  go_wp2_with fail
  clear c0P1 c1P1
  refine H8.out.mono ?_
  rintro e w9 ⟨p4, q5, p6, q7, rfl, rp4, rp6, hb⟩
  clear H8
  replace P1 := P1.below hb
  replace ha := ha.below hb
  replace hc := hc.below hb
  replace hB := hB.trans (hb.mono hB.size)
  clear hb
  have hb : Below w9.heap.size w9 ((w9.alloc (.cells #[.slice p4.a p4.n p4.c, .slice q5.a q5.n q5.c] 29)).alloc (.cells #[.slice p6.a p6.n p6.c, .slice q7.a q7.n q7.c] 32)) := (((Below.refl _ _).alloc (Nat.le_refl _) _).alloc (by simp) _)
  replace P1 := P1.below hb
  replace ha := ha.below hb
  replace hc := hc.below hb
  replace rp4 := rp4.below hb
  replace rp6 := rp6.below hb
  replace hB := hB.trans (hb.mono hB.size)
  have P10 : Pair ((w9.alloc (.cells #[.slice p4.a p4.n p4.c, .slice q5.a q5.n q5.c] 29)).alloc (.cells #[.slice p6.a p6.n p6.c, .slice q7.a q7.n q7.c] 32)) (w9.heap.size) 29 (.slice p4.a p4.n p4.c) (.slice q5.a q5.n q5.c) := by
    have h := (Pair.new w9 29 (.slice p4.a p4.n p4.c) (.slice q5.a q5.n q5.c)).alloc (.cells #[.slice p6.a p6.n p6.c, .slice q7.a q7.n q7.c] 32)
    simpa only [World.size_alloc] using h
  have P11 : Pair ((w9.alloc (.cells #[.slice p4.a p4.n p4.c, .slice q5.a q5.n q5.c] 29)).alloc (.cells #[.slice p6.a p6.n p6.c, .slice q7.a q7.n q7.c] 32)) (w9.heap.size + 1) 32 (.slice p6.a p6.n p6.c) (.slice q7.a q7.n q7.c) := by
    have h := Pair.new (w9.alloc (.cells #[.slice p4.a p4.n p4.c, .slice q5.a q5.n q5.c] 29)) 32 (.slice p6.a p6.n p6.c) (.slice q7.a q7.n q7.c)
    simpa only [World.size_alloc] using h
  clear hb
  have c0P1 := P1.c0
  have c1P1 := P1.c1
  have c0P10 := P10.c0
  have c1P10 := P10.c1
  have c0P11 := P11.c0
  have c1P11 := P11.c1
  have H12 := Lib.hid (Fill_good p4 q5 ⟨aa, ks.length, al⟩ ⟨ba, ks.length, bl⟩ (rat m d) ks d ((w9.alloc (.cells #[.slice p4.a p4.n p4.c, .slice q5.a q5.n q5.c] 29)).alloc (.cells #[.slice p6.a p6.n p6.c, .slice q7.a q7.n q7.c] 32)) rp4 ha hc (by omega) HKK HF HX HE)
  go_wp2_with fail
  clear c0P1 c1P1 c0P10 c1P10 c0P11 c1P11
  refine H12.out.mono ?_
  rintro e w13 ⟨v1, rfl, hv1, hb⟩
  clear H12
  replace P1 := P1.below hb
  replace P10 := P10.below hb
  replace P11 := P11.below hb
  replace ha := ha.below hb
  replace hc := hc.below hb
  replace rp4 := rp4.below hb
  replace rp6 := rp6.below hb
  replace hB := hB.trans (hb.mono hB.size)
  clear hb
  have c0P1 := P1.c0
  have c1P1 := P1.c1
  have c0P10 := P10.c0
  have c1P10 := P10.c1
  have c0P11 := P11.c0
  have c1P11 := P11.c1
  have H16 := Lib.hid (Level_good p4 q5 ⟨aa, ks.length, al⟩ ⟨ba, ks.length, bl⟩ (rat m d) ks d w13 rp4 ha hc (by omega) HKK HF HX HE)
  go_wp2_with fail
  clear c0P1 c1P1 c0P10 c1P10 c0P11 c1P11
  refine H16.out.mono ?_
  rintro e w17 ⟨x14, y15, rfl, rx14, hb⟩
  clear H16
  replace P1 := P1.below hb
  replace P10 := P10.below hb
  replace P11 := P11.below hb
  replace ha := ha.below hb
  replace hc := hc.below hb
  replace rp4 := rp4.below hb
  replace rp6 := rp6.below hb
  replace hv1 := hv1.below hb
  replace hB := hB.trans (hb.mono hB.size)
  clear hb
  have hb : Below w17.heap.size w17 (w17.alloc (.cells #[.slice x14.a x14.n x14.c, .slice y15.a y15.n y15.c] 29)) := ((Below.refl _ _).alloc (Nat.le_refl _) _)
  replace P1 := P1.below hb
  replace P10 := P10.below hb
  replace P11 := P11.below hb
  replace ha := ha.below hb
  replace hc := hc.below hb
  replace rp4 := rp4.below hb
  replace rp6 := rp6.below hb
  replace hv1 := hv1.below hb
  replace rx14 := rx14.below hb
  replace hB := hB.trans (hb.mono hB.size)
  have P18 : Pair (w17.alloc (.cells #[.slice x14.a x14.n x14.c, .slice y15.a y15.n y15.c] 29)) (w17.heap.size) 29 (.slice x14.a x14.n x14.c) (.slice y15.a y15.n y15.c) := by
    have h := Pair.new w17 29 (.slice x14.a x14.n x14.c) (.slice y15.a y15.n y15.c)
    simpa only [World.size_alloc] using h
  clear hb
  have c0P1 := P1.c0
  have c1P1 := P1.c1
  have c0P10 := P10.c0
  have c1P10 := P10.c1
  have c0P11 := P11.c0
  have c1P11 := P11.c1
  have c0P18 := P18.c0
  have c1P18 := P18.c1
  have H19 := Lib.hid (Fill_doc p6 q7 ⟨aa, ks.length, al⟩ ⟨ba, ks.length, bl⟩ (rat m d) ks d (w17.alloc (.cells #[.slice x14.a x14.n x14.c, .slice y15.a y15.n y15.c] 29)) rp6 ha hc (by omega) HKK HF HX HE)
  go_wp2_with fail
  clear c0P1 c1P1 c0P10 c1P10 c0P11 c1P11 c0P18 c1P18
  refine H19.out.mono ?_
  rintro e w20 ⟨v2, rfl, hv2, hb⟩
  clear H19
  replace P1 := P1.below hb
  replace P10 := P10.below hb
  replace P11 := P11.below hb
  replace P18 := P18.below hb
  replace ha := ha.below hb
  replace hc := hc.below hb
  replace rp4 := rp4.below hb
  replace rp6 := rp6.below hb
  replace hv1 := hv1.below hb
  replace rx14 := rx14.below hb
  replace hB := hB.trans (hb.mono hB.size)
  clear hb
  clear P1
  obtain ⟨vad, vcap, rfl⟩ := hv1.cut
  obtain ⟨wad, wcap, rfl⟩ := hv2.cut
  have c0P10 := P10.c0
  have c1P10 := P10.c1
  have c0P11 := P11.c0
  have c1P11 := P11.c1
  have c0P18 := P18.c0
  have c1P18 := P18.c1
  have H23 := Lib.hid (Qint (0) (by omega) w20)
  go_wp2_with fail
  clear c0P10 c1P10 c0P11 c1P11 c0P18 c1P18
  refine H23.out.mono ?_
  rintro e w24 ⟨x21, y22, rfl, rx21, hb⟩
  clear H23
  replace P10 := P10.below hb
  replace P11 := P11.below hb
  replace P18 := P18.below hb
  replace ha := ha.below hb
  replace hc := hc.below hb
  replace rp4 := rp4.below hb
  replace rp6 := rp6.below hb
  replace hv1 := hv1.below hb
  replace rx14 := rx14.below hb
  replace hv2 := hv2.below hb
  replace hB := hB.trans (hb.mono hB.size)
  clear hb
  have hn1 := RowX.new hv1 (Nat.le_refl _)
  have hn2 := RowX.new hv2 (Nat.le_refl _)
  have hlt7 := P10.lt
  have hlt8 := P11.lt
  have hlt11 := P18.lt
  have hszs := hB.size
  have hb : Below w24.heap.size w24 (w24.alloc (.cells #[.slice x21.a x21.n x21.c, .slice y22.a y22.n y22.c] 29)) := ((Below.refl _ _).alloc (Nat.le_refl _) _)
  replace P10 := P10.below hb
  replace P11 := P11.below hb
  replace P18 := P18.below hb
  replace ha := ha.below hb
  replace hc := hc.below hb
  replace rp4 := rp4.below hb
  replace rp6 := rp6.below hb
  replace hv1 := hv1.below hb
  replace rx14 := rx14.below hb
  replace hv2 := hv2.below hb
  replace rx21 := rx21.below hb
  replace hB := hB.trans (hb.mono hB.size)
  have P25 : Pair (w24.alloc (.cells #[.slice x21.a x21.n x21.c, .slice y22.a y22.n y22.c] 29)) (w24.heap.size) 29 (.slice x21.a x21.n x21.c) (.slice y22.a y22.n y22.c) := by
    have h := Pair.new w24 29 (.slice x21.a x21.n x21.c) (.slice y22.a y22.n y22.c)
    simpa only [World.size_alloc] using h
  clear hb
  have c0P10 := P10.c0
  have c1P10 := P10.c1
  have c0P11 := P11.c0
  have c1P11 := P11.c1
  have c0P18 := P18.c0
  have c1P18 := P18.c1
  have c0P25 := P25.c0
  have c1P25 := P25.c1
  go_wp2_with fail
  clear c0P10 c1P10 c0P11 c1P11 c0P18 c1P18 c0P25 c1P25
  obtain ⟨B15, hB15⟩ : ∃ B, B = w24.heap.size := ⟨_, rfl⟩
  rw [← hB15] at hn1 hn2 hlt7 hlt8 hlt11 hszs P25 ⊢
  clear hB15
  have HR0 : Hid (sum (docLevel (rat m d) ks) (ks.take 0) = ((0 : Nat) : Rat)) := Lib.hid (by rw [List.take_zero]; rfl)
  have HSS : Hid (∀ js : List Kid, (∀ k ∈ js, k ∈ ks) → js.length ≤ ks.length → Sz (sum (docLevel (rat m d) ks) js)) := Lib.hid (sum_sz HF.out HX0.out hl HKK.out HX.out)
  refine (?_ : ∀ (z0 z3 z4 z5 z10 z12 z14 z16 z17 z18 z19 z20 z21 z22 z23 z24 z25 z26 z27 z28 z29 z30 z31 z32 z33 z34 z35 z36 z37 z38 z39 z40 z41 z42 z43 z44 z45 z46 z47 z48 z49 z50 z51 z52 z53 z54 z55 z56 z57 z58 z59 z60 z61 z62 z63 z64 z65 z66 z67 z68 z69 z70 z71 z72 z73 z74 z75 z76 z77 z78 z79 z80 z81 z82 z83 z84 z87 z88 z89 z90 z91 z92 z93 z94 z95 z96 z97 z98 z99 z100 z101 z102 z103 z104 z105 z106 z107 z108 z109 z110 z111 z112 z113 z114 z115 z116 z117 : Value), Code.wp _ _ _ { tmps := List.toArray (z0 :: .slice aa ks.length al :: .slice ba ks.length bl :: z3 :: z4 :: z5 :: .bool false :: .pointer (some ⟨w9.heap.size, 0, none⟩) :: .pointer (some ⟨w9.heap.size + 1, 0, none⟩) :: .slice vad ks.length vcap :: z10 :: .pointer (some ⟨w17.heap.size, 0, none⟩) :: z12 :: .slice wad ks.length wcap :: z14 :: .pointer (some ⟨B15, 0, none⟩) :: z16 :: z17 :: z18 :: z19 :: z20 :: z21 :: z22 :: z23 :: z24 :: z25 :: z26 :: z27 :: z28 :: z29 :: z30 :: z31 :: z32 :: z33 :: z34 :: z35 :: z36 :: z37 :: z38 :: z39 :: z40 :: z41 :: z42 :: z43 :: z44 :: z45 :: z46 :: z47 :: z48 :: z49 :: z50 :: z51 :: z52 :: z53 :: z54 :: z55 :: z56 :: z57 :: z58 :: z59 :: z60 :: z61 :: z62 :: z63 :: z64 :: z65 :: z66 :: z67 :: z68 :: z69 :: z70 :: z71 :: z72 :: z73 :: z74 :: z75 :: z76 :: z77 :: z78 :: z79 :: z80 :: z81 :: z82 :: z83 :: z84 :: .int .i64 (ks.length : Int) :: .int .i64 0 :: z87 :: z88 :: z89 :: z90 :: z91 :: z92 :: z93 :: z94 :: z95 :: z96 :: z97 :: z98 :: z99 :: z100 :: z101 :: z102 :: z103 :: z104 :: z105 :: z106 :: z107 :: z108 :: z109 :: z110 :: z111 :: z112 :: z113 :: z114 :: z115 :: z116 :: z117 :: []), defers := [] } _) _ _ _ _ _ _ _ _ _ _ _ _ _ _ _ _ _ _ _ _ _ _ _ _ _ _ _ _ _ _ _ _ _ _ _ _ _ _ _ _ _ _ _ _ _ _ _ _ _ _ _ _ _ _ _ _ _ _ _ _ _ _ _ _ _ _ _ _ _ _ _ _ _ _ _ _ _ _ _ _ _ _ _ _ _ _ _ _ _ _ _ _ _ _ _ _ _ _ _ _ _ _ _ _ _ _ _
  intro z0 z3 z4 z5 z10 z12 z14 z16 z17 z18 z19 z20 z21 z22 z23 z24 z25 z26 z27 z28 z29 z30 z31 z32 z33 z34 z35 z36 z37 z38 z39 z40 z41 z42 z43 z44 z45 z46 z47 z48 z49 z50 z51 z52 z53 z54 z55 z56 z57 z58 z59 z60 z61 z62 z63 z64 z65 z66 z67 z68 z69 z70 z71 z72 z73 z74 z75 z76 z77 z78 z79 z80 z81 z82 z83 z84 z87 z88 z89 z90 z91 z92 z93 z94 z95 z96 z97 z98 z99 z100 z101 z102 z103 z104 z105 z106 z107 z108 z109 z110 z111 z112 z113 z114 z115 z116 z117
  go_loopw [86] (fun i wr => ∃ (k : Nat) (ps qs : Sl), k ≤ ks.length ∧ i = .int .i64 (k : Int) ∧ Hid (Pair wr (w9.heap.size) 29 (.slice p4.a p4.n p4.c) (.slice q5.a q5.n q5.c)) ∧ Hid (Pair wr (w9.heap.size + 1) 32 (.slice p6.a p6.n p6.c) (.slice q7.a q7.n q7.c)) ∧ Hid (Pair wr (w17.heap.size) 29 (.slice x14.a x14.n x14.c) (.slice y15.a y15.n y15.c)) ∧ Hid (RQ wr p4 q5 (rat m d)) ∧ Hid (RK wr p6 q7 (rat m d)) ∧ Hid (RQ wr x14 y15 (docLevel (rat m d) ks)) ∧ Hid (RI wr ⟨aa, ks.length, al⟩ (ks.map fun k => (k.1 : Int))) ∧ Hid (RI wr ⟨ba, ks.length, bl⟩ (ks.map fun k => (k.2 : Int))) ∧ Hid (RNQ wr (.slice vad ks.length vcap) (ks.map (given (docLevel (rat m d) ks))) B15) ∧ Hid (RNK wr (.slice wad ks.length wcap) (ks.map (given (docLevel (rat m d) ks))) B15) ∧ Hid (Pair wr B15 29 (.slice ps.a ps.n ps.c) (.slice qs.a qs.n qs.c)) ∧ Hid (RQ wr ps qs (sum (docLevel (rat m d) ks) (ks.take k))) ∧ Hid (Below w.heap.size w wr)) (fun mi _ => ks.length - (intOf mi).toNat)
  case atStart => exact ⟨0, x21, y22, Nat.zero_le _, rfl, Lib.hid P10, Lib.hid P11, Lib.hid P18, Lib.hid rp4, Lib.hid rp6, Lib.hid rx14, Lib.hid ha, Lib.hid hc, Lib.hid ⟨hv1, hn1⟩, Lib.hid ⟨hv2, hn2⟩, Lib.hid P25, Lib.hid (by rw [HR0.out]; exact rx21), Lib.hid hB⟩
  case round =>
    clear P25 rx21 hv1 hv2 hB P10 P11 P18 rp4 rp6 rx14 ha hc
    obtain ⟨k, ps, qs, hk, rfl, HP10, HP11, HP18, Hrp4, Hrp6, Hrx14, Hha, Hhc, Hhv1, Hhv2, HP15, Hhs, HBB⟩ := hrel
    have P10 := HP10.out
    have P11 := HP11.out
    have P18 := HP18.out
    have rp4 := Hrp4.out
    have rp6 := Hrp6.out
    have rx14 := Hrx14.out
    have ha := Hha.out
    have hc := Hhc.out
    have hv1 := Hhv1.out
    have hv2 := Hhv2.out
    have P15 := HP15.out
    have hs := Hhs.out
    have hB := HBB.out
    clear HP10 HP11 HP18 Hrp4 Hrp6 Hrx14 Hha Hhc Hhv1 Hhv2 HP15 Hhs HBB hn1 hn2
    by_cases hlt : k < ks.length
    · skip
      have hne : ks.map (given (docLevel (rat m d) ks)) ≠ [] := by intro e; have := congrArg List.length e; simp at this; rw [this] at hlt; simp at hlt
      obtain ⟨VB, vc2, ev, p, q, sc0, hq⟩ := hv1.1.at hlt
      injection ev with ev1 ev2 ev3
      subst ev1 ev3
      clear ev2
      have sc : SD wr VB k p q B15 := ⟨sc0, fun e => hv1.2 hne (by rw [e]; rfl)⟩
      clear sc0
      obtain ⟨WB, vc2, ev, p2, q2, sd0, hq2⟩ := hv2.1.at hlt
      injection ev with ev1 ev2 ev3
      subst ev1 ev3
      clear ev2
      have sd : SD wr WB k p2 q2 B15 := ⟨sd0, fun e => hv2.2 hne (by rw [e]; rfl)⟩
      clear sd0
      have HSN := Lib.hid (sum_snoc (docLevel (rat m d) ks) hlt)
      generalize ks.getD k (0, 0) = kid at hq hq2 HSN
      have HT : Hid (Sz (sum (docLevel (rat m d) ks) (ks.take k) + given (docLevel (rat m d) ks) kid)) := Lib.hid (by rw [← HSN.out]; exact HSS.out _ (fun x hx => List.mem_of_mem_take hx) (by rw [List.length_take]; omega))
      have c0P10 := P10.c0
      have c1P10 := P10.c1
      have c0P11 := P11.c0
      have c1P11 := P11.c1
      have c0P18 := P18.c0
      have c1P18 := P18.c1
      have c0P15 := P15.c0
      have c1P15 := P15.c1
      go_wp2_with fail
      clear c0P10 c1P10 c0P11 c1P11 c0P18 c1P18 c0P15 c1P15
      have hb : Below wr.heap.size wr wr.drew := (Below.refl _ _).drew
      replace P10 := P10.below hb
      replace P11 := P11.below hb
      replace P18 := P18.below hb
      replace P15 := P15.below hb
      replace rp4 := rp4.below hb
      replace rp6 := rp6.below hb
      replace rx14 := rx14.below hb
      replace ha := ha.below hb
      replace hc := hc.below hb
      replace hv1 := hv1.below hb
      replace hv2 := hv2.below hb
      replace hs := hs.below hb
      replace hq := hq.below hb
      replace hq2 := hq2.below hb
      replace sc := sc.below hb
      replace sd := sd.below hb
      replace hB := hB.trans (hb.mono hB.size)
      clear hb
      refine Rd.regionT (fun X => Pair X (w9.heap.size) 29 (.slice p4.a p4.n p4.c) (.slice q5.a q5.n q5.c) ∧ Pair X (w9.heap.size + 1) 32 (.slice p6.a p6.n p6.c) (.slice q7.a q7.n q7.c) ∧ Pair X (w17.heap.size) 29 (.slice x14.a x14.n x14.c) (.slice y15.a y15.n y15.c) ∧ Pair X (B15) 29 (.slice ps.a ps.n ps.c) (.slice qs.a qs.n qs.c) ∧ SD X VB k p q B15 ∧ SD X WB k p2 q2 B15) [0, 1, 2, 3, 4, 5, 6, 7, 9] (.one 0 (.one 1 (.one 2 (.one 3 (.one 4 (.one 5 (.one 6 (.one 7 (.one 8 (.one 9 .done)))))))))) (fun ac W => ∃  (y89 y90 y91 y92 y93 y94 y95 y96 y97 : Value), ac = { tmps := List.toArray (z0 :: .slice aa ks.length al :: .slice ba ks.length bl :: z3 :: z4 :: z5 :: u6 :: .pointer (some ⟨w9.heap.size, 0, none⟩) :: .pointer (some ⟨w9.heap.size + 1, 0, none⟩) :: .slice (some ⟨VB, 0, none⟩) ks.length vcap :: z10 :: .pointer (some ⟨w17.heap.size, 0, none⟩) :: z12 :: .slice (some ⟨WB, 0, none⟩) ks.length wcap :: z14 :: .pointer (some ⟨B15, 0, none⟩) :: .int .i64 (k : Int) :: z17 :: z18 :: z19 :: z20 :: z21 :: z22 :: z23 :: z24 :: z25 :: z26 :: z27 :: z28 :: z29 :: z30 :: z31 :: z32 :: z33 :: z34 :: z35 :: z36 :: z37 :: z38 :: z39 :: z40 :: z41 :: z42 :: z43 :: z44 :: z45 :: z46 :: z47 :: z48 :: z49 :: z50 :: z51 :: z52 :: z53 :: z54 :: z55 :: z56 :: z57 :: z58 :: z59 :: z60 :: z61 :: z62 :: z63 :: z64 :: z65 :: z66 :: z67 :: z68 :: z69 :: z70 :: z71 :: z72 :: z73 :: z74 :: z75 :: z76 :: z77 :: z78 :: z79 :: z80 :: z81 :: z82 :: z83 :: z84 :: .int .i64 (ks.length : Int) :: .int .i64 (k : Int) :: .bool true :: .int .i64 (k : Int) :: y89 :: y90 :: y91 :: y92 :: y93 :: y94 :: y95 :: y96 :: y97 :: .bool false :: u99 :: u100 :: u101 :: u102 :: u103 :: u104 :: u105 :: z106 :: z107 :: z108 :: z109 :: z110 :: z111 :: z112 :: z113 :: z114 :: z115 :: z116 :: z117 :: []), defers := [] } ∧ Pair W (w9.heap.size) 29 (.slice p4.a p4.n p4.c) (.slice q5.a q5.n q5.c) ∧ Pair W (w9.heap.size + 1) 32 (.slice p6.a p6.n p6.c) (.slice q7.a q7.n q7.c) ∧ Pair W (w17.heap.size) 29 (.slice x14.a x14.n x14.c) (.slice y15.a y15.n y15.c) ∧ Pair W (B15) 29 (.slice ps.a ps.n ps.c) (.slice qs.a qs.n qs.c) ∧ RQ W p4 q5 (rat m d) ∧ RK W p6 q7 (rat m d) ∧ RQ W x14 y15 (docLevel (rat m d) ks) ∧ RI W ⟨aa, ks.length, al⟩ (ks.map fun k => (k.1 : Int)) ∧ RI W ⟨ba, ks.length, bl⟩ (ks.map fun k => (k.2 : Int)) ∧ RNQ W (.slice (some ⟨VB, 0, none⟩) ks.length vcap) (ks.map (given (docLevel (rat m d) ks))) B15 ∧ RNK W (.slice (some ⟨WB, 0, none⟩) ks.length wcap) (ks.map (given (docLevel (rat m d) ks))) B15 ∧ RQ W ps qs (sum (docLevel (rat m d) ks) (ks.take k)) ∧ RQ W p q (given (docLevel (rat m d) ks) kid) ∧ RK W p2 q2 (given (docLevel (rat m d) ks) kid) ∧ SD W VB k p q B15 ∧ SD W WB k p2 q2 B15 ∧ Below w.heap.size w W) (by kernel_rfl) (by kernel_rfl) (by kernel_rfl) ⟨P10, P11, P18, P15, sc, sd⟩ ?tree ?next
      case tree =>
        generalize wr.drew = w26 at P10 P11 P18 P15 rp4 rp6 rx14 ha hc hv1 hv2 hs hq hq2 sc sd hB ⊢
        refine Rd.tr_float (.slice (some ⟨VB, 0, none⟩) ks.length vcap) (by simp only [List.getElem?_toArray, List.getElem?_cons_zero]; rfl) rfl (by rfl) (fun X _ => by go_simp) ?_
        simp only [Act.put, List.setIfInBounds_toArray, List.set_cons_succ, List.set_cons_zero]
        refine Rd.tr_float (.int .i64 (k : Int)) (by simp only [List.getElem?_toArray, List.getElem?_cons_succ, List.getElem?_cons_zero]; rfl) rfl (by rfl) (fun X _ => by go_simp) ?_
        simp only [Act.put, List.setIfInBounds_toArray, List.set_cons_succ, List.set_cons_zero]
        refine Rd.tr_float (.pointer (some ⟨VB, k * 2, none⟩)) (by simp only [List.getElem?_toArray, List.getElem?_cons_succ, List.getElem?_cons_zero]; rfl) rfl (by rfl) (fun X _ => by go_simp) ?_
        simp only [Act.put, List.setIfInBounds_toArray, List.set_cons_succ, List.set_cons_zero]
        refine Rd.tr_float (.agg #[.slice p.a p.n p.c, .slice q.a q.n q.c]) (by simp only [List.getElem?_toArray, List.getElem?_cons_succ, List.getElem?_cons_zero]; rfl) rfl (by rfl) (fun X hX => by have h0 := (hX.2.2.2.2.1).1.2.1; have h1 := (hX.2.2.2.2.1).1.2.2; go_simp) ?_
        simp only [Act.put, List.setIfInBounds_toArray, List.set_cons_succ, List.set_cons_zero]
        refine Rd.tr_float (.slice (some ⟨WB, 0, none⟩) ks.length wcap) (by simp only [List.getElem?_toArray, List.getElem?_cons_succ, List.getElem?_cons_zero]; rfl) rfl (by rfl) (fun X _ => by go_simp) ?_
        simp only [Act.put, List.setIfInBounds_toArray, List.set_cons_succ, List.set_cons_zero]
        refine Rd.tr_float (.int .i64 (k : Int)) (by simp only [List.getElem?_toArray, List.getElem?_cons_succ, List.getElem?_cons_zero]; rfl) rfl (by rfl) (fun X _ => by go_simp) ?_
        simp only [Act.put, List.setIfInBounds_toArray, List.set_cons_succ, List.set_cons_zero]
        refine Rd.tr_float (.pointer (some ⟨WB, k * 2, none⟩)) (by simp only [List.getElem?_toArray, List.getElem?_cons_succ, List.getElem?_cons_zero]; rfl) rfl (by rfl) (fun X _ => by go_simp) ?_
        simp only [Act.put, List.setIfInBounds_toArray, List.set_cons_succ, List.set_cons_zero]
        refine Rd.tr_float (.agg #[.slice p2.a p2.n p2.c, .slice q2.a q2.n q2.c]) (by simp only [List.getElem?_toArray, List.getElem?_cons_succ, List.getElem?_cons_zero]; rfl) rfl (by rfl) (fun X hX => by have h0 := (hX.2.2.2.2.2).1.2.1; have h1 := (hX.2.2.2.2.2).1.2.2; go_simp) ?_
        simp only [Act.put, List.setIfInBounds_toArray, List.set_cons_succ, List.set_cons_zero]
        refine Rd.tr_move (by simp only [List.getElem?_toArray, List.getElem?_cons_succ, List.getElem?_cons_zero]; rfl) rfl (by rfl) (fun K hK => ?_)
        have H27 := Lib.hid (Qis p q p2 q2 (given (docLevel (rat m d) ks) kid) w26 hq hq2)
        go_simp
        refine H27.out.mono ?_
        rintro e w28 ⟨rfl, hb⟩
        clear H27
        replace P10 := P10.below hb
        replace P11 := P11.below hb
        replace P18 := P18.below hb
        replace P15 := P15.below hb
        replace rp4 := rp4.below hb
        replace rp6 := rp6.below hb
        replace rx14 := rx14.below hb
        replace ha := ha.below hb
        replace hc := hc.below hb
        replace hv1 := hv1.below hb
        replace hv2 := hv2.below hb
        replace hs := hs.below hb
        replace hq := hq.below hb
        replace hq2 := hq2.below hb
        replace sc := sc.below hb
        replace sd := sd.below hb
        replace hB := hB.trans (hb.mono hB.size)
        clear hb
        refine hK _ _ ⟨P10, P11, P18, P15, sc, sd⟩ ?_
        clear hK K
        refine Rd.tr_float (.bool false) (by simp only [List.getElem?_toArray, List.getElem?_cons_succ, List.getElem?_cons_zero]; rfl) rfl (by rfl) (fun X _ => by go_simp) ?_
        simp only [Act.put, List.setIfInBounds_toArray, List.set_cons_succ, List.set_cons_zero]
        exact Rd.tr_end (⟨_, _, _, _, _, _, _, _, _, rfl, P10, P11, P18, P15, rp4, rp6, rx14, ha, hc, hv1, hv2, hs, hq, hq2, sc, sd, hB⟩)
      case next =>
        rintro a30 W29 ⟨y89, y90, y91, y92, y93, y94, y95, y96, y97, rfl, P10, P11, P18, P15, rp4, rp6, rx14, ha, hc, hv1, hv2, hs, hq, hq2, sc, sd, hB⟩
        have hsz := hB.size
        have hs15 := P15.lt
        go_wp2_with fail
        have c0P10 := P10.c0
        have c1P10 := P10.c1
        have c0P11 := P11.c0
        have c1P11 := P11.c1
        have c0P18 := P18.c0
        have c1P18 := P18.c1
        have c0P15 := P15.c0
        have c1P15 := P15.c1
        go_wp2_with fail
        clear c0P10 c1P10 c0P11 c1P11 c0P18 c1P18 c0P15 c1P15
        have hb : Below W29.heap.size W29 W29.drew := (Below.refl _ _).drew
        replace P10 := P10.below hb
        replace P11 := P11.below hb
        replace P18 := P18.below hb
        replace P15 := P15.below hb
        replace rp4 := rp4.below hb
        replace rp6 := rp6.below hb
        replace rx14 := rx14.below hb
        replace ha := ha.below hb
        replace hc := hc.below hb
        replace hv1 := hv1.below hb
        replace hv2 := hv2.below hb
        replace hs := hs.below hb
        replace hq := hq.below hb
        replace hq2 := hq2.below hb
        replace sc := sc.below hb
        replace sd := sd.below hb
        replace hB := hB.trans (hb.mono hB.size)
        clear hb
        refine Rd.regionT (fun X => Pair X (w9.heap.size) 29 (.slice p4.a p4.n p4.c) (.slice q5.a q5.n q5.c) ∧ Pair X (w9.heap.size + 1) 32 (.slice p6.a p6.n p6.c) (.slice q7.a q7.n q7.c) ∧ Pair X (w17.heap.size) 29 (.slice x14.a x14.n x14.c) (.slice y15.a y15.n y15.c) ∧ SD X VB k p q B15) [1, 2, 3, 4] (.one 1 (.one 2 (.one 3 (.one 4 (.one 0 (.one 5 (.one 6 .done))))))) (fun ac W => ∃ (pn : Sl) (qn : Sl) (y99 y100 y101 y102 y103 y104 : Value), ac = { tmps := List.toArray (z0 :: .slice aa ks.length al :: .slice ba ks.length bl :: z3 :: z4 :: z5 :: u6 :: .pointer (some ⟨w9.heap.size, 0, none⟩) :: .pointer (some ⟨w9.heap.size + 1, 0, none⟩) :: .slice (some ⟨VB, 0, none⟩) ks.length vcap :: z10 :: .pointer (some ⟨w17.heap.size, 0, none⟩) :: z12 :: .slice (some ⟨WB, 0, none⟩) ks.length wcap :: z14 :: .pointer (some ⟨B15, 0, none⟩) :: .int .i64 (k : Int) :: z17 :: z18 :: z19 :: z20 :: z21 :: z22 :: z23 :: z24 :: z25 :: z26 :: z27 :: z28 :: z29 :: z30 :: z31 :: z32 :: z33 :: z34 :: z35 :: z36 :: z37 :: z38 :: z39 :: z40 :: z41 :: z42 :: z43 :: z44 :: z45 :: z46 :: z47 :: z48 :: z49 :: z50 :: z51 :: z52 :: z53 :: z54 :: z55 :: z56 :: z57 :: z58 :: z59 :: z60 :: z61 :: z62 :: z63 :: z64 :: z65 :: z66 :: z67 :: z68 :: z69 :: z70 :: z71 :: z72 :: z73 :: z74 :: z75 :: z76 :: z77 :: z78 :: z79 :: z80 :: z81 :: z82 :: z83 :: z84 :: .int .i64 (ks.length : Int) :: .int .i64 (k : Int) :: .bool true :: .int .i64 (k : Int) :: y89 :: y90 :: y91 :: y92 :: y93 :: y94 :: y95 :: y96 :: y97 :: .bool false :: y99 :: y100 :: y101 :: y102 :: y103 :: y104 :: u105 :: z106 :: z107 :: z108 :: z109 :: z110 :: z111 :: z112 :: z113 :: z114 :: z115 :: z116 :: z117 :: []), defers := [] } ∧ Pair W (w9.heap.size) 29 (.slice p4.a p4.n p4.c) (.slice q5.a q5.n q5.c) ∧ Pair W (w9.heap.size + 1) 32 (.slice p6.a p6.n p6.c) (.slice q7.a q7.n q7.c) ∧ Pair W (w17.heap.size) 29 (.slice x14.a x14.n x14.c) (.slice y15.a y15.n y15.c) ∧ RQ W p4 q5 (rat m d) ∧ RK W p6 q7 (rat m d) ∧ RQ W x14 y15 (docLevel (rat m d) ks) ∧ RI W ⟨aa, ks.length, al⟩ (ks.map fun k => (k.1 : Int)) ∧ RI W ⟨ba, ks.length, bl⟩ (ks.map fun k => (k.2 : Int)) ∧ RNQ W (.slice (some ⟨VB, 0, none⟩) ks.length vcap) (ks.map (given (docLevel (rat m d) ks))) B15 ∧ RNK W (.slice (some ⟨WB, 0, none⟩) ks.length wcap) (ks.map (given (docLevel (rat m d) ks))) B15 ∧ RQ W p q (given (docLevel (rat m d) ks) kid) ∧ RK W p2 q2 (given (docLevel (rat m d) ks) kid) ∧ SD W VB k p q B15 ∧ SD W WB k p2 q2 B15 ∧ Pair W B15 29 (.slice pn.a pn.n pn.c) (.slice qn.a qn.n qn.c) ∧ RQ W pn qn (sum (docLevel (rat m d) ks) (ks.take k) + given (docLevel (rat m d) ks) kid) ∧ Below w.heap.size w W) (by kernel_rfl) (by kernel_rfl) (by kernel_rfl) ⟨P10, P11, P18, sc⟩ ?tree ?next
        case tree =>
          generalize W29.drew = w31 at P10 P11 P18 P15 rp4 rp6 rx14 ha hc hv1 hv2 hs hq hq2 sc sd hB ⊢
          refine Rd.tr_float (.slice (some ⟨VB, 0, none⟩) ks.length vcap) (by simp only [List.getElem?_toArray, List.getElem?_cons_succ, List.getElem?_cons_zero]; rfl) rfl (by rfl) (fun X _ => by go_simp) ?_
          simp only [Act.put, List.setIfInBounds_toArray, List.set_cons_succ, List.set_cons_zero]
          refine Rd.tr_float (.int .i64 (k : Int)) (by simp only [List.getElem?_toArray, List.getElem?_cons_succ, List.getElem?_cons_zero]; rfl) rfl (by rfl) (fun X _ => by go_simp) ?_
          simp only [Act.put, List.setIfInBounds_toArray, List.set_cons_succ, List.set_cons_zero]
          refine Rd.tr_float (.pointer (some ⟨VB, k * 2, none⟩)) (by simp only [List.getElem?_toArray, List.getElem?_cons_succ, List.getElem?_cons_zero]; rfl) rfl (by rfl) (fun X _ => by go_simp) ?_
          simp only [Act.put, List.setIfInBounds_toArray, List.set_cons_succ, List.set_cons_zero]
          refine Rd.tr_float (.agg #[.slice p.a p.n p.c, .slice q.a q.n q.c]) (by simp only [List.getElem?_toArray, List.getElem?_cons_succ, List.getElem?_cons_zero]; rfl) rfl (by rfl) (fun X hX => by have h0 := (hX.2.2.2).1.2.1; have h1 := (hX.2.2.2).1.2.2; go_simp) ?_
          simp only [Act.put, List.setIfInBounds_toArray, List.set_cons_succ, List.set_cons_zero]
          refine Rd.tr_move (by simp only [List.getElem?_toArray, List.getElem?_cons_zero]; rfl) rfl (by rfl) (fun K hK => ?_)
          have c0P15 := P15.c0
          have c1P15 := P15.c1
          go_simp
          clear c0P15 c1P15
          refine hK _ _ ⟨P10, P11, P18, sc⟩ ?_
          clear hK K
          refine Rd.tr_move (by simp only [List.getElem?_toArray, List.getElem?_cons_succ, List.getElem?_cons_zero]; rfl) rfl (by rfl) (fun K hK => ?_)
          have H34 := Lib.hid (Qadd ps qs p q (sum (docLevel (rat m d) ks) (ks.take k)) (given (docLevel (rat m d) ks) kid) w31 hs hq HT.out )
          go_simp
          refine H34.out.mono ?_
          rintro e w35 ⟨x32, y33, rfl, rx32, hb⟩
          clear H34
          replace P10 := P10.below hb
          replace P11 := P11.below hb
          replace P18 := P18.below hb
          replace P15 := P15.below hb
          replace rp4 := rp4.below hb
          replace rp6 := rp6.below hb
          replace rx14 := rx14.below hb
          replace ha := ha.below hb
          replace hc := hc.below hb
          replace hv1 := hv1.below hb
          replace hv2 := hv2.below hb
          replace hs := hs.below hb
          replace hq := hq.below hb
          replace hq2 := hq2.below hb
          replace sc := sc.below hb
          replace sd := sd.below hb
          replace hB := hB.trans (hb.mono hB.size)
          clear hb
          refine hK _ _ ⟨P10, P11, P18, sc⟩ ?_
          clear hK K
          refine Rd.tr_move (by simp only [List.getElem?_toArray, List.getElem?_cons_succ, List.getElem?_cons_zero]; rfl) rfl (by rfl) (fun K hK => ?_)
          have c0P15 := P15.c0
          have c1P15 := P15.c1
          have z0P15 := P15.z0
          have z1P15 := P15.z1
          go_simp
          clear c0P15 c1P15 z0P15 z1P15
          replace rp4 := rp4.pset P15 (.slice x32.a x32.n x32.c) (.slice y33.a y33.n y33.c)
          replace rp6 := rp6.pset P15 (.slice x32.a x32.n x32.c) (.slice y33.a y33.n y33.c)
          replace rx14 := rx14.pset P15 (.slice x32.a x32.n x32.c) (.slice y33.a y33.n y33.c)
          replace ha := ha.pset P15 (.slice x32.a x32.n x32.c) (.slice y33.a y33.n y33.c)
          replace hc := hc.pset P15 (.slice x32.a x32.n x32.c) (.slice y33.a y33.n y33.c)
          replace hv1 := hv1.pset P15 (.slice x32.a x32.n x32.c) (.slice y33.a y33.n y33.c)
          replace hv2 := hv2.pset P15 (.slice x32.a x32.n x32.c) (.slice y33.a y33.n y33.c)
          replace hs := hs.pset P15 (.slice x32.a x32.n x32.c) (.slice y33.a y33.n y33.c)
          replace hq := hq.pset P15 (.slice x32.a x32.n x32.c) (.slice y33.a y33.n y33.c)
          replace hq2 := hq2.pset P15 (.slice x32.a x32.n x32.c) (.slice y33.a y33.n y33.c)
          replace sc := sc.pset P15 (.slice x32.a x32.n x32.c) (.slice y33.a y33.n y33.c)
          replace sd := sd.pset P15 (.slice x32.a x32.n x32.c) (.slice y33.a y33.n y33.c)
          replace rx32 := rx32.pset P15 (.slice x32.a x32.n x32.c) (.slice y33.a y33.n y33.c)
          replace P10 := P10.other (B := B15) (by omega) (.slice x32.a x32.n x32.c) (.slice y33.a y33.n y33.c)
          replace P11 := P11.other (B := B15) (by omega) (.slice x32.a x32.n x32.c) (.slice y33.a y33.n y33.c)
          replace P18 := P18.other (B := B15) (by omega) (.slice x32.a x32.n x32.c) (.slice y33.a y33.n y33.c)
          replace hB := Below.pset (B := B15) hB (by omega) (.slice x32.a x32.n x32.c) (.slice y33.a y33.n y33.c)
          replace P15 := P15.set (.slice x32.a x32.n x32.c) (.slice y33.a y33.n y33.c)
          generalize (w35.setCell ⟨B15, 0, none⟩ (.slice x32.a x32.n x32.c)).setCell ⟨B15, 1, none⟩ (.slice y33.a y33.n y33.c) = w36 at P10 P11 P18 P15 rp4 rp6 rx14 ha hc hv1 hv2 hs hq hq2 sc sd rx32 hB ⊢
          refine hK _ _ ⟨P10, P11, P18, sc⟩ ?_
          clear hK K
          exact Rd.tr_end (⟨x32, y33, _, _, _, _, _, _, rfl, P10, P11, P18, rp4, rp6, rx14, ha, hc, hv1, hv2, hq, hq2, sc, sd, P15, rx32, hB⟩)
        case next =>
          rintro a38 W37 ⟨pn, qn, y99, y100, y101, y102, y103, y104, rfl, P10, P11, P18, rp4, rp6, rx14, ha, hc, hv1, hv2, hq, hq2, sc, sd, P15, hN, hB⟩
          go_wp2_with fail
          go_round
          case rel => exact ⟨k + 1, pn, qn, by omega, by go_num, Lib.hid P10, Lib.hid P11, Lib.hid P18, Lib.hid rp4, Lib.hid rp6, Lib.hid rx14, Lib.hid ha, Lib.hid hc, Lib.hid hv1, Lib.hid hv2, Lib.hid P15, Lib.hid (by rw [HSN.out]; exact hN), Lib.hid hB⟩
          case measure => simp [intOf]; omega
    · skip
      have ek : k = ks.length := by omega
      rw [ek, List.take_length] at hs
      clear hv1 hv2
      go_wp2_with fail
      refine (?_ : ∀ (z0 z3 z4 z5 z9 z10 z12 z13 z14 z16 z17 z18 z19 z20 z21 z22 z23 z24 z25 z26 z27 z28 z29 z30 z31 z32 z33 z34 z35 z36 z37 z38 z39 z40 z41 z42 z43 z44 z45 z46 z47 z48 z49 z50 z51 z52 z53 z54 z55 z56 z57 z58 z59 z60 z61 z62 z63 z64 z65 z66 z67 z68 z69 z70 z71 z72 z73 z74 z75 z76 z77 z78 z79 z80 z81 z82 z83 z84 z85 z86 z87 z88 z89 z90 z91 z92 z93 z94 z95 z96 z97 z98 z99 z100 z101 z102 z103 z104 z105 z106 z107 z108 z109 z110 z111 z112 z113 z114 z115 z116 z117 : Value), Code.wp _ _ _ { tmps := List.toArray (z0 :: .slice aa ks.length al :: .slice ba ks.length bl :: z3 :: z4 :: z5 :: u6 :: .pointer (some ⟨w9.heap.size, 0, none⟩) :: .pointer (some ⟨w9.heap.size + 1, 0, none⟩) :: z9 :: z10 :: .pointer (some ⟨w17.heap.size, 0, none⟩) :: z12 :: z13 :: z14 :: .pointer (some ⟨B15, 0, none⟩) :: z16 :: z17 :: z18 :: z19 :: z20 :: z21 :: z22 :: z23 :: z24 :: z25 :: z26 :: z27 :: z28 :: z29 :: z30 :: z31 :: z32 :: z33 :: z34 :: z35 :: z36 :: z37 :: z38 :: z39 :: z40 :: z41 :: z42 :: z43 :: z44 :: z45 :: z46 :: z47 :: z48 :: z49 :: z50 :: z51 :: z52 :: z53 :: z54 :: z55 :: z56 :: z57 :: z58 :: z59 :: z60 :: z61 :: z62 :: z63 :: z64 :: z65 :: z66 :: z67 :: z68 :: z69 :: z70 :: z71 :: z72 :: z73 :: z74 :: z75 :: z76 :: z77 :: z78 :: z79 :: z80 :: z81 :: z82 :: z83 :: z84 :: z85 :: z86 :: z87 :: z88 :: z89 :: z90 :: z91 :: z92 :: z93 :: z94 :: z95 :: z96 :: z97 :: z98 :: z99 :: z100 :: z101 :: z102 :: z103 :: z104 :: z105 :: z106 :: z107 :: z108 :: z109 :: z110 :: z111 :: z112 :: z113 :: z114 :: z115 :: z116 :: z117 :: []), defers := [] } _) _ _ _ _ _ _ _ _ _ _ _ _ _ _ _ _ _ _ _ _ _ _ _ _ _ _ _ _ _ _ _ _ _ _ _ _ _ _ _ _ _ _ _ _ _ _ _ _ _ _ _ _ _ _ _ _ _ _ _ _ _ _ _ _ _ _ _ _ _ _ _ _ _ _ _ _ _ _ _ _ _ _ _ _ _ _ _ _ _ _ _ _ _ _ _ _ _ _ _ _ _ _ _ _ _ _ _ _ _ _ _
      intro z0 z3 z4 z5 z9 z10 z12 z13 z14 z16 z17 z18 z19 z20 z21 z22 z23 z24 z25 z26 z27 z28 z29 z30 z31 z32 z33 z34 z35 z36 z37 z38 z39 z40 z41 z42 z43 z44 z45 z46 z47 z48 z49 z50 z51 z52 z53 z54 z55 z56 z57 z58 z59 z60 z61 z62 z63 z64 z65 z66 z67 z68 z69 z70 z71 z72 z73 z74 z75 z76 z77 z78 z79 z80 z81 z82 z83 z84 z85 z86 z87 z88 z89 z90 z91 z92 z93 z94 z95 z96 z97 z98 z99 z100 z101 z102 z103 z104 z105 z106 z107 z108 z109 z110 z111 z112 z113 z114 z115 z116 z117
      have c0P10 := P10.c0
      have c1P10 := P10.c1
      have c0P11 := P11.c0
      have c1P11 := P11.c1
      have c0P18 := P18.c0
      have c1P18 := P18.c1
      have c0P15 := P15.c0
      have c1P15 := P15.c1
      go_wp2_with fail
      clear c0P10 c1P10 c0P11 c1P11 c0P18 c1P18 c0P15 c1P15
      have hb : Below wr.heap.size wr wr.drew := (Below.refl _ _).drew
      replace P10 := P10.below hb
      replace P11 := P11.below hb
      replace P18 := P18.below hb
      replace P15 := P15.below hb
      replace rp4 := rp4.below hb
      replace rp6 := rp6.below hb
      replace rx14 := rx14.below hb
      replace ha := ha.below hb
      replace hc := hc.below hb
      replace hs := hs.below hb
      replace hB := hB.trans (hb.mono hB.size)
      clear hb
      refine Rd.regionT (fun X => Pair X (w9.heap.size) 29 (.slice p4.a p4.n p4.c) (.slice q5.a q5.n q5.c) ∧ Pair X (w9.heap.size + 1) 32 (.slice p6.a p6.n p6.c) (.slice q7.a q7.n q7.c) ∧ Pair X (w17.heap.size) 29 (.slice x14.a x14.n x14.c) (.slice y15.a y15.n y15.c) ∧ Pair X (B15) 29 (.slice ps.a ps.n ps.c) (.slice qs.a qs.n qs.c)) [0, 1, 3, 4, 5, 6, 7, 8, 11, 12] (.one 0 (.one 1 (.one 2 (.one 3 (.one 4 (.one 5 (.one 6 (.one 7 (.one 8 (.one 9 (.one 10 (.one 11 (.one 12 .done))))))))))))) (fun ac W => ∃  (y106 y107 y108 y109 y110 y111 y112 y113 y114 y115 y116 y117 : Value), ac = { tmps := List.toArray (z0 :: .slice aa ks.length al :: .slice ba ks.length bl :: z3 :: z4 :: z5 :: .bool true :: .pointer (some ⟨w9.heap.size, 0, none⟩) :: .pointer (some ⟨w9.heap.size + 1, 0, none⟩) :: z9 :: z10 :: .pointer (some ⟨w17.heap.size, 0, none⟩) :: z12 :: z13 :: z14 :: .pointer (some ⟨B15, 0, none⟩) :: z16 :: z17 :: z18 :: z19 :: z20 :: z21 :: z22 :: z23 :: z24 :: z25 :: z26 :: z27 :: z28 :: z29 :: z30 :: z31 :: z32 :: z33 :: z34 :: z35 :: z36 :: z37 :: z38 :: z39 :: z40 :: z41 :: z42 :: z43 :: z44 :: z45 :: z46 :: z47 :: z48 :: z49 :: z50 :: z51 :: z52 :: z53 :: z54 :: z55 :: z56 :: z57 :: z58 :: z59 :: z60 :: z61 :: z62 :: z63 :: z64 :: z65 :: z66 :: z67 :: z68 :: z69 :: z70 :: z71 :: z72 :: z73 :: z74 :: z75 :: z76 :: z77 :: z78 :: z79 :: z80 :: z81 :: z82 :: z83 :: z84 :: z85 :: z86 :: z87 :: z88 :: z89 :: z90 :: z91 :: z92 :: z93 :: z94 :: z95 :: z96 :: z97 :: z98 :: z99 :: z100 :: z101 :: z102 :: z103 :: z104 :: z105 :: y106 :: y107 :: y108 :: y109 :: y110 :: y111 :: y112 :: y113 :: y114 :: y115 :: y116 :: y117 :: []), defers := [] } ∧ Below w.heap.size w W) (by kernel_rfl) (by kernel_rfl) (by kernel_rfl) ⟨P10, P11, P18, P15⟩ ?tree ?next
      case tree =>
        generalize wr.drew = w39 at P10 P11 P18 P15 rp4 rp6 rx14 ha hc hs hB ⊢
        refine Rd.tr_float (.agg #[.slice ps.a ps.n ps.c, .slice qs.a qs.n qs.c]) (by simp only [List.getElem?_toArray, List.getElem?_cons_zero]; rfl) rfl (by rfl) (fun X hX => by have h0 := hX.2.2.2.c0; have h1 := hX.2.2.2.c1; go_simp) ?_
        simp only [Act.put, List.setIfInBounds_toArray, List.set_cons_succ, List.set_cons_zero]
        refine Rd.tr_float (.agg #[.slice p4.a p4.n p4.c, .slice q5.a q5.n q5.c]) (by simp only [List.getElem?_toArray, List.getElem?_cons_succ, List.getElem?_cons_zero]; rfl) rfl (by rfl) (fun X hX => by have h0 := hX.1.c0; have h1 := hX.1.c1; go_simp) ?_
        simp only [Act.put, List.setIfInBounds_toArray, List.set_cons_succ, List.set_cons_zero]
        refine Rd.tr_move (by simp only [List.getElem?_toArray, List.getElem?_cons_succ, List.getElem?_cons_zero]; rfl) rfl (by rfl) (fun K hK => ?_)
        have H40 := Lib.hid (Qcmp ps qs p4 q5 (sum (docLevel (rat m d) ks) ks) (rat m d) w39 hs rp4)
        go_simp
        refine H40.out.mono ?_
        rintro e w41 ⟨rfl, hb⟩
        clear H40
        replace P10 := P10.below hb
        replace P11 := P11.below hb
        replace P18 := P18.below hb
        replace P15 := P15.below hb
        replace rp4 := rp4.below hb
        replace rp6 := rp6.below hb
        replace rx14 := rx14.below hb
        replace ha := ha.below hb
        replace hc := hc.below hb
        replace hs := hs.below hb
        replace hB := hB.trans (hb.mono hB.size)
        clear hb
        refine hK _ _ ⟨P10, P11, P18, P15⟩ ?_
        clear hK K
        refine Rd.tr_float (.bool true) (by simp only [List.getElem?_toArray, List.getElem?_cons_succ, List.getElem?_cons_zero]; rfl) rfl (by rfl) (fun X _ => by have hO := HCZ.out; go_simp) ?_
        simp only [Act.put, List.setIfInBounds_toArray, List.set_cons_succ, List.set_cons_zero]
        refine Rd.tr_float (.bool true) (by simp only [List.getElem?_toArray, List.getElem?_cons_succ, List.getElem?_cons_zero]; rfl) rfl (by rfl) (fun X _ => by go_simp) ?_
        simp only [Act.put, List.setIfInBounds_toArray, List.set_cons_succ, List.set_cons_zero]
        refine Rd.tr_float (.agg #[.slice x14.a x14.n x14.c, .slice y15.a y15.n y15.c]) (by simp only [List.getElem?_toArray, List.getElem?_cons_succ, List.getElem?_cons_zero]; rfl) rfl (by rfl) (fun X hX => by have h0 := hX.2.2.1.c0; have h1 := hX.2.2.1.c1; go_simp) ?_
        simp only [Act.put, List.setIfInBounds_toArray, List.set_cons_succ, List.set_cons_zero]
        refine Rd.tr_float (.agg #[.slice p6.a p6.n p6.c, .slice q7.a q7.n q7.c]) (by simp only [List.getElem?_toArray, List.getElem?_cons_succ, List.getElem?_cons_zero]; rfl) rfl (by rfl) (fun X hX => by have h0 := hX.2.1.c0; have h1 := hX.2.1.c1; go_simp) ?_
        simp only [Act.put, List.setIfInBounds_toArray, List.set_cons_succ, List.set_cons_zero]
        refine Rd.tr_float (.slice aa ks.length al) (by simp only [List.getElem?_toArray, List.getElem?_cons_succ, List.getElem?_cons_zero]; rfl) rfl (by rfl) (fun X _ => by go_simp) ?_
        simp only [Act.put, List.setIfInBounds_toArray, List.set_cons_succ, List.set_cons_zero]
        refine Rd.tr_float (.slice ba ks.length bl) (by simp only [List.getElem?_toArray, List.getElem?_cons_succ, List.getElem?_cons_zero]; rfl) rfl (by rfl) (fun X _ => by go_simp) ?_
        simp only [Act.put, List.setIfInBounds_toArray, List.set_cons_succ, List.set_cons_zero]
        refine Rd.tr_move (by simp only [List.getElem?_toArray, List.getElem?_cons_succ, List.getElem?_cons_zero]; rfl) rfl (by rfl) (fun K hK => ?_)
        have H44 := Lib.hid (Level_doc p6 q7 ⟨aa, ks.length, al⟩ ⟨ba, ks.length, bl⟩ (rat m d) ks d w41 rp6 ha hc hl HKK HF HX)
        go_simp
        refine H44.out.mono ?_
        rintro e w45 ⟨x42, y43, rfl, rx42, hb⟩
        clear H44
        replace P10 := P10.below hb
        replace P11 := P11.below hb
        replace P18 := P18.below hb
        replace P15 := P15.below hb
        replace rp4 := rp4.below hb
        replace rp6 := rp6.below hb
        replace rx14 := rx14.below hb
        replace ha := ha.below hb
        replace hc := hc.below hb
        replace hs := hs.below hb
        replace hB := hB.trans (hb.mono hB.size)
        clear hb
        refine hK _ _ ⟨P10, P11, P18, P15⟩ ?_
        clear hK K
        refine Rd.tr_move (by simp only [List.getElem?_toArray, List.getElem?_cons_succ, List.getElem?_cons_zero]; rfl) rfl (by rfl) (fun K hK => ?_)
        have H46 := Lib.hid (Qis x14 y15 x42 y43 (docLevel (rat m d) ks) w45 rx14 rx42)
        go_simp
        refine H46.out.mono ?_
        rintro e w47 ⟨rfl, hb⟩
        clear H46
        replace P10 := P10.below hb
        replace P11 := P11.below hb
        replace P18 := P18.below hb
        replace P15 := P15.below hb
        replace rp4 := rp4.below hb
        replace rp6 := rp6.below hb
        replace rx14 := rx14.below hb
        replace ha := ha.below hb
        replace hc := hc.below hb
        replace hs := hs.below hb
        replace rx42 := rx42.below hb
        replace hB := hB.trans (hb.mono hB.size)
        clear hb
        refine hK _ _ ⟨P10, P11, P18, P15⟩ ?_
        clear hK K
        refine Rd.tr_float (.bool true) (by simp only [List.getElem?_toArray, List.getElem?_cons_succ, List.getElem?_cons_zero]; rfl) rfl (by rfl) (fun X _ => by go_simp) ?_
        simp only [Act.put, List.setIfInBounds_toArray, List.set_cons_succ, List.set_cons_zero]
        refine Rd.tr_float (.bool true) (by simp only [List.getElem?_toArray, List.getElem?_cons_succ, List.getElem?_cons_zero]; rfl) rfl (by rfl) (fun X _ => by go_simp) ?_
        simp only [Act.put, List.setIfInBounds_toArray, List.set_cons_succ, List.set_cons_zero]
        exact Rd.tr_end (⟨_, _, _, _, _, _, _, _, _, _, _, _, rfl, hB⟩)
      case next =>
        rintro a49 W48 ⟨y106, y107, y108, y109, y110, y111, y112, y113, y114, y115, y116, y117, rfl, hB⟩
        go_wp2_with fail
        go_ret
        exact ⟨rfl, hB⟩

theorem fillShares_any (A B : Int) (a b : Sl) (ws cs : List Int) (w : World) (ha : RI w a ws) (hc : RI w b cs) (hA1 : A < 9223372036854775808) (hB1 : B < 9223372036854775808) :
    Calls Tryz.prog 3 #[.agg #[.int .i64 A, .int .i64 B], .slice a.a a.n a.c, .slice b.a b.n b.c] w fun e w' => e = .returned (.bool true) ∧ Below w.heap.size w w' := by
  by_cases h1 : 36 < ws.length
  · exact shares_l1 A B a b ws cs w ha hc h1
  by_cases h2 : 36 < cs.length
  · exact shares_l2 A B a b ws cs w ha hc (by omega) h2
  have hA : max A 0 = (((max A 0).toNat : Nat) : Int) := by omega
  have hD : max B 1 = (((max B 1).toNat : Nat) : Int) := by omega
  have hm : (max A 0).toNat < 9223372036854775808 := by omega
  have hd : (max B 1).toNat < 9223372036854775808 := by omega
  have HD0 : Hid ((max B 1).toNat ≠ 0) := Lib.hid (by omega)
  generalize (max A 0).toNat = m at hA hm
  generalize (max B 1).toNat = d at hD hd HD0
  by_cases h0 : errOf (rat m d) ws cs = 0
  · obtain ⟨ks, rfl, rfl, hk, hl, hx⟩ := err_kids h0
    exact shares_good A B m d a b ks w ha hc hA hD hm hd HD0 hl (Lib.hid hk) (Lib.hid hx) (Lib.hid h0)
  · exact shares_bad A B m d a b ws cs w ha hc hA hD hm hd HD0 (by omega) (by omega) _ h0 (by simpa using h0) (Lib.hid rfl)
end Go.Proofs.YtphllajedkpcbaaGreatDoor
