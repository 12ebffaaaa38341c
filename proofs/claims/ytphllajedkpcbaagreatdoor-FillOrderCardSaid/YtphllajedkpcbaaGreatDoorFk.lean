/-
  The program's Fill where nothing is wrong, told in rationals. Condition: a denominator below 2 to the 600th.
-/
import Derived.Test.YtphllajedkpcbaaGreatDoorFj
import Derived.Test.YtphllajedkpcbaaGreatDoorRq
namespace Go.Proofs.YtphllajedkpcbaaGreatDoor
open Go.RowKit Go.Dig Go.Shelf Go.Proofs Go.Rq

theorem Tryz.info29 : (Tryz.prog.info? 29).map (fun i => (i.zero, i.size, i.bytes)) = some (some (.agg #[.slice none 0 0, .slice none 0 0]), 2, 48) := by kernel_rfl
theorem doc_sz {D : Nat} {x : Rat} {ks : List Kid} (hF : Fine D x) (h0 : 0 ≤ x) (hl : ks.length ≤ 32) (hk : ∀ k ∈ ks, okKid k) (hx : x ≤ ((caps ks : Nat) : Rat)) (n : Nat) (hn : n ≤ 10000) : Sz (docLevel x ks * n) := by
  obtain ⟨E, hE, hE2, hw, hd0, hd1⟩ := docLevel_whole (D := D) hF.2.2 h0 (fun k hk' => (hk k hk').1) (fun k hk' => (hk k hk').2.1) (fun k hk' => (hk k hk').2.2) hx
  have hwl := weights_le ks hk
  have hcl := caps_le ks hk
  have hE3 : E ≤ 2 ^ 64 := by
    refine Nat.le_trans hE2 ?_
    have : weights ks + 1 ≤ 320001 := by omega
    exact Nat.le_trans (Nat.mul_le_mul_left _ this) (by decide)
  have hx2 : x ≤ ((2048 : Nat) : Rat) := Rat.le_trans hx (Rat.natCast_le_natCast.2 (by omega))
  refine Sz.whole (D := D * E) (B := 2112 * 10000) (Nat.mul_ne_zero hF.1 hE) (whole_mul n hw) (Rat.mul_nonneg hd0 Rat.natCast_nonneg) ?_ (mul_big hF.2.1 hE3) (big_small 3000 (by decide) (by omega))
  have h1 : docLevel x ks ≤ ((2112 : Nat) : Rat) := by
    have : ((2112 : Nat) : Rat) = ((64 : Nat) : Rat) + ((2048 : Nat) : Rat) := by rw [← Rat.natCast_add]
    rw [this]
    grind
  have h2 : ((n : Nat) : Rat) ≤ ((10000 : Nat) : Rat) := Rat.natCast_le_natCast.2 hn
  rw [Rat.natCast_mul]
  exact Rat.le_trans (le_mul h1) (Rat.mul_le_mul_of_nonneg_left h2 Rat.natCast_nonneg)
theorem take_snoc (f : Kid → Rat) {ks : List Kid} {k : Nat} (h : k < ks.length) : (ks.take (k + 1)).map f = (ks.take k).map f ++ [f (ks.getD k (0, 0))] := by
  rw [List.take_add_one, List.map_append]
  simp [List.getD_eq_getElem?_getD, List.getElem?_eq_getElem h]

set_option maxRecDepth 100000 in
set_option maxHeartbeats 4000000 in
theorem Fill_good (p q a b : Sl) (x : Rat) (ks : List Kid) (D : Nat) (w : World) (hx : RQ w p q x) (ha : RI w a (ks.map fun k => (k.1 : Int))) (hc : RI w b (ks.map fun k => (k.2 : Int))) (hl : ks.length ≤ 32) (HKK : Hid (∀ k ∈ ks, okKid k)) (HF : Hid (Fine D x)) (HX : Hid (x ≤ ((caps ks : Nat) : Rat))) (HE : Hid (errOf x (ks.map fun k => (k.1 : Int)) (ks.map fun k => (k.2 : Int)) = 0)) :
    Calls Tryz.prog 10 #[.agg #[.slice p.a p.n p.c, .slice q.a q.n q.c], .slice a.a a.n a.c, .slice b.a b.n b.c] w fun e w' => ∃ v, e = .returned (.tuple #[v, .int .i64 0]) ∧ RowQ w' v (ks.map (given (docLevel x ks))) ∧ Below w.heap.size w w' := by
  have ea := ha.len
  rw [List.length_map] at ea
  have HEA := Lib.hid ea
  clear ea
  obtain ⟨i0, hi, hz0, hz1, hz2⟩ := info_parts Tryz.info29
  have HX0 : Hid (0 ≤ x) := Lib.hid hx.1.pos
  go_enter Tryz.func10, Tryz.ntmps10
  have hb : Below w.heap.size w (w.alloc (.cells #[.slice p.a p.n p.c, .slice q.a q.n q.c] 29)) := ((Below.refl _ _).alloc (Nat.le_refl _) _)
  replace hx := hx.below hb
  replace ha := ha.below hb
  replace hc := hc.below hb
  have hB := hb
  have P1 : Pair (w.alloc (.cells #[.slice p.a p.n p.c, .slice q.a q.n q.c] 29)) (w.heap.size) 29 (.slice p.a p.n p.c) (.slice q.a q.n q.c) := by
    have h := Pair.new w 29 (.slice p.a p.n p.c) (.slice q.a q.n q.c)
    simpa only [World.size_alloc] using h
  clear hb
  have c0P1 := P1.c0
  have c1P1 := P1.c1
  have H1 := Lib.hid (Level_good p q a b x ks D (w.alloc (.cells #[.slice p.a p.n p.c, .slice q.a q.n q.c] 29)) hx ha hc hl HKK HF HX HE)
  go_wp2_with fail
  clear c0P1 c1P1
  refine H1.out.mono ?_
  rintro e w1 ⟨pv, qv, rfl, hv, hb⟩
  clear H1
  replace ha := ha.below hb
  replace hc := hc.below hb
  replace hB := hB.trans (hb.mono hB.size)
  clear hb P1 hx
  have P9 := Pair.new w1 29 (.slice pv.a pv.n pv.c) (.slice qv.a qv.n qv.c)
  have hb : Below w1.heap.size w1 (w1.alloc (.cells #[.slice pv.a pv.n pv.c, .slice qv.a qv.n qv.c] 29)) := (Below.refl _ _).alloc (Nat.le_refl _) _
  have hsz := hB.size
  replace ha := ha.below hb
  replace hc := hc.below hb
  replace hv := hv.below hb
  replace hB := hB.trans (hb.mono hB.size)
  clear hb
  go_wp2_with (at_make; refine wpList_make_S (base := w1.heap.size + 1) (e := 29) rfl _ _ 35 rfl i0 Tryz.underlying35 hi hz0 hz1 hz2 a.n rfl rfl (by have := HEA.out; omega) (by simp) ?_; intro w2 hown hgrow)
  have hb : Below (w1.alloc (.cells #[.slice pv.a pv.n pv.c, .slice qv.a qv.n qv.c] 29)).heap.size (w1.alloc (.cells #[.slice pv.a pv.n pv.c, .slice qv.a qv.n qv.c] 29)) w2 := (Below.refl _ _).grown hgrow (Nat.le_refl _) (fun j ej => by cases ej)
  replace ha := ha.below hb
  replace hc := hc.below hb
  replace hv := hv.below hb
  replace P9 := P9.below hb
  replace hB := hB.trans (hb.mono hB.size)
  clear hb hgrow
  obtain ⟨B9, hB9⟩ : ∃ B, B = w1.heap.size := ⟨_, rfl⟩
  rw [← hB9] at hown hsz P9
  simp only [World.size_alloc] at hown ⊢
  rw [← hB9] at hown ⊢
  clear hB9 w1
  have H3 := Lib.hid (children_any a b ks w2 ha hc (by omega))
  clear ha hc
  go_wp2_with fail
  refine H3.out.mono ?_
  rintro e w3 ⟨Bk, rfl, _, hkb, hb⟩
  clear H3
  replace hv := hv.below hb
  replace P9 := P9.below hb
  replace hown := hown.below hb
  replace hB := hB.trans (hb.mono hB.size)
  clear hb
  have HLV : Hid (∀ n : Nat, n ≤ 10000 → Sz (docLevel x ks * n)) := Lib.hid (doc_sz HF.out HX0.out hl HKK.out HX.out)
  have HR : Hid ((ks.take 0).map (given (docLevel x ks)) = []) := Lib.hid (by simp)
  obtain ⟨lvl, hlvl⟩ : ∃ l, l = docLevel x ks := ⟨_, rfl⟩
  rw [← hlvl] at hv HLV HR
  have HLL := Lib.hid hlvl
  clear hlvl
  go_wp2_with fail
  go_loopw [10, 30] (fun v i wr => ∃ (k : Nat) (xs : List Value), k ≤ ks.length ∧ i = .int .i64 (k : Int) ∧ Hid (OwnS wr (B9 + 1) 29 v k xs) ∧ Hid (Gets RQ wr xs ((ks.take k).map (given lvl))) ∧ Hid (Pair wr B9 29 (.slice pv.a pv.n pv.c) (.slice qv.a qv.n qv.c)) ∧ Hid (RQ wr pv qv lvl) ∧ Hid (KB wr Bk ks) ∧ Hid (Below w.heap.size w wr)) (fun _ i _ => ks.length - (intOf i).toNat)
  case atStart => exact ⟨0, [], Nat.zero_le _, rfl, Lib.hid hown, Lib.hid (by rw [HR.out]; exact Gets.nil _ _), Lib.hid P9, Lib.hid hv, Lib.hid hkb, Lib.hid hB⟩
  case round =>
    clear P9 hkb hv hB hown
    obtain ⟨k, xs, hk, rfl, HO, HG, HP9, HV, HK, HBB⟩ := hrel
    have P9 := HP9.out
    have hkb := HK.out
    have hv := HV.out
    have hB := HBB.out
    have hg := HG.out
    have hown := HO.out
    clear HP9 HK HV HBB HG HO
    by_cases hlt : k < ks.length
    · skip
      have h2 := hkb.2 k hlt
      have hkk := HKK.out _ (kget_mem hlt)
      have HTS := Lib.hid (take_snoc (given lvl) hlt)
      generalize ks.getD k (0, 0) = kid at h2 hkk HTS
      obtain ⟨wt, cp⟩ := kid
      dsimp only at h2
      obtain ⟨⟨c1, _⟩, ⟨c2, _⟩⟩ := h2
      have hwt := hkk.2.1
      have hcp := hkk.2.2
      dsimp only at hwt hcp
      clear hkk
      have hb : Below wr.heap.size wr (wr.alloc (.cells #[.int .i64 (wt : Int), .int .i64 (cp : Int)] 62)) := ((Below.refl _ _).alloc (Nat.le_refl _) _)
      replace P9 := P9.below hb
      replace hkb := hkb.below hb
      replace hv := hv.below hb
      replace hown := hown.below hb
      replace hg := hg.move (fun _ _ _ h => h.below hb)
      replace hB := hB.trans (hb.mono hB.size)
      have P18 : Pair (wr.alloc (.cells #[.int .i64 (wt : Int), .int .i64 (cp : Int)] 62)) (wr.heap.size) 62 (.int .i64 (wt : Int)) (.int .i64 (cp : Int)) := by
        have h := Pair.new wr 62 (.int .i64 (wt : Int)) (.int .i64 (cp : Int))
        simpa only [World.size_alloc] using h
      clear hb
      have c0P9 := P9.c0
      have c1P9 := P9.c1
      have c0P18 := P18.c0
      have c1P18 := P18.c1
      have H4 := Lib.hid (gets_any wt cp pv qv lvl (wr.alloc (.cells #[.int .i64 (wt : Int), .int .i64 (cp : Int)] 62)) hv hwt hcp (Lib.hid (HLV.out wt hwt)))
      go_wp2_with fail
      clear c0P9 c1P9 c0P18 c1P18 c1 c2
      refine H4.out.mono ?_
      rintro e w4 ⟨x1, y1, rfl, rg, hb⟩
      clear H4 P18
      replace P9 := P9.below hb
      replace hkb := hkb.below hb
      replace hv := hv.below hb
      replace hown := hown.below hb
      replace hg := hg.move (fun _ _ _ h => h.below hb)
      replace hB := hB.trans (hb.mono hB.size)
      clear hb
      have hb : Below w4.heap.size w4 (w4.alloc (.cells #[.slice x1.a x1.n x1.c, .slice y1.a y1.n y1.c] 29)) := ((Below.refl _ _).alloc (Nat.le_refl _) _)
      have P5 := Pair.new w4 29 (.slice x1.a x1.n x1.c) (.slice y1.a y1.n y1.c)
      have hs9 := P9.lt
      replace P9 := P9.below hb
      replace hkb := hkb.below hb
      replace hv := hv.below hb
      replace rg := rg.below hb
      replace hown := hown.below hb
      replace hg := hg.move (fun _ _ _ h => h.below hb)
      replace hB := hB.trans (hb.mono hB.size)
      clear hb
      have HN : Hid (∀ (j : Nat) (u : Value), [Value.slice x1.a x1.n x1.c, Value.slice y1.a y1.n y1.c][j]? = some u → (w4.alloc (.cells #[.slice x1.a x1.n x1.c, .slice y1.a y1.n y1.c] 29)).cell? ((⟨w4.heap.size, 0, none⟩ : Addr).add j) = some u) := Lib.hid (by
        intro j u hj
        match j, hj with
        | 0, hj => rw [Addr.add_lit]; exact P5.c0.trans hj
        | 1, hj => rw [Addr.add_lit]; exact P5.c1.trans hj
        | j + 2, hj => simp at hj)
      have HOW := Lib.hid hown
      clear hown P5
      have HP9 := Lib.hid P9
      have HKB := Lib.hid hkb
      have HV := Lib.hid hv
      have HRG := Lib.hid rg
      have HGG := Lib.hid hg
      have HB2 := Lib.hid hB
      clear P9 hkb hv rg hg hB
      go_wp2_with (at_builtin; refine wpList_append_S (e := 29) (base := B9 + 1) rfl _ _ 35 rfl i0 Tryz.underlying35 hi hz0 hz1 hz2 rfl HOW.out ⟨w4.heap.size, 0, none⟩ 1 _ _ rfl ⟨_, _, _, rfl⟩ ⟨_, _, _, rfl⟩ HN.out (by omega) (by simp; omega) ?_; intro v5 w5 hown5 hgrow5)
      have hle : w.heap.size ≤ B9 + 1 := by omega
      have hBn := HB2.out.grown hgrow5 HB2.out.size (fun j ej => by have := (HOW.out.lt j ej).1; omega)
      have hgn := (HGG.out.snoc HRG.out).move (fun _ _ _ h => h.grownS HOW.out hgrow5)
      rw [← HTS.out] at hgn
      have hvn := HV.out.grownS HOW.out hgrow5
      have hpn := HP9.out.grownS HOW.out (Nat.lt_succ_self _) hgrow5
      have hkn := HKB.out.grownS HOW.out hgrow5
      have HH := Lib.hid (And.intro hBn (And.intro hgn (And.intro hvn (And.intro hpn (And.intro hkn hown5)))))
      clear hBn hgn hvn hpn hkn hown5 hgrow5
      go_wp2_with fail
      go_round
      case rel => exact ⟨k + 1, _, by omega, by go_num, Lib.hid HH.out.2.2.2.2.2, Lib.hid HH.out.2.1, Lib.hid HH.out.2.2.2.1, Lib.hid HH.out.2.2.1, Lib.hid HH.out.2.2.2.2.1, Lib.hid HH.out.1⟩
      case measure => simp [intOf]; omega
    · have ek : k = ks.length := by omega
      subst ek
      have hg2 : Gets RQ wr xs (ks.map (given lvl)) := by rw [List.take_length] at hg; exact hg
      have ho2 : OwnS wr (B9 + 1) 29 u10 (ks.map (given lvl)).length xs := by rw [List.length_map]; exact hown
      have HH := Lib.hid (And.intro (RowX.of_own ho2 hg2) hB)
      clear hg hown hg2 ho2 hB P9 hkb hv
      go_wp2_with fail
      go_ret2
      exact ⟨u10, rfl, by rw [← HLL.out]; exact HH.out.1, HH.out.2⟩
end Go.Proofs.YtphllajedkpcbaaGreatDoor
