/-
  Contracts of the document's answers roundelref02.Div and Gcd: the quotient, by halving for each digit, and what is left; the greatest that divides both. Conditions: the divisor isn't 0; not more than ten thousand digits. Contract of the document's answer roundelref02.Gcd. Condition: not more than ten thousand digits.
-/
import Derived.Test.YtphllajedkpcbaaGreatDoorLa
import Derived.Test.YtphllajedkpcbaaGreatDoorNl
import Derived.Test.YtphllajedkpcbaaGreatDoorLc
namespace Go.Proofs.YtphllajedkpcbaaGreatDoor
open Go.RowKit Go.Dig Go.Shelf Go.Proofs

/-- a row of digits that is owned, from its first cell on. -/
abbrev Own32 (w : World) (base g n cap : Nat) (l : List Nat) : Prop := w.ownsRow base 3 1 (.slice (some ⟨g, 0, none⟩) n cap) n (l.map encN)
theorem Own32.cell {w : World} {base g n cap : Nat} {l : List Nat} (h : Own32 w base g n cap l) {j : Nat} (hj : j < n) : w.cell? ⟨g, j, none⟩ = some (.int .i64 (l.getD j 0 : Nat)) := by
  have hl : l.length = n := by have := h.1; simpa using this
  rw [h.cellAt j (by omega)]
  simp [List.getD, show j < l.length by omega, encN]
theorem Own32.set {w : World} {base g n cap : Nat} {l : List Nat} (h : Own32 w base g n cap l) (j x : Nat) : Own32 (w.setCell ⟨g, j, none⟩ (.int .i64 (x : Int))) base g n cap (l.set j x) := by
  have h1 := (h.stored j (.int .i64 (x : Int))).1
  rw [show (.int .i64 (x : Int) : Value) = encN x from rfl, ← List.map_set] at h1
  exact h1
theorem Own32.below {w w' : World} {base g n cap : Nat} {l : List Nat} (h : Own32 w base g n cap l) (hb : Below w.heap.size w w') : Own32 w' base g n cap l := (Fr.of_below (G := fun _ => False) hb).owns h (fun h => h)
theorem Own32.row {w : World} {base g n cap : Nat} {l : List Nat} (h : Own32 w base g n cap l) : Row w (.slice (some ⟨g, 0, none⟩) n cap) l := by
  have hl : l.length = n := by have := h.1; simpa using this
  subst hl
  exact Row.of_owns h

/-- trim, and where its answer lies. -/
theorem trim_is (ad : Option Addr) (cap n : Nat) (l : List Nat) (w : World) (hn : n = l.length) (h : Row w (.slice ad n cap) l) (hl : l.length ≤ 1000000) :
    Calls Tryz.prog 80 #[.slice ad n cap] w fun e w' => e = .returned (.slice ad (trim l).length cap) ∧ w = w' := by
  subst hn
  have hR := Lib.hid h
  have hcap : l.length ≤ cap := by obtain ⟨_, _, e, h1, _⟩ := h; cases e; exact h1
  clear h
  go_enter Tryz.func80, Tryz.ntmps80
  go_wp2_with fail
  go_loop [3] (fun i => ∃ k : Nat, k ≤ l.length ∧ i = .int .i64 k ∧ Hid (trim (l.take k) = trim l)) (fun i => (intOf i).toNat)
  case atStart => exact ⟨l.length, Nat.le_refl _, rfl, Lib.hid (by rw [List.take_length])⟩
  case round =>
    obtain ⟨k, hk, rfl, HK⟩ := hrel
    by_cases h0 : k = 0
    · subst h0
      have H0 : Hid (trim l = []) := Lib.hid HK.out.symm
      go_wp2_with fail
      go_ret
      exact ⟨by rw [H0.out]; rfl, rfl⟩
    · have hpos : 0 < k := by omega
      obtain ⟨b, off, rfl, hb, hc⟩ := hR.out.cell (j := k - 1) (by omega)
      have hsnoc : l.take k = l.take (k - 1) ++ [l.getD (k - 1) 0] := by
        have e1 : l.take k = l.take (k - 1 + 1) := by congr 1; omega
        rw [e1, List.take_add_one]; simp [List.getD, show k - 1 < l.length by omega]
      by_cases hz : l.getD (k - 1) 0 = 0
      · have HK2 : Hid (trim (l.take (k - 1)) = trim l) := Lib.hid (by rw [← HK.out, hsnoc, hz, trim_snoc_zero])
        rw [hz] at hc
        clear hsnoc hz HK
        go_wp2_with fail
        go_round
        case rel => exact ⟨k - 1, by omega, by go_num, HK2⟩
        case measure => simp [intOf]; omega
      · have HK2 : Hid ((trim l).length = k) := Lib.hid (by rw [← HK.out, hsnoc, trim_snoc _ hz, ← hsnoc, List.length_take]; omega)
        generalize l.getD (k - 1) 0 = x at hc hz
        clear hsnoc HK
        go_wp2_with fail
        go_ret
        exact ⟨by rw [HK2.out]; rfl, rfl⟩
/-- a digit ahead of others. -/
theorem append_left (w : World) (g x n c : Nat) (ad : Option Addr) (l : List Nat) (hO : Own32 w g g 1 1 [x]) (hr : Row w (.slice ad n c) l) (hn : n = l.length) (hl : l.length ≤ 100000) :
    ∃ v' w', (Builtin.append_ #[30, 30] 30 #[.slice (some ⟨g, 0, none⟩) 1 1, .slice ad n c]).run Tryz.prog w = .ok v' w' ∧ (∃ g' c', v' = .slice (some ⟨g', 0, none⟩) (x :: l).length c' ∧ g ≤ g') ∧ Row w' v' (x :: l) ∧ w.grownBy w' (some g) := by
  obtain ⟨i0, hi, hz0, hz1, hz2⟩ := info_parts Tryz.info3
  subst hn
  have hgw := (World.ownsRow.lt hO g rfl).2
  obtain ⟨ad', c', e, hc, h2⟩ := hr
  cases e
  cases ad with
  | none =>
    have h0 : l = [] := by
      apply Classical.byContradiction
      intro hne
      obtain ⟨b, off, e, _⟩ := h2 hne
      cases e
    subst h0
    refine ⟨.slice (some ⟨g, 0, none⟩) 1 1, w, ?_, ⟨g, 1, rfl, Nat.le_refl _⟩, hO.row, World.grownBy.refl _ _⟩
    simp [Builtin.append_, run_underlying Tryz.underlying30, sizeOf, typeInfo, hi, Builtin.lenOf, Builtin.firstCells, storeCells]
  | some ad =>
    have hnews : ∀ (j : Nat) (u : Value), (l.map encN)[j]? = some u → w.cell? (Addr.add ad j) = some u := by
      intro j u hu
      have hj : j < l.length := by have := (List.getElem?_eq_some_iff.1 hu).1; simpa using this
      obtain ⟨b, off, e, hb, hcell⟩ := h2 (by rintro rfl; simp at hj)
      cases e
      rw [Addr.add_lit, hcell j hj]
      simp [hj, encN] at hu
      rw [← hu]
      simp [List.getD, hj]
    obtain ⟨v', w', hrun, h4, h5, _⟩ := run_append_own (P := Tryz.prog) w g 30 30 3 i0 (.int .i64 0) 1 8 Tryz.underlying30 hi hz0 hz1 hz2 rfl (by decide) _ 1 _ hO ad l.length c (l.map encN) (by simp) hnews
      (fun u hu => by simp [encN] at hu; obtain ⟨x, _, rfl⟩ := hu; rfl) (by unfold maxLen; omega) (by omega) (by omega)
    obtain ⟨g', c', e'⟩ := owns_form h4 (by omega)
    have hgg := (World.ownsRow.lt h4 g' (by rw [e']; rfl)).1
    refine ⟨v', w', hrun, ⟨g', c', by rw [e', List.length_cons, Nat.add_comm], hgg⟩, ?_, h5⟩
    refine Row.of_owns (B := g) ?_
    rw [List.length_cons, Nat.add_comm]
    exact h4
theorem cmpZ_le {a b : Nat} (h : a ≤ b) : cmpZ a b ≤ 0 := by
  unfold cmpZ
  by_cases h9 : a < b
  · rw [if_pos h9]; omega
  · rw [if_neg h9, if_neg (by omega)]; omega
theorem D_one {m : Nat} (h : m ≤ 9999) : (D m).length ≤ 1 := (dig_len (by omega) m 1).2 (by omega)
theorem D_mul {b m : Nat} (h : m ≤ 9999) : (D (b * m)).length ≤ (D b).length + 1 := by
  rw [dig_len (by omega), Nat.pow_succ]
  have h1 : b < 10000 ^ (D b).length := dig_lt (B := 10000) (by omega) b
  exact Nat.mul_lt_mul'' h1 (by omega)
theorem D_next {x l : Nat} (h : x < 10000) : trim (x :: D l) = D (x + 10000 * l) := by
  rw [trim_dig (B := 10000) (by omega) _ (Small.cons h (dig_small (by omega) l))]
  have e : val 10000 (x :: D l) = x + 10000 * val 10000 (D l) := rfl
  rw [e, dig_val (by omega)]
theorem D_mono {a b : Nat} (h : a ≤ b) : (D a).length ≤ (D b).length := dig_mono (by omega) h

set_option maxRecDepth 100000 in
set_option maxHeartbeats 8000000 in
theorem Div_any (v1 v2 : Value) (a b : Nat) (w : World) (h1 : Row w v1 (D a)) (h2 : Row w v2 (D b)) (hl1 : (D a).length ≤ 10000) (hl2 : (D b).length ≤ 10000) (hb0 : b ≠ 0) :
    Calls Tryz.prog 49 #[v1, v2] w fun e w' => ∃ q r, e = .returned (.tuple #[q, r]) ∧ Row w' q (D (a / b)) ∧ Row w' r (D (a % b)) ∧ Below w.heap.size w w' := by
  obtain ⟨i0, hi, hz0, hz1, hz2⟩ := info_parts Tryz.info3
  have R1 := Lib.hid h1
  have R2 := Lib.hid h2
  obtain ⟨ad1, cap1, rfl, hc1, -⟩ := h1
  have HB := Lib.hid (And.intro hb0 hl2)
  have HS := Lib.hid (dig_small (B := 10000) (by omega) a)
  have HV := Lib.hid (dig_val (B := 10000) (by omega) a)
  clear h2 hb0 hl2
  unfold D at R1 HS HV hl1 hc1
  rw [show D a = dig 10000 a from rfl]
  generalize dig 10000 a = la at *
  go_enter Tryz.func49, Tryz.ntmps49
  go_wp2_with (at_make; refine wpList_make_full w rfl _ _ 30 rfl w.heap.size 3 i0 (.int .i64 0) 1 Tryz.underlying30 hi hz0 hz1 .i64 .i64 _ _ la.length rfl rfl rfl rfl (by rw [hz2]; omega) (by unfold maxLen; omega) (Nat.le_refl _) ?_; intro w1 hown hgrow)
  rw [made_zeros] at hown
  have hb1 : Below w.heap.size w w1 := (Below.refl _ w).grown hgrow (Nat.le_refl _) (fun j ej => by cases ej)
  go_wp2_with fail
  go_loopw [7, 8] (fun lv i wr => ∃ (k left nl : Nat) (adl : Option Addr) (cl : Nat) (out : List Nat), k ≤ la.length ∧ lv = .slice adl nl cl ∧ i = .int .i64 ((k : Int) - 1) ∧ Own32 wr w.heap.size w.heap.size la.length la.length out ∧ Row wr (.slice adl nl cl) (D left) ∧ Hid (nl = (D left).length ∧ DivI 10000 la out b left k) ∧ Below w.heap.size w wr) (fun _ i _ => (intOf i + 1).toNat)
  case atStart => exact ⟨la.length, 0, 0, none, 0, _, Nat.le_refl _, rfl, by go_num, hown, ⟨_, _, rfl, Nat.le_refl _, fun h => absurd rfl h⟩, Lib.hid ⟨rfl, DivI.zero (by omega) (Nat.pos_of_ne_zero HB.out.1)⟩, hb1⟩
  case round =>
    clear hown hgrow hb1
    obtain ⟨k, left, nl, adl, cl, out, hk, rfl, rfl, hO, hr, HI, hB⟩ := hrel
    by_cases hz : k = 0
    · subst hz
      have HE := Lib.hid HI.out.2.done
      have hol : out.length = la.length := HI.out.2.len
      have H47 := Lib.hid (trim_any _ out wr hO.row (by omega))
      have HT : Hid (trim out = D (a / b)) := Lib.hid (by rw [trim_dig (B := 10000) (by omega) _ HI.out.2.small, HE.out.1, HV.out])
      clear hol
      go_wp2_with fail
      refine H47.out.mono ?_
      rintro e w' ⟨v', rfl, hv', rfl⟩
      rw [HT.out] at hv'
      obtain ⟨ad4, c4, rfl, -, -⟩ := id hv'
      go_wp2_with fail
      go_ret2
      refine ⟨_, _, rfl, hv', ?_, hB⟩
      rw [show a % b = left by rw [HE.out.2, HV.out]]
      exact hr
    · obtain ⟨m, rfl⟩ : ∃ m, k = m + 1 := ⟨k - 1, by omega⟩
      have hm : m < la.length := by omega
      obtain ⟨b1, o1, rfl, hb1x, cx⟩ := R1.out.cell (j := m) hm
      replace cx := (hB.cell (p := ⟨b1, o1 + m, none⟩) hb1x).trans cx
      have hx := HS.out.getD (by omega) m
      have HI2 := Lib.hid (HI.out.2.step (by omega) HS.out hm)
      have hq := digit_lt hx HI.out.2.low
      have hlow := HI.out.2.low
      have hdl := D_mono (Nat.le_of_lt hlow)
      generalize la.getD m 0 = x at cx hx HI2 hq
      have e1 : ((m + 1 : Nat) : Int) - 1 = (m : Int) := by omega
      rw [e1]
      have HHL := Lib.hid (And.intro hlow hdl)
      have HDN := Lib.hid (D_next (l := left) hx)
      clear e1 hz hlow hdl
      obtain ⟨lf, hlf⟩ : ∃ lf, lf = x + 10000 * left := ⟨_, rfl⟩
      rw [← hlf] at HI2 hq HDN
      have HLF := Lib.hid hlf
      clear hlf
      -- a digit ahead
      have hOl : Own32 (wr.alloc (.cells #[.int .i64 (x : Int)] 3)) wr.heap.size wr.heap.size 1 1 [x] := World.ownsRow_lit wr #[.int .i64 (x : Int)] 1 (Nat.le_refl _) (by unfold maxLen; omega) rfl
      have hbA : Below wr.heap.size wr (wr.alloc (.cells #[.int .i64 (x : Int)] 3)) := (Below.refl _ wr).alloc (Nat.le_refl _) _
      obtain ⟨v', w2, hrun, ⟨gl, cl2, rfl, hgl⟩, hrow, hg2⟩ := append_left _ _ x nl cl adl (D left) hOl (hr.below hbA) HI.out.1 (by have := HHL.out.2; have := HB.out.2; omega)
      have hb2 : Below wr.heap.size wr w2 := hbA.grown hg2 (by simp) (fun k e => by cases e; exact Nat.le_refl _)
      have HRUN := Lib.hid hrun
      have hws : w.heap.size < wr.heap.size := (World.ownsRow.lt hO w.heap.size rfl).2
      clear hrun hOl hbA hg2 hr
      go_wp2_with (at_builtin; refine wpList_append_run rfl _ _ 30 30 rfl _ _ _ _ rfl rfl HRUN.out ?_)
      replace hO : Own32 w2 w.heap.size w.heap.size la.length la.length out := Own32.below hO hb2
      replace hB : Below w.heap.size w w2 := hB.trans (hb2.mono hB.size)
      have hb2s : w.heap.size < gl := Nat.lt_of_lt_of_le hws hgl
      clear hb2 HRUN cx
      have H47 := Lib.hid (trim_is _ _ _ _ w2 rfl hrow (by rw [List.length_cons]; have := HHL.out.2; have := HB.out.2; omega))
      have hrl := hrow.take (trim_len _)
      rw [← trim_take] at hrl
      rw [HDN.out] at H47 hrl
      refine H47.out.mono ?_
      rintro e w' ⟨rfl, rfl⟩
      have hdl : (D lf).length ≤ 10001 := by
        have h9 := trim_len (x :: D left)
        rw [HDN.out, List.length_cons] at h9
        have := HHL.out.2; have := HB.out.2; omega
      obtain ⟨nL, hnL⟩ : ∃ nL, nL = (D lf).length := ⟨_, rfl⟩
      rw [← hnL] at hrl ⊢
      have HNL := Lib.hid (And.intro hnL hdl)
      clear H47 hrow hnL hdl HDN
      have hBp : 0 < b := Nat.pos_of_ne_zero HB.out.1
      have R2' := Lib.hid (R2.out.below hB)
      go_wp2_with fail
      go_loopw [9, 10] (fun lo hi wq => ∃ (l h : Nat), l ≤ h ∧ h ≤ 9999 ∧ lo = .int .i64 (l : Int) ∧ hi = .int .i64 (h : Int) ∧ Hid (l ≤ lf / b ∧ lf / b ≤ h) ∧ Below w2.heap.size w2 wq) (fun lo hi _ => (intOf hi - intOf lo).toNat)
      case atStart => exact ⟨0, 9999, by omega, by omega, rfl, rfl, Lib.hid ⟨Nat.zero_le _, by omega⟩, Below.refl _ _⟩
      case round =>
        obtain ⟨lo, hi', hlh, hh, rfl, rfl, HQ, hBq⟩ := hrel
        by_cases hlt : lo < hi'
        · obtain ⟨mid, hmid⟩ : ∃ mid, mid = (lo + hi' + 1) / 2 := ⟨_, rfl⟩
          have hm1 : lo < mid := by omega
          have hm2 : mid ≤ hi' := by omega
          have hm3 : ((lo : Int) + hi' + 1) / 2 = (mid : Int) := by omega
          have hm4 : ((lo : Int) + hi' + 1).tdiv 2 = (mid : Int) := by rw [Int.tdiv_eq_ediv_of_nonneg (by omega)]; exact hm3
          have H39 := Lib.hid (Of_any mid wr (by omega))
          have HMID := Lib.hid hmid
          clear hmid hm3
          go_wp2_with fail
          refine H39.out.mono ?_
          rintro e w3 ⟨vm, rfl, hrm, hb3⟩
          have hBq3 : Below w2.heap.size w2 w3 := hBq.trans (hb3.mono hBq.size)
          have H27 := Lib.hid (Mul_any v2 vm b mid w3 (R2'.out.below hBq3) hrm (by have := HB.out.2; omega) (by have := D_one (m := mid) (by omega); omega))
          clear H39 hb3 hrm
          go_wp2_with fail
          refine H27.out.mono ?_
          rintro e w4 ⟨vp, rfl, hrp, hb4⟩
          have hBq4 : Below w2.heap.size w2 w4 := hBq3.trans (hb4.mono hBq3.size)
          have H20 := Lib.hid (Cmp_any vp (.slice (some ⟨gl, 0, none⟩) nL cl2) (b * mid) lf w4 hrp (hrl.below hBq4) (by have := D_mul (b := b) (m := mid) (by omega); have := HB.out.2; omega) (by have := HNL.out; omega))
          clear H27 hb4 hrp hBq3 hBq
          by_cases hcm : b * mid ≤ lf
          · have HF := Lib.hid (half_low hBp HMID.out hlt HQ.out.2 hcm)
            have hcz : cmpZ (b * mid) lf ≤ 0 := cmpZ_le hcm
            generalize cmpZ (b * mid) lf = cz at H20 hcz
            clear hcm HQ
            go_wp2_with fail
            refine H20.out.mono ?_
            rintro e w5 ⟨rfl, hb5⟩
            have hBq5 : Below w2.heap.size w2 w5 := hBq4.trans (hb5.mono hBq4.size)
            clear H20 hb5 hBq4
            go_wp2_with fail
            go_round
            case rel => exact ⟨mid, hi', hm2, hh, rfl, rfl, Lib.hid ⟨HF.out.1, HF.out.2.2.2⟩, hBq5⟩
            case measure => simp [intOf]; omega
          · have HF := Lib.hid (half_high hBp HMID.out hlt (Nat.lt_of_not_le hcm))
            have HQ1 := Lib.hid HQ.out.1
            rw [cmpZ_gt (Nat.lt_of_not_le hcm)] at H20
            clear hcm HQ
            go_wp2_with fail
            refine H20.out.mono ?_
            rintro e w5 ⟨rfl, hb5⟩
            have hBq5 : Below w2.heap.size w2 w5 := hBq4.trans (hb5.mono hBq4.size)
            clear H20 hb5 hBq4
            go_wp2_with fail
            go_round
            case rel => exact ⟨lo, mid - 1, by omega, by omega, rfl, by go_num, Lib.hid ⟨HQ1.out, HF.out.1⟩, hBq5⟩
            case measure => simp [intOf]; omega
        · have hle : hi' = lo := by omega
          subst hle
          have hqe : hi' = lf / b := by have := HQ.out; omega
          have HQE := Lib.hid hqe
          clear hqe HQ hlh
          replace hO : Own32 wr w.heap.size w.heap.size la.length la.length out := Own32.below hO hBq
          replace hrl := hrl.below hBq
          replace hB : Below w.heap.size w wr := hB.trans (hBq.mono hB.size)
          clear hBq R2'
          have hfz := hO.frozenAt m
          have hcz := hO.cell hm
          have hO2 := hO.set m hi'
          have hP := Fr.put wr ⟨w.heap.size, m, none⟩ (.int .i64 (hi' : Int))
          have hB2 : Below w.heap.size w (wr.setCell ⟨w.heap.size, m, none⟩ (.int .i64 (hi' : Int))) := hB.setCell (p := ⟨w.heap.size, m, none⟩) (Nat.le_refl _) _
          have H39 := Lib.hid (Of_any hi' (wr.setCell ⟨w.heap.size, m, none⟩ (.int .i64 (hi' : Int))) (by omega))
          have hgl2 := hb2s
          replace hrl : Row (wr.setCell ⟨w.heap.size, m, none⟩ (.int .i64 (hi' : Int))) (.slice (some ⟨gl, 0, none⟩) nL cl2) (D lf) := hP.lim hrl (fun b off e _ => by cases e; show ¬ gl = w.heap.size; omega)
          go_wp2_with fail
          generalize wr.setCell ⟨w.heap.size, m, none⟩ (.int .i64 (hi' : Int)) = w3 at hO2 hB2 hrl H39 ⊢
          refine H39.out.mono ?_
          rintro e w4 ⟨vm, rfl, hrm, hb4⟩
          replace hO2 := hO2.below hb4
          replace hB2 := hB2.trans (hb4.mono hB2.size)
          replace hrl := hrl.below hb4
          have H27 := Lib.hid (Mul_any v2 vm b hi' w4 (R2.out.below hB2) hrm (by have := HB.out.2; omega) (by have := D_one (m := hi') (by omega); omega))
          clear H39 hb4 hrm hO hB hP hfz hcz
          go_wp2_with fail
          refine H27.out.mono ?_
          rintro e w5 ⟨vp, rfl, hrp, hb5⟩
          replace hO2 := hO2.below hb5
          replace hB2 := hB2.trans (hb5.mono hB2.size)
          replace hrl := hrl.below hb5
          have HLE : Hid (b * hi' ≤ lf) := Lib.hid (by rw [HQE.out]; exact Nat.mul_div_le _ _)
          have H25 := Lib.hid (Sub_any (.slice (some ⟨gl, 0, none⟩) nL cl2) vp lf (b * hi') w5 hrl hrp (by have := HNL.out.2; omega) HLE.out)
          clear H27 hb5
          go_wp2_with fail
          refine H25.out.mono ?_
          rintro e w6 ⟨v6, rfl, hr6, hb6⟩
          replace hO2 := hO2.below hb6
          replace hB2 := hB2.trans (hb6.mono hB2.size)
          obtain ⟨ad6, c6, rfl, -, -⟩ := id hr6
          have HI3 := HI2.out
          rw [← HQE.out] at HI3
          have HI4 := Lib.hid (Lib.hid HI3)
          clear H25 hb6 hrl hrp HI3 HI2
          go_wp2_with fail
          go_round
          case rel => exact ⟨m, lf - b * hi', _, ad6, c6, _, by omega, rfl, by go_num, hO2, hr6, Lib.hid ⟨rfl, HI4.out.out⟩, hB2⟩
          case measure => simp [intOf]
end Go.Proofs.YtphllajedkpcbaaGreatDoor

namespace Go.Proofs.YtphllajedkpcbaaGreatDoor
open Go.RowKit Go.Dig Go.Shelf Go.Proofs

set_option maxRecDepth 100000 in
set_option maxHeartbeats 4000000 in
theorem Gcd_any (v1 v2 : Value) (a b : Nat) (w : World) (h1 : Row w v1 (D a)) (h2 : Row w v2 (D b)) (l1 : (D a).length ≤ 10000) (l2 : (D b).length ≤ 10000) :
    Calls Tryz.prog 48 #[v1, v2] w fun e w' => ∃ v, e = .returned v ∧ Row w' v (D (Nat.gcd a b)) ∧ Below w.heap.size w w' := by
  have R1 := Lib.hid h1
  have R2 := Lib.hid h2
  have HLL := Lib.hid (And.intro l1 l2)
  obtain ⟨ad1, c1, rfl, -, -⟩ := h1
  obtain ⟨ad2, c2, rfl, -, -⟩ := h2
  clear l1 l2
  go_enter Tryz.func48, Tryz.ntmps48
  go_wp2_with fail
  go_loopg [0, 1] b (fun gk A B wr => ∃ (x : Nat) (ad1 ad2 : Option Addr) (c1 c2 n1 n2 : Nat), A = .slice ad1 n1 c1 ∧ B = .slice ad2 n2 c2 ∧ Hid (n1 = (D x).length ∧ n2 = (D gk).length ∧ Nat.gcd x gk = Nat.gcd a b ∧ (D x).length ≤ 10000 ∧ (D gk).length ≤ 10000) ∧ Row wr (.slice ad1 n1 c1) (D x) ∧ Row wr (.slice ad2 n2 c2) (D gk) ∧ Below w.heap.size w wr)
  case atStart => exact ⟨a, ad1, ad2, c1, c2, _, _, rfl, rfl, Lib.hid ⟨rfl, rfl, rfl, HLL.out.1, HLL.out.2⟩, R1.out, R2.out, Below.refl _ _⟩
  case round =>
    clear R1 R2
    obtain ⟨x, ad1, ad2, c1, c2, n1, n2, rfl, rfl, HI, r1, r2, hB⟩ := hrel
    by_cases hk : gk = 0
    · have hz : n2 = 0 := by rw [HI.out.2.1, hk]; rfl
      subst hz
      have HE : Hid (Nat.gcd a b = x) := Lib.hid (by rw [← HI.out.2.2.1, hk, Nat.gcd_zero_right])
      clear hk
      go_wp2_with fail
      go_ret
      exact ⟨_, rfl, by rw [HE.out]; exact r1, hB⟩
    · have hz : 0 < n2 := by rw [HI.out.2.1]; exact List.length_pos_iff.2 (fun e => hk ((dig_nil (by omega) gk).1 e))
      have H29 := Lib.hid (Div_any (.slice ad1 n1 c1) (.slice ad2 n2 c2) x gk wr r1 r2 HI.out.2.2.2.1 HI.out.2.2.2.2 hk)
      have HLT : Hid (x % gk < gk) := Lib.hid (Nat.mod_lt _ (Nat.pos_of_ne_zero hk))
      have hz2 : ((n2 : Int) > 0) := by omega
      clear hk
      go_wp2_with fail
      refine H29.out.mono ?_
      rintro e w3 ⟨q, r, rfl, hq, hr, hb⟩
      obtain ⟨ad3, c3, rfl, -, -⟩ := id hq
      obtain ⟨ad4, c4, rfl, -, -⟩ := id hr
      replace r2 := r2.below hb
      replace hB := hB.trans (hb.mono hB.size)
      have HI2 := Lib.hid (Lib.hid (And.intro HI.out.2.1 (And.intro (show Nat.gcd gk (x % gk) = Nat.gcd a b by rw [← HI.out.2.2.1, ← gcd_step]) (And.intro HI.out.2.2.2.2 (Nat.le_trans (D_mono (Nat.le_of_lt HLT.out)) HI.out.2.2.2.2)))))
      clear hb H29 HI r1 hq
      go_wp2_with fail
      go_roundg (x % gk)
      case measure => exact HLT.out
      case rel => exact ⟨gk, ad2, ad4, c2, c4, _, _, rfl, rfl, Lib.hid ⟨HI2.out.out.1, rfl, HI2.out.out.2⟩, r2, hr, hB⟩
end Go.Proofs.YtphllajedkpcbaaGreatDoor
