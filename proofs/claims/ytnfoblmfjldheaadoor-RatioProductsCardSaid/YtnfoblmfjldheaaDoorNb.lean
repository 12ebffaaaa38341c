/-
  Contract of nat.Cmp: the order of what limbs count. No condition but that slices are not longer than a million limbs.
-/
import Derived.Test.YtnfoblmfjldheaaDoorNa
namespace Go.Proofs.YtnfoblmfjldheaaDoor
open Go.RowKit Go.Dig Go.Shelf Go.Proofs
attribute [local go_sem] Oper.semAt_some

/-- the value of limbs. -/
abbrev V (l : List Nat) : Nat := val 18446744073709551616 l
abbrev SmallU (l : List Nat) : Prop := Small 18446744073709551616 l
theorem trim_L {l : List Nat} (h : SmallU l) : trim l = L (V l) := trim_dig (by omega) l h
theorem V_L (n : Nat) : V (L n) = n := dig_val (by omega) n
theorem small_L (n : Nat) : SmallU (L n) := dig_small (by omega) n

/-- trim's answer as a slice. -/
theorem trimV_slice {w : World} {ad : Option Addr} {n cap : Nat} {l : List Nat} (h : RowU w (.slice ad n cap) l) : ∃ a c, trimV ad cap l = .slice a (trim l).length c ∧ RowU w (.slice a (trim l).length c) (trim l) := by
  have h1 := RowU.trimmed h
  obtain ⟨a, c, e, -, -⟩ := id h1
  exact ⟨a, c, e, e ▸ h1⟩

set_option maxRecDepth 100000 in
set_option maxHeartbeats 2000000 in
theorem nCmp_any (v1 v2 : Value) (la lb : List Nat) (w : World) (h1 : RowU w v1 la) (h2 : RowU w v2 lb) (s1 : SmallU la) (s2 : SmallU lb) (hl1 : la.length ≤ 1000000) (hl2 : lb.length ≤ 1000000) :
    Calls Tryd.prog 53 #[v1, v2] w fun e w' => e = .returned (.int .i64 (cmpZ (V la) (V lb))) ∧ Below w.heap.size w w' := by
  have R1 := Lib.hid h1
  have R2 := Lib.hid h2
  obtain ⟨ad1, cap1, rfl, hc1, -⟩ := h1
  obtain ⟨ad2, cap2, rfl, hc2, -⟩ := h2
  obtain ⟨a1, c1, e1, r1⟩ := trimV_slice R1.out
  obtain ⟨a2, c2, e2, r2⟩ := trimV_slice R2.out
  have T1 := Lib.hid (fun (W : World) (hb : Below w.heap.size w W) => nTrim_any ad1 cap1 la W (R1.out.below hb) hl1)
  have T2 := Lib.hid (fun (W : World) (hb : Below w.heap.size w W) => nTrim_any ad2 cap2 lb W (R2.out.below hb) hl2)
  rw [e1] at T1
  rw [e2] at T2
  have hlx : (trim la).length ≤ 1000000 := Nat.le_trans (trim_len _) hl1
  have hly : (trim lb).length ≤ 1000000 := Nat.le_trans (trim_len _) hl2
  have Q1 := Lib.hid r1
  have Q2 := Lib.hid r2
  rw [trim_L s1] at T1 hlx Q1
  rw [trim_L s2] at T2 hly Q2
  generalize V la = x at *
  generalize V lb = y at *
  clear R1 R2 e1 e2 r1 r2 s1 s2
  generalize la.length = n1 at *
  generalize lb.length = n2 at *
  have bB := Boxed.new w 28 (.slice ad2 n2 cap2)
  have bR := Boxed.new (w.alloc (.cells #[.slice ad2 n2 cap2] 28)) 3 (.int .i64 0)
  rw [World.size_alloc] at bR
  replace bB := bB.alloc (.cells #[.int .i64 0] 3)
  have hB0 : Below w.heap.size w ((w.alloc (.cells #[.slice ad2 n2 cap2] 28)).alloc (.cells #[.int .i64 0] 3)) := ((Below.refl _ w).alloc (Nat.le_refl _) _).alloc (by simp) _
  refine (callsIn_wide (n := 3)).1 ?_
  refine callsIn_of_wp_marks Tryd.func53 rfl trivial ?_ rfl
  simp only [Tryd.ntmps53, List.size_toArray, List.length_cons, List.length_nil, Nat.reduceAdd, Nat.reduceSub, Array.replicate_succ, Array.replicate_zero, List.push_toArray, List.append_toArray, List.nil_append, List.cons_append]
  gi_wp2_with fail
  generalize (w.alloc (.cells #[.slice ad2 n2 cap2] 28)).alloc (.cells #[.int .i64 0] 3) = W0 at bB bR hB0 ⊢
  refine wpIn_wide.2 (Rd.region (fun X => X.cell? ⟨w.heap.size, 0, none⟩ = some (.slice ad2 n2 cap2)) 5 [0, 2, 4] [0, 2, 1, 3, 4, 5] (by kernel_rfl) (by kernel_rfl) (by kernel_rfl) (by kernel_rfl) rfl bB.cell ?_)
  have bB1 : Boxed W0.drew w.heap.size 28 (.slice ad2 n2 cap2) := bB
  have bR1 : Boxed W0.drew (w.heap.size + 1) 3 (.int .i64 0) := bR
  have hB1 : Below w.heap.size w W0.drew := hB0.drew
  clear bB bR hB0
  generalize W0.drew = W1 at bB1 bR1 hB1 ⊢
  refine Rd.seq_float (.slice ad1 n1 cap1) (by simp only [List.getElem?_toArray, List.getElem?_cons_zero]; rfl) rfl (by rfl) (fun X _ => by go_simp) ?_
  simp only [Act.put, List.setIfInBounds_toArray, List.set_cons_succ, List.set_cons_zero]
  refine Rd.seq_float (.slice ad2 n2 cap2) (by simp only [List.getElem?_toArray, List.getElem?_cons_succ, List.getElem?_cons_zero]; rfl) rfl (by rfl) (fun X hX => by go_simp) ?_
  simp only [Act.put, List.setIfInBounds_toArray, List.set_cons_succ, List.set_cons_zero]
  refine Rd.seq_move (by simp only [List.getElem?_toArray, List.getElem?_cons_succ, List.getElem?_cons_zero]; rfl) rfl (by rfl) (fun K hK => ?_)
  go_simp
  refine (T1.out W1 hB1).mono ?_
  rintro e W2 ⟨rfl, hb2⟩
  have bB2 : Boxed W2 w.heap.size 28 (.slice ad2 n2 cap2) := (hb2.block _ bB1.lt).trans bB1
  have bR2 : Boxed W2 (w.heap.size + 1) 3 (.int .i64 0) := (hb2.block _ bR1.lt).trans bR1
  have hB2 : Below w.heap.size w W2 := hB1.trans (hb2.mono hB1.size)
  refine hK _ _ (fun _ => bB2.cell) ?_
  clear hK K
  refine Rd.seq_move (by simp only [List.getElem?_toArray, List.getElem?_cons_succ, List.getElem?_cons_zero]; rfl) rfl (by rfl) (fun K hK => ?_)
  go_simp
  refine (T2.out W2 hB2).mono ?_
  rintro e W3 ⟨rfl, hb3⟩
  have bB3 : Boxed W3 w.heap.size 28 (.slice ad2 n2 cap2) := (hb3.block _ bB2.lt).trans bB2
  have bR3 : Boxed W3 (w.heap.size + 1) 3 (.int .i64 0) := (hb3.block _ bR2.lt).trans bR2
  have hB3 : Below w.heap.size w W3 := hB2.trans (hb3.mono hB2.size)
  refine hK _ _ (fun _ => bB3.cell) ?_
  clear hK K
  refine Rd.seq_float (.slice a1 (L x).length c1) (by simp only [List.getElem?_toArray, List.getElem?_cons_succ, List.getElem?_cons_zero]; rfl) rfl (by rfl) (fun X _ => by go_simp) ?_
  simp only [Act.put, List.setIfInBounds_toArray, List.set_cons_zero]
  refine Rd.seq_move (by simp only [List.getElem?_toArray, List.getElem?_cons_succ, List.getElem?_cons_zero]; rfl) rfl (by rfl) (fun K hK => ?_)
  go_simp
  have hc3 := bB3.cell
  have hf3 := bB3.frozen
  go_simp
  refine hK _ _ (fun h => absurd h (by omega)) ?_
  refine Rd.seq_end ?_
  have bB4 := bB3.set (.slice a2 (L y).length c2)
  have bR4 : Boxed (W3.setCell ⟨w.heap.size, 0, none⟩ (.slice a2 (L y).length c2)) (w.heap.size + 1) 3 (.int .i64 0) := bR3.other (by omega) _
  have hB4 : Below w.heap.size w (W3.setCell ⟨w.heap.size, 0, none⟩ (.slice a2 (L y).length c2)) := hB3.setCell (p := ⟨w.heap.size, 0, none⟩) (Nat.le_refl _) _
  clear bB1 bB2 bB3 bR1 bR2 bR3 hB1 hB2 hB3 hb2 hb3 T1 T2
  generalize W3.setCell ⟨w.heap.size, 0, none⟩ (.slice a2 (L y).length c2) = W4 at bB4 bR4 hB4 ⊢
  have hcB := bB4.cell
  have hcR := bR4.cell
  have hfR := bR4.frozen
  by_cases hne : (L x).length = (L y).length
  · have HL := Lib.hid hne
    have hneq : (((L x).length : Int) != ((L y).length : Int)) = false := by rw [hne]; simp
    clear hne
    gi_wp2_with fail
    refine ⟨trivial, ?_⟩
    refine (callsIn_wide.2 (Backward_any _ _ _ _)).mono ?_
    rintro e w' ⟨rfl, rfl⟩
    gi_wp2_with fail
    have hlt4 := bR4.lt
    have bC := Boxed.new W4 28 (.slice a1 (L x).length c1)
    have bB5 := bB4.alloc (.cells #[.slice a1 (L x).length c1] 28)
    have bR5 := bR4.alloc (.cells #[.slice a1 (L x).length c1] 28)
    have hB5 := hB4.alloc hB4.size (.cells #[.slice a1 (L x).length c1] 28)
    have hs4 := hB4.size
    have hsz : (W4.alloc (.cells #[.slice a1 (L x).length c1] 28)).heap.size = W4.heap.size + 1 := World.size_alloc _ _
    clear hcB hcR hfR bB4 bR4
    refine range_back W4.heap.size a1 (L x).length c1 hlx (fun k => (L x).getD k 0) rfl rfl bC.cell
      (fun m W => Hid (V ((L x).drop m) = V ((L y).drop m)) ∧ Boxed W w.heap.size 28 (.slice a2 (L y).length c2) ∧ Boxed W (w.heap.size + 1) 3 (.int .i64 0) ∧ Boxed W W4.heap.size 28 (.slice a1 (L x).length c1) ∧ Below w.heap.size w W)
      (fun c W => c = .ret ∧ Boxed W (w.heap.size + 1) 3 (.int .i64 (cmpZ x y)) ∧ Below w.heap.size w W)
      (OwnFrom.and (ownFrom_pure _ _) (OwnFrom.and (Own.from (boxed_own _ _ _) _) (OwnFrom.and (Own.from (boxed_own _ _ _) _) (OwnFrom.and (Own.from (boxed_own _ _ _) _) (ownFrom_below (Nat.le_refl _) (by rw [hsz]; omega))))))
      (OwnFrom.and (ownFrom_pure _ _) (OwnFrom.and (Own.from (boxed_own _ _ _) _) (ownFrom_below (Nat.le_refl _) (by rw [hsz]; omega))))
      (fun k W hk hi => ⟨hi.2.2.2.1.cell, by
        obtain ⟨b, off, rfl, hb, hc⟩ := Q1.out.cell hk
        exact ⟨b, off, rfl, (hi.2.2.2.2.cell (p := ⟨b, off + k, none⟩) hb).trans hc⟩⟩)
      ⟨Lib.hid (by rw [List.drop_length, HL.out, List.drop_length]), bB5, bR5, bC, hB5⟩
      (fun k => { tmps := #[.slice a1 (L x).length c1, .slice ad2 n2 cap2, undef, .pointer (some ⟨w.heap.size, 0, none⟩), .pointer (some ⟨w.heap.size + 1, 0, none⟩), .int .i64 (k : Int), .int .u64 ((L x).getD k 0 : Nat), .slice ad1 n1 cap1, .slice a1 (L x).length c1, .slice ad2 n2 cap2, .slice a2 (L y).length c2, .slice a1 (L x).length c1, .int .i64 ((L x).length : Int), .slice a2 (L y).length c2, .int .i64 ((L y).length : Int), .bool false, undef, undef, undef, undef, undef, .slice a1 (L x).length c1, .func (.func 90) #[] #[.pointer (some ⟨W4.heap.size, 0, none⟩)], .int .i64 (k : Int), .int .u64 ((L x).getD k 0 : Nat), undef, undef, undef, undef, undef, undef, undef, undef, undef, undef, undef, undef], defers := [] }) ?assign ?body ?done ?stop
    case assign =>
      intro ll k W K hK
      gi_wp2
      exact hK
    case body =>
      rintro ll k W hk _ _ ⟨HT, bB, bR, bC, hB⟩
      have hky : k < (L y).length := by rw [← HL.out]; exact hk
      have hcB := bB.cell
      have hcR := bR.cell
      have hfR := bR.frozen
      obtain ⟨b2, o2, rfl, hb2, hc2⟩ := Q2.out.cell hky
      replace hc2 := (hB.cell (p := ⟨b2, o2 + k, none⟩) hb2).trans hc2
      have HV : Hid (((L x).getD k 0 < (L y).getD k 0 → x < y) ∧ ((L y).getD k 0 < (L x).getD k 0 → y < x) ∧ ((L x).getD k 0 = (L y).getD k 0 → V ((L x).drop k) = V ((L y).drop k))) := Lib.hid (by
        refine ⟨fun h => ?_, fun h => ?_, fun h => ?_⟩
        · have := lt_of_digit (by omega) (small_L x) hk hky HT.out h
          have e1 := V_L x
          have e2 := V_L y
          unfold V at e1 e2
          omega
        · have := lt_of_digit (by omega) (small_L y) hky hk HT.out.symm h
          have e1 := V_L x
          have e2 := V_L y
          unfold V at e1 e2
          omega
        · have e1 := val_drop (B := 18446744073709551616) (L x) k hk
          have e2 := val_drop (B := 18446744073709551616) (L y) k hky
          have := HT.out
          unfold V at this ⊢
          rw [e1, e2, h, this])
      generalize (L x).getD k 0 = p at HV
      generalize (L y).getD k 0 = q at HV hc2
      by_cases hpq : p = q
      · subst hpq
        have HT2 := Lib.hid (Lib.hid (HV.out.2.2 rfl))
        clear HV
        have hnn : ((p : Int) != (p : Int)) = false := by simp
        gi_wp2_with fail
        exact ⟨KeepsFrom.refl _ _, HT2.out, bB, bR, bC, hB⟩
      · have HZ : Hid (cmpZ x y = cmpZ p q) := Lib.hid (by
          rcases Nat.lt_or_gt_of_ne hpq with h | h
          · rw [cmpZ_lt h, cmpZ_lt (HV.out.1 h)]
          · rw [cmpZ_gt h, cmpZ_gt (HV.out.2.1 h)])
        have hnn : ((p : Int) != (q : Int)) = true := by rw [bne_iff_ne]; omega
        gi_wp2_with fail
        refine ⟨trivial, ?_⟩
        refine (CallsIn.inRound ll (callsIn_wide.2 (Compare_u64 _ _ _))).mono ?_
        rintro e w' ⟨rfl, rfl⟩
        gi_wp2_with fail
        exact ⟨(KeepsOthers.setCell _ _ _).from _, rfl, by rw [HZ.out]; exact bR.set _, hB.setCell (p := ⟨w.heap.size + 1, 0, none⟩) (by simp) _⟩
    case done =>
      rintro D W hD ⟨HT, bB, bR, bC, hB⟩ hK
      have HZ : Hid (cmpZ x y = 0) := Lib.hid (by
        have h := HT.out
        rw [List.drop_zero, List.drop_zero, V_L, V_L] at h
        rw [h]; exact cmpZ_eq y)
      have hcr := bR.cell
      have hfr := bR.frozen
      have hD2 : w.heap.size ≤ D := by rw [hsz] at hD; omega
      gi_wp2_with fail
      have hK2 := (KeepsOthers.setCell W ⟨w.heap.size + 1, 0, none⟩ (.int .i64 0)).same D _ hK rfl
      have hc2 := (bR.set (.int .i64 0)).cell
      have hB2 := hB.setCell (p := ⟨w.heap.size + 1, 0, none⟩) (by simp) (.int .i64 0)
      generalize W.setCell ⟨w.heap.size + 1, 0, none⟩ (.int .i64 0) = W2 at hK2 hc2 hB2 ⊢
      refine ⟨by simp, .inl ⟨_, _, rfl, run_takeDeferred hK2, ?_⟩⟩
      have hc5 := cell_kept hc2 (grownBy_putObj' _ D (.deferred none)) (fun r e => by cases e; exact ⟨_, hK2, rfl⟩)
      refine ⟨.int .i64 0, ?_, by rw [HZ.out], hB2.trans (belowK_b (w := w) (Nat.le_refl _) W2 D _ _ hD2 hK2 rfl rfl)⟩
      simp [results, Tryd.f53, go_sem, hc5]
    case stop =>
      rintro D c W hD ⟨rfl, bR, hB⟩ hK
      have hcr := bR.cell
      have hfr := bR.frozen
      have hD2 : w.heap.size ≤ D := by rw [hsz] at hD; omega
      gi_wp2_with fail
      refine ⟨by simp, .inl ⟨_, _, rfl, run_takeDeferred hK, ?_⟩⟩
      have hc5 := cell_kept hcr (grownBy_putObj' _ D (.deferred none)) (fun r e => by cases e; exact ⟨_, hK, rfl⟩)
      refine ⟨.int .i64 (cmpZ x y), ?_, rfl, hB.trans (belowK_b (w := w) (Nat.le_refl _) W D _ _ hD2 hK rfl rfl)⟩
      simp [results, Tryd.f53, go_sem, hc5]
  · have HZ : Hid (cmpZ x y = cmpZ (L x).length (L y).length) := Lib.hid (by
      rcases Nat.lt_or_gt_of_ne hne with h | h
      · rw [cmpZ_lt h, cmpZ_lt (lt_of_len (by omega) h)]
      · rw [cmpZ_gt h, cmpZ_gt (lt_of_len (by omega) h)])
    have hneq : (((L x).length : Int) != ((L y).length : Int)) = true := by rw [bne_iff_ne]; omega
    clear hne
    gi_wp2_with fail
    refine ⟨trivial, ?_⟩
    refine (callsIn_wide.2 (Compare_int _ _ _)).mono ?_
    rintro e w' ⟨rfl, rfl⟩
    gi_wp2_with fail
    have hc5 := (bR4.set (.int .i64 (cmpZ (L x).length (L y).length))).cell
    refine ⟨.int .i64 (cmpZ (L x).length (L y).length), ?_, by rw [HZ.out], hB4.setCell (p := ⟨w.heap.size + 1, 0, none⟩) (by simp) _⟩
    simp [results, Tryd.f53, go_sem, hc5]
end Go.Proofs.YtnfoblmfjldheaaDoor
