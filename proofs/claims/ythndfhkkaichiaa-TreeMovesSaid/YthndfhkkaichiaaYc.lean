/-
  TreePlays: each call answers, and all of a forest is, as the document says. No condition.
-/
import Derived.Test.YthndfhkkaichiaaYa
namespace Go.Proofs.Ythndfhkkaichiaa
open Go.RowKit Go.Maps

theorem IsF.base {w : World} {B B' fp : Nat} {L : List Gr} {l : List Int} {m k : Int} (h : IsF w B fp L l m k) (hB : B' ≤ B) : IsF w B' fp L l m k := by
  obtain ⟨tp, tg, mp, bl, h1, h2, h3, h4, h5⟩ := h.fo
  exact ⟨⟨tp, tg, mp, bl, h1, by omega, by omega, by omega, fun x hx => Nat.le_trans hB (h5 x hx)⟩, h.tok, h.ids, h.ok⟩
set_option maxRecDepth 100000 in
set_option maxHeartbeats 4000000 in
theorem plays_any (n : Int) (v : Value) (xs : List (Nat × Int × Int)) (w : World) (hx : RowA w v xs) :
    Calls Try.prog 3 #[.int .i64 n, v] w fun e w' => e = .returned (.bool true) ∧ Below w.heap.size w w' := by
  obtain ⟨a1, c1, rfl⟩ := hx.sl
  have HX := Lib.hid hx
  clear hx
  have hB := Below.refl w.heap.size w
  by_cases hlen : 60 < xs.length
  · have h1 : (60 : Int) < (xs.length : Int) := by omega
    clear hlen
    go_enter Try.func3, Try.ntmps3
    go_wp2_with (go_at_call 8; refine (awake_any _).mono ?_; rintro e w1 ⟨rfl, hb⟩; replace hB := hB.trans (hb.mono hB.size); clear hb)
    go_ret
    exact ⟨rfl, hB⟩
  · have h1 : ¬ (60 : Int) < (xs.length : Int) := by omega
    by_cases hgood : 1 ≤ n ∧ n ≤ 64
    · obtain ⟨N, rfl⟩ : ∃ N : Nat, n = N := ⟨n.toNat, by omega⟩
      have hN1 : 1 ≤ N := by omega
      have hN2 : N ≤ 64 := by omega
      clear hgood
      go_enter Try.func3, Try.ntmps3
      go_wp2_with (first | (go_at_call 8; refine (awake_any _).mono ?_; rintro e w1 ⟨rfl, hb⟩; replace hB := hB.trans (hb.mono hB.size); clear hb) | (go_at_call 9; refine (NewF_yes N _ (by omega) (by omega)).mono ?_; rintro e w2 ⟨⟨fp, l0, rfl, hl0, hF0⟩, hb⟩; have HB0 : Hid (IsF w2 w.heap.size fp [] l0 0 0) := Lib.hid (hF0.base hB.size); have HL0 := Lib.hid hl0; clear hF0 hl0; replace hB := hB.trans (hb.mono hB.size); clear hb) | (go_at_call 10; refine (rNew_yes _ _ (by omega) (by omega)).mono ?_; rintro e w3 ⟨⟨v3, rfl, a3, c3, rfl, hr3⟩, hb⟩; replace HB0 := Lib.hid (HB0.out.below hb); replace hB := hB.trans (hb.mono hB.size); have hw3 := hB.size; clear hb; replace HB0 := Lib.hid (HB0.out.below ((Below.refl _ w3).alloc (Nat.le_refl _) (.cells #[.int .i64 0, .int .i64 0, .slice none 0 0] 30))); have hr4 := hr3.alloc (.cells #[.int .i64 0, .int .i64 0, .slice none 0 0] 30); have hZ3 := Blk.new w3 30 #[.int .i64 0, .int .i64 0, .slice none 0 0]; replace hB := hB.alloc hB.size (.cells #[.int .i64 0, .int .i64 0, .slice none 0 0] 30); clear hr3) | (refine wpList_alloc30 rfl rfl ?_; generalize w3.alloc (.cells #[.int .i64 0, .int .i64 0, .slice none 0 0] 30) = w4 at *) | (refine wpList_store30 rfl _ _ rfl w3.heap.size _ 0 (.slice a3 0 c3) rfl rfl hZ3 rfl rfl ?_; intro w5 hZ5 t5; have hr5 := hr4.turn t5 hZ3 (by decide); have hF5 := HB0.out.turn t5 hZ3 (by decide); replace hB := hB.trans (t5.below hw3); clear hr4 hZ3 t5 HB0))
      have HS : Hid (St w fp w3.heap.size N w5 [] 0 ((0 : Nat) : Int) [] 0) := Lib.hid ⟨⟨l0, HL0.out, hF5⟩, ⟨a3, c3, hZ5, hr5⟩, hB, hw3⟩
      clear hF5 hZ5 hr5 hB HL0
      generalize w3.heap.size = b at *
      go_loopw [45] (fun i wr => ∃ (kk : Nat) (L : List Gr) (m : Int), kk ≤ xs.length ∧ i = .int .i64 kk ∧ Hid (St w fp b N wr L m (kk : Int) L m)) (fun i _ => xs.length - (intOf i).toNat)
      case atStart => exact ⟨0, [], 0, by omega, rfl, HS⟩
      case round =>
        clear HS
        obtain ⟨kk, L, m, hkk, rfl, HS⟩ := hrel
        by_cases hlt : kk < xs.length
        · skip
          obtain ⟨bx, off, rfl, hx0, hx1, hx2, hI1, hI2⟩ := (HS.out.row HX.out).at hlt
          generalize xs.getD kk a0 = x at *
          obtain ⟨kd, av, nv⟩ := x
          simp only [] at hx0 hx1 hx2 hI1 hI2
          have hA := Blk.new wr 34 #[.int .u8 0, .int .i64 0, .int .i64 0]
          have hb0 := HS.out.lt
          go_wp2_with (first | (refine wpList_alloc34 rfl rfl ?_; replace HS := Lib.hid (HS.out.alloc (.cells #[.int .u8 0, .int .i64 0, .int .i64 0] 34)); generalize wr.alloc (.cells #[.int .u8 0, .int .i64 0, .int .i64 0] 34) = w6 at *) | (refine wpList_store34 rfl _ _ rfl wr.heap.size kd av nv rfl rfl hA rfl ?_; intro w7 hA7 t7; replace HS := Lib.hid (HS.out.turn t7 hA (by decide) hb0); clear hA t7 hx0 hx1 hx2; obtain ⟨ad, cd, hbx, hdd⟩ := HS.out.ref) | (refine wpList_load30 rfl _ rfl b _ _ _ rfl hbx ?_) | (refine wpList_load34 rfl _ rfl wr.heap.size kd av nv rfl hA7 ?_))
          obtain ⟨l7, hl7, hF7⟩ := HS.out.F
          refine (do_any fp w.heap.size (N) L l7 m (kk : Int) (kd : Int) av nv w7 _ hF7 ⟨ad, cd, rfl, hdd⟩ (by omega) hI1 hI2 HS.out.leW hl7).mono ?_
          rintro e w9 ⟨⟨v9, rfl, a9, c9, rfl, hr9⟩, ⟨l9, hl9, hF9⟩, hw9⟩
          rw [hl7] at hF9 hr9
          rw [hl7]
          replace HS := Lib.hid (HS.out.act ⟨l9, hl9.trans hl7, hF9⟩ hw9 (by decide) (by decide))
          clear hbx hdd hA7 hw9 hF7 hF9 hl9 hl7
          generalize actL L (N) m (kd : Int) av nv = L2 at *
          generalize actM L (N) m (kd : Int) av nv = m2 at *
          have hZ := Blk.new w9 30 #[.int .i64 0, .int .i64 0, .slice none 0 0]
          have hb1 := HS.out.lt
          replace HS := Lib.hid (HS.out.alloc (.cells #[.int .i64 0, .int .i64 0, .slice none 0 0] 30))
          have hr10 := hr9.alloc (.cells #[.int .i64 0, .int .i64 0, .slice none 0 0] 30)
          clear hr9
          go_wp2_with (first | (refine wpList_alloc30 rfl rfl ?_; generalize w9.alloc (.cells #[.int .i64 0, .int .i64 0, .slice none 0 0] 30) = w10 at *) | (refine wpList_store30 rfl _ _ rfl w9.heap.size (N : Int) m2 (.slice a9 L2.length c9) rfl rfl hZ rfl rfl ?_; intro w11 hZ11 t11; replace HS := Lib.hid (HS.out.turn t11 hZ (by decide) hb1); have hr11 := hr10.turn t11 hZ (by decide); clear hZ t11 hr10; obtain ⟨a0', c0', hbx0, _⟩ := HS.out.ref) | (refine wpList_load30 rfl _ rfl w9.heap.size _ _ _ rfl hZ11 ?_) | (refine wpList_store30 rfl _ _ rfl b (N : Int) m2 (.slice a9 L2.length c9) rfl rfl hbx0 rfl rfl ?_; intro w12 hb12 t12; replace HS := Lib.hid (HS.out.set t12 hr11 hb12); have hr12 := hr11.turn t12 hbx0 (by decide); clear t12 hbx0 hZ11 hr11) | (refine wpList_want rfl ?_; intro K hK; refine wp_load30 _ rfl b _ _ _ rfl hb12 ?_; refine hK _ _ ?_; clear hK K) | (go_at_call 12; obtain ⟨l13, hl13, hF13⟩ := HS.out.F; rw [← hl13]; refine (Is_any fp w.heap.size (R := l13.length) a9 c9 L2 l13 m2 _ w12 hF13 (by exact hr12)).mono ?_; rintro e w14 ⟨rfl, hb⟩; rw [hl13]; replace HS := Lib.hid (HS.out.below hb); clear hb hF13))
          exact ⟨⟨kk + 1, L2, m2, by omega, by go_num, HS⟩, by simp [intOf]; omega⟩
        · obtain rfl : kk = xs.length := by omega
          go_wp2_with fail
          go_ret
          exact ⟨rfl, HS.out.bel⟩
    · skip
      have HG := Lib.hid hgood
      clear hgood
      go_enter Try.func3, Try.ntmps3
      go_wp2_with (first | (go_at_call 8; refine (awake_any _).mono ?_; rintro e w1 ⟨rfl, hb⟩; replace hB := hB.trans (hb.mono hB.size); clear hb) | (go_at_call 9; refine (NewF_no n _ HG.out).mono ?_; rintro e w2 ⟨rfl, rfl⟩) | (go_at_call 10; refine (rNew_no n _ HG.out).mono ?_; rintro e w3 ⟨rfl, hb3⟩; replace hB := hB.trans (hb3.mono hB.size); have hs3 := hB.size; have hZ3 := Blk.new w3 30 #[.int .i64 0, .int .i64 0, .slice none 0 0]; replace hB := hB.alloc hB.size (.cells #[.int .i64 0, .int .i64 0, .slice none 0 0] 30)) | (refine wpList_alloc30 rfl rfl ?_; generalize w3.alloc (.cells #[.int .i64 0, .int .i64 0, .slice none 0 0] 30) = w4 at *) | (refine wpList_store30 rfl _ _ rfl w3.heap.size _ _ (.slice none 0 0) rfl rfl hZ3 rfl rfl ?_; intro w5 hZ5 t5))
      go_ret
      exact ⟨rfl, hB.trans (t5.below (by omega))⟩
end Go.Proofs.Ythndfhkkaichiaa
