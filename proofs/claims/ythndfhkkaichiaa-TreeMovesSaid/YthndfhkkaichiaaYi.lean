/-
  TreeMoves: a group that moves takes all that is below it with it; the root's active count stays. No condition.
-/
import Derived.Test.YthndfhkkaichiaaYh
namespace Go.Proofs.Ythndfhkkaichiaa
open Go.RowKit Go.Maps

set_option maxRecDepth 100000 in
set_option maxHeartbeats 4000000 in
theorem moves_any (v : Value) (xs : List (Nat × Int × Int)) (x p : Int) (w : World) (hx : RowA w v xs) (hx64 : I64 x) (hp64 : I64 p) :
    Calls Try.prog 7 #[v, .int .i64 x, .int .i64 p] w fun e w' => e = .returned (.bool true) ∧ Below w.heap.size w w' := by
  obtain ⟨a1, c1, rfl⟩ := hx.sl
  have HX := Lib.hid hx
  have HX64 := Lib.hid hx64
  have HP64 := Lib.hid hp64
  clear hx hx64 hp64
  have hB := Below.refl w.heap.size w
  by_cases hlen : 50 < xs.length
  · have h1 : (50 : Int) < (xs.length : Int) := by omega
    clear hlen
    go_enter Try.func7, Try.ntmps7
    go_wp2_with (go_at_call 8; refine (awake_any _).mono ?_; rintro e w1 ⟨rfl, hb⟩; replace hB := hB.trans (hb.mono hB.size); clear hb)
    go_ret
    exact ⟨rfl, hB⟩
  · have h1 : ¬ (50 : Int) < (xs.length : Int) := by omega
    obtain ⟨N, hN⟩ : ∃ N : Nat, Hid (N = 20) := ⟨20, Lib.hid rfl⟩
    go_enter Try.func7, Try.ntmps7
    go_wp2_with (first | (go_at_call 8; refine (awake_any _).mono ?_; rintro e w1 ⟨rfl, hb⟩; replace hB := hB.trans (hb.mono hB.size); clear hb) | (go_at_call 9; refine (new20 N hN.out _).mono ?_; rintro e w2 ⟨⟨fp, l0, rfl, hl0, hF0⟩, hb⟩; have HB0 : Hid (IsF w2 w.heap.size fp [] l0 0 0) := Lib.hid (hF0.base hB.size); have HL0 := Lib.hid hl0; clear hF0 hl0; replace hB := hB.trans (hb.mono hB.size); clear hb) | (go_at_call 10; refine (rnew20 N hN.out _).mono ?_; rintro e w3 ⟨⟨v3, rfl, a3, c3, rfl, hr3⟩, hb⟩; replace HB0 := Lib.hid (HB0.out.below hb); replace hB := hB.trans (hb.mono hB.size); have hw3 := hB.size; clear hb; replace HB0 := Lib.hid (HB0.out.below ((Below.refl _ w3).alloc (Nat.le_refl _) (.cells #[.int .i64 0, .int .i64 0, .slice none 0 0] 30))); have hr4 := hr3.alloc (.cells #[.int .i64 0, .int .i64 0, .slice none 0 0] 30); have hZ3 := Blk.new w3 30 #[.int .i64 0, .int .i64 0, .slice none 0 0]; replace hB := hB.alloc hB.size (.cells #[.int .i64 0, .int .i64 0, .slice none 0 0] 30); clear hr3) | (refine wpList_alloc30 rfl rfl ?_; generalize w3.alloc (.cells #[.int .i64 0, .int .i64 0, .slice none 0 0] 30) = w4 at *) | (refine wpList_store30 rfl _ _ rfl w3.heap.size _ 0 (.slice a3 0 c3) rfl rfl hZ3 rfl rfl ?_; intro w5 hZ5 t5; have hr5 := hr4.turn t5 hZ3 (by decide); have hF5 := HB0.out.turn t5 hZ3 (by decide); replace hB := hB.trans (t5.below hw3); clear hr4 hZ3 t5 HB0))
    have HS : Hid (St w fp w3.heap.size N w5 [] 0 ((0 : Nat) : Int) [] 0) := Lib.hid ⟨⟨l0, HL0.out, hF5⟩, ⟨a3, c3, hZ5, hr5⟩, hB, hw3⟩
    clear hF5 hZ5 hr5 hB HL0
    generalize w3.heap.size = b at *
    go_loopw [51] (fun i wr => ∃ (kk : Nat) (L : List Gr) (m : Int), kk ≤ xs.length ∧ i = .int .i64 kk ∧ Hid (St w fp b N wr L m (kk : Int) L m)) (fun i _ => xs.length - (intOf i).toNat)
    case atStart => exact ⟨0, [], 0, by omega, rfl, HS⟩
    case round =>
      clear HS
      obtain ⟨kk, L, m, hkk, rfl, HS⟩ := hrel
      by_cases hlt : kk < xs.length
      · skip
        obtain ⟨bx, off, rfl, hx0, hx1, hx2, hI1, hI2⟩ := (HS.out.row HX.out).at hlt
        generalize xs.getD kk a0 = x at *
        obtain ⟨kd, av, nv⟩ := x
        simp only [] at hx0 hx1 hx2 hI1 hI2
        have hA := Blk.new wr 34 #[.int .u8 0, .int .i64 0, .int .i64 0]
        have hb0 := HS.out.lt
        go_wp2_with (first | (refine wpList_alloc34 rfl rfl ?_; replace HS := Lib.hid (HS.out.alloc (.cells #[.int .u8 0, .int .i64 0, .int .i64 0] 34)); generalize wr.alloc (.cells #[.int .u8 0, .int .i64 0, .int .i64 0] 34) = w6 at *) | (refine wpList_store34 rfl _ _ rfl wr.heap.size kd av nv rfl rfl hA rfl ?_; intro w7 hA7 t7; replace HS := Lib.hid (HS.out.turn t7 hA (by decide) hb0); clear hA t7 hx0 hx1 hx2; obtain ⟨ad, cd, hbx, hdd⟩ := HS.out.ref) | (refine wpList_load30 rfl _ rfl b _ _ _ rfl hbx ?_) | (refine wpList_load34 rfl _ rfl wr.heap.size kd av nv rfl hA7 ?_))
        obtain ⟨l7, hl7, hF7⟩ := HS.out.F
        refine (do_any fp w.heap.size (N) L l7 m (kk : Int) (kd : Int) av nv w7 _ hF7 ⟨ad, cd, rfl, hdd⟩ (by omega) hI1 hI2 HS.out.leW hl7).mono ?_
        rintro e w9 ⟨⟨v9, rfl, a9, c9, rfl, hr9⟩, ⟨l9, hl9, hF9⟩, hw9⟩
        rw [hl7] at hF9 hr9
        rw [hl7]
        replace HS := Lib.hid (HS.out.act ⟨l9, hl9.trans hl7, hF9⟩ hw9 (by decide) (by decide))
        clear hbx hdd hA7 hw9 hF7 hF9 hl9 hl7
        generalize actL L (N) m (kd : Int) av nv = L2 at *
        generalize actM L (N) m (kd : Int) av nv = m2 at *
        have hb1 := HS.out.lt
        obtain ⟨a0', c0', hbx0, _⟩ := HS.out.ref
        go_wp2_with (first | (refine wpList_store30 rfl _ _ rfl b (N : Int) m2 (.slice a9 L2.length c9) rfl rfl hbx0 rfl rfl ?_; intro w12 hb12 t12; replace HS := Lib.hid (HS.out.set t12 hr9 hb12); clear t12 hbx0 hr9 hb12))
        exact ⟨⟨kk + 1, L2, m2, by omega, by go_num, HS⟩, by simp [intOf]; omega⟩
      · obtain rfl : kk = xs.length := by omega
        clear hlt hkk
        go_wp2_with fail
        have hk50 : (xs.length : Int) ≤ 50 := by omega
        have HQ21 := HX64
        have HQ24 := HP64
        cases hhx : has L x with
        | false =>
          have hmc : moveC L x p = 4 := by unfold moveC; rw [if_pos (.inl hhx)]
          cases hhp : has L p with
          | false =>
            go_wp2_with (first | (refine wpList_store44 rfl _ _ rfl w24.heap.size 0 0 0 0 0 0 0 rfl rfl hZ24 rfl ?_; intro w26 hZs24 t24; replace HS := Lib.hid (HS.out.turn t24 hZ24 (by decide) hle24); replace HZ21 := Lib.hid (HZ21.out.turn t24 (by omega)); clear hlt24; have HZ24 := Lib.hid hZs24; clear t24 hZ24 hZs24 hle24) | (refine wpList_store44 rfl _ _ rfl w21.heap.size 0 0 0 0 0 0 0 rfl rfl hZ21 rfl ?_; intro w23 hZs21 t21; replace HS := Lib.hid (HS.out.turn t21 hZ21 (by decide) hle21); have HZ21 := Lib.hid hZs21; clear t21 hZ21 hZs21 hle21) | (refine wpList_alloc44 rfl rfl ?_; generalize w24.alloc (.cells #[.int .i64 0, .int .i64 0, .int .i64 0, .int .i64 0, .int .i64 0, .int .i64 0, .int .i64 0] 44) = w25 at *) | (refine wpList_alloc44 rfl rfl ?_; generalize w21.alloc (.cells #[.int .i64 0, .int .i64 0, .int .i64 0, .int .i64 0, .int .i64 0, .int .i64 0, .int .i64 0] 44) = w22 at *) | (go_at_call 16; have hq21 := HQ21.out; clear HQ21; refine (HS.out.groupNo hq21 hhx).mono ?_; rintro e w21 ⟨rfl, hs21, hb21⟩; have hle21 := hs21.lt; replace HS := Lib.hid (hs21.alloc (.cells #[.int .i64 0, .int .i64 0, .int .i64 0, .int .i64 0, .int .i64 0, .int .i64 0, .int .i64 0] 44)); clear hs21 hb21 hq21; have hZ21 := Blk.new w21 44 #[.int .i64 0, .int .i64 0, .int .i64 0, .int .i64 0, .int .i64 0, .int .i64 0, .int .i64 0]) | (go_at_call 16; have hq24 := HQ24.out; clear HQ24; refine (HS.out.groupNo hq24 hhp).mono ?_; rintro e w24 ⟨rfl, hs24, hb24⟩; have hle24 := hs24.lt; replace HS := Lib.hid (hs24.alloc (.cells #[.int .i64 0, .int .i64 0, .int .i64 0, .int .i64 0, .int .i64 0, .int .i64 0, .int .i64 0] 44)); have hlt24 := (HZ21.out.below hb24).lt; replace HZ21 := Lib.hid ((HZ21.out.below hb24).alloc (.cells #[.int .i64 0, .int .i64 0, .int .i64 0, .int .i64 0, .int .i64 0, .int .i64 0, .int .i64 0] 44)); clear hs24 hb24 hq24; have hZ24 := Blk.new w24 44 #[.int .i64 0, .int .i64 0, .int .i64 0, .int .i64 0, .int .i64 0, .int .i64 0, .int .i64 0]) | (go_at_call 15; refine (HS.out.move HX64.out HP64.out (by omega)).mono ?_; rw [hmc]; rintro e w30 ⟨rfl, hs30, _⟩))
            go_ret
            exact ⟨rfl, hs30.bel⟩
          | true =>
            go_wp2_with (first | (refine wpList_store44 rfl _ _ rfl w24.heap.size p (gr L p).pa (gr L p).wt (dep L p) (topI L p) (gr L p).me (gr L p).aw rfl rfl hZ24 rfl ?_; intro w26 hZs24 t24; replace HS := Lib.hid (HS.out.turn t24 hZ24 (by decide) hle24); replace HZ21 := Lib.hid (HZ21.out.turn t24 (by omega)); clear hlt24; have HZ24 := Lib.hid hZs24; clear t24 hZ24 hZs24 hle24) | (refine wpList_store44 rfl _ _ rfl w21.heap.size 0 0 0 0 0 0 0 rfl rfl hZ21 rfl ?_; intro w23 hZs21 t21; replace HS := Lib.hid (HS.out.turn t21 hZ21 (by decide) hle21); have HZ21 := Lib.hid hZs21; clear t21 hZ21 hZs21 hle21) | (refine wpList_alloc44 rfl rfl ?_; generalize w24.alloc (.cells #[.int .i64 0, .int .i64 0, .int .i64 0, .int .i64 0, .int .i64 0, .int .i64 0, .int .i64 0] 44) = w25 at *) | (refine wpList_alloc44 rfl rfl ?_; generalize w21.alloc (.cells #[.int .i64 0, .int .i64 0, .int .i64 0, .int .i64 0, .int .i64 0, .int .i64 0, .int .i64 0] 44) = w22 at *) | (go_at_call 16; have hq21 := HQ21.out; clear HQ21; refine (HS.out.groupNo hq21 hhx).mono ?_; rintro e w21 ⟨rfl, hs21, hb21⟩; have hle21 := hs21.lt; replace HS := Lib.hid (hs21.alloc (.cells #[.int .i64 0, .int .i64 0, .int .i64 0, .int .i64 0, .int .i64 0, .int .i64 0, .int .i64 0] 44)); clear hs21 hb21 hq21; have hZ21 := Blk.new w21 44 #[.int .i64 0, .int .i64 0, .int .i64 0, .int .i64 0, .int .i64 0, .int .i64 0, .int .i64 0]) | (go_at_call 16; have hq24 := HQ24.out; clear HQ24; refine (HS.out.group hq24 hhp).mono ?_; rintro e w24 ⟨rfl, hs24, hb24⟩; have hle24 := hs24.lt; replace HS := Lib.hid (hs24.alloc (.cells #[.int .i64 0, .int .i64 0, .int .i64 0, .int .i64 0, .int .i64 0, .int .i64 0, .int .i64 0] 44)); have hlt24 := (HZ21.out.below hb24).lt; replace HZ21 := Lib.hid ((HZ21.out.below hb24).alloc (.cells #[.int .i64 0, .int .i64 0, .int .i64 0, .int .i64 0, .int .i64 0, .int .i64 0, .int .i64 0] 44)); clear hs24 hb24 hq24; have hZ24 := Blk.new w24 44 #[.int .i64 0, .int .i64 0, .int .i64 0, .int .i64 0, .int .i64 0, .int .i64 0, .int .i64 0]) | (go_at_call 15; refine (HS.out.move HX64.out HP64.out (by omega)).mono ?_; rw [hmc]; rintro e w30 ⟨rfl, hs30, _⟩))
            go_ret
            exact ⟨rfl, hs30.bel⟩
        | true =>
          cases hhp : has L p with
          | false =>
            have hmc : moveC L x p = 4 := by unfold moveC; rw [if_pos (.inr hhp)]
            go_wp2_with (first | (refine wpList_store44 rfl _ _ rfl w24.heap.size 0 0 0 0 0 0 0 rfl rfl hZ24 rfl ?_; intro w26 hZs24 t24; replace HS := Lib.hid (HS.out.turn t24 hZ24 (by decide) hle24); replace HZ21 := Lib.hid (HZ21.out.turn t24 (by omega)); clear hlt24; have HZ24 := Lib.hid hZs24; clear t24 hZ24 hZs24 hle24) | (refine wpList_store44 rfl _ _ rfl w21.heap.size x (gr L x).pa (gr L x).wt (dep L x) (topI L x) (gr L x).me (gr L x).aw rfl rfl hZ21 rfl ?_; intro w23 hZs21 t21; replace HS := Lib.hid (HS.out.turn t21 hZ21 (by decide) hle21); have HZ21 := Lib.hid hZs21; clear t21 hZ21 hZs21 hle21) | (refine wpList_alloc44 rfl rfl ?_; generalize w24.alloc (.cells #[.int .i64 0, .int .i64 0, .int .i64 0, .int .i64 0, .int .i64 0, .int .i64 0, .int .i64 0] 44) = w25 at *) | (refine wpList_alloc44 rfl rfl ?_; generalize w21.alloc (.cells #[.int .i64 0, .int .i64 0, .int .i64 0, .int .i64 0, .int .i64 0, .int .i64 0, .int .i64 0] 44) = w22 at *) | (go_at_call 16; have hq21 := HQ21.out; clear HQ21; refine (HS.out.group hq21 hhx).mono ?_; rintro e w21 ⟨rfl, hs21, hb21⟩; have hle21 := hs21.lt; replace HS := Lib.hid (hs21.alloc (.cells #[.int .i64 0, .int .i64 0, .int .i64 0, .int .i64 0, .int .i64 0, .int .i64 0, .int .i64 0] 44)); clear hs21 hb21 hq21; have hZ21 := Blk.new w21 44 #[.int .i64 0, .int .i64 0, .int .i64 0, .int .i64 0, .int .i64 0, .int .i64 0, .int .i64 0]) | (go_at_call 16; have hq24 := HQ24.out; clear HQ24; refine (HS.out.groupNo hq24 hhp).mono ?_; rintro e w24 ⟨rfl, hs24, hb24⟩; have hle24 := hs24.lt; replace HS := Lib.hid (hs24.alloc (.cells #[.int .i64 0, .int .i64 0, .int .i64 0, .int .i64 0, .int .i64 0, .int .i64 0, .int .i64 0] 44)); have hlt24 := (HZ21.out.below hb24).lt; replace HZ21 := Lib.hid ((HZ21.out.below hb24).alloc (.cells #[.int .i64 0, .int .i64 0, .int .i64 0, .int .i64 0, .int .i64 0, .int .i64 0, .int .i64 0] 44)); clear hs24 hb24 hq24; have hZ24 := Blk.new w24 44 #[.int .i64 0, .int .i64 0, .int .i64 0, .int .i64 0, .int .i64 0, .int .i64 0, .int .i64 0]) | (go_at_call 15; refine (HS.out.move HX64.out HP64.out (by omega)).mono ?_; rw [hmc]; rintro e w30 ⟨rfl, hs30, _⟩))
            go_ret
            exact ⟨rfl, hs30.bel⟩
          | true =>
            go_wp2_with (first | (refine wpList_store44 rfl _ _ rfl w24.heap.size p (gr L p).pa (gr L p).wt (dep L p) (topI L p) (gr L p).me (gr L p).aw rfl rfl hZ24 rfl ?_; intro w26 hZs24 t24; replace HS := Lib.hid (HS.out.turn t24 hZ24 (by decide) hle24); replace HZ21 := Lib.hid (HZ21.out.turn t24 (by omega)); clear hlt24; have HZ24 := Lib.hid hZs24; clear t24 hZ24 hZs24 hle24) | (refine wpList_store44 rfl _ _ rfl w21.heap.size x (gr L x).pa (gr L x).wt (dep L x) (topI L x) (gr L x).me (gr L x).aw rfl rfl hZ21 rfl ?_; intro w23 hZs21 t21; replace HS := Lib.hid (HS.out.turn t21 hZ21 (by decide) hle21); have HZ21 := Lib.hid hZs21; clear t21 hZ21 hZs21 hle21) | (refine wpList_alloc44 rfl rfl ?_; generalize w24.alloc (.cells #[.int .i64 0, .int .i64 0, .int .i64 0, .int .i64 0, .int .i64 0, .int .i64 0, .int .i64 0] 44) = w25 at *) | (refine wpList_alloc44 rfl rfl ?_; generalize w21.alloc (.cells #[.int .i64 0, .int .i64 0, .int .i64 0, .int .i64 0, .int .i64 0, .int .i64 0, .int .i64 0] 44) = w22 at *) | (go_at_call 16; have hq21 := HQ21.out; clear HQ21; refine (HS.out.group hq21 hhx).mono ?_; rintro e w21 ⟨rfl, hs21, hb21⟩; have hle21 := hs21.lt; replace HS := Lib.hid (hs21.alloc (.cells #[.int .i64 0, .int .i64 0, .int .i64 0, .int .i64 0, .int .i64 0, .int .i64 0, .int .i64 0] 44)); clear hs21 hb21 hq21; have hZ21 := Blk.new w21 44 #[.int .i64 0, .int .i64 0, .int .i64 0, .int .i64 0, .int .i64 0, .int .i64 0, .int .i64 0]) | (go_at_call 16; have hq24 := HQ24.out; clear HQ24; refine (HS.out.group hq24 hhp).mono ?_; rintro e w24 ⟨rfl, hs24, hb24⟩; have hle24 := hs24.lt; replace HS := Lib.hid (hs24.alloc (.cells #[.int .i64 0, .int .i64 0, .int .i64 0, .int .i64 0, .int .i64 0, .int .i64 0, .int .i64 0] 44)); have hlt24 := (HZ21.out.below hb24).lt; replace HZ21 := Lib.hid ((HZ21.out.below hb24).alloc (.cells #[.int .i64 0, .int .i64 0, .int .i64 0, .int .i64 0, .int .i64 0, .int .i64 0, .int .i64 0] 44)); clear hs24 hb24 hq24; have hZ24 := Blk.new w24 44 #[.int .i64 0, .int .i64 0, .int .i64 0, .int .i64 0, .int .i64 0, .int .i64 0, .int .i64 0]) | (go_at_call 20; refine HS.out.ids.mono ?_; rintro e w40 ⟨⟨ai, ci, rfl, hi40⟩, hs40, hb40⟩; replace HS := Lib.hid hs40; have HI := Lib.hid hi40; replace HZ21 := Lib.hid (HZ21.out.below hb40); replace HZ24 := Lib.hid (HZ24.out.below hb40); clear hs40 hb40 hi40))
            generalize w26.heap.size = B26 at *
            generalize w21.heap.size = u at *
            generalize w24.heap.size = u' at *
            have hil : (idsG L).length ≤ 64 := by have := HS.out.ok.n64; simpa [idsG] using this
            have hle40 : w.heap.size ≤ w40.heap.size := HS.out.leW
            go_loopw [16, 89] (fun sv i wr => ∃ (j : Nat) (a' : Option Addr) (c' : Nat), j ≤ (idsG L).length ∧ sv = .slice a' (bel L x ((idsG L).take j)).length c' ∧ i = .int .i64 (j : Int) ∧ Hid (RowO wr w40.heap.size (.slice a' (bel L x ((idsG L).take j)).length c') (bel L x ((idsG L).take j))) ∧ Hid (Below w40.heap.size w40 wr)) (fun _ i _ => (idsG L).length - (intOf i).toNat)
            case atStart => exact ⟨0, none, 0, by omega, rfl, rfl, Lib.hid (RowO.nil _ _), Lib.hid (Below.refl _ _)⟩
            case round =>
              obtain ⟨j, a', c', hj, rfl, rfl, hro, hbb⟩ := hrel
              by_cases hlt2 : j < (idsG L).length
              · have hsz := hbb.out.size
                obtain ⟨bi, rfl, _, _, hyc, _⟩ := (HI.out.below hbb.out).at hlt2
                have hh := ids_has hlt2
                have hlt3 : (j : Int) < ((idsG L).length : Int) := by omega
                have hyi := HS.out.idOk hh
                have hbl := bel_len L x ((idsG L).take j)
                have hbl2 : ((idsG L).take j).length ≤ 64 := by rw [List.length_take]; omega
                have HSb := Lib.hid (HS.out.below hbb.out)
                cases hbe : belowB L ((idsG L).getD j 0) x with
                | true =>
                  have HE := Lib.hid (bel_yes hlt2 hbe)
                  generalize (idsG L).getD j 0 = y at *
                  generalize bel L x ((idsG L).take j) = ks at *
                  go_wp2_with (first | (go_at_call 17; refine (HSb.out.isBelow hyi x).mono ?_; rw [hbe]; rintro e w41 ⟨rfl, _, hb41⟩; have hA := OneAt.new w41 y; have hba : Below w40.heap.size w40 (w41.alloc (.cells #[.int .i64 y] 3)) := Below.allocS (hbb.out.trans (hb41.mono hsz)) _; have hroa := (hro.out.below hb41).alloc (.cells #[.int .i64 y] 3); clear hb41) | (refine wpList_append rfl _ _ rfl w40.heap.size (.slice a' ks.length c') _ ks [y] rfl rfl (by have := hba.size; exact this) hroa hA.src (by simp; omega) ?_; intro v' w42 hro2 hg2; have hb2 : Below w40.heap.size w40 w42 := hba.trans (grown_below hroa hba.size hg2); obtain ⟨a2, c2, rfl⟩ := hro2.sl))
                  exact ⟨⟨j + 1, a2, c2, by omega, by rw [HE.out]; simp, by go_num, Lib.hid (by rw [HE.out]; exact hro2), Lib.hid hb2⟩, by simp [intOf]; omega⟩
                | false =>
                  have HE := Lib.hid (bel_no hlt2 hbe)
                  generalize (idsG L).getD j 0 = y at *
                  generalize bel L x ((idsG L).take j) = ks at *
                  go_wp2_with (first | (go_at_call 17; refine (HSb.out.isBelow hyi x).mono ?_; rw [hbe]; rintro e w41 ⟨rfl, _, hb41⟩))
                  exact ⟨⟨j + 1, a', c', by omega, by rw [HE.out], by go_num, Lib.hid (by rw [HE.out]; exact hro.out.below hb41), Lib.hid (hbb.out.trans (hb41.mono hsz))⟩, by simp [intOf]; omega⟩
              · obtain rfl : j = (idsG L).length := by omega
                clear hlt2 hj
                rw [List.take_length] at *
                have HVV := Lib.hid (show ∀ q, q < (bel L x (idsG L)).length → belowB L ((bel L x (idsG L)).getD q 0) x = true ∧ has L ((bel L x (idsG L)).getD q 0) = true from fun q hq => ⟨(bel_at hq).1, has_ids.2 (bel_at hq).2⟩)
                have hvl := bel_len L x (idsG L)
                generalize bel L x (idsG L) = V at *
                have hvl2 : V.length ≤ 64 := by omega
                have hsz := hbb.out.size
                replace HS := Lib.hid (HS.out.below hbb.out)
                replace HZ21 := Lib.hid (HZ21.out.below hbb.out)
                replace HZ24 := Lib.hid (HZ24.out.below hbb.out)
                clear HI hbb
                have c4 := cU4 HZ21.out
                have HOK := Lib.hid HS.out.ok
                have hmvx := HX64.out
                have hmvp := HP64.out
                have HT := Lib.hid (Eq.refl (topI L x))
                by_cases hmv : moveC L x p = 0
                · have HM := Lib.hid (moves_of hmv)
                  have HN0 : Hid (moveN L x p = moveG L x p) := Lib.hid (by unfold moveN; rw [if_pos hmv])
                  have HOK2 := Lib.hid (HOK.out.moves (by omega) HM.out)
                  have HD : Hid (dep (moveG L x p) x = dep L p + 1) := Lib.hid (mv_dep HOK.out HOK2.out HM.out.hx HM.out.out)
                  have HPA : Hid ((gr (moveG L x p) x).pa = p) := Lib.hid (by rw [move_gr HM.out.hx, if_pos rfl]; rfl)
                  have HAT : Hid (actI (moveG L x p) (topI L x) = actI L (topI L x)) := Lib.hid (mv_act_top HOK.out HOK2.out HM.out.hx HM.out.hp HM.out.out HM.out.top)
                  have HAX : Hid (actI (moveG L x p) x = actI L x) := Lib.hid (mv_act_x HOK.out HOK2.out HM.out.hx HM.out.hp HM.out.out)
                  have HBE : Hid (∀ y, belowB L y x = true → belowB (moveG L x p) y p = true ∧ belowB (moveG L x p) y x = true) := Lib.hid (fun y hy => mv_below HOK.out HOK2.out HM.out.hx HM.out.hp HM.out.out hy)
                  have HHX : Hid (has (moveG L x p) x = true) := Lib.hid ((move_has x).trans HM.out.hx)
                  have HHY : Hid (∀ y, has L y = true → I64 y) := Lib.hid (fun y hy => HS.out.idOk hy)
                  have hd8 := HOK.out.dep8 p
                  clear HM
                  generalize moveG L x p = L' at *
                  generalize topI L x = r at *
                  generalize hA1 : actI L r = A1 at *
                  generalize hA2 : actI L x = A2 at *
                  have HQT := HT
                  have HQX := HT
                  go_wp2_with (first | (go_at_call 21; clear HQT; refine (HS.out.active r).mono ?_; rw [hA1]; rintro e w43 ⟨rfl, hs43, hb43⟩; replace HS := Lib.hid hs43; replace HZ21 := Lib.hid (HZ21.out.below hb43); replace HZ24 := Lib.hid (HZ24.out.below hb43); replace hro := Lib.hid (hro.out.below hb43); clear hs43 hb43) | (go_at_call 21; clear HQX; refine (HS.out.active x).mono ?_; rw [hA2]; rintro e w44 ⟨rfl, hs44, hb44⟩; replace HS := Lib.hid hs44; replace HZ21 := Lib.hid (HZ21.out.below hb44); replace HZ24 := Lib.hid (HZ24.out.below hb44); replace hro := Lib.hid (hro.out.below hb44); clear hs44 hb44) | (go_at_call 15; refine (HS.out.move hmvx hmvp (by omega)).mono ?_; rw [hmv, HN0.out]; rintro e w45 ⟨rfl, hs45, hw45⟩; replace HS := Lib.hid hs45; replace HZ21 := Lib.hid (HZ21.out.wr hw45 (by decide)); replace HZ24 := Lib.hid (HZ24.out.wr hw45 (by decide)); replace hro := Lib.hid (hro.out.wr hw45 (by decide)); clear hs45 hw45) | (refine wpList_store44 rfl _ _ rfl w46.heap.size x p _ (dep L p + 1) _ _ _ rfl rfl hZ46 rfl ?_; intro w48 hZs46 t46; replace HS := Lib.hid (HS.out.turn t46 hZ46 (by decide) hle46); replace HZ21 := Lib.hid (HZ21.out.turn t46 (by omega)); replace HZ24 := Lib.hid (HZ24.out.turn t46 (by omega)); replace hro := Lib.hid (hro.out.turn t46 hZ46 (by decide)); have HZ46 := Lib.hid hZs46; clear t46 hZ46 hZs46 hle46 hu1 hu2) | (go_at_call 16; refine (HS.out.group hmvx HHX.out).mono ?_; rw [HD.out, HPA.out]; rintro e w46 ⟨rfl, hs46, hb46⟩; have hle46 := hs46.lt; have hu1 := (HZ21.out.below hb46).lt; have hu2 := (HZ24.out.below hb46).lt; replace HS := Lib.hid (hs46.alloc (.cells #[.int .i64 0, .int .i64 0, .int .i64 0, .int .i64 0, .int .i64 0, .int .i64 0, .int .i64 0] 44)); replace HZ21 := Lib.hid ((HZ21.out.below hb46).alloc (.cells #[.int .i64 0, .int .i64 0, .int .i64 0, .int .i64 0, .int .i64 0, .int .i64 0, .int .i64 0] 44)); replace HZ24 := Lib.hid ((HZ24.out.below hb46).alloc (.cells #[.int .i64 0, .int .i64 0, .int .i64 0, .int .i64 0, .int .i64 0, .int .i64 0, .int .i64 0] 44)); replace hro := Lib.hid ((hro.out.below hb46).alloc (.cells #[.int .i64 0, .int .i64 0, .int .i64 0, .int .i64 0, .int .i64 0, .int .i64 0, .int .i64 0] 44)); clear hs46 hb46; have hZ46 := Blk.new w46 44 #[.int .i64 0, .int .i64 0, .int .i64 0, .int .i64 0, .int .i64 0, .int .i64 0, .int .i64 0]) | (refine wpList_alloc44 rfl rfl ?_; generalize w46.alloc (.cells #[.int .i64 0, .int .i64 0, .int .i64 0, .int .i64 0, .int .i64 0, .int .i64 0, .int .i64 0] 44) = w47 at *))
                  generalize w46.heap.size = u2 at *
                  clear c4
                  go_loopw [136] (fun i wr => ∃ q : Nat, q ≤ V.length ∧ i = .int .i64 (q : Int) ∧ Hid (Below w48.heap.size w48 wr)) (fun i _ => V.length - (intOf i).toNat)
                  case atStart => exact ⟨0, by omega, rfl, Lib.hid (Below.refl _ _)⟩
                  case round =>
                    obtain ⟨q, hq, rfl, hbq⟩ := hrel
                    by_cases hlt5 : q < V.length
                    · obtain ⟨bv, rfl, _, _, hvc, _⟩ := (hro.out.below hbq.out).at hlt5
                      have hlt6 : (q : Int) < (V.length : Int) := by omega
                      have hv := HVV.out q hlt5
                      generalize V.getD q 0 = y at *
                      have hyi := HHY.out y hv.2
                      obtain ⟨hbp, hbx⟩ := HBE.out y hv.1
                      have HSq := Lib.hid (HS.out.below hbq.out)
                      have hszq := hbq.out.size
                      have HQP := HT
                      have HQY := HT
                      go_wp2_with (first | (go_at_call 17; clear HQP; refine (HSq.out.isBelow hyi p).mono ?_; rw [hbp]; rintro e w51 ⟨rfl, hs51, hb51⟩) | (go_at_call 17; clear HQY; refine (hs51.isBelow hyi x).mono ?_; rw [hbx]; rintro e w52 ⟨rfl, hs52, hb52⟩))
                      exact ⟨⟨q + 1, by omega, by go_num, Lib.hid (hbq.out.trans ((hb51.mono hszq).trans (hb52.mono (Nat.le_trans hszq hb51.size))))⟩, by simp [intOf]; omega⟩
                    · obtain rfl : q = V.length := by omega
                      replace HS := Lib.hid (HS.out.below hbq.out)
                      have d1 := cU1 (HZ46.out.below hbq.out)
                      have d3 := cU3 (HZ46.out.below hbq.out)
                      have e3 := cU3 (HZ24.out.below hbq.out)
                      have c4 := cU4 (HZ21.out.below hbq.out)
                      have HQP := HT
                      have HQY := HT
                      go_wp2_with (first | (go_at_call 21; clear HQP; refine (HS.out.active r).mono ?_; rw [HAT.out]; rintro e w53 ⟨rfl, hs53, hb53⟩; replace HS := Lib.hid hs53; clear hs53 hb53) | (go_at_call 21; clear HQY; refine (HS.out.active x).mono ?_; rw [HAX.out]; rintro e w54 ⟨rfl, hs54, hb54⟩; replace HS := Lib.hid hs54; clear hs54 hb54))
                      go_ret
                      exact ⟨by first | rfl | simp, HS.out.bel⟩
                · have HN1 : Hid (moveN L x p = L) := Lib.hid (by unfold moveN; rw [if_neg hmv])
                  have q44 := eqlU x (gr L x).pa (gr L x).wt (dep L x) (topI L x) (gr L x).me (gr L x).aw
                  have HHX := Lib.hid hhx
                  generalize hmcE : moveC L x p = mc at *
                  generalize hTE : topI L x = r at *
                  generalize hA1 : actI L r = A1 at *
                  generalize hA2 : actI L x = A2 at *
                  have HQT := HT
                  have HQX := HT
                  go_wp2_with (first | (go_at_call 21; clear HQT; refine (HS.out.active r).mono ?_; rw [hA1]; rintro e w43 ⟨rfl, hs43, hb43⟩; replace HS := Lib.hid hs43; replace HZ21 := Lib.hid (HZ21.out.below hb43); replace HZ24 := Lib.hid (HZ24.out.below hb43); replace hro := Lib.hid (hro.out.below hb43); clear hs43 hb43) | (go_at_call 21; clear HQX; refine (HS.out.active x).mono ?_; rw [hA2]; rintro e w44 ⟨rfl, hs44, hb44⟩; replace HS := Lib.hid hs44; replace HZ21 := Lib.hid (HZ21.out.below hb44); replace HZ24 := Lib.hid (HZ24.out.below hb44); replace hro := Lib.hid (hro.out.below hb44); clear hs44 hb44) | (go_at_call 15; refine (HS.out.move hmvx hmvp (by omega)).mono ?_; rw [hmcE, HN1.out]; rintro e w45 ⟨rfl, hs45, hw45⟩; replace HS := Lib.hid hs45; replace HZ21 := Lib.hid (HZ21.out.wr hw45 (by decide)); replace HZ24 := Lib.hid (HZ24.out.wr hw45 (by decide)); replace hro := Lib.hid (hro.out.wr hw45 (by decide)); clear hs45 hw45) | (refine wpList_store44 rfl _ _ rfl w46.heap.size x _ _ _ r _ _ rfl rfl hZ46 rfl ?_; intro w48 hZs46 t46; replace HS := Lib.hid (HS.out.turn t46 hZ46 (by decide) hle46); replace HZ21 := Lib.hid (HZ21.out.turn t46 (by omega)); replace HZ24 := Lib.hid (HZ24.out.turn t46 (by omega)); replace hro := Lib.hid (hro.out.turn t46 hZ46 (by decide)); have HZ46 := Lib.hid hZs46; clear t46 hZ46 hZs46 hle46 hu1 hu2; obtain ⟨ar, cr, hbr, hrr⟩ := HS.out.ref) | (go_at_call 16; refine (HS.out.group hmvx HHX.out).mono ?_; rw [hTE]; rintro e w46 ⟨rfl, hs46, hb46⟩; have hle46 := hs46.lt; have hu1 := (HZ21.out.below hb46).lt; have hu2 := (HZ24.out.below hb46).lt; replace HS := Lib.hid (hs46.alloc (.cells #[.int .i64 0, .int .i64 0, .int .i64 0, .int .i64 0, .int .i64 0, .int .i64 0, .int .i64 0] 44)); replace HZ21 := Lib.hid ((HZ21.out.below hb46).alloc (.cells #[.int .i64 0, .int .i64 0, .int .i64 0, .int .i64 0, .int .i64 0, .int .i64 0, .int .i64 0] 44)); replace HZ24 := Lib.hid ((HZ24.out.below hb46).alloc (.cells #[.int .i64 0, .int .i64 0, .int .i64 0, .int .i64 0, .int .i64 0, .int .i64 0, .int .i64 0] 44)); replace hro := Lib.hid ((hro.out.below hb46).alloc (.cells #[.int .i64 0, .int .i64 0, .int .i64 0, .int .i64 0, .int .i64 0, .int .i64 0, .int .i64 0] 44)); clear hs46 hb46; have hZ46 := Blk.new w46 44 #[.int .i64 0, .int .i64 0, .int .i64 0, .int .i64 0, .int .i64 0, .int .i64 0, .int .i64 0]) | (refine wpList_alloc44 rfl rfl ?_; generalize w46.alloc (.cells #[.int .i64 0, .int .i64 0, .int .i64 0, .int .i64 0, .int .i64 0, .int .i64 0, .int .i64 0] 44) = w47 at *) | (refine wpList_load44 rfl _ rfl w46.heap.size x _ _ _ r _ _ rfl HZ46.out ?_) | (refine wpList_load44 rfl _ rfl u x _ _ _ r _ _ rfl HZ21.out ?_) | (refine wpList_want rfl ?_; intro K hK; refine wp_load30 _ rfl b _ _ _ rfl hbr ?_; refine hK _ _ ?_; clear hK K) | (go_at_call 12; refine (HS.out.isIt hrr).mono ?_; rintro e w49 ⟨rfl, hb49⟩))
                  go_ret
                  exact ⟨by first | rfl | simp, (HS.out.below hb49).bel⟩
end Go.Proofs.Ythndfhkkaichiaa
