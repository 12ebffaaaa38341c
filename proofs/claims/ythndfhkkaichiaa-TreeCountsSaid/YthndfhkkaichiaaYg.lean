/-
  TreeCounts: whatever is done, a group's active count is its own awake members', and its groups'. No condition.
-/
import Derived.Test.YthndfhkkaichiaaYl
namespace Go.Proofs.Ythndfhkkaichiaa
open Go.RowKit Go.Maps

theorem take_sum {f : Int → Int} {K : List Int} {q : Nat} (h : q < K.length) : ((K.take (q + 1)).map f).sum = ((K.take q).map f).sum + f (K.getD q 0) := by
  rw [List.take_succ_eq_append_getElem h, List.map_append, List.sum_append]
  simp [List.getD, h]
set_option maxRecDepth 100000 in
set_option maxHeartbeats 4000000 in
theorem counts_any (v : Value) (xs : List (Nat × Int × Int)) (w : World) (hx : RowA w v xs) :
    Calls Try.prog 6 #[v] w fun e w' => e = .returned (.bool true) ∧ Below w.heap.size w w' := by
  obtain ⟨a1, c1, rfl⟩ := hx.sl
  have HX := Lib.hid hx
  clear hx
  have hB := Below.refl w.heap.size w
  by_cases hlen : 60 < xs.length
  · have h1 : (60 : Int) < (xs.length : Int) := by omega
    clear hlen
    go_enter Try.func6, Try.ntmps6
    go_wp2_with (go_at_call 8; refine (awake_any _).mono ?_; rintro e w1 ⟨rfl, hb⟩; replace hB := hB.trans (hb.mono hB.size); clear hb)
    go_ret
    exact ⟨rfl, hB⟩
  · have h1 : ¬ (60 : Int) < (xs.length : Int) := by omega
    obtain ⟨N, hN⟩ : ∃ N : Nat, Hid (N = 20) := ⟨20, Lib.hid rfl⟩
    go_enter Try.func6, Try.ntmps6
    go_wp2_with (first | (go_at_call 8; refine (awake_any _).mono ?_; rintro e w1 ⟨rfl, hb⟩; replace hB := hB.trans (hb.mono hB.size); clear hb) | (go_at_call 9; refine (new20 N hN.out _).mono ?_; rintro e w2 ⟨⟨fp, l0, rfl, hl0, hF0⟩, hb⟩; have HB0 : Hid (IsF w2 w.heap.size fp [] l0 0 0) := Lib.hid (hF0.base hB.size); have HL0 := Lib.hid hl0; clear hF0 hl0; replace hB := hB.trans (hb.mono hB.size); clear hb) | (go_at_call 10; refine (rnew20 N hN.out _).mono ?_; rintro e w3 ⟨⟨v3, rfl, a3, c3, rfl, hr3⟩, hb⟩; replace HB0 := Lib.hid (HB0.out.below hb); replace hB := hB.trans (hb.mono hB.size); have hw3 := hB.size; clear hb; replace HB0 := Lib.hid (HB0.out.below ((Below.refl _ w3).alloc (Nat.le_refl _) (.cells #[.int .i64 0, .int .i64 0, .slice none 0 0] 30))); have hr4 := hr3.alloc (.cells #[.int .i64 0, .int .i64 0, .slice none 0 0] 30); have hZ3 := Blk.new w3 30 #[.int .i64 0, .int .i64 0, .slice none 0 0]; replace hB := hB.alloc hB.size (.cells #[.int .i64 0, .int .i64 0, .slice none 0 0] 30); clear hr3) | (refine wpList_alloc30 rfl rfl ?_; generalize w3.alloc (.cells #[.int .i64 0, .int .i64 0, .slice none 0 0] 30) = w4 at *) | (refine wpList_store30 rfl _ _ rfl w3.heap.size _ 0 (.slice a3 0 c3) rfl rfl hZ3 rfl rfl ?_; intro w5 hZ5 t5; have hr5 := hr4.turn t5 hZ3 (by decide); have hF5 := HB0.out.turn t5 hZ3 (by decide); replace hB := hB.trans (t5.below hw3); clear hr4 hZ3 t5 HB0))
    have HS : Hid (St w fp w3.heap.size N w5 [] 0 ((0 : Nat) : Int) [] 0) := Lib.hid ⟨⟨l0, HL0.out, hF5⟩, ⟨a3, c3, hZ5, hr5⟩, hB, hw3⟩
    clear hF5 hZ5 hr5 hB HL0
    generalize w3.heap.size = b at *
    go_loopw [40] (fun i wr => ∃ (kk : Nat) (L : List Gr) (m : Int), kk ≤ xs.length ∧ i = .int .i64 kk ∧ Hid (St w fp b N wr L m (kk : Int) L m)) (fun i _ => xs.length - (intOf i).toNat)
    case atStart => exact ⟨0, [], 0, by omega, rfl, HS⟩
    case round =>
      clear HS
      obtain ⟨kk, L, m, hkk, rfl, HS⟩ := hrel
      by_cases hlt : kk < xs.length
      · skip
        obtain ⟨bx, off, rfl, hx0, hx1, hx2, hI1, hI2⟩ := (HS.out.row HX.out).at hlt
        generalize xs.getD kk a0 = x at *
        obtain ⟨kd, av, nv⟩ := x
        simp only [] at hx0 hx1 hx2 hI1 hI2
        have hA := Blk.new wr 34 #[.int .u8 0, .int .i64 0, .int .i64 0]
        have hb0 := HS.out.lt
        go_wp2_with (first | (refine wpList_alloc34 rfl rfl ?_; replace HS := Lib.hid (HS.out.alloc (.cells #[.int .u8 0, .int .i64 0, .int .i64 0] 34)); generalize wr.alloc (.cells #[.int .u8 0, .int .i64 0, .int .i64 0] 34) = w6 at *) | (refine wpList_store34 rfl _ _ rfl wr.heap.size kd av nv rfl rfl hA rfl ?_; intro w7 hA7 t7; replace HS := Lib.hid (HS.out.turn t7 hA (by decide) hb0); clear hA t7 hx0 hx1 hx2; obtain ⟨ad, cd, hbx, hdd⟩ := HS.out.ref) | (refine wpList_load30 rfl _ rfl b _ _ _ rfl hbx ?_) | (refine wpList_load34 rfl _ rfl wr.heap.size kd av nv rfl hA7 ?_))
        obtain ⟨l7, hl7, hF7⟩ := HS.out.F
        refine (do_any fp w.heap.size (N) L l7 m (kk : Int) (kd : Int) av nv w7 _ hF7 ⟨ad, cd, rfl, hdd⟩ (by omega) hI1 hI2 HS.out.leW hl7).mono ?_
        rintro e w9 ⟨⟨v9, rfl, a9, c9, rfl, hr9⟩, ⟨l9, hl9, hF9⟩, hw9⟩
        rw [hl7] at hF9 hr9
        rw [hl7]
        replace HS := Lib.hid (HS.out.act ⟨l9, hl9.trans hl7, hF9⟩ hw9 (by decide) (by decide))
        clear hbx hdd hA7 hw9 hF7 hF9 hl9 hl7
        generalize actL L (N) m (kd : Int) av nv = L2 at *
        generalize actM L (N) m (kd : Int) av nv = m2 at *
        have HM := Lib.hid hlt
        have hb1 := HS.out.lt
        obtain ⟨a0', c0', hbx0, _⟩ := HS.out.ref
        go_wp2_with (first | (refine wpList_store30 rfl _ _ rfl b (N : Int) m2 (.slice a9 L2.length c9) rfl rfl hbx0 rfl rfl ?_; intro w12 hb12 t12; replace HS := Lib.hid (HS.out.set t12 hr9 hb12); clear t12 hbx0 hr9 hb12) | (go_at_call 20; refine HS.out.ids.mono ?_; rintro e w13 ⟨⟨ai, ci, rfl, hi13⟩, hs13, hb13⟩; replace HS := Lib.hid hs13; have HI := Lib.hid hi13; clear hs13 hb13 hi13))
        generalize w12.heap.size = B12 at *
        go_loopw [54] (fun i wr => ∃ j : Nat, j ≤ (idsG L2).length ∧ i = .int .i64 (j : Int) ∧ Hid (St w fp b N wr L2 m2 ((kk : Int) + 1) L2 m2) ∧ Hid (RowO wr B12 (.slice ai (idsG L2).length ci) (idsG L2))) (fun i _ => (idsG L2).length - (intOf i).toNat)
        case atStart => exact ⟨0, by omega, rfl, HS, HI⟩
        case round =>
          clear HS HI
          obtain ⟨j, hj, rfl, HS, HI⟩ := hrel
          by_cases hlt2 : j < (idsG L2).length
          · skip
            obtain ⟨bi, rfl, _, _, hyc, _⟩ := HI.out.at hlt2
            have hh := ids_has hlt2
            have HP : Hid (j < (idsG L2).length) := Lib.hid hlt2
            generalize (idsG L2).getD j 0 = y at *
            have hyi := HS.out.idOk hh
            have hy1 := HS.out.ok.id hh
            have hnum := HS.out.ok.num _ (gr_mem hh)
            have HSP := Lib.hid (act_split HS.out.ok hh)
            have hkn := kids_n HS.out.ok y
            have hk1 := HS.out.ok.k1
            generalize hawE : (gr L2 y).aw = aw at *
            generalize hmeE : (gr L2 y).me = me at *
            obtain ⟨hn1, hn2, hn3, _⟩ := hnum
            have hil : (idsG L2).length ≤ 64 := by have := HS.out.ok.n64; simpa [idsG] using this
            have hlt3 : (j : Int) < ((idsG L2).length : Int) := by omega
            go_wp2_with (first | (go_at_call 16; refine (HS.out.group hyi hh).mono ?_; rw [hawE, hmeE]; rintro e w16 ⟨rfl, hs16, hb16⟩; have hle := hs16.lt; replace HS := Lib.hid (hs16.alloc (.cells #[.int .i64 0, .int .i64 0, .int .i64 0, .int .i64 0, .int .i64 0, .int .i64 0, .int .i64 0] 44)); replace HI := Lib.hid ((HI.out.below hb16).alloc (.cells #[.int .i64 0, .int .i64 0, .int .i64 0, .int .i64 0, .int .i64 0, .int .i64 0, .int .i64 0] 44)); clear hs16 hb16; have hZ16 := Blk.new w16 44 #[.int .i64 0, .int .i64 0, .int .i64 0, .int .i64 0, .int .i64 0, .int .i64 0, .int .i64 0]) | (refine wpList_alloc44 rfl rfl ?_; generalize w16.alloc (.cells #[.int .i64 0, .int .i64 0, .int .i64 0, .int .i64 0, .int .i64 0, .int .i64 0, .int .i64 0] 44) = w17 at *) | (refine wpList_store44 rfl _ _ rfl w16.heap.size y _ _ _ _ me aw rfl rfl hZ16 rfl ?_; intro w18 hZ18 t18; replace HS := Lib.hid (HS.out.turn t18 hZ16 (by decide) hle); replace HI := Lib.hid (HI.out.turn t18 hZ16 (by decide)); have c6 := cU6 hZ18; clear t18 hZ16; have HZ := Lib.hid hZ18) | (go_at_call 19; refine (HS.out.kids (x := y) (by omega)).mono ?_; rintro e w19 ⟨⟨ak, ck, rfl, hk19⟩, hs19, hb19⟩; replace HS := Lib.hid hs19; replace HI := Lib.hid (HI.out.below hb19); replace HZ := Lib.hid (HZ.out.below hb19); have HK := Lib.hid hk19; clear hs19 hb19 hk19 c6 hZ18))
            generalize kids L2 y = K at *
            generalize w18.heap.size = B18 at *
            generalize w16.heap.size = u at *
            have hkl : (K.length : Int) ≤ 64 := by omega
            go_loopw [13, 70] (fun sv i wr => ∃ (q : Nat) (s : Int), q ≤ K.length ∧ sv = .int .i64 s ∧ i = .int .i64 (q : Int) ∧ Hid (s = aw + ((K.take q).map (actI L2)).sum) ∧ 0 ≤ s ∧ s ≤ 1000 + 64000 * (q : Int) ∧ Hid (St w fp b N wr L2 m2 ((kk : Int) + 1) L2 m2) ∧ Hid (RowO wr B12 (.slice (some ⟨bi, 0, none⟩) (idsG L2).length ci) (idsG L2)) ∧ Hid (Blk wr u 44 (cellsU y (gr L2 y).pa (gr L2 y).wt (dep L2 y) (topI L2 y) me aw)) ∧ Hid (RowO wr B18 (.slice ak K.length ck) K)) (fun _ i _ => K.length - (intOf i).toNat)
            case atStart => exact ⟨0, aw, by omega, rfl, rfl, Lib.hid (by simp), by omega, by omega, HS, HI, HZ, HK⟩
            case round =>
              clear HS HI HZ HK
              obtain ⟨q, s, hq, rfl, rfl, hsv, hs0, hs1, HS, HI, HZ, HK⟩ := hrel
              by_cases hlt4 : q < K.length
              · obtain ⟨bk, rfl, _, _, hkc, _⟩ := HK.out.at hlt4
                have HQ : Hid (s + actI L2 (K.getD q 0) = aw + ((K.take (q + 1)).map (actI L2)).sum) := Lib.hid (by rw [take_sum hlt4, hsv.out]; omega)
                have hab := act_bound HS.out.ok (K.getD q 0)
                generalize K.getD q 0 = c at *
                generalize hacE : actI L2 c = ac at *
                obtain ⟨ha1, ha2⟩ := hab
                have hlt5 : (q : Int) < (K.length : Int) := by omega
                go_wp2_with (first | (go_at_call 21; refine (HS.out.active c).mono ?_; rw [hacE]; rintro e w20 ⟨rfl, hs20, hb20⟩; replace HS := Lib.hid hs20; replace HI := Lib.hid (HI.out.below hb20); replace HZ := Lib.hid (HZ.out.below hb20); replace HK := Lib.hid (HK.out.below hb20); clear hs20 hb20))
                exact ⟨⟨q + 1, s + ac, by omega, by go_num, by go_num, HQ, by omega, by omega, HS, HI, HZ, HK⟩, by simp [intOf]; omega⟩
              · obtain rfl : q = K.length := by omega
                have hact : actI L2 y = s := by rw [hsv.out, List.take_length]; exact HSP.out
                have hmeaw : ¬ me < aw := by omega
                go_wp2_with (first | (go_at_call 21; refine (HS.out.active y).mono ?_; rw [hact]; rintro e w21 ⟨rfl, hs21, hb21⟩; replace HS := Lib.hid hs21; replace HI := Lib.hid (HI.out.below hb21); have hz21 := HZ.out.below hb21; have c5 := cU5 hz21; have c6 := cU6 hz21; clear hs21 hb21 hz21))
                exact ⟨⟨j + 1, by have := HP.out; omega, by go_num, HS, HI⟩, by have := HP.out; simp [intOf]; omega⟩
          · obtain rfl : j = (idsG L2).length := by omega
            go_wp2_with fail
            exact ⟨⟨kk + 1, L2, m2, by omega, by go_num, HS⟩, by simp [intOf]; omega⟩
      · obtain rfl : kk = xs.length := by omega
        go_wp2_with fail
        go_ret
        exact ⟨rfl, HS.out.bel⟩
end Go.Proofs.Ythndfhkkaichiaa
