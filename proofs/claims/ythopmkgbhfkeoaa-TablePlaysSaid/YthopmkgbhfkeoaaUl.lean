/-
  TablePlays: each call answers, and the table is, as the document says. No condition.
-/
import Derived.Test.YthopmkgbhfkeoaaUk
namespace Go.Proofs.Ythopmkgbhfkeoaa
open Go.RowKit

set_option maxRecDepth 100000 in
set_option maxHeartbeats 4000000 in
theorem plays_any (room : Int) (v : Value) (xs : List (Nat × Int)) (w : World) (hx : RowA w v xs) (hs : ∀ j, (xs.getD j (0, 0)).1 < 256) :
    Calls Try.prog 3 #[.int .i64 room, v] w fun e w' => e = .returned (.bool true) ∧ Below w.heap.size w w' := by
  obtain ⟨a1, c1, rfl⟩ := hx.sl
  have HX := Lib.hid hx
  clear hx
  have hB := Below.refl w.heap.size w
  by_cases hlen : 60 < xs.length
  · have h1 : (60 : Int) < (xs.length : Int) := by omega
    clear hlen
    go_enter Try.func3, Try.ntmps3
    go_wp2_with fail
    refine (awake_any _).mono ?_
    rintro e w1 ⟨rfl, hb⟩
    replace hB := hB.trans (hb.mono hB.size)
    clear hb
    go_wp2_with fail
    refine (awake_any _).mono ?_
    rintro e w2 ⟨rfl, hb⟩
    replace hB := hB.trans (hb.mono hB.size)
    clear hb
    go_wp2_with fail
    go_ret
    exact ⟨rfl, hB⟩
  · have h1 : ¬ (60 : Int) < (xs.length : Int) := by omega
    go_enter Try.func3, Try.ntmps3
    go_wp2_with fail
    refine (awake_any _).mono ?_
    rintro e w1 ⟨rfl, hb⟩
    replace hB := hB.trans (hb.mono hB.size)
    clear hb
    go_wp2_with fail
    refine (New_any room _).mono ?_
    rintro e w2 ⟨h2, hb⟩
    have hs1 := hB.size
    rcases h2 with ⟨hr1, hr64, p, g, rfl, hP, hp, hg⟩ | ⟨hbad, rfl⟩
    · replace hB := hB.trans (hb.mono hB.size)
      have hs2 := hB.size
      have hpl := hP.ltp
      have hgl := hP.ltg
      go_wp2_with fail
      refine (rNew_any room _).mono ?_
      rintro e w3 ⟨h3, hb3⟩
      rcases h3 with ⟨_, _, a, c, rfl, hr⟩ | ⟨hbad, _⟩
      · have hsb := hb3.size
        replace hB := hB.trans (hb3.mono hB.size)
        replace hP := hP.belowS hb3
        have OK : TabOk (List.replicate room.toNat 0) 0 := TabOk.new (by omega) (by omega)
        have hn : room.toNat = (List.replicate room.toNat (0 : Int)).length := by simp
        replace hr : RowO w3 w2.heap.size (.slice a (List.replicate room.toNat (0 : Int)).length c) (List.replicate room.toNat 0) := by rw [List.length_replicate]; exact hr
        have hn2 : ∀ x : Value, (Value.agg #[.slice a room.toNat c, x]) = .agg #[.slice a (List.replicate room.toNat (0 : Int)).length c, x] := fun x => by rw [← hn]
        rw [hn2]
        clear hn hn2 hb hb3
        generalize List.replicate room.toNat (0 : Int) = l0 at *
        have hZ := IsT.new w3 (.slice none 0 0) 0
        replace hB := hB.alloc hB.size (.cells #[.slice none 0 0, .int .i64 0] 30)
        replace hP := hP.alloc (.cells #[.slice none 0 0, .int .i64 0] 30)
        replace hr := hr.alloc (.cells #[.slice none 0 0, .int .i64 0] 30)
        go_wp2_with (first | (refine wpList_alloc30 rfl rfl ?_; generalize w3.alloc (.cells #[.slice none 0 0, .int .i64 0] 30) = w4 at *) | (refine wpList_store30 rfl _ _ rfl w3.heap.size _ (.slice none 0 0) 0 0 rfl rfl hZ rfl ?_; intro w5 hZ5 t5))
        have HS : Hid (St w p g w2.heap.size w3.heap.size w5 l0 0 l0 0) := Lib.hid ⟨OK, hP.turn t5 (by omega) (by omega), ⟨a, c, hr.turn t5 hZ (by decide), hZ5⟩, hB.trans (t5.below (by omega)), hpl, hgl, hsb, by omega, by omega⟩
        clear OK hP t5 hr hZ5 hZ hB hpl hgl hp hg hsb hs1 hs2
        generalize w2.heap.size = B at *
        generalize w3.heap.size = b at *
        go_loopw [54] (fun i wr => ∃ (k : Nat) (l : List Int) (m : Int), k ≤ xs.length ∧ i = .int .i64 k ∧ Hid (St w p g B b wr l m l m)) (fun i _ => xs.length - (intOf i).toNat)
        case atStart => exact ⟨0, l0, 0, by omega, rfl, HS⟩
        case round =>
          clear HS
          obtain ⟨k, l, m, hk, rfl, HS⟩ := hrel
          by_cases hlt : k < xs.length
          · obtain ⟨bx, off, rfl, hx0, hx1⟩ := (HS.out.row HX.out).at hlt
            have hxs := hs k
            generalize xs.getD k (0, 0) = x at *
            obtain ⟨kd, N⟩ := x
            simp only [] at hx0 hx1 hxs
            have hA := IsA.new wr 0 0
            have hb0 := HS.out.lt
            obtain hk3 | hk3 | hk3 : kd % 3 = 0 ∨ kd % 3 = 1 ∨ kd % 3 = 2 := by omega
            · have e0 : ((kd : Int) % 3 == 0) = true := beq_tt (by omega)
              go_wp2_with (first | (refine wpList_alloc34 rfl rfl ?_; replace HS := Lib.hid (HS.out.alloc (.cells #[.int .u8 0, .int .i64 0] 34)); generalize wr.alloc (.cells #[.int .u8 0, .int .i64 0] 34) = w6 at *) | (refine wpList_store34 rfl _ _ rfl wr.heap.size (kd : Int) 0 N 0 rfl rfl hA ?_; intro w7 hA7 t7; replace HS := Lib.hid (HS.out.turn t7 hA (by decide) hb0); have hA0 := hA7.c0; have hA1 := hA7.c1; clear hA t7 hx0 hx1; obtain ⟨a8, c8, hro, hbx⟩ := HS.out.ref) | (refine wpList_load30 rfl _ rfl b _ m rfl hbx ?_))
              clear hA0 hA1 hro hbx
              refine (Add_any p g l m _ HS.out.tab HS.out.ok).mono ?_
              rintro e w8 ⟨rfl, hT, ho⟩
              have okl := HS.out.ok
              replace HS := Lib.hid (HS.out.act (HS.out.ok.add) hT ho)
              replace hA7 := hA7.only ho (by have := HS.out.pB; have := HS.out.Bb; omega) (by have := HS.out.gB; have := HS.out.Bb; omega)
              clear ho hT
              obtain ⟨a8, c8, hro, hbx⟩ := HS.out.ref
              go_wp2_with (first | (refine wpList_load30 rfl _ rfl b _ m rfl hbx ?_))
              refine (rAdd_any B _ l m _ ⟨a8, c8, rfl, hro⟩ HS.out.leB okl).mono ?_
              rintro e w9 ⟨⟨v9, rfl, a9, c9, rfl, h9⟩, hb9⟩
              replace HS := Lib.hid (HS.out.below hb9)
              replace hA7 := hA7.belowS hb9
              clear hro hbx hb9
              have hZ := IsT.new w9 (.slice none 0 0) 0
              have hb1 := HS.out.lt
              have hal := hA7.lt
              replace HS := Lib.hid (HS.out.alloc (.cells #[.slice none 0 0, .int .i64 0] 30))
              replace hA7 := hA7.alloc (.cells #[.slice none 0 0, .int .i64 0] 30)
              replace h9 := h9.alloc (.cells #[.slice none 0 0, .int .i64 0] 30)
              go_wp2_with (first | (refine wpList_alloc30 rfl rfl ?_; generalize w9.alloc (.cells #[.slice none 0 0, .int .i64 0] 30) = w10 at *) | (refine wpList_store30 rfl _ _ rfl w9.heap.size _ (.slice none 0 0) _ 0 rfl rfl hZ rfl ?_; intro w11 hZ11 t11; replace HS := Lib.hid (HS.out.turn t11 hZ (by decide) hb1); replace hA7 := hA7.turn t11 (by omega); replace h9 := h9.turn t11 hZ (by decide); clear hZ t11; obtain ⟨a0, c0, hro0, hbx0⟩ := HS.out.ref) | (refine wpList_load30 rfl _ rfl w9.heap.size _ _ rfl hZ11 ?_) | (refine wpList_store30 rfl _ _ rfl b _ _ _ m rfl rfl hbx0 rfl ?_; intro w12 hb12 t12; replace HS := Lib.hid (HS.out.set t12 h9 hb12); replace h9 := h9.turn t12 hbx0 (by decide); replace hA7 := hA7.turn t12 (by omega); have hA1 := hA7.c1; clear t12 hro0 hbx0 hZ11) | (refine wpList_load30 rfl _ rfl b _ _ rfl hb12 ?_))
              refine (Is_true p g B _ (addL l m) (addM l m) N _ HS.out.tab ⟨a9, c9, rfl, h9⟩ HS.out.ok).mono ?_
              rintro e w14 ⟨rfl, hb⟩
              replace HS := Lib.hid (HS.out.below hb)
              clear hb h9 hb12 hA1 hA7
              go_wp2_with fail
              exact ⟨⟨k + 1, (addL l m), (addM l m), by omega, by go_num, HS⟩, by simp [intOf]; omega⟩
            · have e0 : ((kd : Int) % 3 == 0) = false := beq_ff (by omega)
              have e1 : ((kd : Int) % 3 == 1) = true := beq_tt (by omega)
              go_wp2_with (first | (refine wpList_alloc34 rfl rfl ?_; replace HS := Lib.hid (HS.out.alloc (.cells #[.int .u8 0, .int .i64 0] 34)); generalize wr.alloc (.cells #[.int .u8 0, .int .i64 0] 34) = w6 at *) | (refine wpList_store34 rfl _ _ rfl wr.heap.size (kd : Int) 0 N 0 rfl rfl hA ?_; intro w7 hA7 t7; replace HS := Lib.hid (HS.out.turn t7 hA (by decide) hb0); have hA0 := hA7.c0; have hA1 := hA7.c1; clear hA t7 hx0 hx1; obtain ⟨a8, c8, hro, hbx⟩ := HS.out.ref) | (refine wpList_load30 rfl _ rfl b _ m rfl hbx ?_))
              clear hA0 hA1
              refine (rDrop_any B _ l m N _ ⟨a8, c8, rfl, hro⟩ HS.out.leB HS.out.ok.n64).mono ?_
              rintro e w9 ⟨⟨v9, rfl, a9, c9, rfl, h9⟩, hb9⟩
              replace HS := Lib.hid (HS.out.below hb9)
              replace hA7 := hA7.belowS hb9
              clear hro hbx hb9
              have hZ := IsT.new w9 (.slice none 0 0) 0
              have hb1 := HS.out.lt
              have hal := hA7.lt
              replace HS := Lib.hid (HS.out.alloc (.cells #[.slice none 0 0, .int .i64 0] 30))
              replace hA7 := hA7.alloc (.cells #[.slice none 0 0, .int .i64 0] 30)
              replace h9 := h9.alloc (.cells #[.slice none 0 0, .int .i64 0] 30)
              go_wp2_with (first | (refine wpList_alloc30 rfl rfl ?_; generalize w9.alloc (.cells #[.slice none 0 0, .int .i64 0] 30) = w10 at *) | (refine wpList_store30 rfl _ _ rfl w9.heap.size _ (.slice none 0 0) _ 0 rfl rfl hZ rfl ?_; intro w11 hZ11 t11; replace HS := Lib.hid (HS.out.turn t11 hZ (by decide) hb1); replace hA7 := hA7.turn t11 (by omega); replace h9 := h9.turn t11 hZ (by decide); clear hZ t11; obtain ⟨a0, c0, hro0, hbx0⟩ := HS.out.ref) | (refine wpList_load30 rfl _ rfl w9.heap.size _ _ rfl hZ11 ?_) | (refine wpList_store30 rfl _ _ rfl b _ _ _ m rfl rfl hbx0 rfl ?_; intro w12 hb12 t12; replace HS := Lib.hid (HS.out.set t12 h9 hb12); replace h9 := h9.turn t12 hbx0 (by decide); replace hA7 := hA7.turn t12 (by omega); have hA1 := hA7.c1; clear t12 hro0 hbx0 hZ11) | (refine wpList_load30 rfl _ rfl b _ _ rfl hb12 ?_))
              refine (Drop_any p g l m N _ HS.out.tab HS.out.ok.n64).mono ?_
              rintro e w13 ⟨rfl, hT, ho⟩
              replace HS := Lib.hid (HS.out.act (HS.out.ok.drop N) hT ho)
              replace h9 := h9.only ho HS.out.pB HS.out.gB
              replace hb12 := hb12.only ho (by have := HS.out.pB; have := HS.out.Bb; omega) (by have := HS.out.gB; have := HS.out.Bb; omega)
              replace hA7 := hA7.only ho (by have := HS.out.pB; have := HS.out.Bb; omega) (by have := HS.out.gB; have := HS.out.Bb; omega)
              replace hA1 := hA7.c1
              clear ho hT
              go_wp2_with (first | (refine wpList_load30 rfl _ rfl b _ _ rfl hb12 ?_))
              refine (Is_true p g B _ (dropL l N) m N _ HS.out.tab ⟨a9, c9, rfl, h9⟩ HS.out.ok).mono ?_
              rintro e w14 ⟨rfl, hb⟩
              replace HS := Lib.hid (HS.out.below hb)
              clear hb h9 hb12 hA1 hA7
              go_wp2_with fail
              exact ⟨⟨k + 1, (dropL l N), m, by omega, by go_num, HS⟩, by simp [intOf]; omega⟩
            · have e0 : ((kd : Int) % 3 == 0) = false := beq_ff (by omega)
              have e1 : ((kd : Int) % 3 == 1) = false := beq_ff (by omega)
              have e3 : ((kd : Int) % 3 == 2) = true := beq_tt (by omega)
              go_wp2_with (first | (refine wpList_alloc34 rfl rfl ?_; replace HS := Lib.hid (HS.out.alloc (.cells #[.int .u8 0, .int .i64 0] 34)); generalize wr.alloc (.cells #[.int .u8 0, .int .i64 0] 34) = w6 at *) | (refine wpList_store34 rfl _ _ rfl wr.heap.size (kd : Int) 0 N 0 rfl rfl hA ?_; intro w7 hA7 t7; replace HS := Lib.hid (HS.out.turn t7 hA (by decide) hb0); have hA0 := hA7.c0; have hA1 := hA7.c1; clear hA t7 hx0 hx1; obtain ⟨a8, c8, hro, hbx⟩ := HS.out.ref) | (refine wpList_load30 rfl _ rfl b _ m rfl hbx ?_))
              clear hA0 hA1
              refine (rSkip_any B _ l m N _ ⟨a8, c8, rfl, hro⟩ HS.out.ok).mono ?_
              rintro e w9 ⟨⟨v9, rfl, a9, c9, rfl, h9⟩, hb9⟩
              replace HS := Lib.hid (HS.out.below hb9)
              replace hA7 := hA7.belowS hb9
              clear hro hbx hb9
              have hZ := IsT.new w9 (.slice none 0 0) 0
              have hb1 := HS.out.lt
              have hal := hA7.lt
              replace HS := Lib.hid (HS.out.alloc (.cells #[.slice none 0 0, .int .i64 0] 30))
              replace hA7 := hA7.alloc (.cells #[.slice none 0 0, .int .i64 0] 30)
              replace h9 := h9.alloc (.cells #[.slice none 0 0, .int .i64 0] 30)
              go_wp2_with (first | (refine wpList_alloc30 rfl rfl ?_; generalize w9.alloc (.cells #[.slice none 0 0, .int .i64 0] 30) = w10 at *) | (refine wpList_store30 rfl _ _ rfl w9.heap.size _ (.slice none 0 0) _ 0 rfl rfl hZ rfl ?_; intro w11 hZ11 t11; replace HS := Lib.hid (HS.out.turn t11 hZ (by decide) hb1); replace hA7 := hA7.turn t11 (by omega); replace h9 := h9.turn t11 hZ (by decide); clear hZ t11; obtain ⟨a0, c0, hro0, hbx0⟩ := HS.out.ref) | (refine wpList_load30 rfl _ rfl w9.heap.size _ _ rfl hZ11 ?_) | (refine wpList_store30 rfl _ _ rfl b _ _ _ m rfl rfl hbx0 rfl ?_; intro w12 hb12 t12; replace HS := Lib.hid (HS.out.set t12 h9 hb12); replace h9 := h9.turn t12 hbx0 (by decide); replace hA7 := hA7.turn t12 (by omega); have hA1 := hA7.c1; clear t12 hro0 hbx0 hZ11) | (refine wpList_load30 rfl _ rfl b _ _ rfl hb12 ?_))
              refine (Skip_any p g l m N _ HS.out.tab HS.out.ok).mono ?_
              rintro e w13 ⟨rfl, hT, ho⟩
              replace HS := Lib.hid (HS.out.act (HS.out.ok.skip N) hT ho)
              replace h9 := h9.only ho HS.out.pB HS.out.gB
              replace hb12 := hb12.only ho (by have := HS.out.pB; have := HS.out.Bb; omega) (by have := HS.out.gB; have := HS.out.Bb; omega)
              replace hA7 := hA7.only ho (by have := HS.out.pB; have := HS.out.Bb; omega) (by have := HS.out.gB; have := HS.out.Bb; omega)
              replace hA1 := hA7.c1
              clear ho hT
              go_wp2_with (first | (refine wpList_load30 rfl _ rfl b _ _ rfl hb12 ?_))
              refine (Is_true p g B _ l (skipM m N) N _ HS.out.tab ⟨a9, c9, rfl, h9⟩ HS.out.ok).mono ?_
              rintro e w14 ⟨rfl, hb⟩
              replace HS := Lib.hid (HS.out.below hb)
              clear hb h9 hb12 hA1 hA7
              go_wp2_with fail
              exact ⟨⟨k + 1, l, (skipM m N), by omega, by go_num, HS⟩, by simp [intOf]; omega⟩
          · go_wp2_with fail
            go_ret
            exact ⟨rfl, HS.out.bel⟩
      · exact absurd ⟨hr1, hr64⟩ hbad
    · replace hB := hB.trans (hb.mono hB.size)
      go_wp2_with fail
      refine (rNew_any room _).mono ?_
      rintro e w3 ⟨h3, hb3⟩
      rcases h3 with ⟨h5, h6, _⟩ | ⟨_, rfl⟩
      · exact absurd ⟨h5, h6⟩ hbad
      · replace hB := hB.trans (hb3.mono hB.size)
        have hZ := IsT.new w3 (.slice none 0 0) 0
        have hs3 := hB.size
        replace hB := hB.alloc hB.size (.cells #[.slice none 0 0, .int .i64 0] 30)
        go_wp2_with (first | (refine wpList_alloc30 rfl rfl ?_; generalize w3.alloc (.cells #[.slice none 0 0, .int .i64 0] 30) = w4 at *) | (refine wpList_store30 rfl _ _ rfl w3.heap.size _ (.slice none 0 0) 0 0 rfl rfl hZ rfl ?_; intro w5 hZ5 t5))
        go_ret
        exact ⟨rfl, hB.trans (t5.below (by omega))⟩
end Go.Proofs.Ythopmkgbhfkeoaa
