/-
  RingPlays: each call answers, and all lists are, as the document says. No condition.
-/
import Derived.Test.YtglnjpbjlcbgoaaVt
namespace Go.Proofs.Ytglnjpbjlcbgoaa
open Go.RowKit

set_option maxRecDepth 100000 in
set_option maxHeartbeats 4000000 in
theorem plays_any (n m : Int) (v : Value) (xs : List (Int × Int × Int)) (w : World) (hx : RowA w v xs) :
    Calls Try.prog 3 #[.int .i64 n, .int .i64 m, v] w fun e w' => e = .returned (.bool true) ∧ Below w.heap.size w w' := by
  obtain ⟨a1, c1, rfl⟩ := hx.sl
  have HX := Lib.hid hx
  clear hx
  have hB := Below.refl w.heap.size w
  by_cases hlen : 50 < xs.length
  · have h1 : (50 : Int) < (xs.length : Int) := by omega
    clear hlen
    go_enter Try.func3, Try.ntmps3
    go_wp2_with fail
    refine (awake_any _).mono ?_
    rintro e w1 ⟨rfl, hb⟩
    replace hB := hB.trans (hb.mono hB.size)
    clear hb
    go_wp2_with fail
    refine (awake_any _).mono ?_
    rintro e w2 ⟨rfl, hb⟩
    replace hB := hB.trans (hb.mono hB.size)
    clear hb
    go_wp2_with fail
    go_ret
    exact ⟨rfl, hB⟩
  · have h1 : ¬ (50 : Int) < (xs.length : Int) := by omega
    by_cases hgood : 1 ≤ n ∧ n ≤ 64 ∧ 1 ≤ m ∧ m ≤ 64
    · obtain ⟨N, rfl⟩ : ∃ N : Nat, n = N := ⟨n.toNat, by omega⟩
      obtain ⟨M, rfl⟩ : ∃ M : Nat, m = M := ⟨m.toNat, by omega⟩
      have hNM : 1 ≤ N ∧ N ≤ 64 ∧ 1 ≤ M ∧ M ≤ 64 := by omega
      obtain ⟨hN1, hN2, hM1, hM2⟩ := hNM
      clear hgood
      go_enter Try.func3, Try.ntmps3
      go_wp2_with fail
      refine (awake_any _).mono ?_
      rintro e w1 ⟨rfl, hb⟩
      replace hB := hB.trans (hb.mono hB.size)
      clear hb
      go_wp2_with fail
      refine (New_ring N M _ hN1 hN2 hM1 hM2).mono ?_
      rintro e w2 ⟨⟨p, g, c, rfl, hP, hp, hg⟩, hb⟩
      have hs1 := hB.size
      replace hB := hB.trans (hb.mono hB.size)
      have hs2 := hB.size
      have hpl := hP.ltp
      have hgl := hP.ltg
      go_wp2_with fail
      refine (rNew_yes N M _ hN1 hN2 hM1 hM2).mono ?_
      rintro e w3 ⟨⟨v3, rfl, dv3, rfl, hd3⟩, hb3⟩
      have hsb := hb3.size
      replace hB := hB.trans (hb3.mono hB.size)
      replace hP := hP.belowS hb3
      clear hb hb3
      generalize hl0 : List.replicate M ([] : List Nat) = l0 at *
      have hZ := IsT.new w3 0 (.slice none 0 0)
      have hone3 := hd3.one
      replace hB := hB.alloc hB.size (.cells #[.int .i64 0, .slice none 0 0] 30)
      replace hP := hP.alloc (.cells #[.int .i64 0, .slice none 0 0] 30)
      replace hd3 := hd3.alloc (.cells #[.int .i64 0, .slice none 0 0] 30)
      go_wp2_with (first | (refine wpList_alloc30 rfl rfl ?_; generalize w3.alloc (.cells #[.int .i64 0, .slice none 0 0] 30) = w4 at *) | (refine wpList_store30 rfl _ _ rfl w3.heap.size _ _ 0 (.slice none 0 0) rfl rfl hZ hone3 ?_; intro w5 hZ5 t5))
      have HS : Hid (St w p g c w2.heap.size w3.heap.size N w5 l0 l0) := Lib.hid ⟨hP.turn t5 (by omega) (by omega), ⟨dv3, hd3.turn t5 hZ (by decide) (by decide), hZ5⟩, hB.trans (t5.below (by omega)), by omega, by omega, hsb, by omega, by omega⟩
      clear t5 hd3 hP hZ5 hZ hB hpl hgl hp hg hsb hs1 hs2 hone3
      generalize w2.heap.size = B at *
      generalize w3.heap.size = b at *
      go_loopw [49] (fun i wr => ∃ (k : Nat) (ls : List (List Nat)), k ≤ xs.length ∧ i = .int .i64 k ∧ Hid (St w p g c B b N wr ls ls)) (fun i _ => xs.length - (intOf i).toNat)
      case atStart => exact ⟨0, l0, by omega, rfl, HS⟩
      case round =>
        clear HS
        obtain ⟨k, ls, hk, rfl, HS⟩ := hrel
        by_cases hlt : k < xs.length
        · skip
          obtain ⟨bx, off, rfl, hx0, hx1, hx2⟩ := (HS.out.row HX.out).at hlt
          generalize xs.getD k (0, 0, 0) = x at *
          obtain ⟨kd, av, nv⟩ := x
          simp only [] at hx0 hx1 hx2
          have hA := IsA.new wr 0 0 0
          have hb0 := HS.out.lt
          go_wp2_with (first | (refine wpList_alloc34 rfl rfl ?_; replace HS := Lib.hid (HS.out.alloc (.cells #[.int .u8 0, .int .i64 0, .int .i64 0] 34)); generalize wr.alloc (.cells #[.int .u8 0, .int .i64 0, .int .i64 0] 34) = w6 at *) | (refine wpList_store34 rfl _ _ rfl wr.heap.size kd av nv 0 0 0 rfl rfl hA ?_; intro w7 hA7 t7; replace HS := Lib.hid (HS.out.turn t7 hA (by decide) (by decide) hb0); clear hA t7 hx0 hx1 hx2; obtain ⟨dv, hdd, hbx⟩ := HS.out.ref) | (refine wpList_load30 rfl _ rfl b _ _ rfl hbx ?_) | (refine wpList_load34 rfl _ rfl wr.heap.size kd av nv rfl hA7 ?_))
          refine (do_any p g c B N _ ls kd av nv _ HS.out.ring ⟨dv, rfl, hdd⟩ HS.out.leB).mono ?_
          rintro e w9 ⟨⟨v9, rfl, dv9, rfl, h9⟩, hr9, ho9⟩
          replace HS := Lib.hid (HS.out.act hr9 ho9)
          have hone := h9.one
          clear hdd hbx hA7 ho9 hr9
          have hZ := IsT.new w9 0 (.slice none 0 0)
          have hb1 := HS.out.lt
          replace HS := Lib.hid (HS.out.alloc (.cells #[.int .i64 0, .slice none 0 0] 30))
          replace h9 := h9.alloc (.cells #[.int .i64 0, .slice none 0 0] 30)
          go_wp2_with (first | (refine wpList_alloc30 rfl rfl ?_; generalize w9.alloc (.cells #[.int .i64 0, .slice none 0 0] 30) = w10 at *) | (refine wpList_store30 rfl _ _ rfl w9.heap.size _ _ 0 (.slice none 0 0) rfl rfl hZ hone ?_; intro w11 hZ11 t11; replace HS := Lib.hid (HS.out.turn t11 hZ (by decide) (by decide) hb1); replace h9 := h9.turn t11 hZ (by decide) (by decide); clear hZ t11; obtain ⟨dv0, hdd0, hbx0⟩ := HS.out.ref) | (refine wpList_load30 rfl _ rfl w9.heap.size _ _ rfl hZ11 ?_) | (refine wpList_store30 rfl _ _ rfl b _ _ _ _ rfl rfl hbx0 hone ?_; intro w12 hb12 t12; replace HS := Lib.hid (HS.out.set t12 h9 hb12); replace h9 := h9.turn t12 hbx0 (by decide) (by decide); clear t12 hdd0 hbx0 hZ11) | (refine wpList_want rfl ?_; intro K hK; refine wp_load30 _ rfl b _ _ rfl hb12 ?_; refine hK _ _ ?_; clear hK K))
          refine (is_any p g c B N _ _ _ HS.out.ring ⟨dv9, rfl, h9⟩).mono ?_
          rintro e w14 ⟨rfl, hb⟩
          replace HS := Lib.hid (HS.out.below hb)
          clear hb h9 hb12
          go_wp2_with fail
          exact ⟨⟨k + 1, _, by omega, by go_num, HS⟩, by simp [intOf]; omega⟩
        · obtain ⟨dv, hdd, hbx⟩ := HS.out.ref
          go_wp2_with (first | (refine wpList_load30 rfl _ rfl b _ _ rfl hbx ?_))
          refine (is_any p g c B N _ _ _ HS.out.ring ⟨dv, rfl, hdd⟩).mono ?_
          rintro e w14 ⟨rfl, hb⟩
          replace HS := Lib.hid (HS.out.below hb)
          go_wp2_with fail
          go_ret
          exact ⟨rfl, HS.out.bel⟩
    · have HG := Lib.hid hgood
      clear hgood
      go_enter Try.func3, Try.ntmps3
      go_wp2_with fail
      refine (awake_any _).mono ?_
      rintro e w1 ⟨rfl, hb⟩
      replace hB := hB.trans (hb.mono hB.size)
      clear hb
      go_wp2_with fail
      refine (New_no n m _ HG.out).mono ?_
      rintro e w2 ⟨rfl, rfl⟩
      go_wp2_with fail
      refine (rNew_no n m _ HG.out).mono ?_
      rintro e w3 ⟨rfl, hb3⟩
      replace hB := hB.trans (hb3.mono hB.size)
      have hZ := IsT.new w3 0 (.slice none 0 0)
      have hs3 := hB.size
      replace hB := hB.alloc hB.size (.cells #[.int .i64 0, .slice none 0 0] 30)
      go_wp2_with (first | (refine wpList_alloc30 rfl rfl ?_; generalize w3.alloc (.cells #[.int .i64 0, .slice none 0 0] 30) = w4 at *) | (refine wpList_store30 rfl _ _ rfl w3.heap.size _ _ 0 (.slice none 0 0) rfl rfl hZ rfl ?_; intro w5 hZ5 t5))
      go_ret
      exact ⟨rfl, hB.trans (t5.below (by omega))⟩
end Go.Proofs.Ytglnjpbjlcbgoaa
