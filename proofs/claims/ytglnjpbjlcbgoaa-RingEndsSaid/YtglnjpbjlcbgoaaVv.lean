/-
  RingEnds: a list's nodes are told as far as it is asked. No condition.
-/
import Derived.Test.YtglnjpbjlcbgoaaVt
namespace Go.Proofs.Ytglnjpbjlcbgoaa
open Go.RowKit

set_option maxRecDepth 100000 in
set_option maxHeartbeats 4000000 in
theorem ends_any (v : Value) (xs : List (Int × Int × Int)) (m : Nat) (w : World) (hx : RowA w v xs) (hm : m < 256) :
    Calls Try.prog 4 #[v, .int .u8 (m : Int)] w fun e w' => e = .returned (.bool true) ∧ Below w.heap.size w w' := by
  obtain ⟨a1, c1, rfl⟩ := hx.sl
  have hb3 := Boxed.new w 5 (.int .u8 (m : Int))
  have hB00 := (Below.refl w.heap.size w).alloc (Nat.le_refl _) (.cells #[.int .u8 (m : Int)] 5)
  have HX := Lib.hid (hx.below hB00)
  have hsz0 : (w.alloc (.cells #[.int .u8 (m : Int)] 5)).heap.size = w.heap.size + 1 := by simp
  clear hx
  by_cases hlen : 50 < xs.length
  · have h1 : (50 : Int) < (xs.length : Int) := by omega
    clear hlen
    go_enter Try.func4, Try.ntmps4
    go_wp2_with fail
    generalize w.alloc (.cells #[.int .u8 (m : Int)] 5) = w0 at *
    have hB := Below.refl w0.heap.size w0
    refine (awake_any _).mono ?_
    rintro e w1 ⟨rfl, hb⟩
    replace hB := hB.trans (hb.mono hB.size)
    clear hb
    go_wp2_with fail
    refine (awake_any _).mono ?_
    rintro e w2 ⟨rfl, hb⟩
    replace hB := hB.trans (hb.mono hB.size)
    clear hb
    go_wp2_with fail
    go_ret
    exact ⟨rfl, hB00.trans (hB.mono hB00.size)⟩
  · have h1 : ¬ (50 : Int) < (xs.length : Int) := by omega
    go_enter Try.func4, Try.ntmps4
    go_wp2_with fail
    generalize w.alloc (.cells #[.int .u8 (m : Int)] 5) = w0 at *
    have hB := Below.refl w0.heap.size w0
    refine (awake_any _).mono ?_
    rintro e w1 ⟨rfl, hb⟩
    replace hB := hB.trans (hb.mono hB.size)
    clear hb
    go_wp2_with fail
    refine ((show Calls Try.prog 8 #[.int .i64 8, .int .i64 2] _ _ from New_ring 8 2 _ (by omega) (by omega) (by omega) (by omega))).mono ?_
    rintro e w2 ⟨⟨p, g, c, rfl, hP, hp, hg⟩, hb⟩
    have hs1 := hB.size
    replace hB := hB.trans (hb.mono hB.size)
    have hs2 := hB.size
    have hpl := hP.ltp
    have hgl := hP.ltg
    go_wp2_with fail
    refine ((show Calls Try.prog 9 #[.int .i64 8, .int .i64 2] _ _ from rNew_yes 8 2 _ (by omega) (by omega) (by omega) (by omega))).mono ?_
    rintro e w3 ⟨⟨v3, rfl, dv3, rfl, hd3⟩, hb3⟩
    have hsb := hb3.size
    replace hB := hB.trans (hb3.mono hB.size)
    replace hP := hP.belowS hb3
    clear hb hb3
    generalize hl0 : List.replicate 2 ([] : List Nat) = l0 at *
    have hZ := IsT.new w3 0 (.slice none 0 0)
    have hone3 := hd3.one
    replace hB := hB.alloc hB.size (.cells #[.int .i64 0, .slice none 0 0] 30)
    replace hP := hP.alloc (.cells #[.int .i64 0, .slice none 0 0] 30)
    replace hd3 := hd3.alloc (.cells #[.int .i64 0, .slice none 0 0] 30)
    have hl02 : l0.length = 2 := by rw [← hl0]; rfl
    have HL0 := Lib.hid hl02
    clear hl02 hl0
    go_wp2_with (first | (refine wpList_alloc30 rfl rfl ?_; generalize w3.alloc (.cells #[.int .i64 0, .slice none 0 0] 30) = w4 at *) | (refine wpList_store30 rfl _ _ rfl w3.heap.size _ _ 0 (.slice none 0 0) rfl rfl hZ hone3 ?_; intro w5 hZ5 t5))
    have HS : Hid (St w0 p g c w2.heap.size w3.heap.size 8 w5 l0 l0) := Lib.hid ⟨hP.turn t5 (by omega) (by omega), ⟨dv3, hd3.turn t5 hZ (by decide) (by decide), hZ5⟩, hB.trans (t5.below (by omega)), by omega, by omega, hsb, by omega, by omega⟩
    clear t5 hd3 hP hZ5 hZ hB hpl hgl hp hg hsb hs1 hs2 hone3
    generalize w2.heap.size = B at *
    generalize w3.heap.size = b at *
    go_loopw [36] (fun i wr => ∃ (k : Nat) (ls : List (List Nat)), k ≤ xs.length ∧ i = .int .i64 k ∧ Hid (ls.length = 2) ∧ Hid (St w0 p g c B b 8 wr ls ls)) (fun i _ => xs.length - (intOf i).toNat)
    case atStart => exact ⟨0, l0, by omega, rfl, HL0, HS⟩
    case round =>
      clear HS HL0
      obtain ⟨k, ls, hk, rfl, HL2, HS⟩ := hrel
      by_cases hlt : k < xs.length
      · skip
        obtain ⟨bx, off, rfl, hx0, hx1, hx2⟩ := (HS.out.row HX.out).at hlt
        generalize xs.getD k (0, 0, 0) = x at *
        obtain ⟨kd, av, nv⟩ := x
        simp only [] at hx0 hx1 hx2
        have hA := IsA.new wr 0 0 0
        have hb0 := HS.out.lt
        go_wp2_with (first | (refine wpList_alloc34 rfl rfl ?_; replace HS := Lib.hid (HS.out.alloc (.cells #[.int .u8 0, .int .i64 0, .int .i64 0] 34)); generalize wr.alloc (.cells #[.int .u8 0, .int .i64 0, .int .i64 0] 34) = w6 at *) | (refine wpList_store34 rfl _ _ rfl wr.heap.size kd av nv 0 0 0 rfl rfl hA ?_; intro w7 hA7 t7; replace HS := Lib.hid (HS.out.turn t7 hA (by decide) (by decide) hb0); clear hA t7 hx0 hx1 hx2; obtain ⟨dv, hdd, hbx⟩ := HS.out.ref) | (refine wpList_load30 rfl _ rfl b _ _ rfl hbx ?_) | (refine wpList_load34 rfl _ rfl wr.heap.size kd av nv rfl hA7 ?_))
        refine (do_any p g c B 8 _ ls kd av nv _ HS.out.ring ⟨dv, rfl, hdd⟩ HS.out.leB).mono ?_
        rintro e w9 ⟨⟨v9, rfl, dv9, rfl, h9⟩, hr9, ho9⟩
        replace HS := Lib.hid (HS.out.act hr9 ho9)
        have hone := h9.one
        clear hdd hbx hA7 ho9 hr9
        obtain ⟨dv0, hdd0, hbx0⟩ := HS.out.ref
        go_wp2_with (first | (refine wpList_store30 rfl _ _ rfl b _ _ _ _ rfl rfl hbx0 hone ?_; intro w12 hb12 t12; replace HS := Lib.hid (HS.out.set t12 h9 hb12); clear t12 hdd0 hbx0 h9 hb12))
        go_wp2_with fail
        exact ⟨⟨k + 1, _, by omega, by go_num, Lib.hid (by rw [actL_len]; exact HL2.out), HS⟩, by simp [intOf]; omega⟩
      · have hok := HS.out.ring.ok
        have hbl := HS.out.lt
        have hk0 := Boxed.new wr 3 (.int .i64 0)
        have hkc := hk0.cell
        have hkf := hk0.frozen
        have hbk := (Below.refl wr.heap.size wr).alloc (Nat.le_refl _) (.cells #[.int .i64 0] 3)
        have HS4 := Lib.hid (HS.out.below hbk)
        have hsz4 : (wr.alloc (.cells #[.int .i64 0] 3)).heap.size = wr.heap.size + 1 := by simp
        have hm4 : Boxed (wr.alloc (.cells #[.int .i64 0] 3)) w.heap.size 5 (.int .u8 (m : Int)) := (((HS.out.bel).block w.heap.size (by omega)).trans hb3 |> fun h : Boxed wr w.heap.size 5 (.int .u8 (m : Int)) => h.alloc _)
        have hwk : w.heap.size < wr.heap.size := by have := HS.out.bel.size; omega
        go_wp2_with fail
        generalize wr.alloc (.cells #[.int .i64 0] 3) = w5 at *
        generalize hbkE : wr.heap.size = bk at *
        clear hkc hkf
        refine (Nodes_any p 0 w5).mono ?_
        rw [hsz4]
        rintro e w9 ⟨rfl, rfl⟩
        have h91 := (Boxed.new w5 24 (.pointer (some ⟨p, 0, none⟩))).alloc (.cells #[.int .i64 0] 3)
        have h92 := Boxed.new (w5.alloc (.cells #[.pointer (some ⟨p, 0, none⟩)] 24)) 3 (.int .i64 0)
        rw [World.size_alloc] at h92
        rw [hsz4] at h91 h92
        have hb9 : Below w5.heap.size w5 ((w5.alloc (.cells #[.pointer (some ⟨p, 0, none⟩)] 24)).alloc (.cells #[.int .i64 0] 3)) := ((Below.refl _ w5).alloc (Nat.le_refl _) _).alloc (by simp) _
        have hk9 := (hk0.alloc (.cells #[.pointer (some ⟨p, 0, none⟩)] 24)).alloc (.cells #[.int .i64 0] 3)
        have hm9 := (hm4.alloc (.cells #[.pointer (some ⟨p, 0, none⟩)] 24)).alloc (.cells #[.int .i64 0] 3)
        have HSr := Lib.hid HS4.out.ring
        generalize ((w5.alloc (.cells #[.pointer (some ⟨p, 0, none⟩)] 24)).alloc (.cells #[.int .i64 0] 3)) = w9 at *
        have hl64 : (rowI ls 0).length ≤ 64 := by unfold rowI; rw [if_pos (by omega)]; exact hok.len64 _
        have E := each_13 p g c 8 (bk + 1) (bk + 1 + 1) 0 ls (.pointer (some ⟨bk, 0, none⟩)) (.pointer (some ⟨w.heap.size, 0, none⟩))
          (fun i W => (Boxed W bk 3 (.int .i64 (i : Int)) ∧ Boxed W w.heap.size 5 (.int .u8 (m : Int)) ∧ Boxed W (bk + 1) 24 (.pointer (some ⟨p, 0, none⟩)) ∧ Boxed W (bk + 1 + 1) 3 (.int .i64 0) ∧ Below bk w5 W) ∧ (i = 0 ∨ i < m))
          (fun i W => (Boxed W bk 3 (.int .i64 (i : Int)) ∧ Boxed W w.heap.size 5 (.int .u8 (m : Int)) ∧ Below bk w5 W) ∧ ¬ i < m ∧ (i = 1 ∨ i ≤ m)) hok
          (fun i W h => ⟨HSr.out.below h.1.2.2.2.2 (by have := HS4.out.pb; omega) (by have := HS4.out.gb; omega), h.1.2.2.1.cell, h.1.2.2.2.1.cell⟩)
          (fun i W W' h s => ⟨⟨Boxed.sm h.1.1 s, Boxed.sm h.1.2.1 s, Boxed.sm h.1.2.2.1 s, Boxed.sm h.1.2.2.2.1 s, h.1.2.2.2.2.trans (s.below _)⟩, h.2⟩)
          (fun i W hi h => by
            have hk1 := h.1.1.set (.int .i64 ((i : Int) + 1))
            have hbW := h.1.2.2.2.2.trans ((Turn.setCell W bk 0 (.int .i64 ((i : Int) + 1))).below (Nat.le_refl _))
            refine (told_13 bk w.heap.size i m W (decide ((i : Int) + 1 < (m : Int))) h.1.1 h.1.2.1 (by omega) hm (by omega) rfl _).mono ?_
            rintro e W' ⟨rfl, rfl⟩
            rw [show ((i : Int) + 1) = ((i + 1 : Nat) : Int) by omega] at *
            by_cases hd : i + 1 < m
            · refine .inl ⟨by rw [decide_eq_true (by omega)], ⟨hk1, h.1.2.1.other (by omega) _, h.1.2.2.1.other (by omega) _, h.1.2.2.2.1.other (by omega) _, hbW⟩, .inr hd⟩
            · refine .inr ⟨by rw [decide_eq_false (by omega)], ⟨hk1, h.1.2.1.other (by omega) _, hbW⟩, hd, ?_⟩
              rcases h.2 with h2 | h2 <;> omega)
          w9 ⟨⟨hk9, hm9, h91, h92, hb9.mono (by omega)⟩, .inl rfl⟩
        have HE := Lib.hid E
        clear E hk9 hm9 h91 h92 hb9 hk0 hm4
        go_wp2_with fail
        refine HE.out.mono ?_
        rintro e w10 ⟨⟨vv, rfl⟩, hJ⟩
        have hJ2 : ∃ K : Nat, Boxed w10 bk 3 (.int .i64 (K : Int)) ∧ Boxed w10 w.heap.size 5 (.int .u8 (m : Int)) ∧ Below bk w5 w10 ∧ ((K = (rowI ls 0).length ∧ (K = 0 ∨ K < m)) ∨ (K ≤ (rowI ls 0).length ∧ 0 < K ∧ ¬ K < m ∧ (K = 1 ∨ K ≤ m))) := by
          rcases hJ with ⟨⟨h1, h2, _, _, h5⟩, h6⟩ | ⟨i, hi, ⟨h1, h2, h3⟩, h4, h5⟩
          · exact ⟨_, h1, h2, h5, .inl ⟨rfl, h6⟩⟩
          · exact ⟨_, h1, h2, h3, .inr ⟨by omega, by omega, h4, h5⟩⟩
        clear hJ HE
        obtain ⟨K, hK1, hK2, hK3, hK4⟩ := hJ2
        have hS10 := HS.out.ref
        obtain ⟨dv, hd10, hb10⟩ := hS10
        have hbw : Below bk wr w10 := by
          refine (hbk.trans hK3)
        rw [← hbkE] at hbw
        replace hd10 := hd10.below hbw
        replace hb10 := hb10.belowS hbw
        obtain ⟨ad, cd, rfl⟩ := hd10.sl
        obtain ⟨bd, a', c', rfl, hbd, hcd, hlc, hcm, -⟩ := hd10.at (k := 0) (by rw [HL2.out]; omega)
        have hri : rowI ls 0 = row ls 0 := by unfold rowI; rw [if_pos (by omega)]; rfl
        rw [hri] at hK4 hl64
        have hbF : Below w.heap.size w w10 := hB00.trans ((HS.out.bel.mono (by omega)).trans (hbw.mono (by omega)))
        generalize (row ls 0).length = L at *
        have hnl : (0 : Nat) < ls.length := by rw [HL2.out]; omega
        generalize ls.length = nl at *
        have hq : (fun X => X.cell? ⟨bk, 0, none⟩ = some (.int .i64 (K : Int)) ∧ X.cell? ⟨b, 1, none⟩ = some (.slice (some ⟨bd, 0, none⟩) nl cd) ∧ X.cell? ⟨bd, 0, none⟩ = some (.slice a' L c') ∧ X.cell? ⟨w.heap.size, 0, none⟩ = some (.int .u8 (m : Int)) ∧ True) w10.drew := ⟨hK1.cell, hb10.c1, hcd, hK2.cell, trivial⟩
        clear hd10 hb10 hcd hK1 hK2 hK3 hbw HS HS4 HSr hok hri HL2
        go_wp2_with fail
        obtain ⟨mx, hmx⟩ : ∃ mx : Nat, mx = max m 1 := ⟨_, rfl⟩
        have HMX : Hid (K = min L mx) := Lib.hid (by omega)
        have HM := Lib.hid hmx
        clear hmx hK4
        refine Rd.region (fun X => X.cell? ⟨bk, 0, none⟩ = some (.int .i64 (K : Int)) ∧ X.cell? ⟨b, 1, none⟩ = some (.slice (some ⟨bd, 0, none⟩) nl cd) ∧ X.cell? ⟨bd, 0, none⟩ = some (.slice a' L c') ∧ X.cell? ⟨w.heap.size, 0, none⟩ = some (.int .u8 (m : Int)) ∧ True) 12 [0, 1, 2, 3, 4, 5, 6, 7, 8, 9, 10, 11] [0, 1, 2, 3, 4, 5, 6, 7, 8, 9, 10, 11] (by kernel_rfl) (by kernel_rfl) (by kernel_rfl) (by kernel_rfl) rfl hq ?_
        clear hq
        replace hbF := hbF.trans ((Same.drew w10).below _)
        generalize w10.drew = w11 at *
        refine Rd.seq_float (.int .i64 (K : Int)) (by simp only [List.getElem?_toArray, List.getElem?_cons_zero]; rfl) rfl (by rfl) (fun X hX => by obtain ⟨e1, e2, e3, e4, e5⟩ := hX; go_simp) ?_
        simp only [Act.put, List.setIfInBounds_toArray, List.set_cons_succ, List.set_cons_zero]
        refine Rd.seq_float (.pointer (some ⟨b, 1, none⟩)) (by simp only [List.getElem?_toArray, List.getElem?_cons_succ, List.getElem?_cons_zero]; rfl) rfl (by rfl) (fun X _ => by go_simp) ?_
        simp only [Act.put, List.setIfInBounds_toArray, List.set_cons_succ, List.set_cons_zero]
        refine Rd.seq_float (.slice (some ⟨bd, 0, none⟩) nl cd) (by simp only [List.getElem?_toArray, List.getElem?_cons_succ, List.getElem?_cons_zero]; rfl) rfl (by rfl) (fun X hX => by obtain ⟨e1, e2, e3, e4, e5⟩ := hX; go_simp) ?_
        simp only [Act.put, List.setIfInBounds_toArray, List.set_cons_succ, List.set_cons_zero]
        refine Rd.seq_float (.pointer (some ⟨bd, 0, none⟩)) (by simp only [List.getElem?_toArray, List.getElem?_cons_succ, List.getElem?_cons_zero]; rfl) rfl (by rfl) (fun X _ => by first | (go_simp; done) | (go_simp; intro hx; omega)) ?_
        simp only [Act.put, List.setIfInBounds_toArray, List.set_cons_succ, List.set_cons_zero]
        refine Rd.seq_float ((.slice a' L c')) (by simp only [List.getElem?_toArray, List.getElem?_cons_succ, List.getElem?_cons_zero]; rfl) rfl (by rfl) (fun X hX => by obtain ⟨e1, e2, e3, e4, e5⟩ := hX; go_simp) ?_
        simp only [Act.put, List.setIfInBounds_toArray, List.set_cons_succ, List.set_cons_zero]
        refine Rd.seq_float (.int .i64 (L : Int)) (by simp only [List.getElem?_toArray, List.getElem?_cons_succ, List.getElem?_cons_zero]; rfl) rfl (by rfl) (fun X _ => by go_simp) ?_
        simp only [Act.put, List.setIfInBounds_toArray, List.set_cons_succ, List.set_cons_zero]
        refine Rd.seq_float (.int .u8 (m : Int)) (by simp only [List.getElem?_toArray, List.getElem?_cons_succ, List.getElem?_cons_zero]; rfl) rfl (by rfl) (fun X hX => by obtain ⟨e1, e2, e3, e4, e5⟩ := hX; go_simp) ?_
        simp only [Act.put, List.setIfInBounds_toArray, List.set_cons_succ, List.set_cons_zero]
        refine Rd.seq_float (.int .i64 (m : Int)) (by simp only [List.getElem?_toArray, List.getElem?_cons_succ, List.getElem?_cons_zero]; rfl) rfl (by rfl) (fun X _ => by go_simp; exact IntWalk.i64_in _ (by omega)) ?_
        simp only [Act.put, List.setIfInBounds_toArray, List.set_cons_succ, List.set_cons_zero]
        refine Rd.seq_float (.int .i64 (mx : Int)) (by simp only [List.getElem?_toArray, List.getElem?_cons_succ, List.getElem?_cons_zero]; rfl) rfl (by rfl) (fun X _ => by go_simp; have := HM.out; split <;> omega) ?_
        simp only [Act.put, List.setIfInBounds_toArray, List.set_cons_succ, List.set_cons_zero]
        refine Rd.seq_float (.int .i64 (K : Int)) (by simp only [List.getElem?_toArray, List.getElem?_cons_succ, List.getElem?_cons_zero]; rfl) rfl (by rfl) (fun X _ => by go_simp; have := HMX.out; split <;> omega) ?_
        simp only [Act.put, List.setIfInBounds_toArray, List.set_cons_succ, List.set_cons_zero]
        refine Rd.seq_float (.bool true) (by simp only [List.getElem?_toArray, List.getElem?_cons_succ, List.getElem?_cons_zero]; rfl) rfl (by rfl) (fun X _ => by go_simp) ?_
        simp only [Act.put, List.setIfInBounds_toArray, List.set_cons_succ, List.set_cons_zero]
        refine Rd.seq_float (.bool true) (by simp only [List.getElem?_toArray, List.getElem?_cons_succ, List.getElem?_cons_zero]; rfl) rfl (by rfl) (fun X _ => by go_simp) ?_
        simp only [Act.put, List.setIfInBounds_toArray, List.set_cons_succ, List.set_cons_zero]
        refine Rd.seq_end ?_
        go_wp2_with fail
        go_ret
        exact ⟨rfl, hbF⟩
end Go.Proofs.Ytglnjpbjlcbgoaa
