/-
  TopoMasks: behind any acts, whether any set has a core of any domain, and its effective mask, are the document's. Conditions: the numbers are of 64 bits, and lie in memory that there may be.
-/
import Derived.Test.YtbeklkgoiigccaaTw
namespace Go.Proofs.Ytbeklkgoiigccaa
open Go.RowKit

/-- what Effective tells. -/
def effV (cs : List Nat) (on : Nat) (d : Int) (S : Nat) : Nat := if chkC cs d S = 0 then effN cs on d.toNat S else 0
theorem chk_dom {cs : List Nat} {d : Int} {S : Nat} (h : chkC cs d S = 0) : domB cs d := by
  unfold chkC at h
  split at h
  · assumption
  · cases h
theorem chk_meets {cs : List Nat} {d : Nat} {S : Nat} (h : chkC cs (d : Int) S = 0) : meetsB (cs.getD d 0) S = true := by
  have hd := chk_dom h
  unfold chkC at h
  rw [if_pos hd, Int.toNat_natCast] at h
  split at h
  · assumption
  · cases h
theorem Eff_all (p g : Nat) (cs : List Nat) (on : Nat) (d : Int) (S : Nat) (w : World) (h : IsTopo w p g cs on) (ok : TopoOk cs on) (hS : S < 18446744073709551616) :
    Calls Try.prog 17 #[.pointer (some ⟨p, 0, none⟩), .int .i64 d, .int .u64 (S : Int)] w fun e w' => e = .returned (.tuple #[.int .u64 (effV cs on d S : Nat), .int .i64 (chkC cs d S)]) ∧ w = w' := by
  unfold effV
  by_cases hc : chkC cs d S = 0
  · obtain ⟨k, rfl, hk⟩ := domB_cases (chk_dom hc)
    rw [if_pos hc, hc, Int.toNat_natCast]
    exact Eff_any p g cs on k S w h ok hS hk hc
  · rw [if_neg hc]
    exact Eff_err p g cs on d S w h ok hS _ rfl (by rw [beq_eq_false_iff_ne]; exact hc)
theorem rEff_all (cs : List Nat) (on : Nat) (d : Int) (S : Nat) (w : World) (ok : TopoOk cs on) :
    Calls Try.prog 18 #[.agg (TV cs on), .int .i64 d, .agg (arrB S.testBit)] w fun e w' => e = .returned (.tuple #[.agg (arrB (effV cs on d S).testBit), .int .i64 (chkC cs d S)]) ∧ Below w.heap.size w w' := by
  unfold effV
  by_cases hc : chkC cs d S = 0
  · obtain ⟨k, rfl, hk⟩ := domB_cases (chk_dom hc)
    rw [if_pos hc, hc, Int.toNat_natCast]
    exact rEff_any cs on k S w ok hk hc
  · rw [if_neg hc]
    exact rEff_err cs on d S w ok _ rfl (by rw [beq_eq_false_iff_ne]; exact hc)
theorem effN_lt {cs : List Nat} {on : Nat} (ok : TopoOk cs on) (d S : Nat) : effN cs on d S < 18446744073709551616 := by
  unfold effN
  split
  · exact and_lt (and_lt (ok.small d))
  · exact and_lt (ok.small d)
theorem effV_lt {cs : List Nat} {on : Nat} (ok : TopoOk cs on) (d : Int) (S : Nat) : effV cs on d S < 18446744073709551616 := by
  unfold effV
  split
  · exact effN_lt ok _ _
  · decide
theorem effV_in {cs : List Nat} {on : Nat} {d : Int} {S : Nat} (ok : TopoOk cs on) (h : chkC cs d S = 0) : effV cs on d S ≠ 0 ∧ inB (effV cs on d S) (tellN cs on d true) = true := by
  obtain ⟨k, rfl, hk⟩ := domB_cases (chk_dom h)
  rw [show effV cs on (k : Int) S = effN cs on k S by unfold effV; rw [if_pos h, Int.toNat_natCast], (tell_yes (on := on) hk true).1]
  unfold effN
  simp only [pickN, if_true]
  have hA : cs.getD k 0 &&& on < 18446744073709551616 := and_lt (ok.small k)
  split
  · rename_i hm
    refine ⟨?_, in_and _ _ hA⟩
    intro h0
    unfold meetsB at hm
    rw [h0] at hm
    cases hm
  · refine ⟨ok.some k hk, ?_⟩
    have := in_and (cs.getD k 0 &&& on) (cs.getD k 0 &&& on) hA
    rw [Nat.and_self] at this
    exact this
set_option pp.maxSteps 1000000 in
set_option pp.deepTerms true in
set_option maxRecDepth 100000 in
set_option maxHeartbeats 4000000 in
theorem masks_any (v v1 : Value) (l : List Nat) (xs : List (Int × Bool)) (D : Int) (M : Nat) (w : World) (h : RowN w v l) (hs : ∀ j, l.getD j 0 < 18446744073709551616) (hr : l.length * 8 ≤ 140737488351232) (hx1 : RowA w v1 xs) (hM : M < 18446744073709551616) :
    Calls Try.prog 5 #[v, v1, .agg #[.int .i64 D, .int .u64 (M : Int)]] w fun e w' => e = .returned (.bool true) ∧ Below w.heap.size w w' := by
  obtain ⟨a1, c1, rfl, -⟩ := id hx1
  have HO := Lib.hid (fun w h => Open_any v l w h hs hr)
  by_cases hlen0 : 30 < xs.length
  · have h1 : (30 : Int) < (xs.length : Int) := by omega
    clear hlen0
    go_enter Try.func5, Try.ntmps5
    go_wp2_with fail
    have hBW : Below w.heap.size w (w.alloc (.cells #[.int .i64 D, .int .u64 (M : Int)] 53)) := (Below.refl _ w).alloc (Nat.le_refl _) _
    have hq0 : (w.alloc (.cells #[.int .i64 D, .int .u64 (M : Int)] 53)).cell? ⟨w.heap.size, 0, none⟩ = some (.int .i64 D) := by rw [cell_of_row _ _ _ _ 53 (0, 0) (heap_alloc_new w _)]; rfl
    have hq1 : (w.alloc (.cells #[.int .i64 D, .int .u64 (M : Int)] 53)).cell? ⟨w.heap.size, 1, none⟩ = some (.int .u64 (M : Int)) := by rw [cell_of_row _ _ _ _ 53 (0, 0) (heap_alloc_new w _)]; rfl
    have hqs : w.heap.size < (w.alloc (.cells #[.int .i64 D, .int .u64 (M : Int)] 53)).heap.size := by simp
    have hB := Below.refl (w.alloc (.cells #[.int .i64 D, .int .u64 (M : Int)] 53)).heap.size (w.alloc (.cells #[.int .i64 D, .int .u64 (M : Int)] 53))
    replace h := h.below hBW
    replace hx1 := hx1.below hBW
    have hWW := Lib.hid (rfl : (w.alloc (.cells #[.int .i64 D, .int .u64 (M : Int)] 53)) = (w.alloc (.cells #[.int .i64 D, .int .u64 (M : Int)] 53)))
    generalize (w.alloc (.cells #[.int .i64 D, .int .u64 (M : Int)] 53)) = W at *
    clear hWW
    refine (awake_any _).mono ?_
    rintro e w1 ⟨rfl, hb⟩
    replace hB := hB.trans (hb.mono hB.size)
    clear hb
    go_wp2_with fail
    refine (awake_any _).mono ?_
    rintro e w2 ⟨rfl, hb⟩
    replace hB := hB.trans (hb.mono hB.size)
    clear hb
    go_wp2_with fail
    go_ret
    exact ⟨rfl, hBW.trans (hB.mono hBW.size)⟩
  · have h5 : ¬ (30 : Int) < (xs.length : Int) := by omega
    go_enter Try.func5, Try.ntmps5
    go_wp2_with fail
    have hBW : Below w.heap.size w (w.alloc (.cells #[.int .i64 D, .int .u64 (M : Int)] 53)) := (Below.refl _ w).alloc (Nat.le_refl _) _
    have hq0 : (w.alloc (.cells #[.int .i64 D, .int .u64 (M : Int)] 53)).cell? ⟨w.heap.size, 0, none⟩ = some (.int .i64 D) := by rw [cell_of_row _ _ _ _ 53 (0, 0) (heap_alloc_new w _)]; rfl
    have hq1 : (w.alloc (.cells #[.int .i64 D, .int .u64 (M : Int)] 53)).cell? ⟨w.heap.size, 1, none⟩ = some (.int .u64 (M : Int)) := by rw [cell_of_row _ _ _ _ 53 (0, 0) (heap_alloc_new w _)]; rfl
    have hqs : w.heap.size < (w.alloc (.cells #[.int .i64 D, .int .u64 (M : Int)] 53)).heap.size := by simp
    have hB := Below.refl (w.alloc (.cells #[.int .i64 D, .int .u64 (M : Int)] 53)).heap.size (w.alloc (.cells #[.int .i64 D, .int .u64 (M : Int)] 53))
    replace h := h.below hBW
    replace hx1 := hx1.below hBW
    have hWW := Lib.hid (rfl : (w.alloc (.cells #[.int .i64 D, .int .u64 (M : Int)] 53)) = (w.alloc (.cells #[.int .i64 D, .int .u64 (M : Int)] 53)))
    generalize (w.alloc (.cells #[.int .i64 D, .int .u64 (M : Int)] 53)) = W at *
    clear hWW
    refine (awake_any _).mono ?_
    rintro e w1 ⟨rfl, hb⟩
    replace hB := hB.trans (hb.mono hB.size)
    clear hb
    go_wp2_with fail
    refine (HO.out _ (h.below hB)).mono ?_
    rintro e w2 ⟨h2, hb⟩
    have hs1 := hB.size
    rcases h2 with ⟨hg8, p, g, rfl, hP, hp, hg⟩ | ⟨_, rfl⟩
    · replace hB := hB.trans (hb.mono hB.size)
      have hZ : IsT (w2.alloc (.cells tzero 29)) w2.heap.size 0 (fun _ => 0) (fun _ => false) := IsT.new w2 0 (fun _ => 0) (fun _ => false)
      have hpl := hP.ltp
      have hgl := hP.ltg
      replace hB := hB.alloc hB.size (.cells tzero 29)
      replace hP := hP.alloc (.cells tzero 29)
      have OK := Lib.hid (TopoOk.new hg8 hs)
      generalize hU : uni l = U at *
      clear hU hg8
      generalize hb6 : w2.heap.size = b at *
      go_wp2_with (first | (refine wpList_alloc29 rfl rfl ?_; try rw [hb6]) | (refine wpList_store29 rfl _ _ rfl b (l.length : Int) 0 (fun i => ofI l (i : Int)) (fun _ => 0) U.testBit (fun _ => false) rfl rfl hZ ?_; clear hZ; intro w3 h8 t3))
      have hS : St W p g b l w3 U U := ⟨OK.out, hP.turn t3 (by omega) (by omega), h8, hB.trans (t3.below (by omega)), by omega, by omega, by omega, by omega⟩
      clear OK h8 t3 hP hB hb hpl hgl hp hg hb6 hs1
      go_loopw [37] (fun i wr => ∃ (k on : Nat), k ≤ xs.length ∧ i = .int .i64 k ∧ Hid (St W p g b l wr on on)) (fun i _ => xs.length - (intOf i).toNat)
      case atStart => exact ⟨0, U, by omega, rfl, Lib.hid hS⟩
      case round =>
        clear hS
        obtain ⟨k, on, hk, rfl, HS⟩ := hrel
        have hS := HS.out
        clear HS
        by_cases hlt : k < xs.length
        · obtain ⟨bx, off, rfl, hx0, hx1⟩ := (hS.row hx1).at hlt
          generalize hxx : xs.getD k (0, false) = x at *
          clear hxx
          have hb0 := hS.lt
          have hA := IsA.new wr 0 false
          go_wp2_with (first | (refine wpList_alloc46 rfl rfl ?_) | (refine wpList_store46 rfl _ _ rfl wr.heap.size x.1 0 x.2 false rfl rfl hA ?_; clear hA; intro w4 hA t4; replace hS := (hS.alloc (.cells #[.int .i64 0, .bool false] 46)).turn t4 hb0; clear t4) | (refine wpList_load29 rfl _ rfl b _ _ _ rfl hS.ref ?_) | (refine wpList_load46 rfl _ rfl wr.heap.size _ _ rfl hA ?_))
          clear hA hx0 hx1 hb0
          refine (do_any p g l on x _ hS.topo hS.ok).mono ?_
          rintro e w5 ⟨rfl, hP, ho⟩
          replace hS := hS.act (hS.ok.act x) hP ho
          clear ho hP
          generalize hN : actN l on x = N at *
          clear hN
          go_wp2_with (first | (refine wpList_store29 rfl _ _ rfl b (l.length : Int) (l.length : Int) (fun i => ofI l (i : Int)) (fun i => ofI l (i : Int)) N.testBit on.testBit rfl rfl hS.ref ?_; intro w7 h7 t3; replace hS := hS.set t3 h7; clear t3 h7))
          exact ⟨⟨k + 1, N, by omega, by go_num, Lib.hid hS⟩, by simp [intOf]; omega⟩
        · skip
          have hok := hS.ok
          have HEf := Lib.hid (fun w h => Eff_all p g l on D M w h hok hM)
          have HrE := Lib.hid (fun w => rEff_all l on D M w hok)
          have HCk := Lib.hid (fun w h => Check_any p g l on D M w h hok hM)
          have HrC := Lib.hid (fun w => rCheck_any l on D M w hok)
          have HOn := Lib.hid (fun w h => Online_all p g l on D w h)
          have hVl := effV_lt hok D M
          have HIs := Lib.hid (fun w => Is_any (effV l on D M) (effV l on D M) w hVl)
          have HV := Lib.hid (fun h => effV_in (d := D) (S := M) hok h)
          have hEl := tellN_lt hok D true
          generalize effV l on D M = V at *
          generalize chkC l D M = C at *
          generalize tellN l on D true = B at *
          have hCC : (C != C) = false := bne_self_eq_false C
          have hVV : ((V : Int) == (V : Int)) = true := beq_self_eq_true _
          have hc0 := (hS.bel.cell (p := ⟨w.heap.size, 0, none⟩) hqs).trans hq0
          have hc1 := (hS.bel.cell (p := ⟨w.heap.size, 1, none⟩) hqs).trans hq1
          go_wp2_with fail
          refine (Bits_any M _ hM).mono ?_
          rintro e w4 ⟨rfl, hb⟩
          replace hS := hS.below hb
          clear hb hc0 hc1
          have hX : IsArr (w4.alloc (.cells (arrB fun _ => false) 27)) w4.heap.size (fun _ => false) := IsArr.new w4 (fun _ => false)
          have hb0 := hS.lt
          replace hS := hS.alloc (.cells (arrB fun _ => false) 27)
          have hS0 := Lib.hid hS
          generalize hb12 : w4.heap.size = b12 at *
          go_wp2_with (first | (refine wpList_alloc30 rfl rfl ?_; try rw [hb12]) | (refine wpList_store30 rfl _ _ rfl b12 M.testBit (fun _ => false) rfl rfl hX ?_; clear hX; intro w5 h12 t3; replace hS := hS.turn t3 hb0; clear t3 hb0; have hc0 := (hS.bel.cell (p := ⟨w.heap.size, 0, none⟩) hqs).trans hq0; have hc1 := (hS.bel.cell (p := ⟨w.heap.size, 1, none⟩) hqs).trans hq1))
          refine (HEf.out _ hS.topo).mono ?_
          rintro e w6 ⟨rfl, rfl⟩
          go_wp2_with (first | (refine wpList_load29 rfl _ rfl b _ _ _ rfl hS.ref ?_) | (refine wpList_load30 rfl _ rfl b12 _ rfl h12 ?_))
          refine (HrE.out _).mono ?_
          rintro e w6 ⟨rfl, hb⟩
          replace hS := hS.below hb
          have h12l := h12.lt
          replace h12 := h12.below hb h12l
          have h12l2 := h12.lt
          clear hb hc0 hc1
          have hX : IsArr (w6.alloc (.cells (arrB fun _ => false) 27)) w6.heap.size (fun _ => false) := IsArr.new w6 (fun _ => false)
          have hb0 := hS.lt
          replace hS := hS.alloc (.cells (arrB fun _ => false) 27)
          replace h12 := h12.alloc (.cells (arrB fun _ => false) 27)
          generalize hb15 : w6.heap.size = b15 at *
          go_wp2_with (first | (refine wpList_alloc30 rfl rfl ?_; try rw [hb15]) | (refine wpList_store30 rfl _ _ rfl b15 V.testBit (fun _ => false) rfl rfl hX ?_; clear hX; intro w7 h15 t3; replace hS := hS.turn t3 hb0; replace h12 := h12.turn t3 (Nat.ne_of_lt h12l2); clear t3 hb0))
          replace hS := hS.drew
          replace h12 : IsArr w7.drew _ _ := h12
          replace h15 : IsArr w7.drew _ _ := h15
          have hc0 := (hS.bel.cell (p := ⟨w.heap.size, 0, none⟩) hqs).trans hq0
          have hc1 := (hS.bel.cell (p := ⟨w.heap.size, 1, none⟩) hqs).trans hq1
          refine Rd.region (fun X => IT X b l on ∧ IsArr X b12 M.testBit ∧ IsArr X b15 V.testBit ∧ X.cell? ⟨w.heap.size, 0, none⟩ = some (.int .i64 D) ∧ X.cell? ⟨w.heap.size, 1, none⟩ = some (.int .u64 (M : Int))) 23 [0, 1, 2, 3, 4, 6, 7, 8, 9, 11, 12, 13, 14, 15, 16, 17, 18, 19, 21, 22] [0, 1, 2, 3, 4, 6, 7, 8, 9, 5, 10, 11, 12, 13, 14, 15, 16, 17, 18, 19, 20, 21, 22] (by kernel_rfl) (by kernel_rfl) (by kernel_rfl) (by kernel_rfl) rfl ⟨hS.ref, h12, h15, hc0, hc1⟩ ?_
          generalize w7.drew = w7 at *
          refine Rd.seq_float (.pointer (some ⟨p, 0, none⟩)) (by simp only [List.getElem?_toArray, List.getElem?_cons_zero]; rfl) rfl (by rfl) (fun X _ => by go_simp) ?_
          simp only [Act.put, List.setIfInBounds_toArray, List.set_cons_succ, List.set_cons_zero]
          refine Rd.seq_float (.pointer (some ⟨w.heap.size, 0, none⟩)) (by simp only [List.getElem?_toArray, List.getElem?_cons_succ, List.getElem?_cons_zero]; rfl) rfl (by rfl) (fun X _ => by go_simp) ?_
          simp only [Act.put, List.setIfInBounds_toArray, List.set_cons_succ, List.set_cons_zero]
          refine Rd.seq_float (.int .i64 D) (by simp only [List.getElem?_toArray, List.getElem?_cons_succ, List.getElem?_cons_zero]; rfl) rfl (by rfl) (fun X hX => by have h0 := hX.2.2.2.1; go_simp) ?_
          simp only [Act.put, List.setIfInBounds_toArray, List.set_cons_succ, List.set_cons_zero]
          refine Rd.seq_float (.pointer (some ⟨w.heap.size, 1, none⟩)) (by simp only [List.getElem?_toArray, List.getElem?_cons_succ, List.getElem?_cons_zero]; rfl) rfl (by rfl) (fun X _ => by go_simp) ?_
          simp only [Act.put, List.setIfInBounds_toArray, List.set_cons_succ, List.set_cons_zero]
          refine Rd.seq_float (.int .u64 (M : Int)) (by simp only [List.getElem?_toArray, List.getElem?_cons_succ, List.getElem?_cons_zero]; rfl) rfl (by rfl) (fun X hX => by have h0 := hX.2.2.2.2; go_simp) ?_
          simp only [Act.put, List.setIfInBounds_toArray, List.set_cons_succ, List.set_cons_zero]
          refine Rd.seq_float (.agg (TV l on)) (by simp only [List.getElem?_toArray, List.getElem?_cons_succ, List.getElem?_cons_zero]; rfl) rfl (by rfl) (fun X hX => exec_load29 _ rfl b _ _ _ rfl hX.1) ?_
          simp only [Act.put, List.setIfInBounds_toArray, List.set_cons_succ, List.set_cons_zero]
          refine Rd.seq_float (.pointer (some ⟨w.heap.size, 0, none⟩)) (by simp only [List.getElem?_toArray, List.getElem?_cons_succ, List.getElem?_cons_zero]; rfl) rfl (by rfl) (fun X _ => by go_simp) ?_
          simp only [Act.put, List.setIfInBounds_toArray, List.set_cons_succ, List.set_cons_zero]
          refine Rd.seq_float (.int .i64 D) (by simp only [List.getElem?_toArray, List.getElem?_cons_succ, List.getElem?_cons_zero]; rfl) rfl (by rfl) (fun X hX => by have h0 := hX.2.2.2.1; go_simp) ?_
          simp only [Act.put, List.setIfInBounds_toArray, List.set_cons_succ, List.set_cons_zero]
          refine Rd.seq_float (.agg (arrB M.testBit)) (by simp only [List.getElem?_toArray, List.getElem?_cons_succ, List.getElem?_cons_zero]; rfl) rfl (by rfl) (fun X hX => exec_load30 _ _ b12 rfl rfl X hX.2.1) ?_
          simp only [Act.put, List.setIfInBounds_toArray, List.set_cons_succ, List.set_cons_zero]
          refine Rd.seq_move (by simp only [List.getElem?_toArray, List.getElem?_cons_succ, List.getElem?_cons_zero]; rfl) rfl (by rfl) (fun K hK => ?_)
          go_simp
          refine (HCk.out _ hS.topo).mono ?_
          rintro e w9 ⟨rfl, rfl⟩
          refine hK _ _ (fun _ => ⟨hS.ref, h12, h15, hc0, hc1⟩) ?_
          clear hK K
          refine Rd.seq_move (by simp only [List.getElem?_toArray, List.getElem?_cons_succ, List.getElem?_cons_zero]; rfl) rfl (by rfl) (fun K hK => ?_)
          go_simp
          refine (HrC.out _).mono ?_
          rintro e w9 ⟨rfl, hb⟩
          replace hS := hS.below hb
          replace h12 := h12.below hb h12.lt
          replace h15 := h15.below hb h15.lt
          clear hb
          replace hc0 := (hS.bel.cell (p := ⟨w.heap.size, 0, none⟩) hqs).trans hq0
          replace hc1 := (hS.bel.cell (p := ⟨w.heap.size, 1, none⟩) hqs).trans hq1
          refine hK _ _ (fun _ => ⟨hS.ref, h12, h15, hc0, hc1⟩) ?_
          clear hK K
          refine Rd.seq_float (.bool false) (by simp only [List.getElem?_toArray, List.getElem?_cons_succ, List.getElem?_cons_zero]; rfl) rfl (by rfl) (fun X _ => by go_simp) ?_
          simp only [Act.put, List.setIfInBounds_toArray, List.set_cons_succ, List.set_cons_zero]
          refine Rd.seq_float (.bool false) (by simp only [List.getElem?_toArray, List.getElem?_cons_succ, List.getElem?_cons_zero]; rfl) rfl (by rfl) (fun X _ => by go_simp) ?_
          simp only [Act.put, List.setIfInBounds_toArray, List.set_cons_succ, List.set_cons_zero]
          refine Rd.seq_float (.int .i64 C) (by simp only [List.getElem?_toArray, List.getElem?_cons_succ, List.getElem?_cons_zero]; rfl) rfl (by rfl) (fun X _ => by go_simp) ?_
          simp only [Act.put, List.setIfInBounds_toArray, List.set_cons_succ, List.set_cons_zero]
          refine Rd.seq_float (.int .i64 C) (by simp only [List.getElem?_toArray, List.getElem?_cons_succ, List.getElem?_cons_zero]; rfl) rfl (by rfl) (fun X _ => by go_simp) ?_
          simp only [Act.put, List.setIfInBounds_toArray, List.set_cons_succ, List.set_cons_zero]
          refine Rd.seq_float (.bool false) (by simp only [List.getElem?_toArray, List.getElem?_cons_succ, List.getElem?_cons_zero]; rfl) rfl (by rfl) (fun X _ => by go_simp) ?_
          simp only [Act.put, List.setIfInBounds_toArray, List.set_cons_succ, List.set_cons_zero]
          refine Rd.seq_float (.bool false) (by simp only [List.getElem?_toArray, List.getElem?_cons_succ, List.getElem?_cons_zero]; rfl) rfl (by rfl) (fun X _ => by go_simp) ?_
          simp only [Act.put, List.setIfInBounds_toArray, List.set_cons_succ, List.set_cons_zero]
          refine Rd.seq_float (.bool false) (by simp only [List.getElem?_toArray, List.getElem?_cons_succ, List.getElem?_cons_zero]; rfl) rfl (by rfl) (fun X _ => by go_simp) ?_
          simp only [Act.put, List.setIfInBounds_toArray, List.set_cons_succ, List.set_cons_zero]
          refine Rd.seq_float (.int .u64 (V : Int)) (by simp only [List.getElem?_toArray, List.getElem?_cons_succ, List.getElem?_cons_zero]; rfl) rfl (by rfl) (fun X _ => by go_simp) ?_
          simp only [Act.put, List.setIfInBounds_toArray, List.set_cons_succ, List.set_cons_zero]
          refine Rd.seq_float (.agg (arrB V.testBit)) (by simp only [List.getElem?_toArray, List.getElem?_cons_succ, List.getElem?_cons_zero]; rfl) rfl (by rfl) (fun X hX => exec_load30 _ _ b15 rfl rfl X hX.2.2.1) ?_
          simp only [Act.put, List.setIfInBounds_toArray, List.set_cons_succ, List.set_cons_zero]
          refine Rd.seq_move (by simp only [List.getElem?_toArray, List.getElem?_cons_succ, List.getElem?_cons_zero]; rfl) rfl (by rfl) (fun K hK => ?_)
          go_simp
          refine (HIs.out _).mono ?_
          rintro e w9 ⟨rfl, hb⟩
          replace hS := hS.below hb
          replace h12 := h12.below hb h12.lt
          replace h15 := h15.below hb h15.lt
          clear hb
          replace hc0 := (hS.bel.cell (p := ⟨w.heap.size, 0, none⟩) hqs).trans hq0
          replace hc1 := (hS.bel.cell (p := ⟨w.heap.size, 1, none⟩) hqs).trans hq1
          refine hK _ _ (fun _ => ⟨hS.ref, h12, h15, hc0, hc1⟩) ?_
          clear hK K
          refine Rd.seq_float (.bool false) (by simp only [List.getElem?_toArray, List.getElem?_cons_succ, List.getElem?_cons_zero]; rfl) rfl (by rfl) (fun X _ => by go_simp) ?_
          simp only [Act.put, List.setIfInBounds_toArray, List.set_cons_succ, List.set_cons_zero]
          refine Rd.seq_float (.bool false) (by simp only [List.getElem?_toArray, List.getElem?_cons_succ, List.getElem?_cons_zero]; rfl) rfl (by rfl) (fun X _ => by go_simp) ?_
          simp only [Act.put, List.setIfInBounds_toArray, List.set_cons_succ, List.set_cons_zero]
          refine Rd.seq_end ?_
          rcases (inferInstance : Decidable (C = 0)) with hC0 | hC0
          · have hC1 : (C != 0) = true := by rw [bne_iff_ne]; exact hC0
            clear hC0
            go_wp2_with fail
            go_ret
            exact ⟨rfl, hBW.trans (hS.bel.mono hBW.size)⟩
          · have hV := HV.out hC0
            have hV0 : ((V : Int) != 0) = true := by rw [bne_iff_ne]; have := hV.1; omega
            have HI := Lib.hid hV.2
            subst hC0
            clear hV
            go_wp2_with fail
            refine (HOn.out _ hS.topo).mono ?_
            rintro e w8 ⟨rfl, rfl⟩
            go_wp2_with fail
            refine (In_is V B true _ hVl hEl HI).mono ?_
            rintro e w9 ⟨rfl, rfl⟩
            go_wp2_with fail
            go_ret
            exact ⟨rfl, hBW.trans (hS.bel.mono hBW.size)⟩
    · replace hB := hB.trans (hb.mono hB.size)
      have hZ : IsT (w2.alloc (.cells tzero 29)) w2.heap.size 0 (fun _ => 0) (fun _ => false) := IsT.new w2 0 (fun _ => 0) (fun _ => false)
      have hbs := hB.size
      replace hB := hB.alloc hB.size (.cells tzero 29)
      go_wp2_with (first | (refine wpList_alloc29 rfl rfl ?_) | (refine wpList_store29 rfl _ _ rfl w2.heap.size 0 0 (fun _ => 0) (fun _ => 0) (fun _ => false) (fun _ => false) rfl rfl hZ ?_; clear hZ; intro w3 h8 t3; replace hB := hB.trans (t3.below hbs)))
      go_ret
      exact ⟨rfl, hBW.trans (hB.mono hBW.size)⟩
end Go.Proofs.Ytbeklkgoiigccaa
