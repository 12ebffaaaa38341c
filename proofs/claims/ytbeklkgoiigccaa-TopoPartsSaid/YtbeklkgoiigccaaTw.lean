/-
  TopoParts: each core is of one domain at most, and of one just if that has it among its cores. Conditions: the numbers are of 64 bits, and lie in memory that there may be.
-/
import Derived.Test.YtbeklkgoiigccaaTt
namespace Go.Proofs.Ytbeklkgoiigccaa
open Go.RowKit

theorem has_and_no {a n c : Nat} (hc : c < 64) (h : hasB a (c : Int) = false) : hasB (a &&& n) (c : Int) = false := by
  rw [hasB_nat hc] at h ⊢
  rw [Nat.testBit_and, h]
  rfl
theorem in_and (A on : Nat) (hA : A < 18446744073709551616) : inB (A &&& on) A = true := by
  rw [← eq_in (A &&& on) A (and_lt hA) hA, eqB_true]
  intro i _
  simp only [Nat.testBit_and]
  cases A.testBit i <;> simp
/-- whether the first domain that has the core is the one. -/
def cnt (cs : List Nat) (c : Int) (k : Nat) : Int := if domN cs c < k then 1 else 0
set_option maxRecDepth 100000 in
set_option maxHeartbeats 4000000 in
theorem parts_any (v v1 : Value) (l : List Nat) (xs : List (Int × Bool)) (w : World) (h : RowN w v l) (hs : ∀ j, l.getD j 0 < 18446744073709551616) (hr : l.length * 8 ≤ 140737488351232) (hx1 : RowA w v1 xs) :
    Calls Try.prog 7 #[v, v1] w fun e w' => e = .returned (.bool true) ∧ Below w.heap.size w w' := by
  obtain ⟨a1, c1, rfl, -⟩ := id hx1
  have HO := Lib.hid (fun w h => Open_any v l w h hs hr)
  have hB := Below.refl w.heap.size w
  by_cases hlen0 : 30 < xs.length
  · have h1 : (30 : Int) < (xs.length : Int) := by omega
    clear hlen0
    go_enter Try.func7, Try.ntmps7
    go_wp2_with fail
    refine (awake_any _).mono ?_
    rintro e w1 ⟨rfl, hb⟩
    replace hB := hB.trans (hb.mono hB.size)
    clear hb
    go_wp2_with fail
    refine (awake_any _).mono ?_
    rintro e w2 ⟨rfl, hb⟩
    replace hB := hB.trans (hb.mono hB.size)
    clear hb
    go_wp2_with fail
    go_ret
    exact ⟨rfl, hB⟩
  · have h5 : ¬ (30 : Int) < (xs.length : Int) := by omega
    go_enter Try.func7, Try.ntmps7
    go_wp2_with fail
    refine (awake_any _).mono ?_
    rintro e w1 ⟨rfl, hb⟩
    replace hB := hB.trans (hb.mono hB.size)
    clear hb
    go_wp2_with fail
    refine (HO.out _ (h.below hB)).mono ?_
    rintro e w2 ⟨h2, hb⟩
    have hs1 := hB.size
    rcases h2 with ⟨hg8, p, g, rfl, hP, hp, hg⟩ | ⟨_, rfl⟩
    · replace hB := hB.trans (hb.mono hB.size)
      have hZ : IsT (w2.alloc (.cells tzero 29)) w2.heap.size 0 (fun _ => 0) (fun _ => false) := IsT.new w2 0 (fun _ => 0) (fun _ => false)
      have hpl := hP.ltp
      have hgl := hP.ltg
      replace hB := hB.alloc hB.size (.cells tzero 29)
      replace hP := hP.alloc (.cells tzero 29)
      have OK := Lib.hid (TopoOk.new hg8 hs)
      generalize hU : uni l = U at *
      clear hU hg8
      generalize hb6 : w2.heap.size = b at *
      go_wp2_with (first | (refine wpList_alloc29 rfl rfl ?_; try rw [hb6]) | (refine wpList_store29 rfl _ _ rfl b (l.length : Int) 0 (fun i => ofI l (i : Int)) (fun _ => 0) U.testBit (fun _ => false) rfl rfl hZ ?_; clear hZ; intro w3 h8 t3))
      have hS : St w p g b l w3 U U := ⟨OK.out, hP.turn t3 (by omega) (by omega), h8, hB.trans (t3.below (by omega)), by omega, by omega, by omega, by omega⟩
      clear OK h8 t3 hP hB hb hpl hgl hp hg hb6 hs1
      go_loopw [37] (fun i wr => ∃ (k on : Nat), k ≤ xs.length ∧ i = .int .i64 k ∧ Hid (St w p g b l wr on on)) (fun i _ => xs.length - (intOf i).toNat)
      case atStart => exact ⟨0, U, by omega, rfl, Lib.hid hS⟩
      case round =>
        clear hS
        obtain ⟨k, on, hk, rfl, HS⟩ := hrel
        have hS := HS.out
        clear HS
        by_cases hlt : k < xs.length
        · obtain ⟨bx, off, rfl, hx0, hx1⟩ := (hS.row hx1).at hlt
          generalize hxx : xs.getD k (0, false) = x at *
          clear hxx
          have hb0 := hS.lt
          have hA := IsA.new wr 0 false
          go_wp2_with (first | (refine wpList_alloc46 rfl rfl ?_) | (refine wpList_store46 rfl _ _ rfl wr.heap.size x.1 0 x.2 false rfl rfl hA ?_; clear hA; intro w4 hA t4; replace hS := (hS.alloc (.cells #[.int .i64 0, .bool false] 46)).turn t4 hb0; clear t4) | (refine wpList_load29 rfl _ rfl b _ _ _ rfl hS.ref ?_) | (refine wpList_load46 rfl _ rfl wr.heap.size _ _ rfl hA ?_))
          clear hA hx0 hx1 hb0
          refine (do_any p g l on x _ hS.topo hS.ok).mono ?_
          rintro e w5 ⟨rfl, hP, ho⟩
          replace hS := hS.act (hS.ok.act x) hP ho
          clear ho hP
          generalize hN : actN l on x = N at *
          clear hN
          go_wp2_with (first | (refine wpList_store29 rfl _ _ rfl b (l.length : Int) (l.length : Int) (fun i => ofI l (i : Int)) (fun i => ofI l (i : Int)) N.testBit on.testBit rfl rfl hS.ref ?_; intro w7 h7 t3; replace hS := hS.set t3 h7; clear t3 h7))
          exact ⟨⟨k + 1, N, by omega, by go_num, Lib.hid hS⟩, by simp [intOf]; omega⟩
        · skip
          go_wp2_with fail
          go_loopw [49] (fun i wr => ∃ c : Nat, c ≤ 64 ∧ i = .int .i64 c ∧ Hid (St w p g b l wr on on)) (fun i _ => 64 - (intOf i).toNat)
          case atStart => exact ⟨0, by omega, rfl, Lib.hid hS⟩
          case round =>
            clear hS
            obtain ⟨c, hc, rfl, HS⟩ := hrel
            have hS := HS.out
            clear HS
            by_cases hcl : c < 64
            · go_wp2_with fail
              refine (Of_all p g l on (c : Int) _ hS.topo hS.ok).mono ?_
              rintro e w4 ⟨rfl, hb⟩
              replace hS := hS.below hb
              clear hb
              go_wp2_with fail
              refine (Domains_any p g l on _ hS.topo).mono ?_
              rintro e w5 ⟨rfl, rfl⟩
              go_wp2_with fail
              go_loopw [13, 60] (fun m i wr => ∃ d : Nat, d ≤ l.length ∧ i = .int .i64 d ∧ m = .int .i64 (cnt l (c : Int) d) ∧ Hid (St w p g b l wr on on)) (fun _ i _ => l.length - (intOf i).toNat)
              case atStart => exact ⟨0, by omega, rfl, by simp [cnt], Lib.hid hS⟩
              case round =>
                clear hS
                obtain ⟨d, hd, rfl, rfl, HS⟩ := hrel
                have hS := HS.out
                clear HS
                by_cases hdl : d < l.length
                · skip
                  have hAA : Hid (pickN l on d false = l.getD d 0) := Lib.hid (by simp [pickN])
                  have hBB : Hid (pickN l on d true = l.getD d 0 &&& on) := Lib.hid (by simp [pickN])
                  have hAl := hS.ok.small d
                  have hBl := and_lt (b := on) hAl
                  have HI := Lib.hid (in_and (l.getD d 0) on hAl)
                  have HD := hS.ok.good.dom (c := (c : Int)) hdl
                  by_cases hdd : domN l (c : Int) = d
                  · have HA := Lib.hid (HD.2 hdd)
                    have HC : Hid (hasB (l.getD d 0 &&& on) (c : Int) = hasB on (c : Int)) := Lib.hid (has_and HA.out)
                    have hon : onB l on (c : Int) = hasB on (c : Int) := by unfold onB; rw [hdd]; simp [hdl]
                    have hE : ofE l (c : Int) = 0 := by unfold ofE; rw [if_pos (by omega)]
                    have hN : ofN l (c : Int) = d := by unfold ofN; rw [if_pos (by omega), hdd]
                    have hc1 : cnt l (c : Int) d = 0 := by unfold cnt; rw [if_neg (by omega)]
                    have HC2 : Hid (cnt l (c : Int) (d + 1) = 1) := Lib.hid (by unfold cnt; rw [if_pos (by omega)])
                    have HO := Lib.hid (On_any p g l on (c : Int) wr hS.topo hS.ok)
                    rw [hon] at HO
                    rw [hE, hN, hc1]
                    clear hE hN hc1 hon HD
                    generalize hasB on (c : Int) = t at *
                    generalize l.getD d 0 = A at *
                    generalize A &&& on = B at *
                    have htt : (t != t) = false := bne_self_eq_false t
                    go_wp2_with fail
                    refine (Cores_all p g l on (d : Int) _ hS.topo).mono ?_
                    rintro e w5 ⟨rfl, rfl⟩
                    rw [(tell_yes (on := on) hdl false).1, (tell_yes (on := on) hdl false).2, show pickN l on d false = A from hAA.out]
                    go_wp2_with fail
                    refine (Online_all p g l on (d : Int) _ hS.topo).mono ?_
                    rintro e w6 ⟨rfl, rfl⟩
                    rw [(tell_yes (on := on) hdl true).1, (tell_yes (on := on) hdl true).2, show pickN l on d true = B from hBB.out]
                    go_wp2_with fail
                    refine (Has_is A (c : Int) _ _ hAl HA).mono ?_
                    rintro e w7 ⟨rfl, rfl⟩
                    go_wp2_with fail
                    refine (Has_is A (c : Int) _ _ hAl HA).mono ?_
                    rintro e w8 ⟨rfl, rfl⟩
                    go_wp2_with fail
                    refine (In_is B A true _ hBl hAl HI).mono ?_
                    rintro e w9 ⟨rfl, rfl⟩
                    go_wp2_with fail
                    refine (Has_is B (c : Int) _ _ hBl HC).mono ?_
                    rintro e w10 ⟨rfl, rfl⟩
                    go_wp2_with fail
                    refine (Has_is A (c : Int) _ _ hAl HA).mono ?_
                    rintro e w11 ⟨rfl, rfl⟩
                    go_wp2_with fail
                    refine HO.out.mono ?_
                    rintro e w12 ⟨rfl, hb⟩
                    replace hS := hS.below hb
                    go_wp2_with fail
                    exact ⟨⟨d + 1, by omega, by go_num, by rw [HC2.out], Lib.hid hS⟩, by simp [intOf]; omega⟩
                  · have HA : Hid (hasB (l.getD d 0) (c : Int) = false) := Lib.hid (by
                      cases h : hasB (l.getD d 0) (c : Int)
                      · rfl
                      · exact absurd (HD.1 h) hdd)
                    have HC : Hid (hasB (l.getD d 0 &&& on) (c : Int) = false) := Lib.hid (has_and_no hcl HA.out)
                    have HC2 : Hid (cnt l (c : Int) (d + 1) = cnt l (c : Int) d) := Lib.hid (by
                      unfold cnt
                      by_cases h1 : domN l (c : Int) < d
                      · rw [if_pos h1, if_pos (by omega)]
                      · rw [if_neg h1, if_neg (by omega)])
                    have hEN : (ofE l (c : Int) == 0) = false ∨ ((ofE l (c : Int) == 0) = true ∧ (ofN l (c : Int) == (d : Int)) = false) := by
                      unfold ofE ofN
                      by_cases h1 : domN l (c : Int) < l.length
                      · right
                        rw [if_pos h1, if_pos h1]
                        exact ⟨rfl, by rw [beq_eq_false_iff_ne]; omega⟩
                      · left
                        rw [if_neg h1]
                        rfl
                    generalize hcc : cnt l (c : Int) d = C at *
                    clear hcc
                    clear HD
                    generalize ofE l (c : Int) = E at *
                    generalize ofN l (c : Int) = N at *
                    generalize l.getD d 0 = A at *
                    generalize A &&& on = B at *
                    have HC3 := HC2
                    clear HC2 hdd
                    rcases hEN with hE | ⟨hE, hN⟩
                    all_goals
                      go_wp2_with fail
                      refine (Cores_all p g l on (d : Int) _ hS.topo).mono ?_
                      rintro e w5 ⟨rfl, rfl⟩
                      rw [(tell_yes (on := on) hdl false).1, (tell_yes (on := on) hdl false).2, show pickN l on d false = A from hAA.out]
                      go_wp2_with fail
                      refine (Online_all p g l on (d : Int) _ hS.topo).mono ?_
                      rintro e w6 ⟨rfl, rfl⟩
                      rw [(tell_yes (on := on) hdl true).1, (tell_yes (on := on) hdl true).2, show pickN l on d true = B from hBB.out]
                      go_wp2_with fail
                      refine (Has_is A (c : Int) _ _ hAl HA).mono ?_
                      rintro e w7 ⟨rfl, rfl⟩
                      go_wp2_with fail
                      refine (Has_is A (c : Int) _ _ hAl HA).mono ?_
                      rintro e w8 ⟨rfl, rfl⟩
                      go_wp2_with fail
                      refine (In_is B A true _ hBl hAl HI).mono ?_
                      rintro e w9 ⟨rfl, rfl⟩
                      go_wp2_with fail
                      refine (Has_is B (c : Int) _ _ hBl HC).mono ?_
                      rintro e w10 ⟨rfl, rfl⟩
                      go_wp2_with fail
                      refine (Has_is A (c : Int) _ _ hAl HA).mono ?_
                      rintro e w11 ⟨rfl, rfl⟩
                      go_wp2_with fail
                      exact ⟨⟨d + 1, by omega, by go_num, by rw [HC3.out], Lib.hid hS⟩, by simp [intOf]; omega⟩
                · obtain rfl : d = l.length := by omega
                  by_cases h1 : domN l (c : Int) < l.length
                  · have hE : ofE l (c : Int) = 0 := by unfold ofE; rw [if_pos h1]
                    have hC : cnt l (c : Int) l.length = 1 := by unfold cnt; rw [if_pos h1]
                    rw [hE, hC]
                    clear hE hC h1
                    go_wp2_with fail
                    exact ⟨⟨c + 1, by omega, by go_num, Lib.hid hS⟩, by simp [intOf]; omega⟩
                  · have hE : ofE l (c : Int) = 2 := by unfold ofE; rw [if_neg h1]
                    have hC : cnt l (c : Int) l.length = 0 := by unfold cnt; rw [if_neg h1]
                    rw [hE, hC]
                    clear hE hC h1
                    go_wp2_with fail
                    exact ⟨⟨c + 1, by omega, by go_num, Lib.hid hS⟩, by simp [intOf]; omega⟩
            · go_wp2_with fail
              replace hS := hS.drew
              have hc0 := IsT.many hS.ref
              refine Rd.region (fun X => X.cell? ⟨b, 0, none⟩ = some (.int .i64 (l.length : Int))) 6 [0, 1, 2, 4, 5] [0, 1, 2, 3, 4, 5] (by kernel_rfl) (by kernel_rfl) (by kernel_rfl) (by kernel_rfl) rfl hc0 ?_
              generalize wr.drew = w4 at *
              refine Rd.seq_float (.pointer (some ⟨b, 0, none⟩)) (by simp only [List.getElem?_toArray, List.getElem?_cons_zero]; rfl) rfl (by rfl) (fun X _ => by go_simp) ?_
              simp only [Act.put, List.setIfInBounds_toArray, List.set_cons_succ, List.set_cons_zero]
              refine Rd.seq_float (.int .i64 (l.length : Int)) (by simp only [List.getElem?_toArray, List.getElem?_cons_succ, List.getElem?_cons_zero]; rfl) rfl (by rfl) (fun X hX => by go_simp) ?_
              simp only [Act.put, List.setIfInBounds_toArray, List.set_cons_succ, List.set_cons_zero]
              refine Rd.seq_float (.pointer (some ⟨p, 0, none⟩)) (by simp only [List.getElem?_toArray, List.getElem?_cons_succ, List.getElem?_cons_zero]; rfl) rfl (by rfl) (fun X _ => by go_simp) ?_
              simp only [Act.put, List.setIfInBounds_toArray, List.set_cons_succ, List.set_cons_zero]
              refine Rd.seq_move (by simp only [List.getElem?_toArray, List.getElem?_cons_succ, List.getElem?_cons_zero]; rfl) rfl (by rfl) (fun K hK => ?_)
              go_simp
              refine (Domains_any p g l on _ hS.topo).mono ?_
              rintro e w5 ⟨rfl, rfl⟩
              refine hK _ _ (fun _ => hc0) ?_
              clear hK K
              refine Rd.seq_float (.bool true) (by simp only [List.getElem?_toArray, List.getElem?_cons_succ, List.getElem?_cons_zero]; rfl) rfl (by rfl) (fun X _ => by go_simp) ?_
              simp only [Act.put, List.setIfInBounds_toArray, List.set_cons_succ, List.set_cons_zero]
              refine Rd.seq_float (.bool true) (by simp only [List.getElem?_toArray, List.getElem?_cons_succ, List.getElem?_cons_zero]; rfl) rfl (by rfl) (fun X _ => by go_simp) ?_
              simp only [Act.put, List.setIfInBounds_toArray, List.set_cons_succ, List.set_cons_zero]
              refine Rd.seq_end ?_
              go_wp2_with fail
              go_ret
              exact ⟨rfl, hS.bel⟩
    · replace hB := hB.trans (hb.mono hB.size)
      have hZ : IsT (w2.alloc (.cells tzero 29)) w2.heap.size 0 (fun _ => 0) (fun _ => false) := IsT.new w2 0 (fun _ => 0) (fun _ => false)
      have hbs := hB.size
      replace hB := hB.alloc hB.size (.cells tzero 29)
      go_wp2_with (first | (refine wpList_alloc29 rfl rfl ?_) | (refine wpList_store29 rfl _ _ rfl w2.heap.size 0 0 (fun _ => 0) (fun _ => 0) (fun _ => false) (fun _ => false) rfl rfl hZ ?_; clear hZ; intro w3 h8 t3; replace hB := hB.trans (t3.below hbs)))
      go_ret
      exact ⟨rfl, hB⟩
end Go.Proofs.Ytbeklkgoiigccaa
