/-
  TableOnce: no id is given twice, nor a slot to two at a time. No condition.
-/
import Derived.Test.YthopmkgbhfkeoaaUr
namespace Go.Proofs.Ythopmkgbhfkeoaa
open Go.RowKit

set_option maxRecDepth 100000 in
set_option maxHeartbeats 4000000 in
theorem once_any (room : Nat) (v : Value) (xs : List Nat) (w : World) (hr : room < 256) (hx : RowY w v xs) (hs : ∀ j, xs.getD j 0 < 256) :
    Calls Try.prog 4 #[.int .u8 (room : Int), v] w fun e w' => e = .returned (.bool true) ∧ Below w.heap.size w w' := by
  obtain ⟨a1, c1, rfl⟩ := hx.sl
  have HX := Lib.hid hx
  clear hx
  have hmm := @run_makeMap Try.prog
  have hB := Below.refl w.heap.size w
  by_cases hlen : 120 < xs.length
  · have h1 : (120 : Int) < (xs.length : Int) := by omega
    clear hlen
    go_enter Try.func4, Try.ntmps4
    go_wp2_with fail
    refine (awake_any _).mono ?_
    rintro e w1 ⟨rfl, hb⟩
    replace hB := hB.trans (hb.mono hB.size)
    clear hb
    go_wp2_with fail
    refine (awake_any _).mono ?_
    rintro e w2 ⟨rfl, hb⟩
    replace hB := hB.trans (hb.mono hB.size)
    clear hb
    go_wp2_with fail
    go_ret
    exact ⟨rfl, hB⟩
  · have h1 : ¬ (120 : Int) < (xs.length : Int) := by omega
    have hn : Hid ((1 : Int) + (room : Int) % 64 = ((1 + room % 64 : Nat) : Int)) := Lib.hid (by omega)
    have hwr : IntKind.i64.wrap ((1 : Int) + (room : Int) % 64) = (1 : Int) + (room : Int) % 64 := IntWalk.i64_in _ (by omega)
    have hq1 : 1 ≤ 1 + room % 64 := by omega
    have hq64 : 1 + room % 64 ≤ 64 := by omega
    go_enter Try.func4, Try.ntmps4
    go_wp2_with fail
    refine (awake_any _).mono ?_
    rintro e w1 ⟨rfl, hb⟩
    replace hB := hB.trans (hb.mono hB.size)
    clear hb
    go_wp2_with fail
    rw [hn.out]
    clear hn hwr hr
    generalize 1 + room % 64 = n at *
    refine (New_yes n _ hq1 hq64).mono ?_
    rintro e w2 ⟨⟨p, g, rfl, hT, hp, hg⟩, hb⟩
    have HS := Lib.hid ((Sp.new (W := w) hq1 hq64 hT (hB.trans (hb.mono hB.size)) (Nat.le_trans hB.size hp) (Nat.le_trans hB.size hg)).alloc (.map #[] 0))
    have HG := Lib.hid (Seen.made w2)
    have hpbg : p < w2.heap.size := hT.ltp
    have hgbg : g < w2.heap.size := hT.ltg
    clear hb hT hp hg hB
    generalize List.replicate n (0 : Int) = l0 at *
    go_wp2_with fail
    generalize w2.alloc (.map #[] 0) = w3 at *
    generalize w2.heap.size = bg at *
    go_loopw [44] (fun i wr => ∃ (k : Nat) (l : List Int) (m : Int) (S : Int → Bool), k ≤ xs.length ∧ i = .int .i64 k ∧ Hid (Sp w p g n wr l m) ∧ Hid (Seen wr bg k S) ∧ Hid (∀ x, S x = true → x ≤ m)) (fun i _ => xs.length - (intOf i).toNat)
    case atStart => exact ⟨0, l0, 0, _, by omega, rfl, HS, HG, Lib.hid (fun x hx => by cases hx)⟩
    case round =>
      clear HS HG
      obtain ⟨k, l, m, S, hk, rfl, HS, HG, HSm⟩ := hrel
      by_cases hlt : k < xs.length
      · obtain ⟨bx, off, rfl, hx0⟩ := (HX.out.below HS.out.bel).at hlt
        have hxs := hs k
        generalize xs.getD k 0 = d at *
        have hmr := HS.out.ok.m0
        go_wp2_with fail
        clear hx0
        cases hadd : addB l m with
        | true =>
          have HA := Lib.hid (add_fact hadd)
          clear hadd
          refine (Add_any p g l m _ HS.out.tab HS.out.ok).mono ?_
          rw [HA.out.1, HA.out.2.1, HA.out.2.2.1]
          rintro e w8 ⟨rfl, hT, ho⟩
          replace HS := Lib.hid (HS.out.act HS.out.ok.add (addL_len l m) hT ho)
          replace HG := Lib.hid (HG.out.only ho (by omega) (by omega))
          clear ho hT
          have hS0 : S (m + 1) = false := by
            cases hq : S (m + 1) with
            | false => rfl
            | true => exact absurd (HSm.out _ hq) (by omega)
          have hgood : m + 1 ≤ 2147483648 := by have := HS.out.ok.mM; rw [HA.out.2.2.2.1] at this; exact this
          have HI : Hid (idI (addL l m) (find l 0 : Int) = m + 1) := Lib.hid HA.out.2.2.2.2
          have HM : Hid (addM l m = m + 1) := Lib.hid HA.out.2.2.2.1
          clear HA
          generalize addL l m = l1 at *
          generalize hm1 : addM l m = m1 at *
          generalize find l 0 = sl at *
          go_wp2_with (first | (at_lookup; refine wpList_seen (by rfl) _ _ rfl bg k S (m + 1) rfl rfl HG.out (by omega) ?_; rw [hS0]))
          refine (Id_any p g l1 m1 (sl : Int) _ HS.out.tab).mono ?_
          rw [HI.out]
          rintro e w9 ⟨rfl, rfl⟩
          have HS2 : Hid (∀ x, ((x == m + 1) || S x) = true → x ≤ m1) := Lib.hid (fun x hx => by
            rw [HM.out]
            rcases Bool.or_eq_true_iff.1 hx with h | h
            · have := eq_of_beq h; omega
            · have := HSm.out x h; omega)
          clear HI hS0
          go_wp2_with (first | (at_mapUpdate; refine wpList_note rfl _ _ _ rfl bg k S (m + 1) rfl rfl rfl HG.out (by unfold maxLen; omega) (by omega) ?_; intro w11 hG11 g11; replace HS := Lib.hid (HS.out.grown g11 hpbg hgbg); replace HG := Lib.hid hG11; clear hG11 g11))
          clear HSm HM
          generalize hS1 : (fun z => z == m + 1 || S z) = S1 at *
          replace HS2 : Hid (∀ x, S1 x = true → x ≤ m1) := Lib.hid (fun x hx => HS2.out x (by rw [← hS1] at hx; exact hx))
          clear hS1
          refine (Ids_any p g l1 m1 _ HS.out.tab HS.out.n1 HS.out.n64).mono ?_
          rintro e w12 ⟨⟨a9, c9, rfl, hr9⟩, hb⟩
          replace HS := Lib.hid (HS.out.below hb)
          replace HG := Lib.hid (HG.out.below hb)
          clear hb
          have hltg : bg < w12.heap.size := HG.out.lt
          have hltp : p < w12.heap.size := HS.out.tab.ltp
          have hlgg : g < w12.heap.size := HS.out.tab.ltg
          have HR := Lib.hid (hr9.alloc (.map #[] 0))
          replace HS := Lib.hid (HS.out.alloc (.map #[] 0))
          replace HG := Lib.hid (HG.out.alloc (.map #[] 0))
          have H2 := Lib.hid (Seen.made w12)
          clear hr9
          have HF := Lib.hid (fun j hj => ids_fact HS.out.ok (j := j) hj)
          have HAP := Lib.hid (fun (i j : Nat) (hij : i < j) (hj : j < (idsN l1).length) => slots_apart HS.out.ok hij hj)
          have hil := ids_le l1
          have hn64 := HS.out.n64
          go_wp2_with fail
          generalize w12.alloc (.map #[] 0) = w13 at *
          generalize w12.heap.size = bs at *
          generalize w11.heap.size = B9 at *
          go_loopw [75] (fun i wr => ∃ (j : Nat) (T : Int → Bool), j ≤ (idsN l1).length ∧ i = .int .i64 j ∧ Hid (Sp w p g n wr l1 m1) ∧ Hid (Seen wr bg (k + 1) S1) ∧ Hid (Seen wr bs j T) ∧ Hid (RowO wr B9 (.slice a9 (idsN l1).length c9) (idsN l1)) ∧ Hid (∀ y, T y = true → ∃ i, i < j ∧ y = (find l1 ((idsN l1).getD i 0) : Int))) (fun i _ => (idsN l1).length - (intOf i).toNat)
          case atStart => exact ⟨0, _, by omega, rfl, HS, HG, H2, HR, Lib.hid (fun y hy => by cases hy)⟩
          case round =>
            clear HS HG H2 HR
            obtain ⟨j, T, hj, rfl, HS, HG, H2, HR, HT⟩ := hrel
            by_cases hjl : j < (idsN l1).length
            · obtain ⟨bi, rfl, -, -, hci, -⟩ := HR.out.at hjl
              have HJ := Lib.hid (HF.out j hjl)
              have hq : T (find l1 ((idsN l1).getD j 0) : Int) = false := by
                cases hq : T (find l1 ((idsN l1).getD j 0) : Int) with
                | false => rfl
                | true =>
                  obtain ⟨i, hi, e⟩ := HT.out _ hq
                  exact absurd (by omega) (HAP.out i j hi hjl)
              have hql := find_le l1 ((idsN l1).getD j 0)
              have HTn : Hid (∀ y, ((y == (find l1 ((idsN l1).getD j 0) : Int)) || T y) = true → ∃ i, i < j + 1 ∧ y = (find l1 ((idsN l1).getD i 0) : Int)) := Lib.hid (fun y hy => by
                rcases Bool.or_eq_true_iff.1 hy with h | h
                · exact ⟨j, by omega, eq_of_beq h⟩
                · obtain ⟨i, hi, e⟩ := HT.out y h
                  exact ⟨i, by omega, e⟩)
              clear HT
              generalize (idsN l1).getD j 0 = x at hci HJ hq hql HTn
              generalize find l1 x = q at *
              go_wp2_with fail
              refine (Slot_any p g l1 m1 x _ HS.out.tab HS.out.n64).mono ?_
              rw [HJ.out.1, HJ.out.2.1]
              rintro e w14 ⟨rfl, rfl⟩
              clear hci
              go_wp2_with (first | (at_lookup; refine wpList_seen (by rfl) _ _ rfl bs j T (q : Int) rfl rfl H2.out (by omega) ?_; rw [hq]) | (at_mapUpdate; refine wpList_note rfl _ _ _ rfl bs j T (q : Int) rfl rfl rfl H2.out (by unfold maxLen; omega) (by omega) ?_; intro w15 hN gN))
              exact ⟨⟨j + 1, _, by omega, by go_num, Lib.hid (HS.out.grown gN hltp hlgg), Lib.hid (HG.out.grown gN (by intro e; have := Option.some.inj e; omega)), Lib.hid hN, Lib.hid (HR.out.grownMap H2.out gN), HTn⟩, by simp [intOf]; omega⟩
            · clear H2 HT HAP
              by_cases hd : d % 3 = 0
              · have hd3 : ¬ (0 : Int) < (d : Int) % 3 := by omega
                go_wp2_with fail
                exact ⟨⟨k + 1, l1, m1, S1, by omega, by go_num, HS, HG, HS2⟩, by simp [intOf]; omega⟩
              · have hd3 : (0 : Int) < (d : Int) % 3 := by omega
                by_cases hle : (idsN l1).length = 0
                · have hle2 : ¬ (0 : Int) < ((idsN l1).length : Int) := by omega
                  go_wp2_with fail
                  exact ⟨⟨k + 1, l1, m1, S1, by omega, by go_num, HS, HG, HS2⟩, by simp [intOf]; omega⟩
                · have hle2 : (0 : Int) < ((idsN l1).length : Int) := by omega
                  have htl : d / 3 % (idsN l1).length < (idsN l1).length := Nat.mod_lt _ (by omega)
                  have hte : (d : Int) / 3 % ((idsN l1).length : Int) = ((d / 3 % (idsN l1).length : Nat) : Int) := by rw [Int.natCast_emod, Int.natCast_ediv]; rfl
                  generalize d / 3 % (idsN l1).length = t at *
                  obtain ⟨bi, rfl, -, -, hci, -⟩ := HR.out.at htl
                  have HJ := Lib.hid (HF.out t htl)
                  generalize (idsN l1).getD t 0 = x at hci HJ
                  go_wp2_with fail
                  refine (Drop_any p g l1 m1 x _ HS.out.tab HS.out.n64).mono ?_
                  rw [HJ.out.2.1]
                  rintro e w16 ⟨rfl, hT, ho⟩
                  replace HS := Lib.hid (HS.out.act (HS.out.ok.drop x) (dropL_len l1 x) hT ho)
                  replace HG := Lib.hid (HG.out.only ho (by omega) (by omega))
                  clear ho hT hci
                  go_wp2_with fail
                  exact ⟨⟨k + 1, dropL l1 x, m1, S1, by omega, by go_num, HS, HG, HS2⟩, by simp [intOf]; omega⟩
        | false =>
          have HA := Lib.hid (add_not hadd)
          clear hadd
          refine (Add_any p g l m _ HS.out.tab HS.out.ok).mono ?_
          rw [HA.out.1, HA.out.2.1, HA.out.2.2.1]
          rintro e w8 ⟨rfl, hT, ho⟩
          replace HS := Lib.hid (HS.out.act HS.out.ok.add (addL_len l m) hT ho)
          replace HG := Lib.hid (HG.out.only ho (by omega) (by omega))
          clear ho hT
          have HM : Hid (addM l m = m) := Lib.hid HA.out.2.2.2.1
          have hm0 := HS.out.ok.m0
          clear HA
          generalize addL l m = l1 at *
          generalize hm1 : addM l m = m1 at *
          have HS2 : Hid (∀ x, ((x == 0) || S x) = true → x ≤ m1) := Lib.hid (fun x hx => by
            rw [HM.out]
            rw [HM.out] at hm0
            rcases Bool.or_eq_true_iff.1 hx with h | h
            · have := eq_of_beq h; omega
            · have := HSm.out x h; omega)
          go_wp2_with (first | (at_mapUpdate; refine wpList_note rfl _ _ _ rfl bg k S 0 rfl rfl rfl HG.out (by unfold maxLen; omega) (by omega) ?_; intro w11 hG11 g11; replace HS := Lib.hid (HS.out.grown g11 hpbg hgbg); replace HG := Lib.hid hG11; clear hG11 g11))
          clear HSm HM
          generalize hS1 : (fun z => z == 0 || S z) = S1 at *
          replace HS2 : Hid (∀ x, S1 x = true → x ≤ m1) := Lib.hid (fun x hx => HS2.out x (by rw [← hS1] at hx; exact hx))
          clear hS1
          refine (Ids_any p g l1 m1 _ HS.out.tab HS.out.n1 HS.out.n64).mono ?_
          rintro e w12 ⟨⟨a9, c9, rfl, hr9⟩, hb⟩
          replace HS := Lib.hid (HS.out.below hb)
          replace HG := Lib.hid (HG.out.below hb)
          clear hb
          have hltg : bg < w12.heap.size := HG.out.lt
          have hltp : p < w12.heap.size := HS.out.tab.ltp
          have hlgg : g < w12.heap.size := HS.out.tab.ltg
          have HR := Lib.hid (hr9.alloc (.map #[] 0))
          replace HS := Lib.hid (HS.out.alloc (.map #[] 0))
          replace HG := Lib.hid (HG.out.alloc (.map #[] 0))
          have H2 := Lib.hid (Seen.made w12)
          clear hr9
          have HF := Lib.hid (fun j hj => ids_fact HS.out.ok (j := j) hj)
          have HAP := Lib.hid (fun (i j : Nat) (hij : i < j) (hj : j < (idsN l1).length) => slots_apart HS.out.ok hij hj)
          have hil := ids_le l1
          have hn64 := HS.out.n64
          go_wp2_with fail
          generalize w12.alloc (.map #[] 0) = w13 at *
          generalize w12.heap.size = bs at *
          generalize w11.heap.size = B9 at *
          go_loopw [75] (fun i wr => ∃ (j : Nat) (T : Int → Bool), j ≤ (idsN l1).length ∧ i = .int .i64 j ∧ Hid (Sp w p g n wr l1 m1) ∧ Hid (Seen wr bg (k + 1) S1) ∧ Hid (Seen wr bs j T) ∧ Hid (RowO wr B9 (.slice a9 (idsN l1).length c9) (idsN l1)) ∧ Hid (∀ y, T y = true → ∃ i, i < j ∧ y = (find l1 ((idsN l1).getD i 0) : Int))) (fun i _ => (idsN l1).length - (intOf i).toNat)
          case atStart => exact ⟨0, _, by omega, rfl, HS, HG, H2, HR, Lib.hid (fun y hy => by cases hy)⟩
          case round =>
            clear HS HG H2 HR
            obtain ⟨j, T, hj, rfl, HS, HG, H2, HR, HT⟩ := hrel
            by_cases hjl : j < (idsN l1).length
            · obtain ⟨bi, rfl, -, -, hci, -⟩ := HR.out.at hjl
              have HJ := Lib.hid (HF.out j hjl)
              have hq : T (find l1 ((idsN l1).getD j 0) : Int) = false := by
                cases hq : T (find l1 ((idsN l1).getD j 0) : Int) with
                | false => rfl
                | true =>
                  obtain ⟨i, hi, e⟩ := HT.out _ hq
                  exact absurd (by omega) (HAP.out i j hi hjl)
              have hql := find_le l1 ((idsN l1).getD j 0)
              have HTn : Hid (∀ y, ((y == (find l1 ((idsN l1).getD j 0) : Int)) || T y) = true → ∃ i, i < j + 1 ∧ y = (find l1 ((idsN l1).getD i 0) : Int)) := Lib.hid (fun y hy => by
                rcases Bool.or_eq_true_iff.1 hy with h | h
                · exact ⟨j, by omega, eq_of_beq h⟩
                · obtain ⟨i, hi, e⟩ := HT.out y h
                  exact ⟨i, by omega, e⟩)
              clear HT
              generalize (idsN l1).getD j 0 = x at hci HJ hq hql HTn
              generalize find l1 x = q at *
              go_wp2_with fail
              refine (Slot_any p g l1 m1 x _ HS.out.tab HS.out.n64).mono ?_
              rw [HJ.out.1, HJ.out.2.1]
              rintro e w14 ⟨rfl, rfl⟩
              clear hci
              go_wp2_with (first | (at_lookup; refine wpList_seen (by rfl) _ _ rfl bs j T (q : Int) rfl rfl H2.out (by omega) ?_; rw [hq]) | (at_mapUpdate; refine wpList_note rfl _ _ _ rfl bs j T (q : Int) rfl rfl rfl H2.out (by unfold maxLen; omega) (by omega) ?_; intro w15 hN gN))
              exact ⟨⟨j + 1, _, by omega, by go_num, Lib.hid (HS.out.grown gN hltp hlgg), Lib.hid (HG.out.grown gN (by intro e; have := Option.some.inj e; omega)), Lib.hid hN, Lib.hid (HR.out.grownMap H2.out gN), HTn⟩, by simp [intOf]; omega⟩
            · clear H2 HT HAP
              by_cases hd : d % 3 = 0
              · have hd3 : ¬ (0 : Int) < (d : Int) % 3 := by omega
                go_wp2_with fail
                exact ⟨⟨k + 1, l1, m1, S1, by omega, by go_num, HS, HG, HS2⟩, by simp [intOf]; omega⟩
              · have hd3 : (0 : Int) < (d : Int) % 3 := by omega
                by_cases hle : (idsN l1).length = 0
                · have hle2 : ¬ (0 : Int) < ((idsN l1).length : Int) := by omega
                  go_wp2_with fail
                  exact ⟨⟨k + 1, l1, m1, S1, by omega, by go_num, HS, HG, HS2⟩, by simp [intOf]; omega⟩
                · have hle2 : (0 : Int) < ((idsN l1).length : Int) := by omega
                  have htl : d / 3 % (idsN l1).length < (idsN l1).length := Nat.mod_lt _ (by omega)
                  have hte : (d : Int) / 3 % ((idsN l1).length : Int) = ((d / 3 % (idsN l1).length : Nat) : Int) := by rw [Int.natCast_emod, Int.natCast_ediv]; rfl
                  generalize d / 3 % (idsN l1).length = t at *
                  obtain ⟨bi, rfl, -, -, hci, -⟩ := HR.out.at htl
                  have HJ := Lib.hid (HF.out t htl)
                  generalize (idsN l1).getD t 0 = x at hci HJ
                  go_wp2_with fail
                  refine (Drop_any p g l1 m1 x _ HS.out.tab HS.out.n64).mono ?_
                  rw [HJ.out.2.1]
                  rintro e w16 ⟨rfl, hT, ho⟩
                  replace HS := Lib.hid (HS.out.act (HS.out.ok.drop x) (dropL_len l1 x) hT ho)
                  replace HG := Lib.hid (HG.out.only ho (by omega) (by omega))
                  clear ho hT hci
                  go_wp2_with fail
                  exact ⟨⟨k + 1, dropL l1 x, m1, S1, by omega, by go_num, HS, HG, HS2⟩, by simp [intOf]; omega⟩
      · go_wp2_with fail
        go_ret
        exact ⟨rfl, HS.out.bel⟩
end Go.Proofs.Ythopmkgbhfkeoaa
