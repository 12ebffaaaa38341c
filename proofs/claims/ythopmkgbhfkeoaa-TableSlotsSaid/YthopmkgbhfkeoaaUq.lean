/-
  TableSlots: each thing's slot has its id, no free slot has one; the ids rise. No condition.
-/
import Derived.Test.YthopmkgbhfkeoaaUp
namespace Go.Proofs.Ythopmkgbhfkeoaa
open Go.RowKit

set_option maxRecDepth 100000 in
set_option maxHeartbeats 4000000 in
theorem slots_any (room : Nat) (v : Value) (xs : List (Nat × Int)) (w : World) (hr : room < 256) (hx : RowA w v xs) (hs : ∀ j, (xs.getD j (0, 0)).1 < 256) :
    Calls Try.prog 7 #[.int .u8 (room : Int), v] w fun e w' => e = .returned (.bool true) ∧ Below w.heap.size w w' := by
  obtain ⟨a1, c1, rfl⟩ := hx.sl
  have HX := Lib.hid hx
  clear hx
  have hB := Below.refl w.heap.size w
  by_cases hlen : 60 < xs.length
  · have h1 : (60 : Int) < (xs.length : Int) := by omega
    clear hlen
    go_enter Try.func7, Try.ntmps7
    go_wp2_with fail
    refine (awake_any _).mono ?_
    rintro e w1 ⟨rfl, hb⟩
    replace hB := hB.trans (hb.mono hB.size)
    clear hb
    go_wp2_with fail
    refine (awake_any _).mono ?_
    rintro e w2 ⟨rfl, hb⟩
    replace hB := hB.trans (hb.mono hB.size)
    clear hb
    go_wp2_with fail
    go_ret
    exact ⟨rfl, hB⟩
  · have h1 : ¬ (60 : Int) < (xs.length : Int) := by omega
    have hn : Hid ((1 : Int) + (room : Int) % 64 = ((1 + room % 64 : Nat) : Int)) := Lib.hid (by omega)
    have hwr : IntKind.i64.wrap ((1 : Int) + (room : Int) % 64) = (1 : Int) + (room : Int) % 64 := IntWalk.i64_in _ (by omega)
    have hq1 : 1 ≤ 1 + room % 64 := by omega
    have hq64 : 1 + room % 64 ≤ 64 := by omega
    go_enter Try.func7, Try.ntmps7
    go_wp2_with fail
    refine (awake_any _).mono ?_
    rintro e w1 ⟨rfl, hb⟩
    replace hB := hB.trans (hb.mono hB.size)
    clear hb
    go_wp2_with fail
    rw [hn.out]
    clear hn hwr hr
    generalize 1 + room % 64 = n at *
    refine (New_yes n _ hq1 hq64).mono ?_
    rintro e w2 ⟨⟨p, g, rfl, hT, hp, hg⟩, hb⟩
    have HS := Lib.hid (Sp.new (W := w) hq1 hq64 hT (hB.trans (hb.mono hB.size)) (Nat.le_trans hB.size hp) (Nat.le_trans hB.size hg))
    clear hb hT hp hg hB
    generalize List.replicate n (0 : Int) = l0 at *
    go_wp2_with fail
    go_loopw [42] (fun i wr => ∃ (k : Nat) (l : List Int) (m : Int), k ≤ xs.length ∧ i = .int .i64 k ∧ Hid (Sp w p g n wr l m)) (fun i _ => xs.length - (intOf i).toNat)
    case atStart => exact ⟨0, l0, 0, by omega, rfl, HS⟩
    case round =>
      clear HS
      obtain ⟨k, l, m, hk, rfl, HS⟩ := hrel
      by_cases hlt : k < xs.length
      · obtain ⟨bx, off, rfl, hx0, hx1⟩ := (HS.out.row HX.out).at hlt
        have hxs := hs k
        generalize xs.getD k (0, 0) = x at *
        obtain ⟨kd, N⟩ := x
        simp only [] at hx0 hx1 hxs
        have hA := IsA.new wr 0 0
        have hpl := HS.out.tab.ltp
        have hgl := HS.out.tab.ltg
        have hpg : p ≠ wr.heap.size ∧ g ≠ wr.heap.size := ⟨by omega, by omega⟩
        obtain hk2 | hk2 : kd % 2 = 0 ∨ kd % 2 = 1 := by omega
        · have e0 : ((kd : Int) % 2 == 0) = true := beq_tt (by omega)
          go_wp2_with (first | (refine wpList_alloc34 rfl rfl ?_; replace HS := Lib.hid (HS.out.alloc (.cells #[.int .u8 0, .int .i64 0] 34)); generalize wr.alloc (.cells #[.int .u8 0, .int .i64 0] 34) = w6 at *) | (refine wpList_store34 rfl _ _ rfl wr.heap.size (kd : Int) 0 N 0 rfl rfl hA ?_; intro w7 hA7 t7; replace HS := Lib.hid (HS.out.turn t7 hpl hgl); have hA0 := hA7.c0; have hA1 := hA7.c1; clear hA t7 hx0 hx1))
          refine (Add_any p g l m _ HS.out.tab HS.out.ok).mono ?_
          rintro e w8 ⟨rfl, hT, ho⟩
          replace HS := Lib.hid (HS.out.act HS.out.ok.add (addL_len l m) hT ho)
          clear hT ho hpl hgl
          generalize addL l m = l1 at *
          generalize addM l m = m1 at *
          clear hA7 hA0 hA1
          go_wp2_with fail
          refine (Ids_any p g l1 m1 _ HS.out.tab HS.out.n1 HS.out.n64).mono ?_
          rintro e w9 ⟨⟨a9, c9, rfl, hr9⟩, hb⟩
          replace HS := Lib.hid (HS.out.below hb)
          clear hb
          have HI : Hid (∀ i, i < (idsN l1).length → ∃ b, a9 = some ⟨b, 0, none⟩ ∧ w9.cell? ⟨b, i, none⟩ = some (.int .i64 ((idsN l1).getD i 0))) := Lib.hid (fun i hi => by
            obtain ⟨b, e, _, _, hc, _⟩ := hr9.at hi
            exact ⟨b, e, hc⟩)
          clear hr9
          have HF := Lib.hid (fun j hj => ids_fact HS.out.ok (j := j) hj)
          have hil := ids_le l1
          have hn64 := HS.out.n64
          have hln := HS.out.len
          go_wp2_with fail
          go_loop [10, 59] (fun la i => ∃ j : Nat, j ≤ (idsN l1).length ∧ i = .int .i64 j ∧ la = .int .i64 (lastN (idsN l1) j)) (fun _ i => (idsN l1).length - (intOf i).toNat)
          case atStart => exact ⟨0, by omega, rfl, rfl⟩
          case round =>
            obtain ⟨j, hj, rfl, rfl⟩ := hrel
            by_cases hjl : j < (idsN l1).length
            · obtain ⟨bi, rfl, hci⟩ := HI.out j hjl
              have HJ := Lib.hid (HF.out j hjl)
              have HL := Lib.hid (lastN_succ (idsN l1) j)
              generalize (idsN l1).getD j 0 = x at *
              generalize find l1 x = q at *
              obtain ⟨-, -, -, hlx, hxm⟩ := id HJ.out
              generalize hla : lastN (idsN l1) j = la at *
              clear hla
              go_wp2_with fail
              refine (Slot_any p g l1 m1 x _ HS.out.tab HS.out.n64).mono ?_
              rw [HJ.out.1, HJ.out.2.1]
              rintro e w10 ⟨rfl, rfl⟩
              go_wp2_with fail
              refine (Id_any p g l1 m1 (q : Int) _ HS.out.tab).mono ?_
              rw [HJ.out.2.2.1]
              rintro e w11 ⟨rfl, rfl⟩
              go_wp2_with fail
              refine (Last_any p g l1 m1 _ HS.out.tab).mono ?_
              rintro e w12 ⟨rfl, rfl⟩
              go_wp2_with fail
              exact ⟨⟨j + 1, by omega, by go_num, by rw [HL.out]⟩, by simp [intOf]; omega⟩
            · clear HI HF
              go_wp2_with fail
              go_loop [11, 92] (fun s i => ∃ j : Nat, j ≤ n ∧ i = .int .i64 j ∧ s = .int .i64 ((taken (l1.take j)).length : Nat)) (fun _ i => n - (intOf i).toNat)
              case atStart => exact ⟨0, by omega, rfl, rfl⟩
              case round =>
                obtain ⟨t, ht, rfl, rfl⟩ := hrel
                have htt := taken_take_le l1 t
                by_cases htn : t < n
                · have HY := Lib.hid (idI_nat (l := l1) (k := t) (by omega))
                  have HT := Lib.hid (taken_snoc (l := l1) (k := t) (by omega))
                  generalize l1.getD t 0 = y at *
                  generalize hsm : (taken (l1.take t)).length = sm at *
                  clear hsm
                  by_cases hy : y = 0
                  · have hy2 := beq_tt hy
                    have HE : Hid ((taken (l1.take (t + 1))).length = sm) := Lib.hid (by rw [HT.out, if_pos hy]; rfl)
                    clear hy
                    go_wp2_with fail
                    refine (Id_any p g l1 m1 (t : Int) _ HS.out.tab).mono ?_
                    rw [HY.out]
                    rintro e w13 ⟨rfl, rfl⟩
                    go_wp2_with fail
                    exact ⟨⟨t + 1, by omega, by go_num, by rw [HE.out]⟩, by simp [intOf]; omega⟩
                  · have hy2 := beq_ff hy
                    have HE : Hid ((taken (l1.take (t + 1))).length = sm + 1) := Lib.hid (by rw [HT.out, if_neg hy])
                    clear hy
                    go_wp2_with fail
                    refine (Id_any p g l1 m1 (t : Int) _ HS.out.tab).mono ?_
                    rw [HY.out]
                    rintro e w13 ⟨rfl, rfl⟩
                    go_wp2_with fail
                    exact ⟨⟨t + 1, by omega, by go_num, by rw [HE.out]; go_num⟩, by simp [intOf]; omega⟩
                · obtain rfl : t = n := by omega
                  have hta : l1.take t = l1 := List.take_of_length_le (by omega)
                  rw [hta] at htt ⊢
                  have HL2 := Lib.hid (Len_any p g l1 m1 _ HS.out.tab HS.out.n1 HS.out.n64)
                  have HR2 := Lib.hid (fun (w' : World) (h : IsTab w' p g l1 m1) => Room_any p g l1 m1 w' h HS.out.n1 HS.out.n64)
                  have hwr : IntKind.i64.wrap ((t : Int) - ((taken l1).length : Int)) = (t : Int) - ((taken l1).length : Int) := IntWalk.i64_in _ (by omega)
                  rw [hln] at HR2
                  clear hta
                  generalize (taken l1).length = sm at *
                  go_wp2_with fail
                  refine HL2.out.mono ?_
                  rintro e w14 ⟨rfl, hb⟩
                  replace HS := Lib.hid (HS.out.below hb)
                  clear hb HL2
                  go_wp2_with fail
                  refine (HR2.out _ HS.out.tab).mono ?_
                  rintro e w15 ⟨rfl, hb⟩
                  replace HS := Lib.hid (HS.out.below hb)
                  clear hb
                  go_wp2_with fail
                  exact ⟨⟨k + 1, l1, m1, by omega, by go_num, HS⟩, by simp [intOf]; omega⟩
        · have e0 : ((kd : Int) % 2 == 0) = false := beq_ff (by omega)
          go_wp2_with (first | (refine wpList_alloc34 rfl rfl ?_; replace HS := Lib.hid (HS.out.alloc (.cells #[.int .u8 0, .int .i64 0] 34)); generalize wr.alloc (.cells #[.int .u8 0, .int .i64 0] 34) = w6 at *) | (refine wpList_store34 rfl _ _ rfl wr.heap.size (kd : Int) 0 N 0 rfl rfl hA ?_; intro w7 hA7 t7; replace HS := Lib.hid (HS.out.turn t7 hpl hgl); have hA0 := hA7.c0; have hA1 := hA7.c1; clear hA t7 hx0 hx1))
          refine (Drop_any p g l m N _ HS.out.tab HS.out.n64).mono ?_
          rintro e w8 ⟨rfl, hT, ho⟩
          replace HS := Lib.hid (HS.out.act (HS.out.ok.drop N) (dropL_len l N) hT ho)
          clear hT ho hpl hgl
          generalize dropL l N = l1 at *
          obtain ⟨m1, rfl⟩ : ∃ m1, m1 = m := ⟨m, rfl⟩
          clear hA7 hA0 hA1
          go_wp2_with fail
          refine (Ids_any p g l1 m1 _ HS.out.tab HS.out.n1 HS.out.n64).mono ?_
          rintro e w9 ⟨⟨a9, c9, rfl, hr9⟩, hb⟩
          replace HS := Lib.hid (HS.out.below hb)
          clear hb
          have HI : Hid (∀ i, i < (idsN l1).length → ∃ b, a9 = some ⟨b, 0, none⟩ ∧ w9.cell? ⟨b, i, none⟩ = some (.int .i64 ((idsN l1).getD i 0))) := Lib.hid (fun i hi => by
            obtain ⟨b, e, _, _, hc, _⟩ := hr9.at hi
            exact ⟨b, e, hc⟩)
          clear hr9
          have HF := Lib.hid (fun j hj => ids_fact HS.out.ok (j := j) hj)
          have hil := ids_le l1
          have hn64 := HS.out.n64
          have hln := HS.out.len
          go_wp2_with fail
          go_loop [10, 59] (fun la i => ∃ j : Nat, j ≤ (idsN l1).length ∧ i = .int .i64 j ∧ la = .int .i64 (lastN (idsN l1) j)) (fun _ i => (idsN l1).length - (intOf i).toNat)
          case atStart => exact ⟨0, by omega, rfl, rfl⟩
          case round =>
            obtain ⟨j, hj, rfl, rfl⟩ := hrel
            by_cases hjl : j < (idsN l1).length
            · obtain ⟨bi, rfl, hci⟩ := HI.out j hjl
              have HJ := Lib.hid (HF.out j hjl)
              have HL := Lib.hid (lastN_succ (idsN l1) j)
              generalize (idsN l1).getD j 0 = x at *
              generalize find l1 x = q at *
              obtain ⟨-, -, -, hlx, hxm⟩ := id HJ.out
              generalize hla : lastN (idsN l1) j = la at *
              clear hla
              go_wp2_with fail
              refine (Slot_any p g l1 m1 x _ HS.out.tab HS.out.n64).mono ?_
              rw [HJ.out.1, HJ.out.2.1]
              rintro e w10 ⟨rfl, rfl⟩
              go_wp2_with fail
              refine (Id_any p g l1 m1 (q : Int) _ HS.out.tab).mono ?_
              rw [HJ.out.2.2.1]
              rintro e w11 ⟨rfl, rfl⟩
              go_wp2_with fail
              refine (Last_any p g l1 m1 _ HS.out.tab).mono ?_
              rintro e w12 ⟨rfl, rfl⟩
              go_wp2_with fail
              exact ⟨⟨j + 1, by omega, by go_num, by rw [HL.out]⟩, by simp [intOf]; omega⟩
            · clear HI HF
              go_wp2_with fail
              go_loop [11, 92] (fun s i => ∃ j : Nat, j ≤ n ∧ i = .int .i64 j ∧ s = .int .i64 ((taken (l1.take j)).length : Nat)) (fun _ i => n - (intOf i).toNat)
              case atStart => exact ⟨0, by omega, rfl, rfl⟩
              case round =>
                obtain ⟨t, ht, rfl, rfl⟩ := hrel
                have htt := taken_take_le l1 t
                by_cases htn : t < n
                · have HY := Lib.hid (idI_nat (l := l1) (k := t) (by omega))
                  have HT := Lib.hid (taken_snoc (l := l1) (k := t) (by omega))
                  generalize l1.getD t 0 = y at *
                  generalize hsm : (taken (l1.take t)).length = sm at *
                  clear hsm
                  by_cases hy : y = 0
                  · have hy2 := beq_tt hy
                    have HE : Hid ((taken (l1.take (t + 1))).length = sm) := Lib.hid (by rw [HT.out, if_pos hy]; rfl)
                    clear hy
                    go_wp2_with fail
                    refine (Id_any p g l1 m1 (t : Int) _ HS.out.tab).mono ?_
                    rw [HY.out]
                    rintro e w13 ⟨rfl, rfl⟩
                    go_wp2_with fail
                    exact ⟨⟨t + 1, by omega, by go_num, by rw [HE.out]⟩, by simp [intOf]; omega⟩
                  · have hy2 := beq_ff hy
                    have HE : Hid ((taken (l1.take (t + 1))).length = sm + 1) := Lib.hid (by rw [HT.out, if_neg hy])
                    clear hy
                    go_wp2_with fail
                    refine (Id_any p g l1 m1 (t : Int) _ HS.out.tab).mono ?_
                    rw [HY.out]
                    rintro e w13 ⟨rfl, rfl⟩
                    go_wp2_with fail
                    exact ⟨⟨t + 1, by omega, by go_num, by rw [HE.out]; go_num⟩, by simp [intOf]; omega⟩
                · obtain rfl : t = n := by omega
                  have hta : l1.take t = l1 := List.take_of_length_le (by omega)
                  rw [hta] at htt ⊢
                  have HL2 := Lib.hid (Len_any p g l1 m1 _ HS.out.tab HS.out.n1 HS.out.n64)
                  have HR2 := Lib.hid (fun (w' : World) (h : IsTab w' p g l1 m1) => Room_any p g l1 m1 w' h HS.out.n1 HS.out.n64)
                  have hwr : IntKind.i64.wrap ((t : Int) - ((taken l1).length : Int)) = (t : Int) - ((taken l1).length : Int) := IntWalk.i64_in _ (by omega)
                  rw [hln] at HR2
                  clear hta
                  generalize (taken l1).length = sm at *
                  go_wp2_with fail
                  refine HL2.out.mono ?_
                  rintro e w14 ⟨rfl, hb⟩
                  replace HS := Lib.hid (HS.out.below hb)
                  clear hb HL2
                  go_wp2_with fail
                  refine (HR2.out _ HS.out.tab).mono ?_
                  rintro e w15 ⟨rfl, hb⟩
                  replace HS := Lib.hid (HS.out.below hb)
                  clear hb
                  go_wp2_with fail
                  exact ⟨⟨k + 1, l1, m1, by omega, by go_num, HS⟩, by simp [intOf]; omega⟩
      · go_wp2_with fail
        go_ret
        exact ⟨rfl, HS.out.bel⟩
end Go.Proofs.Ythopmkgbhfkeoaa
