/-
  Contract of the document's answer roundelref01.Text. Condition: a number that fits 64 bits.
-/
import Derived.Test.YtgmdbgdbjmlolaaDoorWq
namespace Go.Proofs.YtgmdbgdbjmlolaaDoor
open Go.RowKit Go.Shelf

set_option maxRecDepth 100000 in
set_option maxHeartbeats 2000000 in
theorem RefText_any (N : Nat) (hN : N < 18446744073709551616) (w : World) :
    Calls Tryd.prog 30 #[.agg (arrB N.testBit)] w fun e w' => e = .returned (encS (textOf N)) ∧ Below w.heap.size w w' := by
  have hI := IsArr.new w N.testBit
  have hB : Below w.heap.size w (w.alloc (.cells (arrB N.testBit) 30)) := (Below.refl _ w).alloc (Nat.le_refl _) _
  go_enter Tryd.func30, Tryd.ntmps30
  go_wp2_with (refine wpList_box30 rfl _ rfl N.testBit rfl ?_)
  generalize w.alloc (.cells (arrB N.testBit) 30) = w1 at hI hB ⊢
  go_loop [3, 4] (fun s i => ∃ (k : Nat) (t : List UInt8), k ≤ 64 ∧ i = .int .i64 k ∧ s = .string ⟨t.toArray⟩ ∧ t.length ≤ 384 ∧ Hid (t = textTo N k) ∧ Hid (hasB N ((k : Int) - 1) = false ∨ N.testBit k = false)) (fun _ i => 64 - (intOf i).toNat)
  case atStart => exact ⟨0, [], by omega, rfl, rfl, by simp, Lib.hid rfl, Lib.hid (.inl (hasB_no (coreB_neg (by omega))))⟩
  case round =>
    obtain ⟨k, t, hk, rfl, rfl, htl, HT, HB⟩ := hrel
    by_cases hlt : k < 64
    · have hc := hI.cell hlt
      cases hb : N.testBit k <;> rw [hb] at hc
      · have HB2 : Hid (hasB N (((k + 1 : Nat) : Int) - 1) = false) := Lib.hid (by rw [show ((k + 1 : Nat) : Int) - 1 = (k : Int) by omega, hasB_any hN]; exact hb)
        have HT2 : Hid (t = textTo N (k + 1)) := Lib.hid (by rw [HT.out, textTo_no hb])
        clear hb HT HB
        go_wp2_with fail
        go_round
        case rel => exact ⟨k + 1, t, by omega, by go_num, rfl, htl, HT2, Lib.hid (.inl HB2.out)⟩
        case measure => simp [intOf]; omega
      · have h0 : hasB N ((k : Int) - 1) = false := by
          rcases HB.out with h | h
          · exact h
          · rw [hb] at h; cases h
        have hnx := run_next hN hlt hb h0
        have HN := Lib.hid (textTo_next hN hlt hb h0)
        have HL := Lib.hid (textTo_len (N := N) (k := runEndN N k + 1) hN (by omega))
        have HE := Lib.hid hnx.2.2.1
        obtain ⟨hke, he64, -, -⟩ := hnx
        rw [← HT.out] at HN
        clear HB hb h0 HT
        generalize hee : runEndN N k = e at HN HL HE hke he64
        have HR := Lib.hid hee
        clear hee
        go_wp2_with fail
        go_loop [5] (fun i => ∃ j : Nat, k ≤ j ∧ j < 64 ∧ i = .int .i64 j ∧ Hid (runEndN N j = e)) (fun i => 64 - (intOf i).toNat)
        case atStart => exact ⟨k, Nat.le_refl _, hlt, rfl, HR⟩
        case round =>
          obtain ⟨j, hkj, hj, rfl, HJ⟩ := hrel
          by_cases hj63 : j < 63
          · have hcj : w1.cell? ⟨w.heap.size, j + 1, none⟩ = _ := hI.cell (by omega)
            cases hbj : N.testBit (j + 1) <;> rw [hbj] at hcj
            · have hje : j = e := by rw [← HJ.out, run_ends hbj]
              subst hje
              clear hbj HJ HR
              have HNj := HN.out
              unfold runTextL at HNj
              have hd1 := dec_len (i := k) (by omega)
              have hd2 := dec_len (i := j) (by omega)
              have H42 := Lib.hid (fun W => digits_any k hlt W)
              have H42j := Lib.hid (fun W => digits_any j hj W)
              unfold encS at H42 H42j
              by_cases hkj2 : k = j
              · subst hkj2
                generalize Lib.decDigits k = dk at HNj hd1 H42
                rw [if_pos rfl] at HNj
                by_cases ht : t = []
                · subst ht
                  rw [if_pos rfl] at HNj
                  have HX := Lib.hid HNj
                  clear HNj HN
                  go_wp2_with fail
                  refine (H42.out _).mono ?_
                  rintro e w' ⟨rfl, rfl⟩
                  go_wp2_with fail
                  exact ⟨⟨k + 1, textTo N (k + 1), by omega, by go_num, by rw [HX.out]; exact congrArg Value.string (ByteArray.ext (by simp [ByteArray.data_append])), HL.out, Lib.hid rfl, Lib.hid (.inr HE.out)⟩, by simp [intOf]; omega⟩
                · have hne : (t == []) = false := beq_eq_false_iff_ne.2 ht
                  rw [if_neg ht] at HNj
                  have HX := Lib.hid HNj
                  clear HNj HN ht
                  go_wp2_with fail
                  refine (H42.out _).mono ?_
                  rintro e w' ⟨rfl, rfl⟩
                  go_wp2_with fail
                  exact ⟨⟨k + 1, textTo N (k + 1), by omega, by go_num, by rw [HX.out]; exact congrArg Value.string (ByteArray.ext (by simp [ByteArray.data_append])), HL.out, Lib.hid rfl, Lib.hid (.inr HE.out)⟩, by simp [intOf]; omega⟩
              · generalize Lib.decDigits k = dk at HNj hd1 H42
                generalize Lib.decDigits j = dj at HNj hd2 H42j
                rw [if_neg hkj2] at HNj
                by_cases ht : t = []
                · subst ht
                  rw [if_pos rfl] at HNj
                  have HX := Lib.hid HNj
                  clear HNj HN
                  go_wp2_with fail
                  refine (H42.out _).mono ?_
                  rintro e w' ⟨rfl, rfl⟩
                  go_wp2_with fail
                  refine (H42j.out _).mono ?_
                  rintro e w' ⟨rfl, rfl⟩
                  go_wp2_with fail
                  exact ⟨⟨j + 1, textTo N (j + 1), by omega, by go_num, by rw [HX.out]; exact congrArg Value.string (ByteArray.ext (by simp [ByteArray.data_append])), HL.out, Lib.hid rfl, Lib.hid (.inr HE.out)⟩, by simp [intOf]; omega⟩
                · have hne : (t == []) = false := beq_eq_false_iff_ne.2 ht
                  rw [if_neg ht] at HNj
                  have HX := Lib.hid HNj
                  clear HNj HN ht
                  go_wp2_with fail
                  refine (H42.out _).mono ?_
                  rintro e w' ⟨rfl, rfl⟩
                  go_wp2_with fail
                  refine (H42j.out _).mono ?_
                  rintro e w' ⟨rfl, rfl⟩
                  go_wp2_with fail
                  exact ⟨⟨j + 1, textTo N (j + 1), by omega, by go_num, by rw [HX.out]; exact congrArg Value.string (ByteArray.ext (by simp [ByteArray.data_append])), HL.out, Lib.hid rfl, Lib.hid (.inr HE.out)⟩, by simp [intOf]; omega⟩
            · have HJ2 : Hid (runEndN N (j + 1) = e) := Lib.hid (by rw [← HJ.out, (run_go_on hN hbj).2])
              clear hbj HJ
              go_wp2_with fail
              go_round
              case rel => exact ⟨j + 1, by omega, by omega, by go_num, HJ2⟩
              case measure => simp [intOf]; omega
          · have hje : j = e := by
              rw [← HJ.out, run_ends]
              rw [bit_far hN (by omega)]
            subst hje
            clear HJ HR
            have HNj := HN.out
            unfold runTextL at HNj
            have hd1 := dec_len (i := k) (by omega)
            have hd2 := dec_len (i := j) (by omega)
            have H42 := Lib.hid (fun W => digits_any k hlt W)
            have H42j := Lib.hid (fun W => digits_any j hj W)
            unfold encS at H42 H42j
            by_cases hkj2 : k = j
            · subst hkj2
              generalize Lib.decDigits k = dk at HNj hd1 H42
              rw [if_pos rfl] at HNj
              by_cases ht : t = []
              · subst ht
                rw [if_pos rfl] at HNj
                have HX := Lib.hid HNj
                clear HNj HN
                go_wp2_with fail
                refine (H42.out _).mono ?_
                rintro e w' ⟨rfl, rfl⟩
                go_wp2_with fail
                exact ⟨⟨k + 1, textTo N (k + 1), by omega, by go_num, by rw [HX.out]; exact congrArg Value.string (ByteArray.ext (by simp [ByteArray.data_append])), HL.out, Lib.hid rfl, Lib.hid (.inr HE.out)⟩, by simp [intOf]; omega⟩
              · have hne : (t == []) = false := beq_eq_false_iff_ne.2 ht
                rw [if_neg ht] at HNj
                have HX := Lib.hid HNj
                clear HNj HN ht
                go_wp2_with fail
                refine (H42.out _).mono ?_
                rintro e w' ⟨rfl, rfl⟩
                go_wp2_with fail
                exact ⟨⟨k + 1, textTo N (k + 1), by omega, by go_num, by rw [HX.out]; exact congrArg Value.string (ByteArray.ext (by simp [ByteArray.data_append])), HL.out, Lib.hid rfl, Lib.hid (.inr HE.out)⟩, by simp [intOf]; omega⟩
            · generalize Lib.decDigits k = dk at HNj hd1 H42
              generalize Lib.decDigits j = dj at HNj hd2 H42j
              rw [if_neg hkj2] at HNj
              by_cases ht : t = []
              · subst ht
                rw [if_pos rfl] at HNj
                have HX := Lib.hid HNj
                clear HNj HN
                go_wp2_with fail
                refine (H42.out _).mono ?_
                rintro e w' ⟨rfl, rfl⟩
                go_wp2_with fail
                refine (H42j.out _).mono ?_
                rintro e w' ⟨rfl, rfl⟩
                go_wp2_with fail
                exact ⟨⟨j + 1, textTo N (j + 1), by omega, by go_num, by rw [HX.out]; exact congrArg Value.string (ByteArray.ext (by simp [ByteArray.data_append])), HL.out, Lib.hid rfl, Lib.hid (.inr HE.out)⟩, by simp [intOf]; omega⟩
              · have hne : (t == []) = false := beq_eq_false_iff_ne.2 ht
                rw [if_neg ht] at HNj
                have HX := Lib.hid HNj
                clear HNj HN ht
                go_wp2_with fail
                refine (H42.out _).mono ?_
                rintro e w' ⟨rfl, rfl⟩
                go_wp2_with fail
                refine (H42j.out _).mono ?_
                rintro e w' ⟨rfl, rfl⟩
                go_wp2_with fail
                exact ⟨⟨j + 1, textTo N (j + 1), by omega, by go_num, by rw [HX.out]; exact congrArg Value.string (ByteArray.ext (by simp [ByteArray.data_append])), HL.out, Lib.hid rfl, Lib.hid (.inr HE.out)⟩, by simp [intOf]; omega⟩
    · obtain rfl : k = 64 := by omega
      have HF := Lib.hid (textTo_all hN)
      rw [← HT.out] at HF
      clear HT
      by_cases ht : t = []
      · subst ht
        have HF2 : Hid (textOf N = [110, 111, 110, 101]) := Lib.hid HF.out
        go_wp2_with fail
        go_ret
        exact ⟨by rw [HF2.out]; rfl, hB⟩
      · have HF2 : Hid (textOf N = t) := Lib.hid (by rw [HF.out, if_neg ht])
        have hne : (t == []) = false := beq_eq_false_iff_ne.2 ht
        clear HF ht
        go_wp2_with fail
        go_ret
        exact ⟨by rw [HF2.out]; rfl, hB⟩
end Go.Proofs.YtgmdbgdbjmlolaaDoor
