/-
  Contract of nat.Mul. Condition: not more than a hundred thousand limbs.
-/
import Derived.Test.YtphllajedkpcbaaGreatDoorNg
namespace Go.Proofs.YtphllajedkpcbaaGreatDoor
open Go.RowKit Go.Dig Go.Shelf Go.Proofs

set_option maxRecDepth 100000 in
set_option maxHeartbeats 4000000 in
theorem nMul_any (v1 v2 : Value) (la lb : List Nat) (w : World) (h1 : RowU w v1 la) (h2 : RowU w v2 lb) (s1 : SmallU la) (s2 : SmallU lb) (hl1 : la.length ≤ 100000) (hl2 : lb.length ≤ 100000) :
    Calls Tryz.prog 33 #[v1, v2] w fun e w' => ∃ v, e = .returned v ∧ RowU w' v (L (V la * V lb)) ∧ Below w.heap.size w w' := by
  obtain ⟨i0, hi, hz0, hz1, hz2⟩ := info_parts Tryz.info56
  have hne1 : ∀ b off k c, v1 = .slice (some ⟨b, off, none⟩) k c → la ≠ [] → b ≠ w.heap.size := by
    intro b off k c e hla
    obtain ⟨ad, cp, e2, _, h3⟩ := h1
    obtain ⟨b', off', e3, h4, _⟩ := h3 hla
    rw [e2, e3] at e
    cases e
    omega
  have R1 := Lib.hid h1
  have R2 := Lib.hid h2
  obtain ⟨ad1, cap1, rfl, hc1, -⟩ := h1
  obtain ⟨ad2, cap2, rfl, hc2, -⟩ := h2
  have HS := Lib.hid (And.intro s1 s2)
  have HNE := Lib.hid hne1
  clear s1 s2 hne1
  obtain ⟨nn, hnn⟩ : ∃ nn, nn = la.length + lb.length := ⟨_, rfl⟩
  have hnl : nn ≤ 200000 := by omega
  have HNN := Lib.hid hnn
  clear hnn
  go_enter Tryz.func33, Tryz.ntmps33
  go_wp2_with (at_make; refine wpList_make_full w rfl _ _ 27 rfl w.heap.size 56 i0 (.int .u64 0) 1 Tryz.underlying27 hi hz0 hz1 .i64 .i64 _ _ nn rfl rfl (by have := HNN.out; omega) (by have := HNN.out; omega) (by rw [hz2]; omega) (by unfold maxLen; omega) (Nat.le_refl _) ?_; intro w1 hown hgrow)
  rw [made_zerosU] at hown
  have hb1 : Below w.heap.size w w1 := (Below.refl _ w).grown hgrow (Nat.le_refl _) (fun j ej => by cases ej)
  go_wp2_with fail
  go_loopw [15] (fun j wr => ∃ (k : Nat) (o : List Nat), k ≤ lb.length ∧ j = .int .i64 (k : Int) ∧ Own64 wr w.heap.size w.heap.size nn nn o ∧ Hid (Small 18446744073709551616 o ∧ val 18446744073709551616 o = val 18446744073709551616 la * val 18446744073709551616 (lb.take k) ∧ ∀ j, k + la.length ≤ j → o.getD j 0 = 0) ∧ Below w.heap.size w wr) (fun j _ => lb.length - (intOf j).toNat)
  case atStart => exact ⟨0, List.replicate nn 0, Nat.zero_le _, rfl, hown, Lib.hid ⟨Small.zeros (by omega) _, by rw [val_zeros]; simp [val], fun j _ => by simp [List.getD, List.getElem?_replicate]; split <;> rfl⟩, hb1⟩
  case round =>
    clear hown hgrow hb1
    obtain ⟨k, o, hk, rfl, hO, HI, hB⟩ := hrel
    have hN := HNN.out
    by_cases hlt : k < lb.length
    · obtain ⟨b2, o2, rfl, hb2, c2⟩ := R2.out.cell hlt
      replace c2 : wr.drew.cell? ⟨b2, o2 + k, none⟩ = some (.int .u64 (lb.getD k 0 : Nat)) := (hB.cell (p := ⟨b2, o2 + k, none⟩) hb2).trans c2
      have hy := HS.out.2.getD (by omega) k
      have HVT := Lib.hid (val_take (B := 18446744073709551616) lb k)
      generalize lb.getD k 0 = y at c2 hy HVT
      have hol := hO.len
      have H48 := Lib.hid (fun (W : World) (hO : Own64 W w.heap.size w.heap.size nn nn o) (hA : RowU W (.slice ad1 la.length cap1) la) => addTimes_any w.heap.size w.heap.size nn nn k (nn - k) o la (.slice ad1 la.length cap1) y W hO hA HNE.out HI.out.1 HS.out.1 hy (by omega) (by omega))
      have hO1 : Own64 wr.drew w.heap.size w.heap.size nn nn o := hO
      have hB1 : Below w.heap.size w wr.drew := hB.drew
      have HHO := Lib.hid HI.out
      have hkn : k + la.length < nn := by omega
      clear hO hB HI hN hol
      go_wp2_with fail
      refine Rd.regionK (fun X => X.cell? ⟨b2, o2 + k, none⟩ = some (.int .u64 (y : Int))) 19 [0, 1, 2, 3, 4, 5, 6, 7, 8, 9, 10, 11, 12, 13, 14, 15, 18] [16] [0, 1, 2, 3, 4, 5, 6, 7, 8, 9, 10, 11, 12, 13, 14, 15, 16, 17, 18, 19] (by kernel_rfl) (by kernel_rfl) (by kernel_rfl) (by kernel_rfl) rfl c2 ?_
      generalize wr.drew = W1 at c2 hO1 hB1 ⊢
      refine Rd.seqK_plain (.slice (some ⟨w.heap.size, 0, none⟩) nn nn) (by simp only [List.getElem?_toArray, List.getElem?_cons_zero]; rfl) rfl (by rfl) (fun X => by go_simp) ?_
      simp only [Act.put, List.setIfInBounds_toArray, List.set_cons_succ, List.set_cons_zero]
      refine Rd.seqK_plain (.int .i64 (k : Int)) (by simp only [List.getElem?_toArray, List.getElem?_cons_succ, List.getElem?_cons_zero]; rfl) rfl (by rfl) (fun X => by go_simp) ?_
      simp only [Act.put, List.setIfInBounds_toArray, List.set_cons_succ, List.set_cons_zero]
      refine Rd.seqK_plain (.slice ad1 la.length cap1) (by simp only [List.getElem?_toArray, List.getElem?_cons_succ, List.getElem?_cons_zero]; rfl) rfl (by rfl) (fun X => by go_simp) ?_
      simp only [Act.put, List.setIfInBounds_toArray, List.set_cons_succ, List.set_cons_zero]
      refine Rd.seqK_plain (.int .i64 (la.length : Int)) (by simp only [List.getElem?_toArray, List.getElem?_cons_succ, List.getElem?_cons_zero]; rfl) rfl (by rfl) (fun X => by go_simp) ?_
      simp only [Act.put, List.setIfInBounds_toArray, List.set_cons_succ, List.set_cons_zero]
      refine Rd.seqK_plain (.int .i64 ((k : Int) + la.length)) (by simp only [List.getElem?_toArray, List.getElem?_cons_succ, List.getElem?_cons_zero]; rfl) rfl (by rfl) (fun X => by go_simp; exact IntWalk.i64_in _ (by omega)) ?_
      simp only [Act.put, List.setIfInBounds_toArray, List.set_cons_succ, List.set_cons_zero]
      refine Rd.seqK_plain (.slice (some ⟨w.heap.size, 0, none⟩) nn nn) (by simp only [List.getElem?_toArray, List.getElem?_cons_succ, List.getElem?_cons_zero]; rfl) rfl (by rfl) (fun X => by go_simp) ?_
      simp only [Act.put, List.setIfInBounds_toArray, List.set_cons_succ, List.set_cons_zero]
      refine Rd.seqK_plain (.int .i64 (k : Int)) (by simp only [List.getElem?_toArray, List.getElem?_cons_succ, List.getElem?_cons_zero]; rfl) rfl (by rfl) (fun X => by go_simp) ?_
      simp only [Act.put, List.setIfInBounds_toArray, List.set_cons_succ, List.set_cons_zero]
      refine Rd.seqK_plain (.int .i64 (k : Int)) (by simp only [List.getElem?_toArray, List.getElem?_cons_succ, List.getElem?_cons_zero]; rfl) rfl (by rfl) (fun X => by go_simp) ?_
      simp only [Act.put, List.setIfInBounds_toArray, List.set_cons_succ, List.set_cons_zero]
      refine Rd.seqK_plain (.slice ad1 la.length cap1) (by simp only [List.getElem?_toArray, List.getElem?_cons_succ, List.getElem?_cons_zero]; rfl) rfl (by rfl) (fun X => by go_simp) ?_
      simp only [Act.put, List.setIfInBounds_toArray, List.set_cons_succ, List.set_cons_zero]
      refine Rd.seqK_plain (.int .i64 (la.length : Int)) (by simp only [List.getElem?_toArray, List.getElem?_cons_succ, List.getElem?_cons_zero]; rfl) rfl (by rfl) (fun X => by go_simp) ?_
      simp only [Act.put, List.setIfInBounds_toArray, List.set_cons_succ, List.set_cons_zero]
      refine Rd.seqK_plain (.int .i64 ((k : Int) + la.length)) (by simp only [List.getElem?_toArray, List.getElem?_cons_succ, List.getElem?_cons_zero]; rfl) rfl (by rfl) (fun X => by go_simp; exact IntWalk.i64_in _ (by omega)) ?_
      simp only [Act.put, List.setIfInBounds_toArray, List.set_cons_succ, List.set_cons_zero]
      refine Rd.seqK_plain (.slice (some ⟨w.heap.size, k, none⟩) la.length (nn - k)) (by simp only [List.getElem?_toArray, List.getElem?_cons_succ, List.getElem?_cons_zero]; rfl) rfl (by rfl) (fun X => by go_simp; rw [if_pos (by omega), if_pos (by omega), if_neg (by omega), show ((k : Int) + la.length).toNat - k = la.length by omega]) ?_
      simp only [Act.put, List.setIfInBounds_toArray, List.set_cons_succ, List.set_cons_zero]
      refine Rd.seqK_plain (.slice ad1 la.length cap1) (by simp only [List.getElem?_toArray, List.getElem?_cons_succ, List.getElem?_cons_zero]; rfl) rfl (by rfl) (fun X => by go_simp) ?_
      simp only [Act.put, List.setIfInBounds_toArray, List.set_cons_succ, List.set_cons_zero]
      refine Rd.seqK_plain (.slice (some ⟨b2, o2, none⟩) lb.length cap2) (by simp only [List.getElem?_toArray, List.getElem?_cons_succ, List.getElem?_cons_zero]; rfl) rfl (by rfl) (fun X => by go_simp) ?_
      simp only [Act.put, List.setIfInBounds_toArray, List.set_cons_succ, List.set_cons_zero]
      refine Rd.seqK_plain (.int .i64 (k : Int)) (by simp only [List.getElem?_toArray, List.getElem?_cons_succ, List.getElem?_cons_zero]; rfl) rfl (by rfl) (fun X => by go_simp) ?_
      simp only [Act.put, List.setIfInBounds_toArray, List.set_cons_succ, List.set_cons_zero]
      refine Rd.seqK_plain (.pointer (some ⟨b2, o2 + k, none⟩)) (by simp only [List.getElem?_toArray, List.getElem?_cons_succ, List.getElem?_cons_zero]; rfl) rfl (by rfl) (fun X => by go_simp) ?_
      simp only [Act.put, List.setIfInBounds_toArray, List.set_cons_succ, List.set_cons_zero]
      refine Rd.seqK_float (.int .u64 (y : Int)) (by simp only [List.getElem?_toArray, List.getElem?_cons_succ, List.getElem?_cons_zero]; rfl) rfl rfl (by rfl) (fun X hX => by go_simp) ?_
      simp only [Act.put, List.setIfInBounds_toArray, List.set_cons_succ, List.set_cons_zero]
      refine Rd.seqK_move (by simp only [List.getElem?_toArray, List.getElem?_cons_succ, List.getElem?_cons_zero]; rfl) rfl rfl (by rfl) (fun K hK => ?_)
      go_simp
      refine (H48.out W1 hO1 (R1.out.below hB1)).mono ?_
      rintro e W2 ⟨cy, out, rfl, hO2, HM, hF2⟩
      have hB2 : Below w.heap.size w W2 := hB1.trans (hF2.below hB1.size (fun k e => by omega))
      refine hK _ _ (fun _ => (hF2.cell (p := ⟨b2, o2 + k, none⟩) (Nat.lt_of_lt_of_le hb2 hB1.size) (by show ¬ b2 = w.heap.size; omega)).trans c2) ?_
      clear hK K
      refine Rd.seqK_plain (.pointer (some ⟨w.heap.size, k + la.length, none⟩)) (by simp only [List.getElem?_toArray, List.getElem?_cons_succ, List.getElem?_cons_zero]; rfl) rfl (by rfl) (fun X => by go_simp; rw [if_pos (by omega), show ((k : Int) + la.length).toNat = k + la.length by omega]) ?_
      simp only [Act.put, List.setIfInBounds_toArray, List.set_cons_succ, List.set_cons_zero]
      refine Rd.seqK_move (by simp only [List.getElem?_toArray, List.getElem?_cons_succ, List.getElem?_cons_zero]; rfl) rfl rfl (by rfl) (fun K hK => ?_)
      go_simp
      have hfz := hO2.frozen (k + la.length)
      have hcz := hO2.cell (j := k + la.length) (by omega)
      go_simp
      refine hK _ _ (fun h => absurd h (by omega)) ?_
      refine Rd.seqK_end ?_
      have hol2 : o.length = nn := hO1.len
      have hN := HNN.out
      have hz0' : o.getD (k + la.length) 0 = 0 := HHO.out.2.2 _ (Nat.le_refl _)
      have hzz : out.getD (k + la.length) 0 = 0 := by rw [HM.rest _ (Nat.le_refl _), hz0']
      have hd := HM.done (by rw [hol2]; omega) hz0'
      rw [hzz, Nat.zero_add] at hd
      have HE : Hid (Hid (Small 18446744073709551616 (out.set (k + la.length) cy) ∧ val 18446744073709551616 (out.set (k + la.length) cy) = val 18446744073709551616 la * val 18446744073709551616 (lb.take (k + 1)) ∧ ∀ j, k + 1 + la.length ≤ j → (out.set (k + la.length) cy).getD j 0 = 0)) := Lib.hid (Lib.hid (by
        refine ⟨hd.1, ?_, fun j hj => by rw [hd.2.2 j hj]; exact HHO.out.2.2 j (by omega)⟩
        rw [hd.2.1, HHO.out.2.1, HVT.out, Nat.mul_add, ← Nat.mul_assoc, ← Nat.mul_assoc]
        congr 1
        rw [Nat.mul_right_comm, Nat.mul_comm (18446744073709551616 ^ k * val 18446744073709551616 la) y, Nat.mul_comm (val 18446744073709551616 la) (18446744073709551616 ^ k), Nat.mul_comm y]))
      have hO3 := hO2.set (k + la.length) cy
      have hB3 : Below w.heap.size w (W2.setCell ⟨w.heap.size, k + la.length, none⟩ (.int .u64 (cy : Int))) := hB2.setCell (p := ⟨w.heap.size, k + la.length, none⟩) (Nat.le_refl _) _
      clear hd hzz hz0' HM hN HHO HVT hO1 hO2 hB1 hB2 c2 hF2
      generalize W2.setCell ⟨w.heap.size, k + la.length, none⟩ (.int .u64 (cy : Int)) = W3 at hO3 hB3 ⊢
      go_wp2_with fail
      go_round
      case rel => exact ⟨k + 1, _, by omega, by go_num, hO3, HE.out, hB3⟩
      case measure => simp [intOf]; omega
    · have hki : k = lb.length := by omega
      have hol := hO.len
      have HT : Hid (trim o = L (V la * V lb)) := Lib.hid (by
        obtain ⟨h1, h2, h3⟩ := HI.out
        rw [trim_L h1]
        show L (val _ _) = _
        rw [h2, hki, List.take_length])
      have H38 := nTrim_any (some ⟨w.heap.size, 0, none⟩) nn o wr (by rw [hol]; exact hO.row) (by omega)
      have hT2 := RowU.trimmed hO.row
      rw [hol] at H38
      rw [HT.out] at hT2
      have H38h := Lib.hid H38
      clear H38 HI hN hol
      go_wp2_with fail
      refine H38h.out.mono ?_
      rintro e w3 ⟨rfl, hb3⟩
      go_wp2_with fail
      go_ret
      exact ⟨_, rfl, hT2.below hb3, hB.trans (hb3.mono hB.size)⟩
end Go.Proofs.YtphllajedkpcbaaGreatDoor
