/-
  Contract of the document's answer roundelref02.Mul. Tried over a program of one's own: the numbers of functions and types are that one's.
-/
import Derived.Test.YtphllajedkpcbaaGreatDoorRb
import Derived.OwnWalk
import Derived.Laws.OwnMore
namespace Go.Proofs.YtphllajedkpcbaaGreatDoor
open Go.RowKit Go.Dig Go.Proofs

theorem made_zeros (n : Nat) : (madeCells (Value.int .i64 0).cells (n * 1)).toList = (List.replicate n 0).map encN := by
  show (madeCells #[Value.int .i64 0] (n * 1)).toList = _
  rw [toList_madeCells_one, Nat.mul_one, List.map_replicate]; rfl

set_option maxRecDepth 100000 in
set_option maxHeartbeats 2000000 in
theorem Mul_any (v1 v2 : Value) (a b : Nat) (w : World) (h1 : Row w v1 (D a)) (h2 : Row w v2 (D b)) (hl1 : (D a).length ≤ 100000) (hl2 : (D b).length ≤ 100000) :
    Calls Tryz.prog 71 #[v1, v2] w fun e w' => ∃ v, e = .returned v ∧ Row w' v (D (a * b)) ∧ Below w.heap.size w w' := by
  obtain ⟨i0, hi, hz0, hz1, hz2⟩ := info_parts Tryz.info3
  have R1 := Lib.hid h1
  have R2 := Lib.hid h2
  obtain ⟨ad1, cap1, rfl, -, -⟩ := h1
  obtain ⟨ad2, cap2, rfl, -, -⟩ := h2
  have HS := Lib.hid (And.intro (dig_small (B := 10000) (by omega) a) (dig_small (B := 10000) (by omega) b))
  have HV := Lib.hid (And.intro (dig_val (B := 10000) (by omega) a) (dig_val (B := 10000) (by omega) b))
  unfold D at *
  generalize dig 10000 a = la at *
  generalize dig 10000 b = lb at *
  obtain ⟨nn, hnn⟩ : ∃ nn, nn = la.length + lb.length := ⟨_, rfl⟩
  have HNN := Lib.hid hnn
  have hnl : nn ≤ 200000 := by omega
  clear hnn
  go_enter Tryz.func71, Tryz.ntmps71
  go_wp2_with (refine wpList_make_full w rfl _ _ 30 rfl w.heap.size 3 i0 (.int .i64 0) 1 Tryz.underlying30 hi hz0 hz1 .i64 .i64 _ _ nn rfl rfl (by have := HNN.out; omega) (by have := HNN.out; omega) (by rw [hz2]; omega) (by unfold maxLen; omega) (Nat.le_refl _) ?_; intro w1 hown hgrow)
  rw [made_zeros] at hown
  have hb1 : Below w.heap.size w w1 := (Below.refl _ w).grown hgrow (Nat.le_refl _) (fun j ej => by cases ej)
  have HO1 := Lib.hid hown
  go_wp2_with fail
  go_loopw [18] (fun i wr => ∃ (k : Nat) (o : List Nat), k ≤ la.length ∧ i = .int .i64 (k : Int) ∧ wr.ownsRow w.heap.size 3 1 (.slice (some ⟨w.heap.size, 0, none⟩) nn nn) nn (o.map encN) ∧ o.length = nn ∧ Hid (Small 10000 o ∧ val 10000 o = val 10000 (la.take k) * val 10000 lb ∧ ∀ j, k + lb.length ≤ j → o.getD j 0 = 0) ∧ Below w.heap.size w wr) (fun i _ => la.length - (intOf i).toNat)
  case atStart => exact ⟨0, List.replicate nn 0, Nat.zero_le _, rfl, hown, by simp, Lib.hid ⟨Small.zeros (by omega) _, by rw [val_zeros]; simp [val], fun j _ => by simp [List.getD, List.getElem?_replicate]; split <;> rfl⟩, hb1⟩
  case round =>
    clear HO1 hown hgrow
    obtain ⟨i, o, hik, rfl, hown, holen, HI, hb⟩ := hrel
    by_cases hlt : i < la.length
    · obtain ⟨b1, o1, rfl, hb1x, c1⟩ := R1.out.cell (j := i) hlt
      have hx9 := HS.out.1.getD (by omega) i
      have hvt := Lib.hid (val_take (B := 10000) la i)
      generalize la.getD i 0 = x at c1 hx9 hvt
      go_wp2_with fail
      go_loopw [7, 23] (fun c j wr2 => ∃ (k cy : Nat) (out : List Nat), k ≤ lb.length ∧ c = .int .i64 (cy : Int) ∧ j = .int .i64 (k : Int) ∧ wr2.ownsRow w.heap.size 3 1 (.slice (some ⟨w.heap.size, 0, none⟩) nn nn) nn (out.map encN) ∧ Hid (MulI 10000 lb o out x cy i k) ∧ Below w.heap.size w wr2) (fun _ j _ => lb.length - (intOf j).toNat)
      case atStart => exact ⟨0, 0, o, Nat.zero_le _, rfl, rfl, hown, Lib.hid (MulI.zero (by omega) HI.out.1), hb⟩
      case round =>
        obtain ⟨k, cy, out, hkl, rfl, rfl, hown2, HM, hb2⟩ := hrel
        have hcy := HM.out.low
        have hol2 : out.length = nn := by rw [HM.out.len, holen]
        have hN := HNN.out
        by_cases hkb : k < lb.length
        · obtain ⟨b2, o2, rfl, hb2x, c2⟩ := R2.out.cell (j := k) hkb
          have hy9 := HS.out.2.getD (by omega) k
          have hz9 := HM.out.small.getD (by omega) (i + k)
          have HM2 := Lib.hid (HM.out.step (by omega) HS.out.2 hx9 (by omega))
          have c3 : wr.cell? ⟨w.heap.size, i + k, none⟩ = some (.int .i64 (out.getD (i + k) 0 : Nat)) := by
            rw [hown2.cellAt (i + k) (by omega)]
            have : i + k < out.length := by omega
            simp [List.getD, this, encN]
          replace c1 := (hb2.cell (p := ⟨b1, o1 + i, none⟩) hb1x).trans c1
          replace c2 := (hb2.cell (p := ⟨b2, o2 + k, none⟩) hb2x).trans c2
          have hxy : x * lb.getD k 0 ≤ 9999 * 9999 := Nat.mul_le_mul (by omega) (by omega)
          generalize lb.getD k 0 = y at c2 hy9 HM2 hxy
          generalize out.getD (i + k) 0 = z at c3 hz9 HM2
          have hikn : i + k < nn := by omega
          have hxyz : 0 ≤ (x : Int) * y ∧ (x : Int) * y ≤ 99980001 := ⟨Int.mul_nonneg (by omega) (by omega), by have h : ((x * y : Nat) : Int) ≤ ((9999 * 9999 : Nat) : Int) := Int.ofNat_le.2 hxy; rw [Int.natCast_mul] at h; omega⟩
          clear hN
          go_wp2_with fail
          refine Rd.region (fun X => X.cell? ⟨w.heap.size, i + k, none⟩ = some (.int .i64 (z : Int)) ∧ X.cell? ⟨b1, o1 + i, none⟩ = some (.int .i64 (x : Int)) ∧ X.cell? ⟨b2, o2 + k, none⟩ = some (.int .i64 (y : Int)) ∧ Below w.heap.size w X) 19 [0, 1, 2, 3, 4, 5, 6, 7, 8, 9, 10, 11, 12, 13, 14, 15, 16, 17] [0, 1, 2, 3, 4, 5, 6, 7, 8, 9, 10, 11, 12, 13, 14, 15, 16, 17, 18] (by kernel_rfl) (by kernel_rfl) (by kernel_rfl) (by kernel_rfl) rfl ⟨c3, c1, c2, hb2.drew⟩ ?_
          refine Rd.seq_float (.slice (some ⟨w.heap.size, 0, none⟩) nn nn) (by simp only [List.getElem?_toArray, List.getElem?_cons_zero]; rfl) rfl (by rfl) (fun X _ => by go_simp) ?_
          simp only [Act.put, List.setIfInBounds_toArray, List.set_cons_succ, List.set_cons_zero]
          refine Rd.seq_float (.int .i64 (i : Int)) (by simp only [List.getElem?_toArray, List.getElem?_cons_succ, List.getElem?_cons_zero]; rfl) rfl (by rfl) (fun X _ => by go_simp) ?_
          simp only [Act.put, List.setIfInBounds_toArray, List.set_cons_succ, List.set_cons_zero]
          refine Rd.seq_float (.int .i64 (k : Int)) (by simp only [List.getElem?_toArray, List.getElem?_cons_succ, List.getElem?_cons_zero]; rfl) rfl (by rfl) (fun X _ => by go_simp) ?_
          simp only [Act.put, List.setIfInBounds_toArray, List.set_cons_succ, List.set_cons_zero]
          refine Rd.seq_float (.int .i64 ((i : Int) + k)) (by simp only [List.getElem?_toArray, List.getElem?_cons_succ, List.getElem?_cons_zero]; rfl) rfl (by rfl) (fun X _ => by go_simp; exact IntWalk.i64_in _ (by omega)) ?_
          simp only [Act.put, List.setIfInBounds_toArray, List.set_cons_succ, List.set_cons_zero]
          refine Rd.seq_float (.pointer (some ⟨w.heap.size, i + k, none⟩)) (by simp only [List.getElem?_toArray, List.getElem?_cons_succ, List.getElem?_cons_zero]; rfl) rfl (by rfl) (fun X _ => by go_simp; rw [if_pos (by omega), show ((i : Int) + k).toNat = i + k by omega]) ?_
          simp only [Act.put, List.setIfInBounds_toArray, List.set_cons_succ, List.set_cons_zero]
          refine Rd.seq_float (.int .i64 (z : Int)) (by simp only [List.getElem?_toArray, List.getElem?_cons_succ, List.getElem?_cons_zero]; rfl) rfl (by rfl) (fun X hX => by have hX1 := hX.1; go_simp) ?_
          simp only [Act.put, List.setIfInBounds_toArray, List.set_cons_succ, List.set_cons_zero]
          refine Rd.seq_float (.slice (some ⟨b1, o1, none⟩) la.length cap1) (by simp only [List.getElem?_toArray, List.getElem?_cons_succ, List.getElem?_cons_zero]; rfl) rfl (by rfl) (fun X _ => by go_simp) ?_
          simp only [Act.put, List.setIfInBounds_toArray, List.set_cons_succ, List.set_cons_zero]
          refine Rd.seq_float (.int .i64 (i : Int)) (by simp only [List.getElem?_toArray, List.getElem?_cons_succ, List.getElem?_cons_zero]; rfl) rfl (by rfl) (fun X _ => by go_simp) ?_
          simp only [Act.put, List.setIfInBounds_toArray, List.set_cons_succ, List.set_cons_zero]
          refine Rd.seq_float (.pointer (some ⟨b1, o1 + i, none⟩)) (by simp only [List.getElem?_toArray, List.getElem?_cons_succ, List.getElem?_cons_zero]; rfl) rfl (by rfl) (fun X _ => by go_simp) ?_
          simp only [Act.put, List.setIfInBounds_toArray, List.set_cons_succ, List.set_cons_zero]
          refine Rd.seq_float (.int .i64 (x : Int)) (by simp only [List.getElem?_toArray, List.getElem?_cons_succ, List.getElem?_cons_zero]; rfl) rfl (by rfl) (fun X hX => by have hX1 := hX.2.1; go_simp) ?_
          simp only [Act.put, List.setIfInBounds_toArray, List.set_cons_succ, List.set_cons_zero]
          refine Rd.seq_float (.slice (some ⟨b2, o2, none⟩) lb.length cap2) (by simp only [List.getElem?_toArray, List.getElem?_cons_succ, List.getElem?_cons_zero]; rfl) rfl (by rfl) (fun X _ => by go_simp) ?_
          simp only [Act.put, List.setIfInBounds_toArray, List.set_cons_succ, List.set_cons_zero]
          refine Rd.seq_float (.int .i64 (k : Int)) (by simp only [List.getElem?_toArray, List.getElem?_cons_succ, List.getElem?_cons_zero]; rfl) rfl (by rfl) (fun X _ => by go_simp) ?_
          simp only [Act.put, List.setIfInBounds_toArray, List.set_cons_succ, List.set_cons_zero]
          refine Rd.seq_float (.pointer (some ⟨b2, o2 + k, none⟩)) (by simp only [List.getElem?_toArray, List.getElem?_cons_succ, List.getElem?_cons_zero]; rfl) rfl (by rfl) (fun X _ => by go_simp) ?_
          simp only [Act.put, List.setIfInBounds_toArray, List.set_cons_succ, List.set_cons_zero]
          refine Rd.seq_float (.int .i64 (y : Int)) (by simp only [List.getElem?_toArray, List.getElem?_cons_succ, List.getElem?_cons_zero]; rfl) rfl (by rfl) (fun X hX => by have hX1 := hX.2.2.1; go_simp) ?_
          simp only [Act.put, List.setIfInBounds_toArray, List.set_cons_succ, List.set_cons_zero]
          refine Rd.seq_float (.int .i64 ((x : Int) * y)) (by simp only [List.getElem?_toArray, List.getElem?_cons_succ, List.getElem?_cons_zero]; rfl) rfl (by rfl) (fun X _ => by go_simp; exact IntWalk.i64_in _ (by omega)) ?_
          simp only [Act.put, List.setIfInBounds_toArray, List.set_cons_succ, List.set_cons_zero]
          refine Rd.seq_float (.int .i64 ((z : Int) + x * y)) (by simp only [List.getElem?_toArray, List.getElem?_cons_succ, List.getElem?_cons_zero]; rfl) rfl (by rfl) (fun X _ => by go_simp; exact IntWalk.i64_in _ (by omega)) ?_
          simp only [Act.put, List.setIfInBounds_toArray, List.set_cons_succ, List.set_cons_zero]
          refine Rd.seq_float (.int .i64 (cy : Int)) (by simp only [List.getElem?_toArray, List.getElem?_cons_succ, List.getElem?_cons_zero]; rfl) rfl (by rfl) (fun X _ => by go_simp) ?_
          simp only [Act.put, List.setIfInBounds_toArray, List.set_cons_succ, List.set_cons_zero]
          refine Rd.seq_float (.int .i64 ((z : Int) + x * y + cy)) (by simp only [List.getElem?_toArray, List.getElem?_cons_succ, List.getElem?_cons_zero]; rfl) rfl (by rfl) (fun X _ => by go_simp; exact IntWalk.i64_in _ (by omega)) ?_
          simp only [Act.put, List.setIfInBounds_toArray, List.set_cons_succ, List.set_cons_zero]
          refine Rd.seq_move (by simp only [List.getElem?_toArray, List.getElem?_cons_succ, List.getElem?_cons_zero]; rfl) rfl (by rfl) (fun K hK => ?_)
          go_simp
          refine hK _ _ (fun _ => ⟨c3, c1, c2, hb2.drew⟩) ?_
          refine Rd.seq_end ?_
          have B1 : Below w.heap.size w wr.drew := hb2.drew
          have hown3 : wr.drew.ownsRow w.heap.size 3 1 (.slice (some ⟨w.heap.size, 0, none⟩) nn nn) nn (out.map encN) := hown2
          have c4 : wr.drew.cell? ⟨w.heap.size, i + k, none⟩ = some (.int .i64 (z : Int)) := c3
          clear hown2 hb2 c1 c2 c3
          generalize wr.drew = W1 at B1 hown3 c4 ⊢
          have hfz := hown3.frozenAt (i + k)
          go_wp2_with fail
          obtain ⟨hs1, hs2⟩ := hown3.stored (i + k) (.int .i64 (((z : Int) + x * y + cy) % 10000))
          refine ⟨⟨k + 1, (z + x * y + cy) / 10000, out.set (i + k) ((z + x * y + cy) % 10000), by omega, by simp, by go_num, ?_, HM2, B1.grown hs2 B1.size (fun j ej => by cases ej; exact Nat.le_refl _)⟩, by simp [intOf]; omega⟩
          have e1 : (out.set (i + k) ((z + x * y + cy) % 10000)).map encN = (out.map encN).set (i + k) (.int .i64 (((z : Int) + x * y + cy) % 10000)) := by
            rw [List.map_set]; simp [encN]
          rw [e1]
          exact hs1
        · have hkl2 : k = lb.length := by omega
          subst hkl2
          have hh := HI.out
          have hz0' : o.getD (i + lb.length) 0 = 0 := hh.2.2 _ (Nat.le_refl _)
          have HD := Lib.hid (HM.out.done (by rw [holen]; omega) hz0')
          have hikn : i + lb.length < nn := by omega
          have hzz : out.getD (i + lb.length) 0 = 0 := by rw [HM.out.rest _ (Nat.le_refl _), hz0']
          have c3 : wr.cell? ⟨w.heap.size, i + lb.length, none⟩ = some (.int .i64 0) := by
            rw [hown2.cellAt (i + lb.length) (by omega)]
            have h1 : i + lb.length < out.length := by omega
            have h2 : out[i + lb.length] = 0 := by rw [← hzz]; simp [List.getD, h1]
            simp [h1, encN, h2]
          have hfz := hown2.frozenAt (i + lb.length)
          have HE : Hid (Small 10000 (out.set (i + lb.length) cy) ∧ val 10000 (out.set (i + lb.length) cy) = val 10000 (la.take (i + 1)) * val 10000 lb ∧ ∀ j, i + 1 + lb.length ≤ j → (out.set (i + lb.length) cy).getD j 0 = 0) := Lib.hid (by
            have hd := HD.out
            rw [hzz, Nat.zero_add] at hd
            refine ⟨hd.1, ?_, fun j hj => by rw [hd.2.2 j hj]; exact hh.2.2 j (by omega)⟩
            rw [hd.2.1, hh.2.1, hvt.out, Nat.add_mul, Nat.mul_assoc])
          clear HD HM hh HI hvt hzz hz0' hN
          go_wp2_with fail
          obtain ⟨hs1, hs2⟩ := hown2.stored (i + lb.length) (.int .i64 (cy : Int))
          refine ⟨⟨i + 1, out.set (i + lb.length) cy, by omega, by go_num, ?_, by rw [List.length_set]; exact hol2, HE, hb2.grown hs2 hb2.size (fun j ej => by cases ej; exact Nat.le_refl _)⟩, by simp [intOf]; omega⟩
          rw [List.map_set]
          exact hs1
    · have hki : i = la.length := by omega
      have HF : Hid (trim o = dig 10000 (a * b)) := Lib.hid (by
        obtain ⟨h1, h2, h3⟩ := HI.out
        rw [trim_dig (by omega) _ h1, h2, hki, List.take_length, HV.out.1, HV.out.2])
      have hol : o.length ≤ 1000000 := by omega
      have hown2 : wr.ownsRow w.heap.size 3 1 (.slice (some ⟨w.heap.size, 0, none⟩) nn nn) o.length (o.map encN) := by rw [holen]; exact hown
      have H44 := Lib.hid (trim_any _ o wr (Row.of_owns hown2) hol)
      clear HI
      go_wp2_with fail
      refine H44.out.mono ?_
      rintro e w' ⟨v', rfl, hv', rfl⟩
      go_wp2_with fail
      go_ret
      refine ⟨_, rfl, ?_, hb⟩
      rw [← HF.out]
      exact hv'
end Go.Proofs.YtphllajedkpcbaaGreatDoor
