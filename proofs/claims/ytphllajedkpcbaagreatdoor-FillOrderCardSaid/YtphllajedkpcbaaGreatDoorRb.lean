/-
  Contracts of the document's answers roundelref02: Of, Sub. Tried over a program of one's own: the numbers of functions and types are that one's.
-/
import Derived.Test.YtphllajedkpcbaaGreatDoorRa
namespace Go.Proofs.YtphllajedkpcbaaGreatDoor
open Go.RowKit Go.Dig Go.Proofs

set_option maxRecDepth 100000 in
set_option maxHeartbeats 2000000 in
theorem Of_any (n : Nat) (w : World) (hn : n < 9223372036854775808) :
    Calls Tryz.prog 23 #[.int .i64 (n : Int)] w fun e w' => ∃ v, e = .returned v ∧ Row w' v (D n) ∧ Below w.heap.size w w' := by
  obtain ⟨i0, hi, hz0, hz1, hz2⟩ := info_parts Tryz.info3
  have hlen : (D n).length ≤ 5 := (dig_len (by omega) n 5).2 (by omega)
  generalize hd : D n = d at hlen ⊢
  have HD := Lib.hid hd
  clear hd
  go_enter Tryz.func23, Tryz.ntmps23
  go_wp2_with fail
  go_loopw [0, 3] (fun i v wr => ∃ (m : Nat) (out : List Nat), m < 9223372036854775808 ∧ i = .int .i64 (m : Int) ∧ wr.ownsRow w.heap.size 3 1 v out.length (out.map encN) ∧ out.length ≤ 5 ∧ Hid (d = out ++ D m) ∧ Below w.heap.size w wr) (fun i _ _ => (intOf i).toNat)
  case atStart => exact ⟨n, [], hn, rfl, World.ownsRow_nil _ _ _ _, by simp, Lib.hid HD.out.symm, Below.refl _ _⟩
  case round =>
    obtain ⟨m, out, hm, rfl, hrow, hol, HO, hb⟩ := hrel
    have hbs := hb.size
    by_cases h0 : m = 0
    · subst h0
      have HX : Hid (d = out) := Lib.hid (by rw [HO.out]; show out ++ [] = out; simp)
      clear HO
      go_wp2_with fail
      go_ret
      refine ⟨_, rfl, ?_, hb⟩
      rw [HX.out]
      exact Row.of_owns hrow
    · have hpos : 0 < m := by omega
      have HO2 : Hid (d = (out ++ [m % 10000]) ++ D (m / 10000)) := Lib.hid (by rw [HO.out]; show out ++ dig 10000 m = _; rw [dig_step (by omega) h0]; simp)
      have hol2 : out.length + 1 ≤ 5 := by
        have := congrArg List.length HO2.out
        simp at this; omega
      have hdl : m / 10000 < m := by omega
      clear HO
      go_wp2_with (at_builtin; refine wpList_append_own _ rfl _ _ 30 rfl w.heap.size 3 i0 (.int .i64 0) 1 8 Tryz.underlying30 hi hz0 hz1 hz2 rfl (by decide) u3 _ _ rfl (hrow.alloc _) ⟨wr.heap.size, 0, none⟩ 1 1 [.int .i64 ((m : Int) % 10000)] rfl rfl (cell_one_new _ _ _) (by simp [Value.oneCell']) (by unfold maxLen; omega) (by omega) (by simp; omega) ?_; intro v2 w2 hown2 hgrow _)
      refine ⟨⟨m / 10000, out ++ [m % 10000], by omega, by congr 1, ?_, by simp; omega, HO2, (hb.alloc hb.size _).grown hgrow (Nat.le_trans hb.size (by simp)) (fun j ej => (hrow.lt j ej).1)⟩, ?_⟩
      · rw [List.length_append, List.map_append]
        exact hown2
      · simp only [intOf]; omega

set_option maxRecDepth 100000 in
set_option maxHeartbeats 2000000 in
theorem Sub_any (v1 v2 : Value) (a b : Nat) (w : World) (h1 : Row w v1 (D a)) (h2 : Row w v2 (D b)) (hl1 : (D a).length ≤ 100000) (hba : b ≤ a) :
    Calls Tryz.prog 72 #[v1, v2] w fun e w' => ∃ v, e = .returned v ∧ Row w' v (D (a - b)) ∧ Below w.heap.size w w' := by
  obtain ⟨i0, hi, hz0, hz1, hz2⟩ := info_parts Tryz.info3
  have hl2 : (D b).length ≤ (D a).length := dig_mono (by omega) hba
  have R1 := Lib.hid h1
  have R2 := Lib.hid h2
  obtain ⟨ad1, cap1, rfl, -, -⟩ := h1
  obtain ⟨ad2, cap2, rfl, -, -⟩ := h2
  have HS := Lib.hid (And.intro (dig_small (B := 10000) (by omega) a) (dig_small (B := 10000) (by omega) b))
  have HV := Lib.hid (And.intro (dig_val (B := 10000) (by omega) a) (dig_val (B := 10000) (by omega) b))
  unfold D at *
  generalize dig 10000 a = la at *
  generalize dig 10000 b = lb at *
  go_enter Tryz.func72, Tryz.ntmps72
  go_wp2_with fail
  go_loopw [5, 6, 11] (fun v c i wr => ∃ (k bo : Nat) (out : List Nat), k ≤ la.length ∧ c = .int .i64 (bo : Int) ∧ i = .int .i64 (k : Int) ∧ wr.ownsRow w.heap.size 3 1 v out.length (out.map encN) ∧ out.length = k ∧ Hid (SubI 10000 la lb out bo k) ∧ Below w.heap.size w wr) (fun _ _ i _ => la.length - (intOf i).toNat)
  case atStart => exact ⟨0, 0, [], by omega, rfl, rfl, World.ownsRow_nil _ _ _ _, rfl, Lib.hid (SubI.zero _ _), Below.refl _ _⟩
  case round =>
    obtain ⟨k, bo, out, hk, rfl, rfl, hrow, hlen, HI, hb⟩ := hrel
    have hbo := HI.out.low
    by_cases hlt : k < la.length
    · obtain ⟨b1, o1, rfl, hb1, c1⟩ := R1.out.cell (j := k) (by omega)
      replace c1 : wr.drew.cell? ⟨b1, o1 + k, none⟩ = some (.int .i64 (la.getD k 0 : Nat)) := (hb.cell (p := ⟨b1, o1 + k, none⟩) hb1).trans c1
      have hx9 := HS.out.1.getD (by omega) k
      have hy9 := HS.out.2.getD (by omega) k
      have HP := Lib.hid (fun h => HI.out.plain HS.out.1 (by omega) h)
      have HB := Lib.hid (fun h => HI.out.borrowed HS.out.2 (by omega) h)
      have H43 := Lib.hid (fun W h => at_any (.slice ad2 lb.length cap2) lb k W h (by omega) (by omega))
      have hrow1 : wr.drew.ownsRow w.heap.size 3 1 u5 out.length (out.map encN) := hrow
      have B1 := hb.drew
      have R2W := R2.out.below B1
      generalize la.getD k 0 = x at c1 hx9 HP HB
      generalize lb.getD k 0 = y at hy9 HP HB H43
      clear hrow HI
      go_wp2_with fail
      refine Rd.region (fun X => X.cell? ⟨b1, o1 + k, none⟩ = some (.int .i64 (x : Int)) ∧ Below w.heap.size w X) 11 [0, 1, 2, 3, 4, 5, 8, 7, 9] [0, 1, 2, 3, 4, 5, 8, 6, 7, 9, 10] (by kernel_rfl) (by kernel_rfl) (by kernel_rfl) (by kernel_rfl) rfl ⟨c1, B1⟩ ?_
      generalize wr.drew = W1 at c1 hrow1 B1 R2W ⊢
      have hbs := B1.size
      refine Rd.seq_float (.slice (some ⟨b1, o1, none⟩) la.length cap1) (by simp only [List.getElem?_toArray, List.getElem?_cons_zero]; rfl) rfl (by rfl) (fun X _ => by go_simp) ?_
      simp only [Act.put, List.setIfInBounds_toArray, List.set_cons_succ, List.set_cons_zero]
      refine Rd.seq_float (.int .i64 (k : Int)) (by simp only [List.getElem?_toArray, List.getElem?_cons_succ, List.getElem?_cons_zero]; rfl) rfl (by rfl) (fun X _ => by go_simp) ?_
      simp only [Act.put, List.setIfInBounds_toArray, List.set_cons_succ, List.set_cons_zero]
      refine Rd.seq_float (.pointer (some ⟨b1, o1 + k, none⟩)) (by simp only [List.getElem?_toArray, List.getElem?_cons_succ, List.getElem?_cons_zero]; rfl) rfl (by rfl) (fun X _ => by go_simp) ?_
      simp only [Act.put, List.setIfInBounds_toArray, List.set_cons_succ, List.set_cons_zero]
      refine Rd.seq_float (.int .i64 (x : Int)) (by simp only [List.getElem?_toArray, List.getElem?_cons_succ, List.getElem?_cons_zero]; rfl) rfl (by rfl) (fun X hX => by have hX1 := hX.1; go_simp) ?_
      simp only [Act.put, List.setIfInBounds_toArray, List.set_cons_succ, List.set_cons_zero]
      refine Rd.seq_float (.slice ad2 lb.length cap2) (by simp only [List.getElem?_toArray, List.getElem?_cons_succ, List.getElem?_cons_zero]; rfl) rfl (by rfl) (fun X _ => by go_simp) ?_
      simp only [Act.put, List.setIfInBounds_toArray, List.set_cons_succ, List.set_cons_zero]
      refine Rd.seq_float (.int .i64 (k : Int)) (by simp only [List.getElem?_toArray, List.getElem?_cons_succ, List.getElem?_cons_zero]; rfl) rfl (by rfl) (fun X _ => by go_simp) ?_
      simp only [Act.put, List.setIfInBounds_toArray, List.set_cons_succ, List.set_cons_zero]
      refine Rd.seq_float (.int .i64 (bo : Int)) (by simp only [List.getElem?_toArray, List.getElem?_cons_succ, List.getElem?_cons_zero]; rfl) rfl (by rfl) (fun X _ => by go_simp) ?_
      simp only [Act.put, List.setIfInBounds_toArray, List.set_cons_succ, List.set_cons_zero]
      refine Rd.seq_move (by simp only [List.getElem?_toArray, List.getElem?_cons_succ, List.getElem?_cons_zero]; rfl) rfl (by rfl) (fun K hK => ?_)
      go_simp
      refine (H43.out W1 R2W).mono ?_
      rintro e w' ⟨rfl, rfl⟩
      refine hK _ _ (fun _ => ⟨c1, B1⟩) ?_
      clear hK K
      refine Rd.seq_float (.int .i64 ((x : Int) - y)) (by simp only [List.getElem?_toArray, List.getElem?_cons_succ, List.getElem?_cons_zero]; rfl) rfl (by rfl) (fun X _ => by go_simp; exact IntWalk.i64_in _ (by omega)) ?_
      simp only [Act.put, List.setIfInBounds_toArray, List.set_cons_succ, List.set_cons_zero]
      refine Rd.seq_float (.int .i64 ((x : Int) - y - bo)) (by simp only [List.getElem?_toArray, List.getElem?_cons_succ, List.getElem?_cons_zero]; rfl) rfl (by rfl) (fun X _ => by go_simp; exact IntWalk.i64_in _ (by omega)) ?_
      simp only [Act.put, List.setIfInBounds_toArray, List.set_cons_succ, List.set_cons_zero]
      refine Rd.seq_move (by simp only [List.getElem?_toArray, List.getElem?_cons_succ, List.getElem?_cons_zero]; rfl) rfl (by rfl) (fun K hK => ?_)
      go_simp
      refine hK _ _ (fun _ => ⟨c1, B1⟩) ?_
      refine Rd.seq_end ?_
      by_cases hbr : x < y + bo
      · have HX := Lib.hid (HB.out hbr)
        have hneg : (x : Int) - y - bo < 0 := by omega
        clear HB HP
        have HC : Hid ((x : Int) - y - bo + 10000 = ((x + 10000 - y - bo : Nat) : Int)) := Lib.hid (by omega)
        go_wp2_with (at_builtin; refine wpList_append_own _ rfl _ _ 30 rfl w.heap.size 3 i0 (.int .i64 0) 1 8 Tryz.underlying30 hi hz0 hz1 hz2 rfl (by decide) u5 _ _ rfl (hrow1.alloc _) ⟨W1.heap.size, 0, none⟩ 1 1 [.int .i64 ((x : Int) - y - bo + 10000)] rfl rfl (cell_one_new _ _ _) (by simp [Value.oneCell']) (by unfold maxLen; omega) (by omega) (by simp; omega) ?_; intro v2 w2 hown2 hgrow _)
        refine ⟨⟨k + 1, 1, out ++ [x + 10000 - y - bo], by omega, rfl, by go_num, ?_, by rw [List.length_append, hlen]; rfl, HX, (B1.alloc B1.size _).grown hgrow (Nat.le_trans B1.size (by simp)) (fun j ej => (hrow1.lt j ej).1)⟩, ?_⟩
        · rw [List.length_append, List.map_append]
          have e1 : [x + 10000 - y - bo].map encN = [.int .i64 ((x : Int) - y - bo + 10000)] := by rw [HC.out]; rfl
          rw [e1]
          exact hown2
        · simp only [intOf]; omega
      · have HX := Lib.hid (HP.out (by omega))
        have hpos : 0 ≤ (x : Int) - y - bo := by omega
        clear HB HP
        have HC : Hid ((x : Int) - y - bo = ((x - y - bo : Nat) : Int)) := Lib.hid (by omega)
        go_wp2_with (at_builtin; refine wpList_append_own _ rfl _ _ 30 rfl w.heap.size 3 i0 (.int .i64 0) 1 8 Tryz.underlying30 hi hz0 hz1 hz2 rfl (by decide) u5 _ _ rfl (hrow1.alloc _) ⟨W1.heap.size, 0, none⟩ 1 1 [.int .i64 ((x : Int) - y - bo)] rfl rfl (cell_one_new _ _ _) (by simp [Value.oneCell']) (by unfold maxLen; omega) (by omega) (by simp; omega) ?_; intro v2 w2 hown2 hgrow _)
        refine ⟨⟨k + 1, 0, out ++ [x - y - bo], by omega, rfl, by go_num, ?_, by rw [List.length_append, hlen]; rfl, HX, (B1.alloc B1.size _).grown hgrow (Nat.le_trans B1.size (by simp)) (fun j ej => (hrow1.lt j ej).1)⟩, ?_⟩
        · rw [List.length_append, List.map_append]
          have e1 : [x - y - bo].map encN = [.int .i64 ((x : Int) - y - bo)] := by rw [HC.out]; rfl
          rw [e1]
          exact hown2
        · simp only [intOf]; omega
    · have hkl : k = la.length := by omega
      have HF : Hid (trim out = dig 10000 (a - b)) := Lib.hid (by
        have h1 := HI.out
        rw [hkl] at h1
        have h2 := h1.done (by omega) hl2 (by rw [HV.out.1, HV.out.2]; exact hba)
        rw [trim_dig (by omega) _ h1.small, h2.2, HV.out.1, HV.out.2])
      have hout : out.length ≤ 1000000 := by omega
      have H44 := Lib.hid (trim_any _ out wr (Row.of_owns hrow) hout)
      clear HI
      go_wp2_with fail
      refine H44.out.mono ?_
      rintro e w' ⟨v', rfl, hv', rfl⟩
      go_wp2_with fail
      go_ret
      refine ⟨_, rfl, ?_, hb⟩
      rw [← HF.out]
      exact hv'
end Go.Proofs.YtphllajedkpcbaaGreatDoor
