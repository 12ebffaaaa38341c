/-
  The document's Drop, Push, Behind, New. Condition: no node is in two places.
-/
import Derived.Test.YtglnjpbjlcbgoaaVl
namespace Go.Proofs.Ytglnjpbjlcbgoaa
open Go.RowKit

set_option maxRecDepth 100000 in
set_option maxHeartbeats 4000000 in
theorem rDrop_no (B N : Nat) (dv : Value) (ls : List (List Nat)) (n q : Int) (w : World) (h : Doc w B dv ls) (ok : OkL N ls) (hq : wrongI N ls n true = q) (hq0 : ¬ q = 0) :
    Calls Try.prog 28 #[.agg #[.int .i64 (N : Int), dv], .int .i64 n] w fun e w' => (∃ v', e = .returned (.tuple #[v', .int .i64 q]) ∧ RV w' B N v' ls) ∧ Below w.heap.size w w' := by
  have hx := (IsT.new w (N : Int) dv).alloc (.cells #[.int .i64 0, .slice none 0 0] 30)
  have hZ : IsT ((w.alloc (.cells #[.int .i64 (N : Int), dv] 30)).alloc (.cells #[.int .i64 0, .slice none 0 0] 30)) (w.heap.size + 1) 0 (.slice none 0 0) := by
    have := IsT.new (w.alloc (.cells #[.int .i64 (N : Int), dv] 30)) 0 (.slice none 0 0)
    simpa using this
  have hb : Below w.heap.size w ((w.alloc (.cells #[.int .i64 (N : Int), dv] 30)).alloc (.cells #[.int .i64 0, .slice none 0 0] 30)) := ((Below.refl _ w).alloc (Nat.le_refl _) _).alloc (by simp) _
  have hsz : w.heap.size + 2 ≤ ((w.alloc (.cells #[.int .i64 (N : Int), dv] 30)).alloc (.cells #[.int .i64 0, .slice none 0 0] 30)).heap.size := by simp
  have HD := Lib.hid (h.below hb)
  have hq1 := bne_tt hq0
  have HW := Lib.hid hq
  have HOK := Lib.hid ok
  clear h ok hq hq0
  go_enter Try.func28, Try.ntmps28
  go_wp2_with (first | (refine wpList_alloc30 rfl rfl ?_) | (refine wpList_load30 rfl _ rfl w.heap.size _ _ rfl hx ?_))
  generalize ((w.alloc (.cells #[.int .i64 (N : Int), dv] 30)).alloc (.cells #[.int .i64 0, .slice none 0 0] 30)) = w2 at *
  refine (wrong_any B N dv ls n true w2 HD.out HOK.out).mono ?_
  rw [HW.out]
  rintro e w3 ⟨rfl, hb3⟩
  replace hx := hx.belowS hb3; replace hZ := hZ.belowS hb3; replace HD := Lib.hid (HD.out.below hb3); replace hb := hb.trans (hb3.mono hb.size); have hs3 := hb3.size
  clear hb3
  go_wp2_with (first | (refine wpList_load30 rfl _ rfl w.heap.size _ _ rfl hx ?_) | (refine wpList_store30 rfl _ _ rfl (w.heap.size + 1) _ _ _ _ rfl rfl hZ HD.out.one ?_; intro w5 hZ5 t5))
  refine bodyPost_ret (results_ct rfl _ w5 (w.heap.size + 1) _ _ (.int .i64 q) rfl rfl hZ5) rfl ?_
  exact ⟨⟨_, rfl, _, rfl, HD.out.turn t5 hZ (by decide) (by decide)⟩, hb.trans (t5.below (by omega))⟩
set_option maxRecDepth 100000 in
set_option maxHeartbeats 4000000 in
theorem rDrop_yes (B N : Nat) (dv : Value) (ls : List (List Nat)) (n : Int) (w : World) (h : Doc w B dv ls) (hB0 : B ≤ w.heap.size) (ok : OkL N ls) (hq : wrongI N ls n true = 0) (hh : hasB ls n = true) :
    Calls Try.prog 28 #[.agg #[.int .i64 (N : Int), dv], .int .i64 n] w fun e w' => (∃ v', e = .returned (.tuple #[v', .int .i64 0]) ∧ RV w' B N v' (delL ls (fk ls n) (fi ls n))) ∧ Below w.heap.size w w' := by
  obtain ⟨ad, cd, rfl⟩ := h.sl
  have hx := (IsT.new w (N : Int) (.slice ad ls.length cd)).alloc (.cells #[.int .i64 0, .slice none 0 0] 30)
  have hZ : IsT ((w.alloc (.cells #[.int .i64 (N : Int), (.slice ad ls.length cd)] 30)).alloc (.cells #[.int .i64 0, .slice none 0 0] 30)) (w.heap.size + 1) 0 (.slice none 0 0) := by
    have := IsT.new (w.alloc (.cells #[.int .i64 (N : Int), (.slice ad ls.length cd)] 30)) 0 (.slice none 0 0)
    simpa using this
  have hb : Below w.heap.size w ((w.alloc (.cells #[.int .i64 (N : Int), (.slice ad ls.length cd)] 30)).alloc (.cells #[.int .i64 0, .slice none 0 0] 30)) := ((Below.refl _ w).alloc (Nat.le_refl _) _).alloc (by simp) _
  have hsz : w.heap.size + 2 ≤ ((w.alloc (.cells #[.int .i64 (N : Int), (.slice ad ls.length cd)] 30)).alloc (.cells #[.int .i64 0, .slice none 0 0] 30)).heap.size := by simp
  have HD := Lib.hid (h.below hb)
  have hm := ok.m64
  obtain ⟨x, -, hx5⟩ := hasB_at hh
  have hk := hx5.lists
  have hi := hx5.len
  have HW := Lib.hid hq
  have HOK := Lib.hid ok
  have HL : Hid (listI ls n = (fk ls n : Nat) ∧ posI ls n = (fi ls n : Nat)) := Lib.hid (by simp [listI, posI, hh])
  have hl64 := ok.len64 (fk ls n)
  have HI : Hid (delL ls (fk ls n) (fi ls n) = ls.set (fk ls n) ((row ls (fk ls n)).take (fi ls n) ++ (row ls (fk ls n)).drop (fi ls n + 1))) := Lib.hid rfl
  clear h ok hq hh hx5
  generalize hk9 : fk ls n = k at *
  generalize hi9 : fi ls n = i at *
  obtain ⟨j, hj9⟩ : ∃ j, j = i + 1 := ⟨_, rfl⟩
  rw [← hj9] at HI
  have hjl : j ≤ (row ls k).length := by omega
  have HJ : Hid ((i : Int) + 1 = (j : Int)) := Lib.hid (by omega)
  clear hj9 hk9 hi9
  go_enter Try.func28, Try.ntmps28
  go_wp2_with (first | (refine wpList_alloc30 rfl rfl ?_) | (refine wpList_load30 rfl _ rfl w.heap.size _ _ rfl hx ?_))
  generalize ((w.alloc (.cells #[.int .i64 (N : Int), (.slice ad ls.length cd)] 30)).alloc (.cells #[.int .i64 0, .slice none 0 0] 30)) = w2 at *
  refine (wrong_any B N _ ls n true w2 HD.out HOK.out).mono ?_
  rw [HW.out]
  rintro e w3 ⟨rfl, hb3⟩
  replace hx := hx.belowS hb3; replace hZ := hZ.belowS hb3; replace HD := Lib.hid (HD.out.below hb3); replace hb := hb.trans (hb3.mono hb.size); have hs3 := hb3.size
  clear hb3
  go_wp2_with (first | (refine wpList_load30 rfl _ rfl w.heap.size _ _ rfl hx ?_))
  refine (Find_any B N _ ls n w3 HD.out HOK.out).mono ?_
  rw [HL.out.1, HL.out.2]
  rintro e w5 ⟨rfl, hb5⟩
  replace hx := hx.belowS hb5; replace hZ := hZ.belowS hb5; replace HD := Lib.hid (HD.out.below hb5); replace hb := hb.trans (hb5.mono hb.size); have hs5 := hb5.size
  clear hb5
  obtain ⟨bd, ao, co, rfl, hbd, hcd, hlc, hcm, hro⟩ := HD.out.at hk
  have HRO := Lib.hid hro
  clear hro
  generalize row ls k = L at *
  have hx1 := hx.c1
  go_wp2_with fail
  have HS1 := Lib.hid (head_src HRO.out (Nat.le_of_lt hi))
  have HS2 := Lib.hid (tail_src HRO.out hjl)
  have HF := Lib.hid (RowO.form HRO.out (Nat.le_of_lt hi))
  have HF2 := Lib.hid (RowO.form HRO.out hjl)
  generalize hvt : Value.slice (if co = j then ao else ao.map fun p => p.add j) (L.length - j) (co - j) = VT at HS2
  have HV : Hid (VT = .slice (if co = j then ao else ao.map fun p => p.add j) (L.length - j) (co - j)) := Lib.hid hvt.symm
  clear hvt hx1 hcd
  have s3 := Same.drew w5
  replace hx := hx.sm s3
  replace hZ := hZ.sm s3
  replace hb := hb.trans (s3.below _)
  have hs9 : w.heap.size + 2 ≤ w5.drew.heap.size := by rw [s3.size]; omega
  replace HD := Lib.hid (HD.out.sm s3)
  replace HS1 := Lib.hid (HS1.out.below (s3.below _))
  replace HS2 := Lib.hid (HS2.out.below (s3.below _))
  refine Rd.region (fun X => IsT X w.heap.size (N : Int) (.slice (some ⟨bd, 0, none⟩) ls.length cd)) 15 [0, 1, 3, 4, 5, 7, 8, 9, 10, 14] [0, 1, 3, 4, 5, 7, 8, 9, 10, 2, 6, 11, 12, 13, 14] (by kernel_rfl) (by kernel_rfl) (by kernel_rfl) (by kernel_rfl) rfl hx ?_
  clear HRO s3 hs5 hs3 hsz
  generalize w5.drew = w4 at *
  have hB := Below.refl w4.heap.size w4
  refine Rd.seq_float (.agg #[.int .i64 (N : Int), .slice (some ⟨bd, 0, none⟩) ls.length cd]) (by simp only [List.getElem?_toArray, List.getElem?_cons_zero]; rfl) rfl (by rfl) (fun X hX => run_load30 rfl rfl hX) ?_
  simp only [Act.put, List.setIfInBounds_toArray, List.set_cons_succ, List.set_cons_zero]
  refine Rd.seq_float (.int .i64 (k : Int)) (by simp only [List.getElem?_toArray, List.getElem?_cons_succ, List.getElem?_cons_zero]; rfl) rfl (by rfl) (fun X _ => by go_simp) ?_
  simp only [Act.put, List.setIfInBounds_toArray, List.set_cons_succ, List.set_cons_zero]
  refine Rd.seq_float (.slice ao L.length co) (by simp only [List.getElem?_toArray, List.getElem?_cons_succ, List.getElem?_cons_zero]; rfl) rfl (by rfl) (fun X _ => by go_simp) ?_
  simp only [Act.put, List.setIfInBounds_toArray, List.set_cons_succ, List.set_cons_zero]
  refine Rd.seq_float (.int .i64 (i : Int)) (by simp only [List.getElem?_toArray, List.getElem?_cons_succ, List.getElem?_cons_zero]; rfl) rfl (by rfl) (fun X _ => by go_simp) ?_
  simp only [Act.put, List.setIfInBounds_toArray, List.set_cons_succ, List.set_cons_zero]
  refine Rd.seq_float (.slice ao i co) (by simp only [List.getElem?_toArray, List.getElem?_cons_succ, List.getElem?_cons_zero]; rfl) rfl (by rfl) (fun X _ => by rcases HF.out with ⟨rfl, rfl, h1, rfl⟩ | ⟨⟨g, rfl⟩, h1, h2, h3⟩ <;> go_simp) ?_
  simp only [Act.put, List.setIfInBounds_toArray, List.set_cons_succ, List.set_cons_zero]
  refine Rd.seq_float (.slice ao L.length co) (by simp only [List.getElem?_toArray, List.getElem?_cons_succ, List.getElem?_cons_zero]; rfl) rfl (by rfl) (fun X _ => by go_simp) ?_
  simp only [Act.put, List.setIfInBounds_toArray, List.set_cons_succ, List.set_cons_zero]
  refine Rd.seq_float (.int .i64 (i : Int)) (by simp only [List.getElem?_toArray, List.getElem?_cons_succ, List.getElem?_cons_zero]; rfl) rfl (by rfl) (fun X _ => by go_simp) ?_
  simp only [Act.put, List.setIfInBounds_toArray, List.set_cons_succ, List.set_cons_zero]
  refine Rd.seq_float (.int .i64 (j : Int)) (by simp only [List.getElem?_toArray, List.getElem?_cons_succ, List.getElem?_cons_zero]; rfl) rfl (by rfl) (fun X _ => by have e := HJ.out; go_simp; exact IntWalk.i64_in _ (by omega)) ?_
  simp only [Act.put, List.setIfInBounds_toArray, List.set_cons_succ, List.set_cons_zero]
  refine Rd.seq_float (VT) (by simp only [List.getElem?_toArray, List.getElem?_cons_succ, List.getElem?_cons_zero]; rfl) rfl (by rfl) (fun X _ => by rw [HV.out]; rcases HF2.out with ⟨rfl, rfl, h1, rfl⟩ | ⟨⟨g, rfl⟩, h1, h2, h3⟩; (go_simp); (by_cases hcj : co = j <;> go_simp)) ?_
  simp only [Act.put, List.setIfInBounds_toArray, List.set_cons_succ, List.set_cons_zero]
  refine Rd.seq_move (by simp only [List.getElem?_toArray, List.getElem?_cons_succ, List.getElem?_cons_zero]; rfl) rfl (by rfl) (fun K hK => ?_)
  go_simp
  have hE := RowV.empty w4 w4.heap.size 3 hB.size
  have hbn : Below w4.heap.size w4 (w4.alloc (.cells #[] 3)) := (Below.refl _ _).alloc (Nat.le_refl _) _
  have hltz1 : w4.heap.size < (w4.alloc (.cells #[] 3)).heap.size := by simp
  replace hB := hB.trans (hbn.mono hB.size)
  clear hbn
  generalize w4.alloc (.cells #[] 3) = z1 at *
  refine hK _ _ (fun _ => hx.below hB (by omega)) ?_
  clear hK K
  refine Rd.seq_move (by simp only [List.getElem?_toArray, List.getElem?_cons_succ, List.getElem?_cons_zero]; rfl) rfl (by rfl) (fun K hK => ?_)
  refine wp_appendI _ _ rfl w4.heap.size _ _ [] (L.take i) rfl rfl hB.size hE (HS1.out.below hB) (by simp; omega) ?_
  intro v6 z2 h6 gr
  rw [List.nil_append] at h6
  have hbn := grown_below hE hB.size gr
  clear gr
  replace hB := hB.trans hbn
  clear hbn
  refine hK _ _ (fun _ => hx.below hB (by omega)) ?_
  clear hK K
  refine Rd.seq_move (by simp only [List.getElem?_toArray, List.getElem?_cons_succ, List.getElem?_cons_zero]; rfl) rfl (by rfl) (fun K hK => ?_)
  refine wp_appendI _ _ rfl w4.heap.size _ _ (L.take i) (L.drop j) rfl rfl hB.size h6 (HS2.out.below hB) (by simp; omega) ?_
  intro v11 z3 h11 gr
  have hbn := grown_below h6 hB.size gr
  clear gr
  replace hB := hB.trans hbn
  clear hbn
  refine hK _ _ (fun _ => hx.below hB (by omega)) ?_
  clear hK K
  refine Rd.seq_move (by simp only [List.getElem?_toArray, List.getElem?_cons_succ, List.getElem?_cons_zero]; rfl) rfl (by rfl) (fun K hK => ?_)
  go_simp
  refine (with_any B N _ v11 ls k (L.take i ++ L.drop j) z3 (HD.out.below hB) (by have := hB.size; omega) (h11.mono (by omega)) hk hm).mono ?_
  rintro e z4 ⟨⟨v', rfl, dv', rfl, hd⟩, hb9⟩
  replace hB := hB.trans (hb9.mono hB.size)
  refine hK _ _ (fun _ => hx.below hB (by omega)) ?_
  clear hK K
  refine Rd.seq_move (by simp only [List.getElem?_toArray, List.getElem?_cons_succ, List.getElem?_cons_zero]; rfl) rfl (by rfl) (fun K hK => ?_)
  refine wp_store30 _ _ rfl (w.heap.size + 1) _ dv' _ _ rfl rfl (hZ.below hB (by omega)) hd.one ?_
  intro z5 hZ9 t9
  refine hK _ _ (fun _ => (hx.below hB (by omega)).turn t9 (by omega)) ?_
  clear hK K
  refine Rd.seq_float (.int .i64 0) (by simp only [List.getElem?_toArray, List.getElem?_cons_succ, List.getElem?_cons_zero]; rfl) rfl (by rfl) (fun X _ => by go_simp) ?_
  simp only [Act.put, List.setIfInBounds_toArray, List.set_cons_succ, List.set_cons_zero]
  refine Rd.seq_end ?_
  go_wp2_with fail
  refine bodyPost_ret (results_ct rfl _ z5 (w.heap.size + 1) _ _ (.int .i64 0) rfl rfl hZ9) rfl ?_
  refine ⟨⟨_, rfl, dv', rfl, ?_⟩, ?_⟩
  · rw [HI.out]; exact hd.turn t9 (hZ.below hB (by omega)) (by decide) (by decide)
  · exact (hb.trans (hB.mono (by omega))).trans (t9.below (by omega))
theorem rDrop_any (B N : Nat) (v : Value) (ls : List (List Nat)) (n : Int) (w : World) (h : RV w B N v ls) (hB0 : B ≤ w.heap.size) (ok : OkL N ls) :
    Calls Try.prog 28 #[v, .int .i64 n] w fun e w' => (∃ v', e = .returned (.tuple #[v', .int .i64 (wrongI N ls n true)]) ∧ RV w' B N v' (dropL N ls n)) ∧ Below w.heap.size w w' := by
  obtain ⟨dv, rfl, h⟩ := h
  by_cases hq : wrongI N ls n true = 0
  · have e : dropL N ls n = delL ls (fk ls n) (fi ls n) := by unfold dropL; rw [if_pos hq]
    have hh : hasB ls n = true := by
      unfold wrongI at hq
      split at hq
      · split at hq
        · assumption
        · omega
      · omega
    rw [e, hq]
    exact rDrop_yes B N dv ls n w h hB0 ok hq hh
  · have e : dropL N ls n = ls := by unfold dropL; rw [if_neg hq]
    rw [e]
    exact rDrop_no B N dv ls n _ w h ok rfl hq
end Go.Proofs.Ytglnjpbjlcbgoaa
