/-
  Contract of the forest's Group. Condition: the forest is one.
-/
import Derived.Test.YthndfhkkaichiaaXl
namespace Go.Proofs.Ythndfhkkaichiaa
open Go.RowKit Go.Maps

section
variable (fp B : Nat) (L : List Gr) (l : List Int) (m k : Int)
set_option maxRecDepth 100000 in
set_option maxHeartbeats 4000000 in
theorem Group_no (x : Int) (w : World) (h : IsF w B fp L l m k) (hx : I64 x) (hh : has L x = false) :
    Calls Try.prog 16 #[.pointer (some ⟨fp, 0, none⟩), .int .i64 x] w fun e w' => e = .returned (.tuple #[.agg (cellsU 0 0 0 0 0 0 0), .int .i64 4]) ∧ Below w.heap.size w w' := by
  obtain ⟨tp, tg, mp, bl, hf, hB⟩ := h.fo
  have hb1 : Below w.heap.size w (w.alloc (.cells #[.int .i64 0, .int .i64 0, .int .i64 0, .int .i64 0, .int .i64 0, .int .i64 0, .int .i64 0] 44)) := (Below.refl _ w).alloc (Nat.le_refl _) _
  have hf1 := hf.below hb1
  have h1 := hf1.c1
  have HL := hf1.lookN hx hh
  have hZ : Blk (w.alloc (.cells #[.int .i64 0, .int .i64 0, .int .i64 0, .int .i64 0, .int .i64 0, .int .i64 0, .int .i64 0] 44)) w.heap.size 44 (cellsU 0 0 0 0 0 0 0) := Blk.new w 44 _
  clear h hf hB hf1 hh
  go_enter Try.func16, Try.ntmps16
  go_wp2_with (first | (refine wpList_alloc44 rfl rfl ?_; generalize w.alloc (.cells #[.int .i64 0, .int .i64 0, .int .i64 0, .int .i64 0, .int .i64 0, .int .i64 0, .int .i64 0] 44) = w1 at *) | (refine wpList_store44 rfl _ _ rfl w.heap.size 0 0 0 0 0 0 0 rfl rfl hZ rfl ?_; intro w2 hZ2 t2))
  refine bodyPost_ret (resultsU_ct rfl _ w2 w.heap.size 0 0 0 0 0 0 0 _ rfl rfl hZ2) rfl ?_
  exact ⟨rfl, hb1.trans (t2.below (Nat.le_refl _))⟩
set_option maxRecDepth 100000 in
set_option maxHeartbeats 4000000 in
theorem Group_yes (x : Int) (w : World) (h : IsF w B fp L l m k) (hx : I64 x) (hh : has L x = true) :
    Calls Try.prog 16 #[.pointer (some ⟨fp, 0, none⟩), .int .i64 x] w fun e w' => e = .returned (.tuple #[.agg (cellsU x (gr L x).pa (gr L x).wt (dep L x) (topI L x) (gr L x).me (gr L x).aw), .int .i64 0]) ∧ Below w.heap.size w w' := by
  obtain ⟨tp, tg, mp, bl, hf, hB⟩ := h.fo
  have hb1 : Below w.heap.size w (w.alloc (.cells #[.int .i64 0, .int .i64 0, .int .i64 0, .int .i64 0, .int .i64 0, .int .i64 0, .int .i64 0] 44)) := (Below.refl _ w).alloc (Nat.le_refl _) _
  have hf1 := hf.below hb1
  have h1 := hf1.c1
  have HL := hf1.lookY hx hh
  have hZ : Blk (w.alloc (.cells #[.int .i64 0, .int .i64 0, .int .i64 0, .int .i64 0, .int .i64 0, .int .i64 0, .int .i64 0] 44)) w.heap.size 44 (cellsU 0 0 0 0 0 0 0) := Blk.new w 44 _
  have HX : Hid (∀ X, Below w.heap.size w X → X.cell? ⟨bl x, 0, none⟩ = some (.int .i64 (gr L x).pa) ∧ X.cell? ⟨bl x, 1, none⟩ = some (.int .i64 (gr L x).wt) ∧ X.cell? ⟨bl x, 2, none⟩ = some (.int .i64 (gr L x).me) ∧ X.cell? ⟨bl x, 3, none⟩ = some (.int .i64 (gr L x).aw)) := Lib.hid fun X hX =>
    ⟨((hf.below hX).grp x hh).c0, ((hf.below hX).grp x hh).c1, ((hf.below hX).grp x hh).c2, ((hf.below hX).grp x hh).c3⟩
  have HD : Hid (∀ W, Below w.heap.size w W → Calls Try.prog 41 #[.pointer (some ⟨fp, 0, none⟩), .int .i64 x] W fun e w' => e = .returned (.int .i64 (dep L x)) ∧ Below W.heap.size W w') := Lib.hid fun W hW => depth_any fp B L l m k x W (h.below hW) hx
  have HT : Hid (∀ W, Below w.heap.size w W → Calls Try.prog 43 #[.pointer (some ⟨fp, 0, none⟩), .int .i64 x] W fun e w' => e = .returned (.int .i64 (topI L x)) ∧ Below W.heap.size W w') := Lib.hid fun W hW => root_any fp B L l m k x W (h.below hW) hx hh
  clear h hf hB hf1 hh
  generalize (gr L x).pa = pa at *
  generalize (gr L x).wt = wt at *
  generalize (gr L x).me = me at *
  generalize (gr L x).aw = aw at *
  generalize dep L x = d at *
  generalize topI L x = r at *
  go_enter Try.func16, Try.ntmps16
  go_wp2_with (refine wpList_alloc44 rfl rfl ?_; generalize w.alloc (.cells #[.int .i64 0, .int .i64 0, .int .i64 0, .int .i64 0, .int .i64 0, .int .i64 0, .int .i64 0] 44) = w1 at *)
  have hq : Below w.heap.size w w1.drew := Below.drewS hb1
  have hZ2 := hZ.drew
  refine Rd.region (fun X => Below w.heap.size w X) 26 [0, 1, 2, 3, 4, 5, 6, 7, 8, 9, 10, 12, 13, 15, 16, 17, 18, 19, 20, 21, 22, 23, 25] [0, 1, 2, 3, 4, 5, 6, 7, 8, 9, 10, 12, 13, 15, 16, 17, 18, 19, 20, 21, 22, 11, 14, 23, 24, 25] (by kernel_rfl) (by kernel_rfl) (by kernel_rfl) (by kernel_rfl) rfl hq ?_
  clear HL h1
  refine Rd.seq_float (.int .i64 x) (by simp only [List.getElem?_toArray, List.getElem?_cons_zero]; rfl) rfl (by rfl) (fun X _ => by go_simp) ?_
  simp only [Act.put, List.setIfInBounds_toArray, List.set_cons_succ, List.set_cons_zero]
  refine Rd.seq_float (.pointer (some ⟨bl x, 0, none⟩)) (by simp only [List.getElem?_toArray, List.getElem?_cons_succ, List.getElem?_cons_zero]; rfl) rfl (by rfl) (fun X _ => by go_simp) ?_
  simp only [Act.put, List.setIfInBounds_toArray, List.set_cons_succ, List.set_cons_zero]
  refine Rd.seq_float (.pointer (some ⟨bl x, 0, none⟩)) (by simp only [List.getElem?_toArray, List.getElem?_cons_succ, List.getElem?_cons_zero]; rfl) rfl (by rfl) (fun X _ => by go_simp) ?_
  simp only [Act.put, List.setIfInBounds_toArray, List.set_cons_succ, List.set_cons_zero]
  refine Rd.seq_float (.pointer (some ⟨bl x, 0, none⟩)) (by simp only [List.getElem?_toArray, List.getElem?_cons_succ, List.getElem?_cons_zero]; rfl) rfl (by rfl) (fun X _ => by go_simp) ?_
  simp only [Act.put, List.setIfInBounds_toArray, List.set_cons_succ, List.set_cons_zero]
  refine Rd.seq_float (.int .i64 pa) (by simp only [List.getElem?_toArray, List.getElem?_cons_succ, List.getElem?_cons_zero]; rfl) rfl (by rfl) (fun X hX => by obtain ⟨e0, e1, e2, e3⟩ := HX.out X hX; go_simp) ?_
  simp only [Act.put, List.setIfInBounds_toArray, List.set_cons_succ, List.set_cons_zero]
  refine Rd.seq_float (.pointer (some ⟨bl x, 0, none⟩)) (by simp only [List.getElem?_toArray, List.getElem?_cons_succ, List.getElem?_cons_zero]; rfl) rfl (by rfl) (fun X _ => by go_simp) ?_
  simp only [Act.put, List.setIfInBounds_toArray, List.set_cons_succ, List.set_cons_zero]
  refine Rd.seq_float (.pointer (some ⟨bl x, 0, none⟩)) (by simp only [List.getElem?_toArray, List.getElem?_cons_succ, List.getElem?_cons_zero]; rfl) rfl (by rfl) (fun X _ => by go_simp) ?_
  simp only [Act.put, List.setIfInBounds_toArray, List.set_cons_succ, List.set_cons_zero]
  refine Rd.seq_float (.pointer (some ⟨bl x, 1, none⟩)) (by simp only [List.getElem?_toArray, List.getElem?_cons_succ, List.getElem?_cons_zero]; rfl) rfl (by rfl) (fun X _ => by go_simp) ?_
  simp only [Act.put, List.setIfInBounds_toArray, List.set_cons_succ, List.set_cons_zero]
  refine Rd.seq_float (.int .i64 wt) (by simp only [List.getElem?_toArray, List.getElem?_cons_succ, List.getElem?_cons_zero]; rfl) rfl (by rfl) (fun X hX => by obtain ⟨e0, e1, e2, e3⟩ := HX.out X hX; go_simp) ?_
  simp only [Act.put, List.setIfInBounds_toArray, List.set_cons_succ, List.set_cons_zero]
  refine Rd.seq_float (.pointer (some ⟨fp, 0, none⟩)) (by simp only [List.getElem?_toArray, List.getElem?_cons_succ, List.getElem?_cons_zero]; rfl) rfl (by rfl) (fun X _ => by go_simp) ?_
  simp only [Act.put, List.setIfInBounds_toArray, List.set_cons_succ, List.set_cons_zero]
  refine Rd.seq_float (.int .i64 x) (by simp only [List.getElem?_toArray, List.getElem?_cons_succ, List.getElem?_cons_zero]; rfl) rfl (by rfl) (fun X _ => by go_simp) ?_
  simp only [Act.put, List.setIfInBounds_toArray, List.set_cons_succ, List.set_cons_zero]
  refine Rd.seq_float (.pointer (some ⟨fp, 0, none⟩)) (by simp only [List.getElem?_toArray, List.getElem?_cons_succ, List.getElem?_cons_zero]; rfl) rfl (by rfl) (fun X _ => by go_simp) ?_
  simp only [Act.put, List.setIfInBounds_toArray, List.set_cons_succ, List.set_cons_zero]
  refine Rd.seq_float (.int .i64 x) (by simp only [List.getElem?_toArray, List.getElem?_cons_succ, List.getElem?_cons_zero]; rfl) rfl (by rfl) (fun X _ => by go_simp) ?_
  simp only [Act.put, List.setIfInBounds_toArray, List.set_cons_succ, List.set_cons_zero]
  refine Rd.seq_float (.pointer (some ⟨bl x, 0, none⟩)) (by simp only [List.getElem?_toArray, List.getElem?_cons_succ, List.getElem?_cons_zero]; rfl) rfl (by rfl) (fun X _ => by go_simp) ?_
  simp only [Act.put, List.setIfInBounds_toArray, List.set_cons_succ, List.set_cons_zero]
  refine Rd.seq_float (.pointer (some ⟨bl x, 0, none⟩)) (by simp only [List.getElem?_toArray, List.getElem?_cons_succ, List.getElem?_cons_zero]; rfl) rfl (by rfl) (fun X _ => by go_simp) ?_
  simp only [Act.put, List.setIfInBounds_toArray, List.set_cons_succ, List.set_cons_zero]
  refine Rd.seq_float (.pointer (some ⟨bl x, 2, none⟩)) (by simp only [List.getElem?_toArray, List.getElem?_cons_succ, List.getElem?_cons_zero]; rfl) rfl (by rfl) (fun X _ => by go_simp) ?_
  simp only [Act.put, List.setIfInBounds_toArray, List.set_cons_succ, List.set_cons_zero]
  refine Rd.seq_float (.int .i64 me) (by simp only [List.getElem?_toArray, List.getElem?_cons_succ, List.getElem?_cons_zero]; rfl) rfl (by rfl) (fun X hX => by obtain ⟨e0, e1, e2, e3⟩ := HX.out X hX; go_simp) ?_
  simp only [Act.put, List.setIfInBounds_toArray, List.set_cons_succ, List.set_cons_zero]
  refine Rd.seq_float (.pointer (some ⟨bl x, 0, none⟩)) (by simp only [List.getElem?_toArray, List.getElem?_cons_succ, List.getElem?_cons_zero]; rfl) rfl (by rfl) (fun X _ => by go_simp) ?_
  simp only [Act.put, List.setIfInBounds_toArray, List.set_cons_succ, List.set_cons_zero]
  refine Rd.seq_float (.pointer (some ⟨bl x, 0, none⟩)) (by simp only [List.getElem?_toArray, List.getElem?_cons_succ, List.getElem?_cons_zero]; rfl) rfl (by rfl) (fun X _ => by go_simp) ?_
  simp only [Act.put, List.setIfInBounds_toArray, List.set_cons_succ, List.set_cons_zero]
  refine Rd.seq_float (.pointer (some ⟨bl x, 3, none⟩)) (by simp only [List.getElem?_toArray, List.getElem?_cons_succ, List.getElem?_cons_zero]; rfl) rfl (by rfl) (fun X _ => by go_simp) ?_
  simp only [Act.put, List.setIfInBounds_toArray, List.set_cons_succ, List.set_cons_zero]
  refine Rd.seq_float (.int .i64 aw) (by simp only [List.getElem?_toArray, List.getElem?_cons_succ, List.getElem?_cons_zero]; rfl) rfl (by rfl) (fun X hX => by obtain ⟨e0, e1, e2, e3⟩ := HX.out X hX; go_simp) ?_
  simp only [Act.put, List.setIfInBounds_toArray, List.set_cons_succ, List.set_cons_zero]
  refine Rd.seq_move (by simp only [List.getElem?_toArray, List.getElem?_cons_succ, List.getElem?_cons_zero]; rfl) rfl (by rfl) (fun K hK => ?_)
  go_simp
  refine (HD.out _ hq).mono ?_
  rintro e w3 ⟨rfl, hb3⟩
  have hq3 := Below.stay hq hb3
  have hZ3 := hZ2.below hb3
  refine hK _ _ (fun _ => hq3) ?_
  clear hK K
  refine Rd.seq_move (by simp only [List.getElem?_toArray, List.getElem?_cons_succ, List.getElem?_cons_zero]; rfl) rfl (by rfl) (fun K hK => ?_)
  go_simp
  refine (HT.out _ hq3).mono ?_
  rintro e w4 ⟨rfl, hb4⟩
  have hq4 := Below.stay hq3 hb4
  have hZ4 := hZ3.below hb4
  refine hK _ _ (fun _ => hq4) ?_
  clear hK K
  refine Rd.seq_float (.agg (cellsU x pa wt d r me aw)) (by simp only [List.getElem?_toArray, List.getElem?_cons_succ, List.getElem?_cons_zero]; rfl) rfl (by rfl) (fun X _ => by kernel_rfl) ?_
  simp only [Act.put, List.setIfInBounds_toArray, List.set_cons_succ, List.set_cons_zero]
  refine Rd.seq_move (by simp only [List.getElem?_toArray, List.getElem?_cons_succ, List.getElem?_cons_zero]; rfl) rfl (by rfl) (fun K hK => ?_)
  refine wp_store44 _ _ rfl w.heap.size x pa wt d r me aw rfl rfl hZ4 rfl ?_
  intro w5 hZ5 t5
  have hq5 : Below w.heap.size w w5 := hq4.trans (t5.below (Nat.le_refl _))
  refine hK _ _ (fun _ => hq5) ?_
  clear hK K
  refine Rd.seq_float (.int .i64 0) (by simp only [List.getElem?_toArray, List.getElem?_cons_succ, List.getElem?_cons_zero]; rfl) rfl (by rfl) (fun X _ => by go_simp) ?_
  simp only [Act.put, List.setIfInBounds_toArray, List.set_cons_succ, List.set_cons_zero]
  refine Rd.seq_end ?_
  go_wp2_with fail
  refine bodyPost_ret (resultsU_ct rfl _ w5 w.heap.size x pa wt d r me aw _ rfl rfl hZ5) rfl ?_
  exact ⟨rfl, hq5⟩
end
end Go.Proofs.Ythndfhkkaichiaa
