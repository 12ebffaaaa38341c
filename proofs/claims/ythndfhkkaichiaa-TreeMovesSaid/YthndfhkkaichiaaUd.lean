/-
  Contracts of the program's Add and New, and of awake. Condition of Add: the table is one.
-/
import Derived.Test.YthndfhkkaichiaaUc
namespace Go.Proofs.Ythndfhkkaichiaa
open Go.RowKit

set_option maxRecDepth 100000 in
set_option maxHeartbeats 4000000 in
theorem Add_no (p g : Nat) (l : List Int) (m : Int) (w : World) (h : IsTab w p g l m) (ok : TabOk l m) (hb : addB l m = false) :
    Calls Try.prog 55 #[.pointer (some ⟨p, 0, none⟩)] w fun e w' => e = .returned (.tuple #[.int .i64 0, .int .i64 0, .int .i64 6]) ∧ w = w' := by
  have h0 := h.c0
  have h1 := h.c1
  have HI := Lib.hid (Index_tab p g l m 0 w h ok.n64)
  have hm := ok.mM
  have hb' : ¬ (find l 0 < l.length ∧ m < 2147483648) := by simpa [addB] using hb
  clear hb
  by_cases hf : find l 0 < l.length
  · obtain rfl : m = 2147483648 := by omega
    have HS : Hid (slotI l 0 = (find l 0 : Int)) := Lib.hid (by unfold slotI; rw [if_pos hf])
    clear hb' hf
    generalize find l 0 = k at *
    go_enter Try.func55, Try.ntmps55
    go_wp2_with (go_at_call 56; refine HI.out.mono ?_; rw [HS.out]; rintro e w1 ⟨rfl, rfl⟩)
    go_ret3
    exact ⟨rfl, rfl⟩
  · have HS : Hid (slotI l 0 = -1) := Lib.hid (by unfold slotI; rw [if_neg hf])
    clear hb' hf
    go_enter Try.func55, Try.ntmps55
    go_wp2_with (go_at_call 56; refine HI.out.mono ?_; rw [HS.out]; rintro e w1 ⟨rfl, rfl⟩)
    go_ret3
    exact ⟨rfl, rfl⟩
theorem cell_set_other {w : World} {p g i j : Nat} {v : Value} (hne : p ≠ g) : (w.setCell ⟨g, i, none⟩ v).cell? ⟨p, j, none⟩ = w.cell? ⟨p, j, none⟩ := by
  simp only [World.cell?, heap_setCell_other w ⟨g, i, none⟩ p v hne]
set_option maxRecDepth 100000 in
set_option maxHeartbeats 4000000 in
theorem Add_yes (p g : Nat) (l : List Int) (m : Int) (w : World) (h : IsTab w p g l m) (ok : TabOk l m) (hb : addB l m = true) :
    Calls Try.prog 55 #[.pointer (some ⟨p, 0, none⟩)] w fun e w' => e = .returned (.tuple #[.int .i64 (m + 1), .int .i64 (find l 0 : Nat), .int .i64 0]) ∧ IsTab w' p g (l.set (find l 0) (m + 1)) (m + 1) ∧ Only p g w w' := by
  have h0 := h.c0
  have h1 := h.c1
  have h9 := h.f1
  have HI := Lib.hid (Index_tab p g l m 0 w h ok.n64)
  have hb' : find l 0 < l.length ∧ m < 2147483648 := by simpa [addB] using hb
  have HS : Hid (slotI l 0 = (find l 0 : Int)) := Lib.hid (by unfold slotI; rw [if_pos hb'.1])
  clear hb
  obtain ⟨hk, hmm⟩ := hb'
  have hm0 := ok.m0
  have h5 : (m == 2147483648) = false := beq_ff (by omega)
  generalize find l 0 = k at *
  have hpg := h.ne
  have h2 := h.setM (m + 1)
  have t2 := Turn.setCell w p 1 (.int .i64 (m + 1))
  go_enter Try.func55, Try.ntmps55
  go_wp2_with (go_at_call 56; refine HI.out.mono ?_; rw [HS.out]; rintro e w1 ⟨rfl, rfl⟩)
  have h2d : IsTab ((w.setCell ⟨p, 1, none⟩ (.int .i64 (m + 1))).drew) p g l (m + 1) := h2.same rfl rfl
  have t2d : Only p g w ((w.setCell ⟨p, 1, none⟩ (.int .i64 (m + 1))).drew) := ⟨t2.os, t2.tape, t2.output, (Only.of_turn_p (g := g) t2).size, (Only.of_turn_p (g := g) t2).block⟩
  refine Rd.region (fun X => X.cell? ⟨p, 0, none⟩ = some (.slice (some ⟨g, 0, none⟩) l.length l.length) ∧ X.cell? ⟨p, 1, none⟩ = some (.int .i64 (m + 1))) 11 [0, 1, 2, 3, 4, 5, 6, 7, 8, 9] [0, 1, 2, 3, 4, 5, 6, 7, 8, 9, 10] (by kernel_rfl) (by kernel_rfl) (by kernel_rfl) (by kernel_rfl) rfl ⟨h2.c0, h2.c1⟩ ?_
  clear h0 h1 h9 t2 h2 HI HS h
  generalize (w.setCell ⟨p, 1, none⟩ (.int .i64 (m + 1))).drew = w2 at *
  have h20 := h2d.c0
  have h21 := h2d.c1
  have h2g := h2d.fg k
  have hk2 := h2d.at hk
  have h3 := h2d.setI k (m + 1)
  have t3 := Turn.setCell w2 g k (.int .i64 (m + 1))
  have h30 := h3.c0
  have h31 := h3.c1
  generalize l.getD k 0 = y at *
  refine Rd.seq_float (.pointer (some ⟨p, 0, none⟩)) (by simp only [List.getElem?_toArray, List.getElem?_cons_zero]; rfl) rfl (by rfl) (fun X _ => by go_simp) ?_
  simp only [Act.put, List.setIfInBounds_toArray, List.set_cons_succ, List.set_cons_zero]
  refine Rd.seq_float (.pointer (some ⟨p, 0, none⟩)) (by simp only [List.getElem?_toArray, List.getElem?_cons_succ, List.getElem?_cons_zero]; rfl) rfl (by rfl) (fun X _ => by go_simp) ?_
  simp only [Act.put, List.setIfInBounds_toArray, List.set_cons_succ, List.set_cons_zero]
  refine Rd.seq_float (.pointer (some ⟨p, 0, none⟩)) (by simp only [List.getElem?_toArray, List.getElem?_cons_succ, List.getElem?_cons_zero]; rfl) rfl (by rfl) (fun X _ => by go_simp) ?_
  simp only [Act.put, List.setIfInBounds_toArray, List.set_cons_succ, List.set_cons_zero]
  refine Rd.seq_float (.slice (some ⟨g, 0, none⟩) l.length l.length) (by simp only [List.getElem?_toArray, List.getElem?_cons_succ, List.getElem?_cons_zero]; rfl) rfl (by rfl) (fun X hX => by obtain ⟨c0, c1⟩ := hX; go_simp) ?_
  simp only [Act.put, List.setIfInBounds_toArray, List.set_cons_succ, List.set_cons_zero]
  refine Rd.seq_float (.int .i64 (k : Int)) (by simp only [List.getElem?_toArray, List.getElem?_cons_succ, List.getElem?_cons_zero]; rfl) rfl (by rfl) (fun X _ => by go_simp) ?_
  simp only [Act.put, List.setIfInBounds_toArray, List.set_cons_succ, List.set_cons_zero]
  refine Rd.seq_float (.pointer (some ⟨p, 0, none⟩)) (by simp only [List.getElem?_toArray, List.getElem?_cons_succ, List.getElem?_cons_zero]; rfl) rfl (by rfl) (fun X _ => by go_simp) ?_
  simp only [Act.put, List.setIfInBounds_toArray, List.set_cons_succ, List.set_cons_zero]
  refine Rd.seq_float (.pointer (some ⟨p, 0, none⟩)) (by simp only [List.getElem?_toArray, List.getElem?_cons_succ, List.getElem?_cons_zero]; rfl) rfl (by rfl) (fun X _ => by go_simp) ?_
  simp only [Act.put, List.setIfInBounds_toArray, List.set_cons_succ, List.set_cons_zero]
  refine Rd.seq_float (.pointer (some ⟨p, 1, none⟩)) (by simp only [List.getElem?_toArray, List.getElem?_cons_succ, List.getElem?_cons_zero]; rfl) rfl (by rfl) (fun X _ => by go_simp) ?_
  simp only [Act.put, List.setIfInBounds_toArray, List.set_cons_succ, List.set_cons_zero]
  refine Rd.seq_float (.int .i64 (m + 1)) (by simp only [List.getElem?_toArray, List.getElem?_cons_succ, List.getElem?_cons_zero]; rfl) rfl (by rfl) (fun X hX => by obtain ⟨c0, c1⟩ := hX; go_simp) ?_
  simp only [Act.put, List.setIfInBounds_toArray, List.set_cons_succ, List.set_cons_zero]
  refine Rd.seq_float (.pointer (some ⟨g, k, none⟩)) (by simp only [List.getElem?_toArray, List.getElem?_cons_succ, List.getElem?_cons_zero]; rfl) rfl (by rfl) (fun X _ => by go_simp) ?_
  simp only [Act.put, List.setIfInBounds_toArray, List.set_cons_succ, List.set_cons_zero]
  refine Rd.seq_move (by simp only [List.getElem?_toArray, List.getElem?_cons_succ, List.getElem?_cons_zero]; rfl) rfl (by rfl) (fun K hK => ?_)
  go_simp
  refine hK _ _ (fun _ => ⟨(cell_set_other hpg).trans h20, (cell_set_other hpg).trans h21⟩) ?_
  refine Rd.seq_end ?_
  clear h20 h21 h2g hk2
  generalize w2.setCell ⟨g, k, none⟩ (.int .i64 (m + 1)) = w3 at *
  go_wp2_with fail
  go_ret3
  exact ⟨rfl, h3, t2d.trans (Only.of_turn_g t3)⟩
theorem Add_any (p g : Nat) (l : List Int) (m : Int) (w : World) (h : IsTab w p g l m) (ok : TabOk l m) :
    Calls Try.prog 55 #[.pointer (some ⟨p, 0, none⟩)] w fun e w' => e = .returned (.tuple #[.int .i64 (addI l m), .int .i64 (addS l m), .int .i64 (addE l m)]) ∧ IsTab w' p g (addL l m) (addM l m) ∧ Only p g w w' := by
  cases hb : addB l m with
  | true =>
    simp only [addI, addS, addE, addL, addM, hb, if_true]
    exact Add_yes p g l m w h ok hb
  | false =>
    simp only [addI, addS, addE, addL, addM, hb]
    refine (Add_no p g l m w h ok hb).mono ?_
    rintro e w1 ⟨rfl, rfl⟩
    exact ⟨rfl, h, Only.refl _ _ _⟩
set_option maxRecDepth 100000 in
set_option maxHeartbeats 4000000 in
theorem New_no (n : Int) (w : World) (hn : ¬ (1 ≤ n ∧ n ≤ 64)) :
    Calls Try.prog 22 #[.int .i64 n] w fun e w' => e = .returned (.tuple #[.pointer none, .int .i64 14]) ∧ w = w' := by
  by_cases h1 : n < 1
  · go_enter Try.func22, Try.ntmps22
    go_wp2_with fail
    go_ret2
    exact ⟨rfl, rfl⟩
  · have h2 : 64 < n := by omega
    go_enter Try.func22, Try.ntmps22
    go_wp2_with fail
    go_ret2
    exact ⟨rfl, rfl⟩
theorem zeros (n : Nat) : (madeCells (Value.int .i64 0).cells (n * 1)).toList = encI (List.replicate n 0) := by
  simp [madeCells, encI, Value.cells, Nat.mod_one, List.map_const']
theorem IsTab.of_made {w : World} {B n : Nat} {g : Nat} (h : w.ownsRow B 3 1 (.slice (some ⟨g, 0, none⟩) n n) n (encI (List.replicate n 0))) :
    w.heap[g]? = some (.cells (encI (List.replicate n 0)).toArray 3 (0, 0)) := by
  rcases h.2 with ⟨h0, _⟩ | ⟨g', cap, cur, e, hbg, hg, _, _, h5, htake⟩
  · cases h0
  · cases e
    rw [hg]
    have : cur = (encI (List.replicate n 0)).toArray := by
      apply Array.toList_inj.1
      rw [← htake, List.take_of_length_le (by rw [Array.length_toList, h5]; exact Nat.le_refl _)]
    rw [this]
set_option maxRecDepth 100000 in
set_option maxHeartbeats 4000000 in
theorem New_yes (n : Nat) (w : World) (h1 : 1 ≤ n) (h2 : n ≤ 64) :
    Calls Try.prog 22 #[.int .i64 (n : Int)] w fun e w' => (∃ p g, e = .returned (.tuple #[.pointer (some ⟨p, 0, none⟩), .int .i64 0]) ∧ IsTab w' p g (List.replicate n 0) 0 ∧ w.heap.size ≤ p ∧ w.heap.size ≤ g) ∧ Below w.heap.size w w' := by
  obtain ⟨i0, hi, hz0, hz1, hz2⟩ := info_parts Try.info3
  have h3 : ¬ (n : Int) < 1 := by omega
  have h4 : ¬ 64 < (n : Int) := by omega
  go_enter Try.func22, Try.ntmps22
  go_wp2_with (first | (refine wpList_make_full _ rfl _ _ 50 rfl w.heap.size 3 i0 (.int .i64 0) 1 Try.underlying50 hi hz0 hz1 .i64 .i64 (n : Int) (n : Int) n rfl rfl rfl rfl (by rw [hz2]; omega) (by unfold maxLen; omega) (Nat.le_refl _) ?_; intro w1 hown hgrow))
  go_ret2
  rw [zeros] at hown
  have hs := hgrow.size
  have hrow := IsTab.of_made hown
  have hlt := (Array.getElem?_eq_some_iff.1 hrow).1
  have hB : Below w.heap.size w w1 := (Below.refl _ w).grown hgrow (Nat.le_refl _) (fun _ e => by cases e)
  refine ⟨⟨w1.heap.size, rfl, w.heap.size, ⟨?_, (heap_alloc_old w1 _ hlt).trans hrow, by omega⟩, by omega, Nat.le_refl _⟩, hB.alloc (by omega) _⟩
  rw [heap_alloc_new w1, List.length_replicate]
theorem New_any (n : Int) (w : World) :
    Calls Try.prog 22 #[.int .i64 n] w fun e w' => ((1 ≤ n ∧ n ≤ 64 ∧ ∃ p g, e = .returned (.tuple #[.pointer (some ⟨p, 0, none⟩), .int .i64 0]) ∧ IsTab w' p g (List.replicate n.toNat 0) 0 ∧ w.heap.size ≤ p ∧ w.heap.size ≤ g) ∨ (¬ (1 ≤ n ∧ n ≤ 64) ∧ e = .returned (.tuple #[.pointer none, .int .i64 14]))) ∧ Below w.heap.size w w' := by
  by_cases hn : 1 ≤ n ∧ n ≤ 64
  · obtain ⟨k, rfl⟩ : ∃ k : Nat, n = k := ⟨n.toNat, by omega⟩
    refine (New_yes k w (by omega) (by omega)).mono ?_
    rintro e w1 ⟨⟨p, g, rfl, hT, hp, hg⟩, hb⟩
    exact ⟨.inl ⟨hn.1, hn.2, p, g, rfl, hT, hp, hg⟩, hb⟩
  · refine (New_no n w hn).mono ?_
    rintro e w1 ⟨rfl, rfl⟩
    exact ⟨.inr ⟨hn, rfl⟩, Below.refl _ _⟩
theorem TabOk.ex3 : TabOk [0, 0, 0] 0 := TabOk.new (n := 3) (by omega) (by omega)
end Go.Proofs.Ythndfhkkaichiaa
