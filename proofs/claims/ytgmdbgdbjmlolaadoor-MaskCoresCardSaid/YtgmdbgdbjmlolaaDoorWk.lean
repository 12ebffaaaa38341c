/-
  The walk of the statement MaskAsks. Condition: the table of math/bits lies as its initialiser lays it.
-/
import Derived.Test.YtgmdbgdbjmlolaaDoorWh
import Derived.Test.YtgmdbgdbjmlolaaDoorWj
namespace Go.Proofs.YtgmdbgdbjmlolaaDoor
open Go.RowKit Go.Shelf

theorem First_hid (n : Nat) (k : Int) (w : World) (hn : n < 18446744073709551616) (h : Hid (firstZ n = k)) (hT : Tab w) :
    Calls Tryd.prog 22 #[.int .u64 n] w fun e w' => e = .returned (.int .i64 k) ∧ w = w' := by
  rw [← h.out]; exact First_any n w hn hT

/-- what the walk knows of the slice of a set's cores: how many there are, and the first one. -/
theorem cores_slice {W : World} {B N : Nat} {v : Value} (hN : N < 18446744073709551616) (h : W.ownsRow B 3 1 v (coresOf N).length ((coresOf N).map encC)) :
    ∃ ad len cap, v = .slice ad len cap ∧ popN 64 N = len ∧ len ≤ 64 ∧ ((len = 0 ∧ firstZ N = -1) ∨ (0 < len ∧ ∃ g k, ad = some ⟨g, 0, none⟩ ∧ firstZ N = ((k : Nat) : Int) ∧ W.cell? ⟨g, 0, none⟩ = some (.int .i64 (k : Int)))) := by
  have hl : (coresOf N).length = popN 64 N := (pop_cores N).symm
  have hle : popN 64 N ≤ 64 := popN_le 64 N
  by_cases h0 : N = 0
  · subst h0
    have hc := cores_zero
    rw [hc] at h
    have hp : popN 64 0 = 0 := by rw [pop_cores, cores_zero]; rfl
    rcases h.2 with ⟨rfl, _⟩ | ⟨g, cap, cur, rfl, _⟩
    · exact ⟨_, _, _, rfl, hp, by omega, .inl ⟨rfl, rfl⟩⟩
    · exact ⟨_, _, _, rfl, hp, by simp, .inl ⟨rfl, rfl⟩⟩
  · have hstep := cores_step h0 hN
    have hpos : 0 < (coresOf N).length := by rw [hstep]; simp
    have hf : firstZ N = ((Lib.ctz 64 N : Nat) : Int) := by unfold firstZ; rw [if_neg h0]
    rcases h.2 with ⟨_, h1⟩ | ⟨g, cap, cur, rfl, _⟩
    · omega
    · have hcell := h.cellAt 0 (by omega)
      rw [hstep] at hcell
      exact ⟨_, _, _, rfl, hl.symm, by omega, .inr ⟨hpos, g, _, rfl, hf, hcell⟩⟩

set_option maxRecDepth 100000 in
set_option maxHeartbeats 4000000 in
theorem asks_no (N : Nat) (c : Int) (hc : Hid (coreB c = false)) (w : World) (hT : Tab w) (hw : 0 < w.heap.size) (hN : N < 18446744073709551616) :
    Calls Tryd.prog 4 #[.int .u64 N, .int .i64 c] w fun e w' => e = .returned (.bool true) ∧ Below w.heap.size w w' := by
  have hwi := withN_lt c hN
  have hwo : withoutN N c < 18446744073709551616 := Nat.lt_of_le_of_lt (withoutN_le N c) hN
  have hh := Lib.hid (hasB_no (n := N) hc.out)
  go_enter Tryd.func4, Tryd.ntmps4
  go_wp2_with fail
  refine (awake_any w hT hw).mono ?_
  rintro e w1 ⟨rfl, hb1⟩
  go_wp2_with fail
  refine (Bits_any N _ hN).mono ?_
  rintro e w2 ⟨rfl, hb2⟩
  have hb : Below w.heap.size w w2 := hb1.trans (hb2.mono hb1.size)
  have hI := IsArr.new w2 (fun _ => false)
  go_wp2_with (first | (refine wpList_alloc30 rfl rfl ?_) | (refine wpList_store30 rfl _ _ rfl w2.heap.size N.testBit (fun _ => false) rfl rfl hI ?_; intro w3 i3 t3))
  have hb3 : Below w.heap.size w w3 := (hb.trans ((Below.refl _ w2).alloc hb.size _)).trans (t3.below hb.size)
  clear hI hb1 hb2 t3
  generalize w2.heap.size = b at *
  go_wp2_with fail
  refine (Has_is N c false _ hN hh).mono ?_
  rintro e w' ⟨rfl, rfl⟩
  go_wp2_with fail
  refine (Core_is c false _ hc).mono ?_
  rintro e w' ⟨rfl, rfl⟩
  have hrow0 := RefCores_any N w3
  go_wp2_with (refine wpList_load30 rfl _ rfl b N.testBit rfl i3 ?_)
  refine hrow0.mono ?_
  clear hrow0
  rintro e w4 ⟨v, rfl, hrow, hb4⟩
  have i4 : IsArr w4 b N.testBit := i3.below hb4 i3.lt
  have hB4 : Below w.heap.size w w4 := hb3.trans (hb4.mono hb3.size)
  obtain ⟨ad, len, cap, rfl, hpop, hlen, hfst⟩ := cores_slice hN hrow
  have HL := Lib.hid hpop
  clear hpop hrow hb4 i3 hb3
  obtain ⟨f0, HF, hcase⟩ : ∃ f0 : Int, Hid (firstZ N = f0) ∧ ((len = 0 ∧ f0 = -1) ∨ (0 < len ∧ ∃ g, ad = some ⟨g, 0, none⟩ ∧ w4.cell? ⟨g, 0, none⟩ = some (.int .i64 f0))) := by
    rcases hfst with ⟨h1, h2⟩ | ⟨h1, g, k, h2, h3, h4⟩
    · exact ⟨-1, Lib.hid h2, .inl ⟨h1, rfl⟩⟩
    · exact ⟨_, Lib.hid h3, .inr ⟨h1, g, h2, h4⟩⟩
  clear hfst
  rcases hcase with ⟨rfl, rfl⟩ | ⟨hpos, g, rfl, hcell⟩
  · go_wp2_with fail
    refine Rd.region (fun X => IsArr X b N.testBit ∧ Below w.heap.size w X) 29 [0, 1, 3, 4, 7, 8, 9, 11, 12, 15, 16, 17, 19, 20, 21, 22, 23, 24, 26, 27, 28] [0, 1, 3, 4, 2, 5, 6, 7, 8, 9, 11, 12, 10, 13, 14, 15, 16, 17, 19, 20, 18, 21, 22, 23, 24, 26, 25, 27, 28, 29] (by kernel_rfl) (by kernel_rfl) (by kernel_rfl) (by kernel_rfl) rfl ⟨i4, hB4.drew⟩ ?_
    have B0 := hB4.drew
    have i0 : IsArr w4.drew b N.testBit := i4
    generalize w4.drew = W0 at i0 B0 ⊢
    refine Rd.seq_float (.int .u64 N) (by simp only [List.getElem?_toArray, List.getElem?_cons_zero]; rfl) rfl (by rfl) (fun X _ => by go_simp) ?_
    simp only [Act.put, List.setIfInBounds_toArray, List.set_cons_succ, List.set_cons_zero]
    refine Rd.seq_float (.int .i64 c) (by simp only [List.getElem?_toArray, List.getElem?_cons_succ, List.getElem?_cons_zero]; rfl) rfl (by rfl) (fun X _ => by go_simp) ?_
    simp only [Act.put, List.setIfInBounds_toArray, List.set_cons_succ, List.set_cons_zero]
    refine Rd.seq_float (.agg (arrB N.testBit)) (by simp only [List.getElem?_toArray, List.getElem?_cons_succ, List.getElem?_cons_zero]; rfl) rfl (by rfl) (fun X hX => exec_load30 _ _ b rfl rfl X hX.1) ?_
    simp only [Act.put, List.setIfInBounds_toArray, List.set_cons_succ, List.set_cons_zero]
    refine Rd.seq_float (.int .i64 c) (by simp only [List.getElem?_toArray, List.getElem?_cons_succ, List.getElem?_cons_zero]; rfl) rfl (by rfl) (fun X _ => by go_simp) ?_
    simp only [Act.put, List.setIfInBounds_toArray, List.set_cons_succ, List.set_cons_zero]
    refine Rd.seq_move (by simp only [List.getElem?_toArray, List.getElem?_cons_succ, List.getElem?_cons_zero]; rfl) rfl (by rfl) (fun K hK => ?_)
    go_simp
    refine (With_any N c W0 hN).mono ?_
    rintro e w' ⟨rfl, rfl⟩
    refine hK _ _ (fun _ => ⟨i0, B0⟩) ?_
    clear hK K
    refine Rd.seq_move (by simp only [List.getElem?_toArray, List.getElem?_cons_succ, List.getElem?_cons_zero]; rfl) rfl (by rfl) (fun K hK => ?_)
    go_simp
    refine (Put_with N c W0).mono ?_
    rintro e W1 ⟨rfl, hb1⟩
    have i1 : IsArr W1 b N.testBit := i0.below hb1 i0.lt
    have B1 : Below w.heap.size w W1 := B0.trans (hb1.mono B0.size)
    refine hK _ _ (fun _ => ⟨i1, B1⟩) ?_
    clear hK K
    refine Rd.seq_move (by simp only [List.getElem?_toArray, List.getElem?_cons_succ, List.getElem?_cons_zero]; rfl) rfl (by rfl) (fun K hK => ?_)
    go_simp
    refine (Is_same (withN N c) W1 hwi).mono ?_
    rintro e W2 ⟨rfl, hb2⟩
    have i2 : IsArr W2 b N.testBit := i1.below hb2 i1.lt
    have B2 : Below w.heap.size w W2 := B1.trans (hb2.mono B1.size)
    refine hK _ _ (fun _ => ⟨i2, B2⟩) ?_
    clear hK K
    refine Rd.seq_float (.bool true) (by simp only [List.getElem?_toArray, List.getElem?_cons_succ, List.getElem?_cons_zero]; rfl) rfl (by rfl) (fun X _ => by go_simp) ?_
    simp only [Act.put, List.setIfInBounds_toArray, List.set_cons_succ, List.set_cons_zero]
    refine Rd.seq_float (.int .u64 N) (by simp only [List.getElem?_toArray, List.getElem?_cons_succ, List.getElem?_cons_zero]; rfl) rfl (by rfl) (fun X _ => by go_simp) ?_
    simp only [Act.put, List.setIfInBounds_toArray, List.set_cons_succ, List.set_cons_zero]
    refine Rd.seq_float (.int .i64 c) (by simp only [List.getElem?_toArray, List.getElem?_cons_succ, List.getElem?_cons_zero]; rfl) rfl (by rfl) (fun X _ => by go_simp) ?_
    simp only [Act.put, List.setIfInBounds_toArray, List.set_cons_succ, List.set_cons_zero]
    refine Rd.seq_float (.agg (arrB N.testBit)) (by simp only [List.getElem?_toArray, List.getElem?_cons_succ, List.getElem?_cons_zero]; rfl) rfl (by rfl) (fun X hX => exec_load30 _ _ b rfl rfl X hX.1) ?_
    simp only [Act.put, List.setIfInBounds_toArray, List.set_cons_succ, List.set_cons_zero]
    refine Rd.seq_float (.int .i64 c) (by simp only [List.getElem?_toArray, List.getElem?_cons_succ, List.getElem?_cons_zero]; rfl) rfl (by rfl) (fun X _ => by go_simp) ?_
    simp only [Act.put, List.setIfInBounds_toArray, List.set_cons_succ, List.set_cons_zero]
    refine Rd.seq_move (by simp only [List.getElem?_toArray, List.getElem?_cons_succ, List.getElem?_cons_zero]; rfl) rfl (by rfl) (fun K hK => ?_)
    go_simp
    refine (Without_any N c W2 hN).mono ?_
    rintro e w' ⟨rfl, rfl⟩
    refine hK _ _ (fun _ => ⟨i2, B2⟩) ?_
    clear hK K
    refine Rd.seq_move (by simp only [List.getElem?_toArray, List.getElem?_cons_succ, List.getElem?_cons_zero]; rfl) rfl (by rfl) (fun K hK => ?_)
    go_simp
    refine (Put_without N c W2 hN).mono ?_
    rintro e W3 ⟨rfl, hb3⟩
    have i3 : IsArr W3 b N.testBit := i2.below hb3 i2.lt
    have B3 : Below w.heap.size w W3 := B2.trans (hb3.mono B2.size)
    refine hK _ _ (fun _ => ⟨i3, B3⟩) ?_
    clear hK K
    refine Rd.seq_move (by simp only [List.getElem?_toArray, List.getElem?_cons_succ, List.getElem?_cons_zero]; rfl) rfl (by rfl) (fun K hK => ?_)
    go_simp
    refine (Is_same (withoutN N c) W3 hwo).mono ?_
    rintro e W4 ⟨rfl, hb4⟩
    have i4 : IsArr W4 b N.testBit := i3.below hb4 i3.lt
    have B4 : Below w.heap.size w W4 := B3.trans (hb4.mono B3.size)
    refine hK _ _ (fun _ => ⟨i4, B4⟩) ?_
    clear hK K
    refine Rd.seq_float (.bool true) (by simp only [List.getElem?_toArray, List.getElem?_cons_succ, List.getElem?_cons_zero]; rfl) rfl (by rfl) (fun X _ => by go_simp) ?_
    simp only [Act.put, List.setIfInBounds_toArray, List.set_cons_succ, List.set_cons_zero]
    refine Rd.seq_float (.bool true) (by simp only [List.getElem?_toArray, List.getElem?_cons_succ, List.getElem?_cons_zero]; rfl) rfl (by rfl) (fun X _ => by go_simp) ?_
    simp only [Act.put, List.setIfInBounds_toArray, List.set_cons_succ, List.set_cons_zero]
    refine Rd.seq_float (.int .u64 N) (by simp only [List.getElem?_toArray, List.getElem?_cons_succ, List.getElem?_cons_zero]; rfl) rfl (by rfl) (fun X _ => by go_simp) ?_
    simp only [Act.put, List.setIfInBounds_toArray, List.set_cons_succ, List.set_cons_zero]
    refine Rd.seq_float (.slice ad 0 cap) (by simp only [List.getElem?_toArray, List.getElem?_cons_succ, List.getElem?_cons_zero]; rfl) rfl (by rfl) (fun X _ => by go_simp) ?_
    simp only [Act.put, List.setIfInBounds_toArray, List.set_cons_succ, List.set_cons_zero]
    refine Rd.seq_float (.int .i64 0) (by simp only [List.getElem?_toArray, List.getElem?_cons_succ, List.getElem?_cons_zero]; rfl) rfl (by rfl) (fun X _ => by go_simp) ?_
    simp only [Act.put, List.setIfInBounds_toArray, List.set_cons_succ, List.set_cons_zero]
    refine Rd.seq_move (by simp only [List.getElem?_toArray, List.getElem?_cons_succ, List.getElem?_cons_zero]; rfl) rfl (by rfl) (fun K hK => ?_)
    go_simp
    refine (Len_is N 0 W4 hN HL).mono ?_
    rintro e w' ⟨rfl, rfl⟩
    refine hK _ _ (fun _ => ⟨i4, B4⟩) ?_
    clear hK K
    refine Rd.seq_float (.bool true) (by simp only [List.getElem?_toArray, List.getElem?_cons_succ, List.getElem?_cons_zero]; rfl) rfl (by rfl) (fun X _ => by go_simp) ?_
    simp only [Act.put, List.setIfInBounds_toArray, List.set_cons_succ, List.set_cons_zero]
    refine Rd.seq_float (.bool true) (by simp only [List.getElem?_toArray, List.getElem?_cons_succ, List.getElem?_cons_zero]; rfl) rfl (by rfl) (fun X _ => by go_simp) ?_
    simp only [Act.put, List.setIfInBounds_toArray, List.set_cons_succ, List.set_cons_zero]
    refine Rd.seq_float (.bool true) (by simp only [List.getElem?_toArray, List.getElem?_cons_succ, List.getElem?_cons_zero]; rfl) rfl (by rfl) (fun X _ => by go_simp) ?_
    simp only [Act.put, List.setIfInBounds_toArray, List.set_cons_succ, List.set_cons_zero]
    refine Rd.seq_float (.int .u64 N) (by simp only [List.getElem?_toArray, List.getElem?_cons_succ, List.getElem?_cons_zero]; rfl) rfl (by rfl) (fun X _ => by go_simp) ?_
    simp only [Act.put, List.setIfInBounds_toArray, List.set_cons_succ, List.set_cons_zero]
    refine Rd.seq_float (.int .i64 (-1)) (by simp only [List.getElem?_toArray, List.getElem?_cons_succ, List.getElem?_cons_zero]; rfl) rfl (by rfl) (fun X _ => by go_simp) ?_
    simp only [Act.put, List.setIfInBounds_toArray, List.set_cons_succ, List.set_cons_zero]
    refine Rd.seq_move (by simp only [List.getElem?_toArray, List.getElem?_cons_succ, List.getElem?_cons_zero]; rfl) rfl (by rfl) (fun K hK => ?_)
    go_simp
    refine (First_hid N (-1) W4 hN HF (hT.below B4 hw)).mono ?_
    rintro e w' ⟨rfl, rfl⟩
    refine hK _ _ (fun _ => ⟨i4, B4⟩) ?_
    clear hK K
    refine Rd.seq_float (.bool true) (by simp only [List.getElem?_toArray, List.getElem?_cons_succ, List.getElem?_cons_zero]; rfl) rfl (by rfl) (fun X _ => by go_simp) ?_
    simp only [Act.put, List.setIfInBounds_toArray, List.set_cons_succ, List.set_cons_zero]
    refine Rd.seq_float (.bool true) (by simp only [List.getElem?_toArray, List.getElem?_cons_succ, List.getElem?_cons_zero]; rfl) rfl (by rfl) (fun X _ => by go_simp) ?_
    simp only [Act.put, List.setIfInBounds_toArray, List.set_cons_succ, List.set_cons_zero]
    refine Rd.seq_move (by simp only [List.getElem?_toArray, List.getElem?_cons_succ, List.getElem?_cons_zero]; rfl) rfl (by rfl) (fun K hK => ?_)
    go_simp
    refine hK _ _ (fun h => absurd h (by omega)) ?_
    refine Rd.seq_end ?_
    go_wp2_with fail
    go_ret
    exact ⟨rfl, B4⟩
  · go_wp2_with fail
    refine Rd.region (fun X => IsArr X b N.testBit ∧ Below w.heap.size w X) 29 [0, 1, 3, 4, 7, 8, 9, 11, 12, 15, 16, 17, 19, 20, 21, 22, 23, 24, 26, 27, 28] [0, 1, 3, 4, 2, 5, 6, 7, 8, 9, 11, 12, 10, 13, 14, 15, 16, 17, 19, 20, 18, 21, 22, 23, 24, 26, 25, 27, 28, 29] (by kernel_rfl) (by kernel_rfl) (by kernel_rfl) (by kernel_rfl) rfl ⟨i4, hB4.drew⟩ ?_
    have B0 := hB4.drew
    have i0 : IsArr w4.drew b N.testBit := i4
    generalize w4.drew = W0 at i0 B0 ⊢
    refine Rd.seq_float (.int .u64 N) (by simp only [List.getElem?_toArray, List.getElem?_cons_zero]; rfl) rfl (by rfl) (fun X _ => by go_simp) ?_
    simp only [Act.put, List.setIfInBounds_toArray, List.set_cons_succ, List.set_cons_zero]
    refine Rd.seq_float (.int .i64 c) (by simp only [List.getElem?_toArray, List.getElem?_cons_succ, List.getElem?_cons_zero]; rfl) rfl (by rfl) (fun X _ => by go_simp) ?_
    simp only [Act.put, List.setIfInBounds_toArray, List.set_cons_succ, List.set_cons_zero]
    refine Rd.seq_float (.agg (arrB N.testBit)) (by simp only [List.getElem?_toArray, List.getElem?_cons_succ, List.getElem?_cons_zero]; rfl) rfl (by rfl) (fun X hX => exec_load30 _ _ b rfl rfl X hX.1) ?_
    simp only [Act.put, List.setIfInBounds_toArray, List.set_cons_succ, List.set_cons_zero]
    refine Rd.seq_float (.int .i64 c) (by simp only [List.getElem?_toArray, List.getElem?_cons_succ, List.getElem?_cons_zero]; rfl) rfl (by rfl) (fun X _ => by go_simp) ?_
    simp only [Act.put, List.setIfInBounds_toArray, List.set_cons_succ, List.set_cons_zero]
    refine Rd.seq_move (by simp only [List.getElem?_toArray, List.getElem?_cons_succ, List.getElem?_cons_zero]; rfl) rfl (by rfl) (fun K hK => ?_)
    go_simp
    refine (With_any N c W0 hN).mono ?_
    rintro e w' ⟨rfl, rfl⟩
    refine hK _ _ (fun _ => ⟨i0, B0⟩) ?_
    clear hK K
    refine Rd.seq_move (by simp only [List.getElem?_toArray, List.getElem?_cons_succ, List.getElem?_cons_zero]; rfl) rfl (by rfl) (fun K hK => ?_)
    go_simp
    refine (Put_with N c W0).mono ?_
    rintro e W1 ⟨rfl, hb1⟩
    have i1 : IsArr W1 b N.testBit := i0.below hb1 i0.lt
    have B1 : Below w.heap.size w W1 := B0.trans (hb1.mono B0.size)
    refine hK _ _ (fun _ => ⟨i1, B1⟩) ?_
    clear hK K
    refine Rd.seq_move (by simp only [List.getElem?_toArray, List.getElem?_cons_succ, List.getElem?_cons_zero]; rfl) rfl (by rfl) (fun K hK => ?_)
    go_simp
    refine (Is_same (withN N c) W1 hwi).mono ?_
    rintro e W2 ⟨rfl, hb2⟩
    have i2 : IsArr W2 b N.testBit := i1.below hb2 i1.lt
    have B2 : Below w.heap.size w W2 := B1.trans (hb2.mono B1.size)
    refine hK _ _ (fun _ => ⟨i2, B2⟩) ?_
    clear hK K
    refine Rd.seq_float (.bool true) (by simp only [List.getElem?_toArray, List.getElem?_cons_succ, List.getElem?_cons_zero]; rfl) rfl (by rfl) (fun X _ => by go_simp) ?_
    simp only [Act.put, List.setIfInBounds_toArray, List.set_cons_succ, List.set_cons_zero]
    refine Rd.seq_float (.int .u64 N) (by simp only [List.getElem?_toArray, List.getElem?_cons_succ, List.getElem?_cons_zero]; rfl) rfl (by rfl) (fun X _ => by go_simp) ?_
    simp only [Act.put, List.setIfInBounds_toArray, List.set_cons_succ, List.set_cons_zero]
    refine Rd.seq_float (.int .i64 c) (by simp only [List.getElem?_toArray, List.getElem?_cons_succ, List.getElem?_cons_zero]; rfl) rfl (by rfl) (fun X _ => by go_simp) ?_
    simp only [Act.put, List.setIfInBounds_toArray, List.set_cons_succ, List.set_cons_zero]
    refine Rd.seq_float (.agg (arrB N.testBit)) (by simp only [List.getElem?_toArray, List.getElem?_cons_succ, List.getElem?_cons_zero]; rfl) rfl (by rfl) (fun X hX => exec_load30 _ _ b rfl rfl X hX.1) ?_
    simp only [Act.put, List.setIfInBounds_toArray, List.set_cons_succ, List.set_cons_zero]
    refine Rd.seq_float (.int .i64 c) (by simp only [List.getElem?_toArray, List.getElem?_cons_succ, List.getElem?_cons_zero]; rfl) rfl (by rfl) (fun X _ => by go_simp) ?_
    simp only [Act.put, List.setIfInBounds_toArray, List.set_cons_succ, List.set_cons_zero]
    refine Rd.seq_move (by simp only [List.getElem?_toArray, List.getElem?_cons_succ, List.getElem?_cons_zero]; rfl) rfl (by rfl) (fun K hK => ?_)
    go_simp
    refine (Without_any N c W2 hN).mono ?_
    rintro e w' ⟨rfl, rfl⟩
    refine hK _ _ (fun _ => ⟨i2, B2⟩) ?_
    clear hK K
    refine Rd.seq_move (by simp only [List.getElem?_toArray, List.getElem?_cons_succ, List.getElem?_cons_zero]; rfl) rfl (by rfl) (fun K hK => ?_)
    go_simp
    refine (Put_without N c W2 hN).mono ?_
    rintro e W3 ⟨rfl, hb3⟩
    have i3 : IsArr W3 b N.testBit := i2.below hb3 i2.lt
    have B3 : Below w.heap.size w W3 := B2.trans (hb3.mono B2.size)
    refine hK _ _ (fun _ => ⟨i3, B3⟩) ?_
    clear hK K
    refine Rd.seq_move (by simp only [List.getElem?_toArray, List.getElem?_cons_succ, List.getElem?_cons_zero]; rfl) rfl (by rfl) (fun K hK => ?_)
    go_simp
    refine (Is_same (withoutN N c) W3 hwo).mono ?_
    rintro e W4 ⟨rfl, hb4⟩
    have i4 : IsArr W4 b N.testBit := i3.below hb4 i3.lt
    have B4 : Below w.heap.size w W4 := B3.trans (hb4.mono B3.size)
    refine hK _ _ (fun _ => ⟨i4, B4⟩) ?_
    clear hK K
    refine Rd.seq_float (.bool true) (by simp only [List.getElem?_toArray, List.getElem?_cons_succ, List.getElem?_cons_zero]; rfl) rfl (by rfl) (fun X _ => by go_simp) ?_
    simp only [Act.put, List.setIfInBounds_toArray, List.set_cons_succ, List.set_cons_zero]
    refine Rd.seq_float (.bool true) (by simp only [List.getElem?_toArray, List.getElem?_cons_succ, List.getElem?_cons_zero]; rfl) rfl (by rfl) (fun X _ => by go_simp) ?_
    simp only [Act.put, List.setIfInBounds_toArray, List.set_cons_succ, List.set_cons_zero]
    refine Rd.seq_float (.int .u64 N) (by simp only [List.getElem?_toArray, List.getElem?_cons_succ, List.getElem?_cons_zero]; rfl) rfl (by rfl) (fun X _ => by go_simp) ?_
    simp only [Act.put, List.setIfInBounds_toArray, List.set_cons_succ, List.set_cons_zero]
    refine Rd.seq_float (.slice (some ⟨g, 0, none⟩) len cap) (by simp only [List.getElem?_toArray, List.getElem?_cons_succ, List.getElem?_cons_zero]; rfl) rfl (by rfl) (fun X _ => by go_simp) ?_
    simp only [Act.put, List.setIfInBounds_toArray, List.set_cons_succ, List.set_cons_zero]
    refine Rd.seq_float (.int .i64 (len : Nat)) (by simp only [List.getElem?_toArray, List.getElem?_cons_succ, List.getElem?_cons_zero]; rfl) rfl (by rfl) (fun X _ => by go_simp) ?_
    simp only [Act.put, List.setIfInBounds_toArray, List.set_cons_succ, List.set_cons_zero]
    refine Rd.seq_move (by simp only [List.getElem?_toArray, List.getElem?_cons_succ, List.getElem?_cons_zero]; rfl) rfl (by rfl) (fun K hK => ?_)
    go_simp
    refine (Len_is N len W4 hN HL).mono ?_
    rintro e w' ⟨rfl, rfl⟩
    refine hK _ _ (fun _ => ⟨i4, B4⟩) ?_
    clear hK K
    refine Rd.seq_float (.bool true) (by simp only [List.getElem?_toArray, List.getElem?_cons_succ, List.getElem?_cons_zero]; rfl) rfl (by rfl) (fun X _ => by go_simp) ?_
    simp only [Act.put, List.setIfInBounds_toArray, List.set_cons_succ, List.set_cons_zero]
    refine Rd.seq_float (.bool true) (by simp only [List.getElem?_toArray, List.getElem?_cons_succ, List.getElem?_cons_zero]; rfl) rfl (by rfl) (fun X _ => by go_simp) ?_
    simp only [Act.put, List.setIfInBounds_toArray, List.set_cons_succ, List.set_cons_zero]
    refine Rd.seq_float (.bool true) (by simp only [List.getElem?_toArray, List.getElem?_cons_succ, List.getElem?_cons_zero]; rfl) rfl (by rfl) (fun X _ => by go_simp) ?_
    simp only [Act.put, List.setIfInBounds_toArray, List.set_cons_succ, List.set_cons_zero]
    refine Rd.seq_float (.int .u64 N) (by simp only [List.getElem?_toArray, List.getElem?_cons_succ, List.getElem?_cons_zero]; rfl) rfl (by rfl) (fun X _ => by go_simp) ?_
    simp only [Act.put, List.setIfInBounds_toArray, List.set_cons_succ, List.set_cons_zero]
    refine Rd.seq_float (.int .i64 f0) (by simp only [List.getElem?_toArray, List.getElem?_cons_succ, List.getElem?_cons_zero]; rfl) rfl (by rfl) (fun X _ => by go_simp) ?_
    simp only [Act.put, List.setIfInBounds_toArray, List.set_cons_succ, List.set_cons_zero]
    refine Rd.seq_move (by simp only [List.getElem?_toArray, List.getElem?_cons_succ, List.getElem?_cons_zero]; rfl) rfl (by rfl) (fun K hK => ?_)
    go_simp
    refine (First_hid N f0 W4 hN HF (hT.below B4 hw)).mono ?_
    rintro e w' ⟨rfl, rfl⟩
    refine hK _ _ (fun _ => ⟨i4, B4⟩) ?_
    clear hK K
    refine Rd.seq_float (.bool true) (by simp only [List.getElem?_toArray, List.getElem?_cons_succ, List.getElem?_cons_zero]; rfl) rfl (by rfl) (fun X _ => by go_simp) ?_
    simp only [Act.put, List.setIfInBounds_toArray, List.set_cons_succ, List.set_cons_zero]
    refine Rd.seq_float (.bool true) (by simp only [List.getElem?_toArray, List.getElem?_cons_succ, List.getElem?_cons_zero]; rfl) rfl (by rfl) (fun X _ => by go_simp) ?_
    simp only [Act.put, List.setIfInBounds_toArray, List.set_cons_succ, List.set_cons_zero]
    refine Rd.seq_move (by simp only [List.getElem?_toArray, List.getElem?_cons_succ, List.getElem?_cons_zero]; rfl) rfl (by rfl) (fun K hK => ?_)
    go_simp
    refine hK _ _ (fun h => absurd h (by omega)) ?_
    refine Rd.seq_end ?_
    go_wp2_with fail
    go_ret
    exact ⟨rfl, B4⟩

set_option maxRecDepth 100000 in
set_option maxHeartbeats 4000000 in
theorem asks_yes (N : Nat) (k : Nat) (hk : k < 64) (hc : Hid (coreB (k : Int) = true)) (w : World) (hT : Tab w) (hw : 0 < w.heap.size) (hN : N < 18446744073709551616) :
    Calls Tryd.prog 4 #[.int .u64 N, .int .i64 (k : Int)] w fun e w' => e = .returned (.bool true) ∧ Below w.heap.size w w' := by
  have hwi := withN_lt (k : Int) hN
  have hwo : withoutN N (k : Int) < 18446744073709551616 := Nat.lt_of_le_of_lt (withoutN_le N (k : Int)) hN
  have hh := Lib.hid (hasB_nat (n := N) hk)
  have hmin : min (k : Int) 63 = (k : Int) := by omega
  have hmax : max 0 (k : Int) = (k : Int) := by omega
  go_enter Tryd.func4, Tryd.ntmps4
  go_wp2_with fail
  refine (awake_any w hT hw).mono ?_
  rintro e w1 ⟨rfl, hb1⟩
  go_wp2_with fail
  refine (Bits_any N _ hN).mono ?_
  rintro e w2 ⟨rfl, hb2⟩
  have hb : Below w.heap.size w w2 := hb1.trans (hb2.mono hb1.size)
  have hI := IsArr.new w2 (fun _ => false)
  go_wp2_with (first | (refine wpList_alloc30 rfl rfl ?_) | (refine wpList_store30 rfl _ _ rfl w2.heap.size N.testBit (fun _ => false) rfl rfl hI ?_; intro w3 i3 t3))
  have hb3 : Below w.heap.size w w3 := (hb.trans ((Below.refl _ w2).alloc hb.size _)).trans (t3.below hb.size)
  clear hI hb1 hb2 t3
  generalize w2.heap.size = b at *
  have hci := i3.cell hk
  generalize N.testBit k = t at hh hci
  go_wp2_with fail
  refine (Has_is N (k : Int) t _ hN hh).mono ?_
  rintro e w' ⟨rfl, rfl⟩
  go_wp2_with fail
  refine (Core_is (k : Int) true _ hc).mono ?_
  rintro e w' ⟨rfl, rfl⟩
  have hrow0 := RefCores_any N w3
  go_wp2_with (refine wpList_load30 rfl _ rfl b N.testBit rfl i3 ?_)
  refine hrow0.mono ?_
  clear hrow0
  rintro e w4 ⟨v, rfl, hrow, hb4⟩
  have i4 : IsArr w4 b N.testBit := i3.below hb4 i3.lt
  have hB4 : Below w.heap.size w w4 := hb3.trans (hb4.mono hb3.size)
  obtain ⟨ad, len, cap, rfl, hpop, hlen, hfst⟩ := cores_slice hN hrow
  have HL := Lib.hid hpop
  clear hpop hrow hb4 i3 hb3
  obtain ⟨f0, HF, hcase⟩ : ∃ f0 : Int, Hid (firstZ N = f0) ∧ ((len = 0 ∧ f0 = -1) ∨ (0 < len ∧ ∃ g, ad = some ⟨g, 0, none⟩ ∧ w4.cell? ⟨g, 0, none⟩ = some (.int .i64 f0))) := by
    rcases hfst with ⟨h1, h2⟩ | ⟨h1, g, k, h2, h3, h4⟩
    · exact ⟨-1, Lib.hid h2, .inl ⟨h1, rfl⟩⟩
    · exact ⟨_, Lib.hid h3, .inr ⟨h1, g, h2, h4⟩⟩
  clear hfst
  rcases hcase with ⟨rfl, rfl⟩ | ⟨hpos, g, rfl, hcell⟩
  · go_wp2_with fail
    refine Rd.region (fun X => IsArr X b N.testBit ∧ Below w.heap.size w X) 29 [0, 1, 3, 4, 7, 8, 9, 11, 12, 15, 16, 17, 19, 20, 21, 22, 23, 24, 26, 27, 28] [0, 1, 3, 4, 2, 5, 6, 7, 8, 9, 11, 12, 10, 13, 14, 15, 16, 17, 19, 20, 18, 21, 22, 23, 24, 26, 25, 27, 28, 29] (by kernel_rfl) (by kernel_rfl) (by kernel_rfl) (by kernel_rfl) rfl ⟨i4, hB4.drew⟩ ?_
    have B0 := hB4.drew
    have i0 : IsArr w4.drew b N.testBit := i4
    generalize w4.drew = W0 at i0 B0 ⊢
    refine Rd.seq_float (.int .u64 N) (by simp only [List.getElem?_toArray, List.getElem?_cons_zero]; rfl) rfl (by rfl) (fun X _ => by go_simp) ?_
    simp only [Act.put, List.setIfInBounds_toArray, List.set_cons_succ, List.set_cons_zero]
    refine Rd.seq_float (.int .i64 (k : Int)) (by simp only [List.getElem?_toArray, List.getElem?_cons_succ, List.getElem?_cons_zero]; rfl) rfl (by rfl) (fun X _ => by go_simp) ?_
    simp only [Act.put, List.setIfInBounds_toArray, List.set_cons_succ, List.set_cons_zero]
    refine Rd.seq_float (.agg (arrB N.testBit)) (by simp only [List.getElem?_toArray, List.getElem?_cons_succ, List.getElem?_cons_zero]; rfl) rfl (by rfl) (fun X hX => exec_load30 _ _ b rfl rfl X hX.1) ?_
    simp only [Act.put, List.setIfInBounds_toArray, List.set_cons_succ, List.set_cons_zero]
    refine Rd.seq_float (.int .i64 (k : Int)) (by simp only [List.getElem?_toArray, List.getElem?_cons_succ, List.getElem?_cons_zero]; rfl) rfl (by rfl) (fun X _ => by go_simp) ?_
    simp only [Act.put, List.setIfInBounds_toArray, List.set_cons_succ, List.set_cons_zero]
    refine Rd.seq_move (by simp only [List.getElem?_toArray, List.getElem?_cons_succ, List.getElem?_cons_zero]; rfl) rfl (by rfl) (fun K hK => ?_)
    go_simp
    refine (With_any N (k : Int) W0 hN).mono ?_
    rintro e w' ⟨rfl, rfl⟩
    refine hK _ _ (fun _ => ⟨i0, B0⟩) ?_
    clear hK K
    refine Rd.seq_move (by simp only [List.getElem?_toArray, List.getElem?_cons_succ, List.getElem?_cons_zero]; rfl) rfl (by rfl) (fun K hK => ?_)
    go_simp
    refine (Put_with N (k : Int) W0).mono ?_
    rintro e W1 ⟨rfl, hb1⟩
    have i1 : IsArr W1 b N.testBit := i0.below hb1 i0.lt
    have B1 : Below w.heap.size w W1 := B0.trans (hb1.mono B0.size)
    refine hK _ _ (fun _ => ⟨i1, B1⟩) ?_
    clear hK K
    refine Rd.seq_move (by simp only [List.getElem?_toArray, List.getElem?_cons_succ, List.getElem?_cons_zero]; rfl) rfl (by rfl) (fun K hK => ?_)
    go_simp
    refine (Is_same (withN N (k : Int)) W1 hwi).mono ?_
    rintro e W2 ⟨rfl, hb2⟩
    have i2 : IsArr W2 b N.testBit := i1.below hb2 i1.lt
    have B2 : Below w.heap.size w W2 := B1.trans (hb2.mono B1.size)
    refine hK _ _ (fun _ => ⟨i2, B2⟩) ?_
    clear hK K
    refine Rd.seq_float (.bool true) (by simp only [List.getElem?_toArray, List.getElem?_cons_succ, List.getElem?_cons_zero]; rfl) rfl (by rfl) (fun X _ => by go_simp) ?_
    simp only [Act.put, List.setIfInBounds_toArray, List.set_cons_succ, List.set_cons_zero]
    refine Rd.seq_float (.int .u64 N) (by simp only [List.getElem?_toArray, List.getElem?_cons_succ, List.getElem?_cons_zero]; rfl) rfl (by rfl) (fun X _ => by go_simp) ?_
    simp only [Act.put, List.setIfInBounds_toArray, List.set_cons_succ, List.set_cons_zero]
    refine Rd.seq_float (.int .i64 (k : Int)) (by simp only [List.getElem?_toArray, List.getElem?_cons_succ, List.getElem?_cons_zero]; rfl) rfl (by rfl) (fun X _ => by go_simp) ?_
    simp only [Act.put, List.setIfInBounds_toArray, List.set_cons_succ, List.set_cons_zero]
    refine Rd.seq_float (.agg (arrB N.testBit)) (by simp only [List.getElem?_toArray, List.getElem?_cons_succ, List.getElem?_cons_zero]; rfl) rfl (by rfl) (fun X hX => exec_load30 _ _ b rfl rfl X hX.1) ?_
    simp only [Act.put, List.setIfInBounds_toArray, List.set_cons_succ, List.set_cons_zero]
    refine Rd.seq_float (.int .i64 (k : Int)) (by simp only [List.getElem?_toArray, List.getElem?_cons_succ, List.getElem?_cons_zero]; rfl) rfl (by rfl) (fun X _ => by go_simp) ?_
    simp only [Act.put, List.setIfInBounds_toArray, List.set_cons_succ, List.set_cons_zero]
    refine Rd.seq_move (by simp only [List.getElem?_toArray, List.getElem?_cons_succ, List.getElem?_cons_zero]; rfl) rfl (by rfl) (fun K hK => ?_)
    go_simp
    refine (Without_any N (k : Int) W2 hN).mono ?_
    rintro e w' ⟨rfl, rfl⟩
    refine hK _ _ (fun _ => ⟨i2, B2⟩) ?_
    clear hK K
    refine Rd.seq_move (by simp only [List.getElem?_toArray, List.getElem?_cons_succ, List.getElem?_cons_zero]; rfl) rfl (by rfl) (fun K hK => ?_)
    go_simp
    refine (Put_without N (k : Int) W2 hN).mono ?_
    rintro e W3 ⟨rfl, hb3⟩
    have i3 : IsArr W3 b N.testBit := i2.below hb3 i2.lt
    have B3 : Below w.heap.size w W3 := B2.trans (hb3.mono B2.size)
    refine hK _ _ (fun _ => ⟨i3, B3⟩) ?_
    clear hK K
    refine Rd.seq_move (by simp only [List.getElem?_toArray, List.getElem?_cons_succ, List.getElem?_cons_zero]; rfl) rfl (by rfl) (fun K hK => ?_)
    go_simp
    refine (Is_same (withoutN N (k : Int)) W3 hwo).mono ?_
    rintro e W4 ⟨rfl, hb4⟩
    have i4 : IsArr W4 b N.testBit := i3.below hb4 i3.lt
    have B4 : Below w.heap.size w W4 := B3.trans (hb4.mono B3.size)
    refine hK _ _ (fun _ => ⟨i4, B4⟩) ?_
    clear hK K
    refine Rd.seq_float (.bool true) (by simp only [List.getElem?_toArray, List.getElem?_cons_succ, List.getElem?_cons_zero]; rfl) rfl (by rfl) (fun X _ => by go_simp) ?_
    simp only [Act.put, List.setIfInBounds_toArray, List.set_cons_succ, List.set_cons_zero]
    refine Rd.seq_float (.bool true) (by simp only [List.getElem?_toArray, List.getElem?_cons_succ, List.getElem?_cons_zero]; rfl) rfl (by rfl) (fun X _ => by go_simp) ?_
    simp only [Act.put, List.setIfInBounds_toArray, List.set_cons_succ, List.set_cons_zero]
    refine Rd.seq_float (.int .u64 N) (by simp only [List.getElem?_toArray, List.getElem?_cons_succ, List.getElem?_cons_zero]; rfl) rfl (by rfl) (fun X _ => by go_simp) ?_
    simp only [Act.put, List.setIfInBounds_toArray, List.set_cons_succ, List.set_cons_zero]
    refine Rd.seq_float (.slice ad 0 cap) (by simp only [List.getElem?_toArray, List.getElem?_cons_succ, List.getElem?_cons_zero]; rfl) rfl (by rfl) (fun X _ => by go_simp) ?_
    simp only [Act.put, List.setIfInBounds_toArray, List.set_cons_succ, List.set_cons_zero]
    refine Rd.seq_float (.int .i64 0) (by simp only [List.getElem?_toArray, List.getElem?_cons_succ, List.getElem?_cons_zero]; rfl) rfl (by rfl) (fun X _ => by go_simp) ?_
    simp only [Act.put, List.setIfInBounds_toArray, List.set_cons_succ, List.set_cons_zero]
    refine Rd.seq_move (by simp only [List.getElem?_toArray, List.getElem?_cons_succ, List.getElem?_cons_zero]; rfl) rfl (by rfl) (fun K hK => ?_)
    go_simp
    refine (Len_is N 0 W4 hN HL).mono ?_
    rintro e w' ⟨rfl, rfl⟩
    refine hK _ _ (fun _ => ⟨i4, B4⟩) ?_
    clear hK K
    refine Rd.seq_float (.bool true) (by simp only [List.getElem?_toArray, List.getElem?_cons_succ, List.getElem?_cons_zero]; rfl) rfl (by rfl) (fun X _ => by go_simp) ?_
    simp only [Act.put, List.setIfInBounds_toArray, List.set_cons_succ, List.set_cons_zero]
    refine Rd.seq_float (.bool true) (by simp only [List.getElem?_toArray, List.getElem?_cons_succ, List.getElem?_cons_zero]; rfl) rfl (by rfl) (fun X _ => by go_simp) ?_
    simp only [Act.put, List.setIfInBounds_toArray, List.set_cons_succ, List.set_cons_zero]
    refine Rd.seq_float (.bool true) (by simp only [List.getElem?_toArray, List.getElem?_cons_succ, List.getElem?_cons_zero]; rfl) rfl (by rfl) (fun X _ => by go_simp) ?_
    simp only [Act.put, List.setIfInBounds_toArray, List.set_cons_succ, List.set_cons_zero]
    refine Rd.seq_float (.int .u64 N) (by simp only [List.getElem?_toArray, List.getElem?_cons_succ, List.getElem?_cons_zero]; rfl) rfl (by rfl) (fun X _ => by go_simp) ?_
    simp only [Act.put, List.setIfInBounds_toArray, List.set_cons_succ, List.set_cons_zero]
    refine Rd.seq_float (.int .i64 (-1)) (by simp only [List.getElem?_toArray, List.getElem?_cons_succ, List.getElem?_cons_zero]; rfl) rfl (by rfl) (fun X _ => by go_simp) ?_
    simp only [Act.put, List.setIfInBounds_toArray, List.set_cons_succ, List.set_cons_zero]
    refine Rd.seq_move (by simp only [List.getElem?_toArray, List.getElem?_cons_succ, List.getElem?_cons_zero]; rfl) rfl (by rfl) (fun K hK => ?_)
    go_simp
    refine (First_hid N (-1) W4 hN HF (hT.below B4 hw)).mono ?_
    rintro e w' ⟨rfl, rfl⟩
    refine hK _ _ (fun _ => ⟨i4, B4⟩) ?_
    clear hK K
    refine Rd.seq_float (.bool true) (by simp only [List.getElem?_toArray, List.getElem?_cons_succ, List.getElem?_cons_zero]; rfl) rfl (by rfl) (fun X _ => by go_simp) ?_
    simp only [Act.put, List.setIfInBounds_toArray, List.set_cons_succ, List.set_cons_zero]
    refine Rd.seq_float (.bool true) (by simp only [List.getElem?_toArray, List.getElem?_cons_succ, List.getElem?_cons_zero]; rfl) rfl (by rfl) (fun X _ => by go_simp) ?_
    simp only [Act.put, List.setIfInBounds_toArray, List.set_cons_succ, List.set_cons_zero]
    refine Rd.seq_move (by simp only [List.getElem?_toArray, List.getElem?_cons_succ, List.getElem?_cons_zero]; rfl) rfl (by rfl) (fun K hK => ?_)
    go_simp
    refine hK _ _ (fun h => absurd h (by omega)) ?_
    refine Rd.seq_end ?_
    go_wp2_with fail
    go_ret
    exact ⟨rfl, B4⟩
  · go_wp2_with fail
    refine Rd.region (fun X => IsArr X b N.testBit ∧ Below w.heap.size w X) 29 [0, 1, 3, 4, 7, 8, 9, 11, 12, 15, 16, 17, 19, 20, 21, 22, 23, 24, 26, 27, 28] [0, 1, 3, 4, 2, 5, 6, 7, 8, 9, 11, 12, 10, 13, 14, 15, 16, 17, 19, 20, 18, 21, 22, 23, 24, 26, 25, 27, 28, 29] (by kernel_rfl) (by kernel_rfl) (by kernel_rfl) (by kernel_rfl) rfl ⟨i4, hB4.drew⟩ ?_
    have B0 := hB4.drew
    have i0 : IsArr w4.drew b N.testBit := i4
    generalize w4.drew = W0 at i0 B0 ⊢
    refine Rd.seq_float (.int .u64 N) (by simp only [List.getElem?_toArray, List.getElem?_cons_zero]; rfl) rfl (by rfl) (fun X _ => by go_simp) ?_
    simp only [Act.put, List.setIfInBounds_toArray, List.set_cons_succ, List.set_cons_zero]
    refine Rd.seq_float (.int .i64 (k : Int)) (by simp only [List.getElem?_toArray, List.getElem?_cons_succ, List.getElem?_cons_zero]; rfl) rfl (by rfl) (fun X _ => by go_simp) ?_
    simp only [Act.put, List.setIfInBounds_toArray, List.set_cons_succ, List.set_cons_zero]
    refine Rd.seq_float (.agg (arrB N.testBit)) (by simp only [List.getElem?_toArray, List.getElem?_cons_succ, List.getElem?_cons_zero]; rfl) rfl (by rfl) (fun X hX => exec_load30 _ _ b rfl rfl X hX.1) ?_
    simp only [Act.put, List.setIfInBounds_toArray, List.set_cons_succ, List.set_cons_zero]
    refine Rd.seq_float (.int .i64 (k : Int)) (by simp only [List.getElem?_toArray, List.getElem?_cons_succ, List.getElem?_cons_zero]; rfl) rfl (by rfl) (fun X _ => by go_simp) ?_
    simp only [Act.put, List.setIfInBounds_toArray, List.set_cons_succ, List.set_cons_zero]
    refine Rd.seq_move (by simp only [List.getElem?_toArray, List.getElem?_cons_succ, List.getElem?_cons_zero]; rfl) rfl (by rfl) (fun K hK => ?_)
    go_simp
    refine (With_any N (k : Int) W0 hN).mono ?_
    rintro e w' ⟨rfl, rfl⟩
    refine hK _ _ (fun _ => ⟨i0, B0⟩) ?_
    clear hK K
    refine Rd.seq_move (by simp only [List.getElem?_toArray, List.getElem?_cons_succ, List.getElem?_cons_zero]; rfl) rfl (by rfl) (fun K hK => ?_)
    go_simp
    refine (Put_with N (k : Int) W0).mono ?_
    rintro e W1 ⟨rfl, hb1⟩
    have i1 : IsArr W1 b N.testBit := i0.below hb1 i0.lt
    have B1 : Below w.heap.size w W1 := B0.trans (hb1.mono B0.size)
    refine hK _ _ (fun _ => ⟨i1, B1⟩) ?_
    clear hK K
    refine Rd.seq_move (by simp only [List.getElem?_toArray, List.getElem?_cons_succ, List.getElem?_cons_zero]; rfl) rfl (by rfl) (fun K hK => ?_)
    go_simp
    refine (Is_same (withN N (k : Int)) W1 hwi).mono ?_
    rintro e W2 ⟨rfl, hb2⟩
    have i2 : IsArr W2 b N.testBit := i1.below hb2 i1.lt
    have B2 : Below w.heap.size w W2 := B1.trans (hb2.mono B1.size)
    refine hK _ _ (fun _ => ⟨i2, B2⟩) ?_
    clear hK K
    refine Rd.seq_float (.bool true) (by simp only [List.getElem?_toArray, List.getElem?_cons_succ, List.getElem?_cons_zero]; rfl) rfl (by rfl) (fun X _ => by go_simp) ?_
    simp only [Act.put, List.setIfInBounds_toArray, List.set_cons_succ, List.set_cons_zero]
    refine Rd.seq_float (.int .u64 N) (by simp only [List.getElem?_toArray, List.getElem?_cons_succ, List.getElem?_cons_zero]; rfl) rfl (by rfl) (fun X _ => by go_simp) ?_
    simp only [Act.put, List.setIfInBounds_toArray, List.set_cons_succ, List.set_cons_zero]
    refine Rd.seq_float (.int .i64 (k : Int)) (by simp only [List.getElem?_toArray, List.getElem?_cons_succ, List.getElem?_cons_zero]; rfl) rfl (by rfl) (fun X _ => by go_simp) ?_
    simp only [Act.put, List.setIfInBounds_toArray, List.set_cons_succ, List.set_cons_zero]
    refine Rd.seq_float (.agg (arrB N.testBit)) (by simp only [List.getElem?_toArray, List.getElem?_cons_succ, List.getElem?_cons_zero]; rfl) rfl (by rfl) (fun X hX => exec_load30 _ _ b rfl rfl X hX.1) ?_
    simp only [Act.put, List.setIfInBounds_toArray, List.set_cons_succ, List.set_cons_zero]
    refine Rd.seq_float (.int .i64 (k : Int)) (by simp only [List.getElem?_toArray, List.getElem?_cons_succ, List.getElem?_cons_zero]; rfl) rfl (by rfl) (fun X _ => by go_simp) ?_
    simp only [Act.put, List.setIfInBounds_toArray, List.set_cons_succ, List.set_cons_zero]
    refine Rd.seq_move (by simp only [List.getElem?_toArray, List.getElem?_cons_succ, List.getElem?_cons_zero]; rfl) rfl (by rfl) (fun K hK => ?_)
    go_simp
    refine (Without_any N (k : Int) W2 hN).mono ?_
    rintro e w' ⟨rfl, rfl⟩
    refine hK _ _ (fun _ => ⟨i2, B2⟩) ?_
    clear hK K
    refine Rd.seq_move (by simp only [List.getElem?_toArray, List.getElem?_cons_succ, List.getElem?_cons_zero]; rfl) rfl (by rfl) (fun K hK => ?_)
    go_simp
    refine (Put_without N (k : Int) W2 hN).mono ?_
    rintro e W3 ⟨rfl, hb3⟩
    have i3 : IsArr W3 b N.testBit := i2.below hb3 i2.lt
    have B3 : Below w.heap.size w W3 := B2.trans (hb3.mono B2.size)
    refine hK _ _ (fun _ => ⟨i3, B3⟩) ?_
    clear hK K
    refine Rd.seq_move (by simp only [List.getElem?_toArray, List.getElem?_cons_succ, List.getElem?_cons_zero]; rfl) rfl (by rfl) (fun K hK => ?_)
    go_simp
    refine (Is_same (withoutN N (k : Int)) W3 hwo).mono ?_
    rintro e W4 ⟨rfl, hb4⟩
    have i4 : IsArr W4 b N.testBit := i3.below hb4 i3.lt
    have B4 : Below w.heap.size w W4 := B3.trans (hb4.mono B3.size)
    refine hK _ _ (fun _ => ⟨i4, B4⟩) ?_
    clear hK K
    refine Rd.seq_float (.bool true) (by simp only [List.getElem?_toArray, List.getElem?_cons_succ, List.getElem?_cons_zero]; rfl) rfl (by rfl) (fun X _ => by go_simp) ?_
    simp only [Act.put, List.setIfInBounds_toArray, List.set_cons_succ, List.set_cons_zero]
    refine Rd.seq_float (.bool true) (by simp only [List.getElem?_toArray, List.getElem?_cons_succ, List.getElem?_cons_zero]; rfl) rfl (by rfl) (fun X _ => by go_simp) ?_
    simp only [Act.put, List.setIfInBounds_toArray, List.set_cons_succ, List.set_cons_zero]
    refine Rd.seq_float (.int .u64 N) (by simp only [List.getElem?_toArray, List.getElem?_cons_succ, List.getElem?_cons_zero]; rfl) rfl (by rfl) (fun X _ => by go_simp) ?_
    simp only [Act.put, List.setIfInBounds_toArray, List.set_cons_succ, List.set_cons_zero]
    refine Rd.seq_float (.slice (some ⟨g, 0, none⟩) len cap) (by simp only [List.getElem?_toArray, List.getElem?_cons_succ, List.getElem?_cons_zero]; rfl) rfl (by rfl) (fun X _ => by go_simp) ?_
    simp only [Act.put, List.setIfInBounds_toArray, List.set_cons_succ, List.set_cons_zero]
    refine Rd.seq_float (.int .i64 (len : Nat)) (by simp only [List.getElem?_toArray, List.getElem?_cons_succ, List.getElem?_cons_zero]; rfl) rfl (by rfl) (fun X _ => by go_simp) ?_
    simp only [Act.put, List.setIfInBounds_toArray, List.set_cons_succ, List.set_cons_zero]
    refine Rd.seq_move (by simp only [List.getElem?_toArray, List.getElem?_cons_succ, List.getElem?_cons_zero]; rfl) rfl (by rfl) (fun K hK => ?_)
    go_simp
    refine (Len_is N len W4 hN HL).mono ?_
    rintro e w' ⟨rfl, rfl⟩
    refine hK _ _ (fun _ => ⟨i4, B4⟩) ?_
    clear hK K
    refine Rd.seq_float (.bool true) (by simp only [List.getElem?_toArray, List.getElem?_cons_succ, List.getElem?_cons_zero]; rfl) rfl (by rfl) (fun X _ => by go_simp) ?_
    simp only [Act.put, List.setIfInBounds_toArray, List.set_cons_succ, List.set_cons_zero]
    refine Rd.seq_float (.bool true) (by simp only [List.getElem?_toArray, List.getElem?_cons_succ, List.getElem?_cons_zero]; rfl) rfl (by rfl) (fun X _ => by go_simp) ?_
    simp only [Act.put, List.setIfInBounds_toArray, List.set_cons_succ, List.set_cons_zero]
    refine Rd.seq_float (.bool true) (by simp only [List.getElem?_toArray, List.getElem?_cons_succ, List.getElem?_cons_zero]; rfl) rfl (by rfl) (fun X _ => by go_simp) ?_
    simp only [Act.put, List.setIfInBounds_toArray, List.set_cons_succ, List.set_cons_zero]
    refine Rd.seq_float (.int .u64 N) (by simp only [List.getElem?_toArray, List.getElem?_cons_succ, List.getElem?_cons_zero]; rfl) rfl (by rfl) (fun X _ => by go_simp) ?_
    simp only [Act.put, List.setIfInBounds_toArray, List.set_cons_succ, List.set_cons_zero]
    refine Rd.seq_float (.int .i64 f0) (by simp only [List.getElem?_toArray, List.getElem?_cons_succ, List.getElem?_cons_zero]; rfl) rfl (by rfl) (fun X _ => by go_simp) ?_
    simp only [Act.put, List.setIfInBounds_toArray, List.set_cons_succ, List.set_cons_zero]
    refine Rd.seq_move (by simp only [List.getElem?_toArray, List.getElem?_cons_succ, List.getElem?_cons_zero]; rfl) rfl (by rfl) (fun K hK => ?_)
    go_simp
    refine (First_hid N f0 W4 hN HF (hT.below B4 hw)).mono ?_
    rintro e w' ⟨rfl, rfl⟩
    refine hK _ _ (fun _ => ⟨i4, B4⟩) ?_
    clear hK K
    refine Rd.seq_float (.bool true) (by simp only [List.getElem?_toArray, List.getElem?_cons_succ, List.getElem?_cons_zero]; rfl) rfl (by rfl) (fun X _ => by go_simp) ?_
    simp only [Act.put, List.setIfInBounds_toArray, List.set_cons_succ, List.set_cons_zero]
    refine Rd.seq_float (.bool true) (by simp only [List.getElem?_toArray, List.getElem?_cons_succ, List.getElem?_cons_zero]; rfl) rfl (by rfl) (fun X _ => by go_simp) ?_
    simp only [Act.put, List.setIfInBounds_toArray, List.set_cons_succ, List.set_cons_zero]
    refine Rd.seq_move (by simp only [List.getElem?_toArray, List.getElem?_cons_succ, List.getElem?_cons_zero]; rfl) rfl (by rfl) (fun K hK => ?_)
    go_simp
    refine hK _ _ (fun h => absurd h (by omega)) ?_
    refine Rd.seq_end ?_
    go_wp2_with fail
    go_ret
    exact ⟨rfl, B4⟩

/-- MaskAsks is true at any set and any number. -/
theorem asks_any (N : Nat) (c : Int) (w : World) (hT : Tab w) (hw : 0 < w.heap.size) (hN : N < 18446744073709551616) :
    Calls Tryd.prog 4 #[.int .u64 N, .int .i64 c] w fun e w' => e = .returned (.bool true) ∧ Below w.heap.size w w' := by
  cases h : coreB c
  · exact asks_no N c (Lib.hid h) w hT hw hN
  · obtain ⟨k, hk, rfl⟩ := core_nat h
    exact asks_yes N k hk (Lib.hid h) w hT hw hN
end Go.Proofs.YtgmdbgdbjmlolaaDoor
