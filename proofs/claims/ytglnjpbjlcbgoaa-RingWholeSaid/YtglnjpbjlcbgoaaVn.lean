/-
  The document's Push, Behind, New. Condition: no node is in two places.
-/
import Derived.Test.YtglnjpbjlcbgoaaVm
namespace Go.Proofs.Ytglnjpbjlcbgoaa
open Go.RowKit

set_option maxRecDepth 100000 in
set_option maxHeartbeats 4000000 in
theorem rPush_no1 (B N : Nat) (dv : Value) (ls : List (List Nat)) (k n : Int) (b : Bool) (w : World) (h : Doc w B dv ls) (hk : k < 0) :
    Calls Try.prog 26 #[.agg #[.int .i64 (N : Int), dv], .int .i64 k, .int .i64 n, .bool b] w fun e w' => (∃ v', e = .returned (.tuple #[v', .int .i64 14]) ∧ RV w' B N v' ls) ∧ Below w.heap.size w w' := by
  obtain ⟨ad, cd, rfl⟩ := h.sl
  have hx := (IsT.new w (N : Int) (.slice ad ls.length cd)).alloc (.cells #[.int .i64 0, .slice none 0 0] 30)
  have hZ : IsT ((w.alloc (.cells #[.int .i64 (N : Int), (.slice ad ls.length cd)] 30)).alloc (.cells #[.int .i64 0, .slice none 0 0] 30)) (w.heap.size + 1) 0 (.slice none 0 0) := by
    have := IsT.new (w.alloc (.cells #[.int .i64 (N : Int), (.slice ad ls.length cd)] 30)) 0 (.slice none 0 0)
    simpa using this
  have hb : Below w.heap.size w ((w.alloc (.cells #[.int .i64 (N : Int), (.slice ad ls.length cd)] 30)).alloc (.cells #[.int .i64 0, .slice none 0 0] 30)) := ((Below.refl _ w).alloc (Nat.le_refl _) _).alloc (by simp) _
  have hsz : w.heap.size + 2 ≤ ((w.alloc (.cells #[.int .i64 (N : Int), (.slice ad ls.length cd)] 30)).alloc (.cells #[.int .i64 0, .slice none 0 0] 30)).heap.size := by simp
  have HD := Lib.hid (h.below hb)
  have hc1 := hx.c1
  clear h
  go_enter Try.func26, Try.ntmps26
  go_wp2_with (first | (refine wpList_alloc30 rfl rfl ?_) | (refine wpList_load30 rfl _ rfl w.heap.size _ _ rfl hx ?_) | (refine wpList_store30 rfl _ _ rfl (w.heap.size + 1) _ _ _ _ rfl rfl hZ HD.out.one ?_; intro w5 hZ5 t5))
  refine bodyPost_ret (results_ct rfl _ w5 (w.heap.size + 1) _ _ (.int .i64 14) rfl rfl hZ5) rfl ?_
  exact ⟨⟨_, rfl, _, rfl, HD.out.turn t5 hZ (by decide) (by decide)⟩, hb.trans (t5.below (by omega))⟩
set_option maxRecDepth 100000 in
set_option maxHeartbeats 4000000 in
theorem rPush_no2 (B N : Nat) (dv : Value) (ls : List (List Nat)) (k n : Int) (b : Bool) (w : World) (h : Doc w B dv ls) (hk : 0 ≤ k) (hk2 : (ls.length : Int) ≤ k) :
    Calls Try.prog 26 #[.agg #[.int .i64 (N : Int), dv], .int .i64 k, .int .i64 n, .bool b] w fun e w' => (∃ v', e = .returned (.tuple #[v', .int .i64 14]) ∧ RV w' B N v' ls) ∧ Below w.heap.size w w' := by
  obtain ⟨ad, cd, rfl⟩ := h.sl
  have hx := (IsT.new w (N : Int) (.slice ad ls.length cd)).alloc (.cells #[.int .i64 0, .slice none 0 0] 30)
  have hZ : IsT ((w.alloc (.cells #[.int .i64 (N : Int), (.slice ad ls.length cd)] 30)).alloc (.cells #[.int .i64 0, .slice none 0 0] 30)) (w.heap.size + 1) 0 (.slice none 0 0) := by
    have := IsT.new (w.alloc (.cells #[.int .i64 (N : Int), (.slice ad ls.length cd)] 30)) 0 (.slice none 0 0)
    simpa using this
  have hb : Below w.heap.size w ((w.alloc (.cells #[.int .i64 (N : Int), (.slice ad ls.length cd)] 30)).alloc (.cells #[.int .i64 0, .slice none 0 0] 30)) := ((Below.refl _ w).alloc (Nat.le_refl _) _).alloc (by simp) _
  have hsz : w.heap.size + 2 ≤ ((w.alloc (.cells #[.int .i64 (N : Int), (.slice ad ls.length cd)] 30)).alloc (.cells #[.int .i64 0, .slice none 0 0] 30)).heap.size := by simp
  have HD := Lib.hid (h.below hb)
  have hc1 := hx.c1
  clear h
  go_enter Try.func26, Try.ntmps26
  go_wp2_with (first | (refine wpList_alloc30 rfl rfl ?_) | (refine wpList_load30 rfl _ rfl w.heap.size _ _ rfl hx ?_) | (refine wpList_store30 rfl _ _ rfl (w.heap.size + 1) _ _ _ _ rfl rfl hZ HD.out.one ?_; intro w5 hZ5 t5))
  refine bodyPost_ret (results_ct rfl _ w5 (w.heap.size + 1) _ _ (.int .i64 14) rfl rfl hZ5) rfl ?_
  exact ⟨⟨_, rfl, _, rfl, HD.out.turn t5 hZ (by decide) (by decide)⟩, hb.trans (t5.below (by omega))⟩
set_option maxRecDepth 100000 in
set_option maxHeartbeats 4000000 in
theorem rPush_no3 (B N : Nat) (dv : Value) (ls : List (List Nat)) (k n : Int) (b : Bool) (w : World) (h : Doc w B dv ls) (ok : OkL N ls) (q : Int) (hk : 0 ≤ k) (hk2 : k < ls.length) (hq : wrongI N ls n false = q) (hq0 : ¬ q = 0) :
    Calls Try.prog 26 #[.agg #[.int .i64 (N : Int), dv], .int .i64 k, .int .i64 n, .bool b] w fun e w' => (∃ v', e = .returned (.tuple #[v', .int .i64 q]) ∧ RV w' B N v' ls) ∧ Below w.heap.size w w' := by
  obtain ⟨ad, cd, rfl⟩ := h.sl
  have hx := (IsT.new w (N : Int) (.slice ad ls.length cd)).alloc (.cells #[.int .i64 0, .slice none 0 0] 30)
  have hZ : IsT ((w.alloc (.cells #[.int .i64 (N : Int), (.slice ad ls.length cd)] 30)).alloc (.cells #[.int .i64 0, .slice none 0 0] 30)) (w.heap.size + 1) 0 (.slice none 0 0) := by
    have := IsT.new (w.alloc (.cells #[.int .i64 (N : Int), (.slice ad ls.length cd)] 30)) 0 (.slice none 0 0)
    simpa using this
  have hb : Below w.heap.size w ((w.alloc (.cells #[.int .i64 (N : Int), (.slice ad ls.length cd)] 30)).alloc (.cells #[.int .i64 0, .slice none 0 0] 30)) := ((Below.refl _ w).alloc (Nat.le_refl _) _).alloc (by simp) _
  have hsz : w.heap.size + 2 ≤ ((w.alloc (.cells #[.int .i64 (N : Int), (.slice ad ls.length cd)] 30)).alloc (.cells #[.int .i64 0, .slice none 0 0] 30)).heap.size := by simp
  have HD := Lib.hid (h.below hb)
  have hc1 := hx.c1
  have hq1 := bne_tt hq0
  have HW := Lib.hid hq
  have HOK := Lib.hid ok
  clear h ok hq hq0
  go_enter Try.func26, Try.ntmps26
  go_wp2_with (first | (refine wpList_alloc30 rfl rfl ?_) | (refine wpList_load30 rfl _ rfl w.heap.size _ _ rfl hx ?_))
  generalize ((w.alloc (.cells #[.int .i64 (N : Int), (.slice ad ls.length cd)] 30)).alloc (.cells #[.int .i64 0, .slice none 0 0] 30)) = w2 at *
  refine (wrong_any B N _ ls n false w2 HD.out HOK.out).mono ?_
  rw [HW.out]
  rintro e w3 ⟨rfl, hb3⟩
  replace hx := hx.belowS hb3; replace hZ := hZ.belowS hb3; replace HD := Lib.hid (HD.out.below hb3); replace hb := hb.trans (hb3.mono hb.size); have hs3 := hb3.size
  clear hb3
  clear hc1
  go_wp2_with (first | (refine wpList_load30 rfl _ rfl w.heap.size _ _ rfl hx ?_) | (refine wpList_store30 rfl _ _ rfl (w.heap.size + 1) _ _ _ _ rfl rfl hZ HD.out.one ?_; intro w5 hZ5 t5))
  refine bodyPost_ret (results_ct rfl _ w5 (w.heap.size + 1) _ _ (.int .i64 q) rfl rfl hZ5) rfl ?_
  exact ⟨⟨_, rfl, _, rfl, HD.out.turn t5 hZ (by decide) (by decide)⟩, hb.trans (t5.below (by omega))⟩
set_option maxRecDepth 100000 in
set_option maxHeartbeats 4000000 in
theorem rPush_lead (B N : Nat) (dv : Value) (ls : List (List Nat)) (k x : Nat) (w : World) (h : Doc w B dv ls) (hB0 : B ≤ w.heap.size) (ok : OkL N ls) (hk : k < ls.length) (hq : wrongI N ls x false = 0) :
    Calls Try.prog 26 #[.agg #[.int .i64 (N : Int), dv], .int .i64 (k : Int), .int .i64 (x : Int), .bool true] w fun e w' => (∃ v', e = .returned (.tuple #[v', .int .i64 0]) ∧ RV w' B N v' (insL ls k 0 x)) ∧ Below w.heap.size w w' := by
  obtain ⟨ad, cd, rfl⟩ := h.sl
  have hx := (IsT.new w (N : Int) (.slice ad ls.length cd)).alloc (.cells #[.int .i64 0, .slice none 0 0] 30)
  have hZ : IsT ((w.alloc (.cells #[.int .i64 (N : Int), (.slice ad ls.length cd)] 30)).alloc (.cells #[.int .i64 0, .slice none 0 0] 30)) (w.heap.size + 1) 0 (.slice none 0 0) := by
    have := IsT.new (w.alloc (.cells #[.int .i64 (N : Int), (.slice ad ls.length cd)] 30)) 0 (.slice none 0 0)
    simpa using this
  have hb : Below w.heap.size w ((w.alloc (.cells #[.int .i64 (N : Int), (.slice ad ls.length cd)] 30)).alloc (.cells #[.int .i64 0, .slice none 0 0] 30)) := ((Below.refl _ w).alloc (Nat.le_refl _) _).alloc (by simp) _
  have hsz : w.heap.size + 2 ≤ ((w.alloc (.cells #[.int .i64 (N : Int), (.slice ad ls.length cd)] 30)).alloc (.cells #[.int .i64 0, .slice none 0 0] 30)).heap.size := by simp
  have HD := Lib.hid (h.below hb)
  have hc1 := hx.c1
  have hm := ok.m64
  have hl64 := ok.len64 k
  have HW := Lib.hid hq
  have HOK := Lib.hid ok
  have HBL : Hid (∀ b, ad = some ⟨b, 0, none⟩ → b < w.heap.size) := Lib.hid (fun b e => by
    obtain ⟨b', _, _, e', _, hc, _⟩ := h.at hk
    rw [e] at e'
    cases e'
    exact block_lt_of_cell hc)
  clear h ok hq
  go_enter Try.func26, Try.ntmps26
  go_wp2_with (first | (refine wpList_alloc30 rfl rfl ?_) | (refine wpList_load30 rfl _ rfl w.heap.size _ _ rfl hx ?_))
  generalize ((w.alloc (.cells #[.int .i64 (N : Int), (.slice ad ls.length cd)] 30)).alloc (.cells #[.int .i64 0, .slice none 0 0] 30)) = w2 at *
  refine (wrong_any B N _ ls x false w2 HD.out HOK.out).mono ?_
  rw [HW.out]
  rintro e w3 ⟨rfl, hb3⟩
  replace hx := hx.belowS hb3; replace hZ := hZ.belowS hb3; replace HD := Lib.hid (HD.out.below hb3); replace hb := hb.trans (hb3.mono hb.size); have hs3 := hb3.size
  clear hb3
  clear hc1
  go_wp2_with (first | (refine wpList_load30 rfl _ rfl w.heap.size _ _ rfl hx ?_))
  refine (rput_any B N _ ls k 0 x w3 HD.out (by omega) HOK.out hk (Nat.zero_le _)).mono ?_
  rintro e w6 ⟨⟨v6, rfl, dv', rfl, hd⟩, hb6⟩
  replace hZ := hZ.belowS hb6
  replace hb := hb.trans (hb6.mono hb.size)
  have hs6 := hb6.size
  go_wp2_with (refine wpList_store30 rfl _ _ rfl (w.heap.size + 1) _ _ _ _ rfl rfl hZ hd.one ?_; intro w5 hZ5 t5)
  refine bodyPost_ret (results_ct rfl _ w5 (w.heap.size + 1) _ _ (.int .i64 0) rfl rfl hZ5) rfl ?_
  exact ⟨⟨_, rfl, dv', rfl, hd.turn t5 hZ (by decide) (by decide)⟩, hb.trans (t5.below (by omega))⟩
set_option maxRecDepth 100000 in
set_option maxHeartbeats 4000000 in
theorem rPush_last (B N : Nat) (dv : Value) (ls : List (List Nat)) (k x : Nat) (w : World) (h : Doc w B dv ls) (hB0 : B ≤ w.heap.size) (ok : OkL N ls) (hk : k < ls.length) (hq : wrongI N ls x false = 0) :
    Calls Try.prog 26 #[.agg #[.int .i64 (N : Int), dv], .int .i64 (k : Int), .int .i64 (x : Int), .bool false] w fun e w' => (∃ v', e = .returned (.tuple #[v', .int .i64 0]) ∧ RV w' B N v' (insL ls k (row ls k).length x)) ∧ Below w.heap.size w w' := by
  obtain ⟨ad, cd, rfl⟩ := h.sl
  have hx := (IsT.new w (N : Int) (.slice ad ls.length cd)).alloc (.cells #[.int .i64 0, .slice none 0 0] 30)
  have hZ : IsT ((w.alloc (.cells #[.int .i64 (N : Int), (.slice ad ls.length cd)] 30)).alloc (.cells #[.int .i64 0, .slice none 0 0] 30)) (w.heap.size + 1) 0 (.slice none 0 0) := by
    have := IsT.new (w.alloc (.cells #[.int .i64 (N : Int), (.slice ad ls.length cd)] 30)) 0 (.slice none 0 0)
    simpa using this
  have hb : Below w.heap.size w ((w.alloc (.cells #[.int .i64 (N : Int), (.slice ad ls.length cd)] 30)).alloc (.cells #[.int .i64 0, .slice none 0 0] 30)) := ((Below.refl _ w).alloc (Nat.le_refl _) _).alloc (by simp) _
  have hsz : w.heap.size + 2 ≤ ((w.alloc (.cells #[.int .i64 (N : Int), (.slice ad ls.length cd)] 30)).alloc (.cells #[.int .i64 0, .slice none 0 0] 30)).heap.size := by simp
  have HD := Lib.hid (h.below hb)
  have hc1 := hx.c1
  have hm := ok.m64
  have hl64 := ok.len64 k
  have HW := Lib.hid hq
  have HOK := Lib.hid ok
  have HBL : Hid (∀ b, ad = some ⟨b, 0, none⟩ → b < w.heap.size) := Lib.hid (fun b e => by
    obtain ⟨b', _, _, e', _, hc, _⟩ := h.at hk
    rw [e] at e'
    cases e'
    exact block_lt_of_cell hc)
  clear h ok hq
  go_enter Try.func26, Try.ntmps26
  go_wp2_with (first | (refine wpList_alloc30 rfl rfl ?_) | (refine wpList_load30 rfl _ rfl w.heap.size _ _ rfl hx ?_))
  generalize ((w.alloc (.cells #[.int .i64 (N : Int), (.slice ad ls.length cd)] 30)).alloc (.cells #[.int .i64 0, .slice none 0 0] 30)) = w2 at *
  refine (wrong_any B N _ ls x false w2 HD.out HOK.out).mono ?_
  rw [HW.out]
  rintro e w3 ⟨rfl, hb3⟩
  replace hx := hx.belowS hb3; replace hZ := hZ.belowS hb3; replace HD := Lib.hid (HD.out.below hb3); replace hb := hb.trans (hb3.mono hb.size); have hs3 := hb3.size
  clear hb3
  clear hc1
  obtain ⟨bd, ao, co, rfl, hbd, hcd, hlc, hcm, -⟩ := HD.out.at hk
  have hbl := block_lt_of_cell hcd
  go_wp2_with fail
  have s3 := Same.drew w3
  replace hx := hx.sm s3
  replace hZ := hZ.sm s3
  replace hb := hb.trans (s3.below _)
  have hs9 : w.heap.size + 2 ≤ w3.drew.heap.size := by rw [s3.size]; omega
  replace HD := Lib.hid (HD.out.sm s3)
  replace hcd := (s3.cell _).trans hcd
  rw [← s3.size] at hbl
  have HP := Lib.hid (rput_any B N _ ls k (row ls k).length x w3.drew HD.out (by omega) HOK.out hk (Nat.le_refl _))
  have hne : bd ≠ w.heap.size + 1 := by have := HBL.out bd rfl; omega
  generalize hL : row ls k = L at *
  have HLH := Lib.hid hL
  clear hL
  refine Rd.region (fun X => IsT X w.heap.size (N : Int) (.slice (some ⟨bd, 0, none⟩) ls.length cd) ∧ X.cell? ⟨bd, k, none⟩ = some (.slice ao L.length co)) 12 [0, 1, 2, 3, 4, 5, 6, 7, 8, 11] [0, 1, 2, 3, 4, 5, 6, 7, 8, 9, 10, 11] (by kernel_rfl) (by kernel_rfl) (by kernel_rfl) (by kernel_rfl) rfl ⟨hx, hcd⟩ ?_
  clear s3 hs3 hsz
  generalize w3.drew = w4 at *
  refine Rd.seq_float (.agg #[.int .i64 (N : Int), .slice (some ⟨bd, 0, none⟩) ls.length cd]) (by simp only [List.getElem?_toArray, List.getElem?_cons_zero]; rfl) rfl (by rfl) (fun X hX => run_load30 rfl rfl hX.1) ?_
  simp only [Act.put, List.setIfInBounds_toArray, List.set_cons_succ, List.set_cons_zero]
  refine Rd.seq_float (.int .i64 (k : Int)) (by simp only [List.getElem?_toArray, List.getElem?_cons_succ, List.getElem?_cons_zero]; rfl) rfl (by rfl) (fun X _ => by go_simp) ?_
  simp only [Act.put, List.setIfInBounds_toArray, List.set_cons_succ, List.set_cons_zero]
  refine Rd.seq_float (.pointer (some ⟨w.heap.size, 1, none⟩)) (by simp only [List.getElem?_toArray, List.getElem?_cons_succ, List.getElem?_cons_zero]; rfl) rfl (by rfl) (fun X _ => by go_simp) ?_
  simp only [Act.put, List.setIfInBounds_toArray, List.set_cons_succ, List.set_cons_zero]
  refine Rd.seq_float (.slice (some ⟨bd, 0, none⟩) ls.length cd) (by simp only [List.getElem?_toArray, List.getElem?_cons_succ, List.getElem?_cons_zero]; rfl) rfl (by rfl) (fun X hX => by have e1 := hX.1.c1; go_simp) ?_
  simp only [Act.put, List.setIfInBounds_toArray, List.set_cons_succ, List.set_cons_zero]
  refine Rd.seq_float (.int .i64 (k : Int)) (by simp only [List.getElem?_toArray, List.getElem?_cons_succ, List.getElem?_cons_zero]; rfl) rfl (by rfl) (fun X _ => by go_simp) ?_
  simp only [Act.put, List.setIfInBounds_toArray, List.set_cons_succ, List.set_cons_zero]
  refine Rd.seq_float (.pointer (some ⟨bd, k, none⟩)) (by simp only [List.getElem?_toArray, List.getElem?_cons_succ, List.getElem?_cons_zero]; rfl) rfl (by rfl) (fun X _ => by go_simp) ?_
  simp only [Act.put, List.setIfInBounds_toArray, List.set_cons_succ, List.set_cons_zero]
  refine Rd.seq_float (.slice ao L.length co) (by simp only [List.getElem?_toArray, List.getElem?_cons_succ, List.getElem?_cons_zero]; rfl) rfl (by rfl) (fun X hX => by have e1 := hX.2; go_simp) ?_
  simp only [Act.put, List.setIfInBounds_toArray, List.set_cons_succ, List.set_cons_zero]
  refine Rd.seq_float (.int .i64 (L.length : Int)) (by simp only [List.getElem?_toArray, List.getElem?_cons_succ, List.getElem?_cons_zero]; rfl) rfl (by rfl) (fun X _ => by go_simp) ?_
  simp only [Act.put, List.setIfInBounds_toArray, List.set_cons_succ, List.set_cons_zero]
  refine Rd.seq_float (.int .i64 (x : Int)) (by simp only [List.getElem?_toArray, List.getElem?_cons_succ, List.getElem?_cons_zero]; rfl) rfl (by rfl) (fun X _ => by go_simp) ?_
  simp only [Act.put, List.setIfInBounds_toArray, List.set_cons_succ, List.set_cons_zero]
  refine Rd.seq_move (by simp only [List.getElem?_toArray, List.getElem?_cons_succ, List.getElem?_cons_zero]; rfl) rfl (by rfl) (fun K hK => ?_)
  go_simp
  refine (HP.out).mono ?_
  rintro e w6 ⟨⟨v6, rfl, dv', rfl, hd⟩, hb6⟩
  replace hx := hx.belowS hb6
  replace hZ := hZ.belowS hb6
  replace hb := hb.trans (hb6.mono hb.size)
  have hs6 := hb6.size
  replace hcd := (hb6.cell (p := ⟨bd, k, none⟩) hbl).trans hcd
  refine hK _ _ (fun _ => ⟨hx, hcd⟩) ?_
  clear hK K
  refine Rd.seq_move (by simp only [List.getElem?_toArray, List.getElem?_cons_succ, List.getElem?_cons_zero]; rfl) rfl (by rfl) (fun K hK => ?_)
  refine wp_store30 _ _ rfl (w.heap.size + 1) _ _ _ _ rfl rfl hZ hd.one ?_
  intro w7 hZ7 t7
  refine hK _ _ (fun _ => ⟨hx.turn t7 (by omega), by unfold World.cell? at hcd ⊢; rw [t7.block bd (by omega)]; exact hcd⟩) ?_
  clear hK K
  refine Rd.seq_float (.int .i64 0) (by simp only [List.getElem?_toArray, List.getElem?_cons_succ, List.getElem?_cons_zero]; rfl) rfl (by rfl) (fun X _ => by go_simp) ?_
  simp only [Act.put, List.setIfInBounds_toArray, List.set_cons_succ, List.set_cons_zero]
  refine Rd.seq_end ?_
  go_wp2_with fail
  refine bodyPost_ret (results_ct rfl _ w7 (w.heap.size + 1) _ _ (.int .i64 0) rfl rfl hZ7) rfl ?_
  exact ⟨⟨_, rfl, dv', rfl, by rw [HLH.out]; exact hd.turn t7 hZ (by decide) (by decide)⟩, hb.trans (t7.below (by omega))⟩
end Go.Proofs.Ytglnjpbjlcbgoaa
