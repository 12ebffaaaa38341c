/-
  The document's Push as one, Behind, New. Condition: no node is in two places.
-/
import Derived.Test.YtglnjpbjlcbgoaaVn
import Derived.ProofKit
import Derived.Laws.OwnMore
namespace Go.Proofs.Ytglnjpbjlcbgoaa
open Go.RowKit

theorem rPush_any (B N : Nat) (v : Value) (ls : List (List Nat)) (k n : Int) (b : Bool) (w : World) (h : RV w B N v ls) (hB0 : B ≤ w.heap.size) (ok : OkL N ls) :
    Calls Try.prog 26 #[v, .int .i64 k, .int .i64 n, .bool b] w fun e w' => (∃ v', e = .returned (.tuple #[v', .int .i64 (pushI N ls k n)]) ∧ RV w' B N v' (pushL N ls k n b)) ∧ Below w.heap.size w w' := by
  obtain ⟨dv, rfl, h⟩ := h
  by_cases hk : inN ls.length k = true
  · have hk' := inN_iff.1 hk
    have e0 : pushI N ls k n = wrongI N ls n false := by simp [pushI, hk]
    by_cases hq : wrongI N ls n false = 0
    · have hn : inN N n = true := by
        unfold wrongI at hq
        split at hq
        · assumption
        · omega
      have hn' := inN_iff.1 hn
      obtain ⟨i, rfl⟩ : ∃ i : Nat, k = i := ⟨k.toNat, by omega⟩
      obtain ⟨x, rfl⟩ : ∃ x : Nat, n = x := ⟨n.toNat, by omega⟩
      have e1 : pushL N ls i x b = insL ls i (if b then 0 else (row ls i).length) x := by
        unfold pushL; rw [if_pos (by rw [e0]; exact hq)]; simp
      rw [e0, e1, hq]
      cases b with
      | true => exact rPush_lead B N dv ls i x w h hB0 ok (by omega) hq
      | false => exact rPush_last B N dv ls i x w h hB0 ok (by omega) hq
    · have e1 : pushL N ls k n b = ls := by unfold pushL; rw [if_neg (by rw [e0]; exact hq)]
      rw [e0, e1]
      exact rPush_no3 B N dv ls k n b w h ok _ hk'.1 hk'.2 rfl hq
  · have e0 : pushI N ls k n = 14 := by simp [pushI, hk]
    have e1 : pushL N ls k n b = ls := by unfold pushL; rw [if_neg (by omega)]
    rw [e0, e1]
    by_cases hk0 : 0 ≤ k
    · exact rPush_no2 B N dv ls k n b w h hk0 (by rw [inN_iff] at hk; omega)
    · exact rPush_no1 B N dv ls k n b w h (by omega)
set_option maxRecDepth 100000 in
set_option maxHeartbeats 4000000 in
theorem rBehind_out0 (B N : Nat) (dv : Value) (ls : List (List Nat)) (a n : Int) (w : World) (h : Doc w B dv ls) (h1 : a < 0) :
    Calls Try.prog 27 #[.agg #[.int .i64 (N : Int), dv], .int .i64 a, .int .i64 n] w fun e w' => (∃ v', e = .returned (.tuple #[v', .int .i64 14]) ∧ RV w' B N v' ls) ∧ Below w.heap.size w w' := by
  have hx := (IsT.new w (N : Int) dv).alloc (.cells #[.int .i64 0, .slice none 0 0] 30)
  have hZ : IsT ((w.alloc (.cells #[.int .i64 (N : Int), dv] 30)).alloc (.cells #[.int .i64 0, .slice none 0 0] 30)) (w.heap.size + 1) 0 (.slice none 0 0) := by
    have := IsT.new (w.alloc (.cells #[.int .i64 (N : Int), dv] 30)) 0 (.slice none 0 0)
    simpa using this
  have hb : Below w.heap.size w ((w.alloc (.cells #[.int .i64 (N : Int), dv] 30)).alloc (.cells #[.int .i64 0, .slice none 0 0] 30)) := ((Below.refl _ w).alloc (Nat.le_refl _) _).alloc (by simp) _
  have hsz : w.heap.size + 2 ≤ ((w.alloc (.cells #[.int .i64 (N : Int), dv] 30)).alloc (.cells #[.int .i64 0, .slice none 0 0] 30)).heap.size := by simp
  have HD := Lib.hid (h.below hb)
  have hc0 := hx.c0
  clear h
  go_enter Try.func27, Try.ntmps27
  go_wp2_with (first | (refine wpList_alloc30 rfl rfl ?_) | (refine wpList_load30 rfl _ rfl w.heap.size _ _ rfl hx ?_) | (refine wpList_store30 rfl _ _ rfl (w.heap.size + 1) _ _ _ _ rfl rfl hZ HD.out.one ?_; intro w5 hZ5 t5))
  refine bodyPost_ret (results_ct rfl _ w5 (w.heap.size + 1) _ _ (.int .i64 14) rfl rfl hZ5) rfl ?_
  exact ⟨⟨_, rfl, _, rfl, HD.out.turn t5 hZ (by decide) (by decide)⟩, hb.trans (t5.below (by omega))⟩
set_option maxRecDepth 100000 in
set_option maxHeartbeats 4000000 in
theorem rBehind_out1 (B N : Nat) (dv : Value) (ls : List (List Nat)) (a n : Int) (w : World) (h : Doc w B dv ls) (h0 : 0 ≤ a) (h1 : (N : Int) ≤ a) :
    Calls Try.prog 27 #[.agg #[.int .i64 (N : Int), dv], .int .i64 a, .int .i64 n] w fun e w' => (∃ v', e = .returned (.tuple #[v', .int .i64 14]) ∧ RV w' B N v' ls) ∧ Below w.heap.size w w' := by
  have hx := (IsT.new w (N : Int) dv).alloc (.cells #[.int .i64 0, .slice none 0 0] 30)
  have hZ : IsT ((w.alloc (.cells #[.int .i64 (N : Int), dv] 30)).alloc (.cells #[.int .i64 0, .slice none 0 0] 30)) (w.heap.size + 1) 0 (.slice none 0 0) := by
    have := IsT.new (w.alloc (.cells #[.int .i64 (N : Int), dv] 30)) 0 (.slice none 0 0)
    simpa using this
  have hb : Below w.heap.size w ((w.alloc (.cells #[.int .i64 (N : Int), dv] 30)).alloc (.cells #[.int .i64 0, .slice none 0 0] 30)) := ((Below.refl _ w).alloc (Nat.le_refl _) _).alloc (by simp) _
  have hsz : w.heap.size + 2 ≤ ((w.alloc (.cells #[.int .i64 (N : Int), dv] 30)).alloc (.cells #[.int .i64 0, .slice none 0 0] 30)).heap.size := by simp
  have HD := Lib.hid (h.below hb)
  have hc0 := hx.c0
  clear h
  go_enter Try.func27, Try.ntmps27
  go_wp2_with (first | (refine wpList_alloc30 rfl rfl ?_) | (refine wpList_load30 rfl _ rfl w.heap.size _ _ rfl hx ?_) | (refine wpList_store30 rfl _ _ rfl (w.heap.size + 1) _ _ _ _ rfl rfl hZ HD.out.one ?_; intro w5 hZ5 t5))
  refine bodyPost_ret (results_ct rfl _ w5 (w.heap.size + 1) _ _ (.int .i64 14) rfl rfl hZ5) rfl ?_
  exact ⟨⟨_, rfl, _, rfl, HD.out.turn t5 hZ (by decide) (by decide)⟩, hb.trans (t5.below (by omega))⟩
set_option maxRecDepth 100000 in
set_option maxHeartbeats 4000000 in
theorem rBehind_out2 (B N : Nat) (dv : Value) (ls : List (List Nat)) (a n : Int) (w : World) (h : Doc w B dv ls) (h0 : 0 ≤ a) (h1 : a < N) (h2 : n < 0) :
    Calls Try.prog 27 #[.agg #[.int .i64 (N : Int), dv], .int .i64 a, .int .i64 n] w fun e w' => (∃ v', e = .returned (.tuple #[v', .int .i64 14]) ∧ RV w' B N v' ls) ∧ Below w.heap.size w w' := by
  have hx := (IsT.new w (N : Int) dv).alloc (.cells #[.int .i64 0, .slice none 0 0] 30)
  have hZ : IsT ((w.alloc (.cells #[.int .i64 (N : Int), dv] 30)).alloc (.cells #[.int .i64 0, .slice none 0 0] 30)) (w.heap.size + 1) 0 (.slice none 0 0) := by
    have := IsT.new (w.alloc (.cells #[.int .i64 (N : Int), dv] 30)) 0 (.slice none 0 0)
    simpa using this
  have hb : Below w.heap.size w ((w.alloc (.cells #[.int .i64 (N : Int), dv] 30)).alloc (.cells #[.int .i64 0, .slice none 0 0] 30)) := ((Below.refl _ w).alloc (Nat.le_refl _) _).alloc (by simp) _
  have hsz : w.heap.size + 2 ≤ ((w.alloc (.cells #[.int .i64 (N : Int), dv] 30)).alloc (.cells #[.int .i64 0, .slice none 0 0] 30)).heap.size := by simp
  have HD := Lib.hid (h.below hb)
  have hc0 := hx.c0
  clear h
  go_enter Try.func27, Try.ntmps27
  go_wp2_with (first | (refine wpList_alloc30 rfl rfl ?_) | (refine wpList_load30 rfl _ rfl w.heap.size _ _ rfl hx ?_) | (refine wpList_store30 rfl _ _ rfl (w.heap.size + 1) _ _ _ _ rfl rfl hZ HD.out.one ?_; intro w5 hZ5 t5))
  refine bodyPost_ret (results_ct rfl _ w5 (w.heap.size + 1) _ _ (.int .i64 14) rfl rfl hZ5) rfl ?_
  exact ⟨⟨_, rfl, _, rfl, HD.out.turn t5 hZ (by decide) (by decide)⟩, hb.trans (t5.below (by omega))⟩
set_option maxRecDepth 100000 in
set_option maxHeartbeats 4000000 in
theorem rBehind_out3 (B N : Nat) (dv : Value) (ls : List (List Nat)) (a n : Int) (w : World) (h : Doc w B dv ls) (h0 : 0 ≤ a) (h1 : a < N) (h2 : 0 ≤ n) (h3 : (N : Int) ≤ n) :
    Calls Try.prog 27 #[.agg #[.int .i64 (N : Int), dv], .int .i64 a, .int .i64 n] w fun e w' => (∃ v', e = .returned (.tuple #[v', .int .i64 14]) ∧ RV w' B N v' ls) ∧ Below w.heap.size w w' := by
  have hx := (IsT.new w (N : Int) dv).alloc (.cells #[.int .i64 0, .slice none 0 0] 30)
  have hZ : IsT ((w.alloc (.cells #[.int .i64 (N : Int), dv] 30)).alloc (.cells #[.int .i64 0, .slice none 0 0] 30)) (w.heap.size + 1) 0 (.slice none 0 0) := by
    have := IsT.new (w.alloc (.cells #[.int .i64 (N : Int), dv] 30)) 0 (.slice none 0 0)
    simpa using this
  have hb : Below w.heap.size w ((w.alloc (.cells #[.int .i64 (N : Int), dv] 30)).alloc (.cells #[.int .i64 0, .slice none 0 0] 30)) := ((Below.refl _ w).alloc (Nat.le_refl _) _).alloc (by simp) _
  have hsz : w.heap.size + 2 ≤ ((w.alloc (.cells #[.int .i64 (N : Int), dv] 30)).alloc (.cells #[.int .i64 0, .slice none 0 0] 30)).heap.size := by simp
  have HD := Lib.hid (h.below hb)
  have hc0 := hx.c0
  clear h
  go_enter Try.func27, Try.ntmps27
  go_wp2_with (first | (refine wpList_alloc30 rfl rfl ?_) | (refine wpList_load30 rfl _ rfl w.heap.size _ _ rfl hx ?_) | (refine wpList_store30 rfl _ _ rfl (w.heap.size + 1) _ _ _ _ rfl rfl hZ HD.out.one ?_; intro w5 hZ5 t5))
  refine bodyPost_ret (results_ct rfl _ w5 (w.heap.size + 1) _ _ (.int .i64 14) rfl rfl hZ5) rfl ?_
  exact ⟨⟨_, rfl, _, rfl, HD.out.turn t5 hZ (by decide) (by decide)⟩, hb.trans (t5.below (by omega))⟩
set_option maxRecDepth 100000 in
set_option maxHeartbeats 4000000 in
theorem rBehind_no1 (B N : Nat) (dv : Value) (ls : List (List Nat)) (a n : Int) (w : World) (h : Doc w B dv ls) (ok : OkL N ls) (q : Int) (h0 : 0 ≤ a) (h1 : a < N) (h2 : 0 ≤ n) (h3 : n < N) (hq : wrongI N ls a true = q) (hq0 : ¬ q = 0) :
    Calls Try.prog 27 #[.agg #[.int .i64 (N : Int), dv], .int .i64 a, .int .i64 n] w fun e w' => (∃ v', e = .returned (.tuple #[v', .int .i64 10]) ∧ RV w' B N v' ls) ∧ Below w.heap.size w w' := by
  have hx := (IsT.new w (N : Int) dv).alloc (.cells #[.int .i64 0, .slice none 0 0] 30)
  have hZ : IsT ((w.alloc (.cells #[.int .i64 (N : Int), dv] 30)).alloc (.cells #[.int .i64 0, .slice none 0 0] 30)) (w.heap.size + 1) 0 (.slice none 0 0) := by
    have := IsT.new (w.alloc (.cells #[.int .i64 (N : Int), dv] 30)) 0 (.slice none 0 0)
    simpa using this
  have hb : Below w.heap.size w ((w.alloc (.cells #[.int .i64 (N : Int), dv] 30)).alloc (.cells #[.int .i64 0, .slice none 0 0] 30)) := ((Below.refl _ w).alloc (Nat.le_refl _) _).alloc (by simp) _
  have hsz : w.heap.size + 2 ≤ ((w.alloc (.cells #[.int .i64 (N : Int), dv] 30)).alloc (.cells #[.int .i64 0, .slice none 0 0] 30)).heap.size := by simp
  have HD := Lib.hid (h.below hb)
  have hc0 := hx.c0
  have hq1 := bne_tt hq0
  have HW := Lib.hid hq
  have HOK := Lib.hid ok
  clear h ok hq hq0
  go_enter Try.func27, Try.ntmps27
  go_wp2_with (first | (refine wpList_alloc30 rfl rfl ?_) | (refine wpList_load30 rfl _ rfl w.heap.size _ _ rfl hx ?_))
  generalize ((w.alloc (.cells #[.int .i64 (N : Int), dv] 30)).alloc (.cells #[.int .i64 0, .slice none 0 0] 30)) = w2 at *
  refine (wrong_any B N _ ls a true w2 HD.out HOK.out).mono ?_
  rw [HW.out]
  rintro e w3 ⟨rfl, hb3⟩
  replace hx := hx.belowS hb3; replace hZ := hZ.belowS hb3; replace HD := Lib.hid (HD.out.below hb3); replace hb := hb.trans (hb3.mono hb.size); have hs3 := hb3.size
  replace hc0 := hx.c0
  clear hb3
  go_wp2_with (first | (refine wpList_load30 rfl _ rfl w.heap.size _ _ rfl hx ?_) | (refine wpList_store30 rfl _ _ rfl (w.heap.size + 1) _ _ _ _ rfl rfl hZ HD.out.one ?_; intro w5 hZ5 t5))
  refine bodyPost_ret (results_ct rfl _ w5 (w.heap.size + 1) _ _ (.int .i64 10) rfl rfl hZ5) rfl ?_
  exact ⟨⟨_, rfl, _, rfl, HD.out.turn t5 hZ (by decide) (by decide)⟩, hb.trans (t5.below (by omega))⟩
set_option maxRecDepth 100000 in
set_option maxHeartbeats 4000000 in
theorem rBehind_no2 (B N : Nat) (dv : Value) (ls : List (List Nat)) (a n : Int) (w : World) (h : Doc w B dv ls) (ok : OkL N ls) (q : Int) (h0 : 0 ≤ a) (h1 : a < N) (h2 : 0 ≤ n) (h3 : n < N) (hq : wrongI N ls a true = 0) (hp : wrongI N ls n false = q) (hq0 : ¬ q = 0) :
    Calls Try.prog 27 #[.agg #[.int .i64 (N : Int), dv], .int .i64 a, .int .i64 n] w fun e w' => (∃ v', e = .returned (.tuple #[v', .int .i64 10]) ∧ RV w' B N v' ls) ∧ Below w.heap.size w w' := by
  have hx := (IsT.new w (N : Int) dv).alloc (.cells #[.int .i64 0, .slice none 0 0] 30)
  have hZ : IsT ((w.alloc (.cells #[.int .i64 (N : Int), dv] 30)).alloc (.cells #[.int .i64 0, .slice none 0 0] 30)) (w.heap.size + 1) 0 (.slice none 0 0) := by
    have := IsT.new (w.alloc (.cells #[.int .i64 (N : Int), dv] 30)) 0 (.slice none 0 0)
    simpa using this
  have hb : Below w.heap.size w ((w.alloc (.cells #[.int .i64 (N : Int), dv] 30)).alloc (.cells #[.int .i64 0, .slice none 0 0] 30)) := ((Below.refl _ w).alloc (Nat.le_refl _) _).alloc (by simp) _
  have hsz : w.heap.size + 2 ≤ ((w.alloc (.cells #[.int .i64 (N : Int), dv] 30)).alloc (.cells #[.int .i64 0, .slice none 0 0] 30)).heap.size := by simp
  have HD := Lib.hid (h.below hb)
  have hc0 := hx.c0
  have hq1 := bne_tt hq0
  have HW := Lib.hid hq
  have HP := Lib.hid hp
  have HOK := Lib.hid ok
  clear h ok hq hq0 hp
  go_enter Try.func27, Try.ntmps27
  go_wp2_with (first | (refine wpList_alloc30 rfl rfl ?_) | (refine wpList_load30 rfl _ rfl w.heap.size _ _ rfl hx ?_))
  generalize ((w.alloc (.cells #[.int .i64 (N : Int), dv] 30)).alloc (.cells #[.int .i64 0, .slice none 0 0] 30)) = w2 at *
  refine (wrong_any B N _ ls a true w2 HD.out HOK.out).mono ?_
  rw [HW.out]
  rintro e w3 ⟨rfl, hb3⟩
  replace hx := hx.belowS hb3; replace hZ := hZ.belowS hb3; replace HD := Lib.hid (HD.out.below hb3); replace hb := hb.trans (hb3.mono hb.size); have hs3 := hb3.size
  replace hc0 := hx.c0
  clear hb3
  go_wp2_with (first | (refine wpList_want rfl ?_; intro K hK; refine wp_load30 _ rfl w.heap.size _ _ rfl hx ?_; refine hK _ _ ?_; clear hK K))
  refine (wrong_any B N _ ls n false w3 HD.out HOK.out).mono ?_
  rw [HP.out]
  rintro e w4 ⟨rfl, hb4⟩
  replace hx := hx.belowS hb4; replace hZ := hZ.belowS hb4; replace HD := Lib.hid (HD.out.below hb4); replace hb := hb.trans (hb4.mono hb.size); have hs4 := hb4.size
  replace hc0 := hx.c0
  clear hb4
  go_wp2_with (first | (refine wpList_load30 rfl _ rfl w.heap.size _ _ rfl hx ?_) | (refine wpList_store30 rfl _ _ rfl (w.heap.size + 1) _ _ _ _ rfl rfl hZ HD.out.one ?_; intro w5 hZ5 t5))
  refine bodyPost_ret (results_ct rfl _ w5 (w.heap.size + 1) _ _ (.int .i64 10) rfl rfl hZ5) rfl ?_
  exact ⟨⟨_, rfl, _, rfl, HD.out.turn t5 hZ (by decide) (by decide)⟩, hb.trans (t5.below (by omega))⟩
set_option maxRecDepth 100000 in
set_option maxHeartbeats 4000000 in
theorem rBehind_yes (B N : Nat) (dv : Value) (ls : List (List Nat)) (a : Int) (x : Nat) (w : World) (h : Doc w B dv ls) (hB0 : B ≤ w.heap.size) (ok : OkL N ls) (h0 : 0 ≤ a) (h1 : a < N) (h3 : x < N) (hq : wrongI N ls a true = 0) (hp : wrongI N ls x false = 0) (hh : hasB ls a = true) :
    Calls Try.prog 27 #[.agg #[.int .i64 (N : Int), dv], .int .i64 a, .int .i64 (x : Int)] w fun e w' => (∃ v', e = .returned (.tuple #[v', .int .i64 0]) ∧ RV w' B N v' (insL ls (fk ls a) (fi ls a + 1) x)) ∧ Below w.heap.size w w' := by
  have hx := (IsT.new w (N : Int) dv).alloc (.cells #[.int .i64 0, .slice none 0 0] 30)
  have hZ : IsT ((w.alloc (.cells #[.int .i64 (N : Int), dv] 30)).alloc (.cells #[.int .i64 0, .slice none 0 0] 30)) (w.heap.size + 1) 0 (.slice none 0 0) := by
    have := IsT.new (w.alloc (.cells #[.int .i64 (N : Int), dv] 30)) 0 (.slice none 0 0)
    simpa using this
  have hb : Below w.heap.size w ((w.alloc (.cells #[.int .i64 (N : Int), dv] 30)).alloc (.cells #[.int .i64 0, .slice none 0 0] 30)) := ((Below.refl _ w).alloc (Nat.le_refl _) _).alloc (by simp) _
  have hsz : w.heap.size + 2 ≤ ((w.alloc (.cells #[.int .i64 (N : Int), dv] 30)).alloc (.cells #[.int .i64 0, .slice none 0 0] 30)).heap.size := by simp
  have HD := Lib.hid (h.below hb)
  have hc0 := hx.c0
  have HW := Lib.hid hq
  have HP := Lib.hid hp
  have HOK := Lib.hid ok
  have HL : Hid (listI ls a = (fk ls a : Nat) ∧ posI ls a = (fi ls a : Nat)) := Lib.hid (by simp [listI, posI, hh])
  obtain ⟨y, -, hy⟩ := hasB_at hh
  have hk := hy.lists
  have hi : fi ls a + 1 ≤ (row ls (fk ls a)).length := hy.len
  have hl64 := ok.len64 (fk ls a)
  clear h ok hq hp hh hy
  generalize hk9 : fk ls a = k at *
  generalize hi9 : fi ls a = i at *
  obtain ⟨j, hj9⟩ : ∃ j, j = i + 1 := ⟨_, rfl⟩
  rw [← hj9] at hi
  have hij : (i : Int) + 1 = (j : Int) := by omega
  have HI := Lib.hid hi
  have hi64 : j ≤ 64 := by omega
  have HJ := Lib.hid hj9
  clear hj9 hk9 hi9 hi hl64
  go_enter Try.func27, Try.ntmps27
  go_wp2_with (first | (refine wpList_alloc30 rfl rfl ?_) | (refine wpList_load30 rfl _ rfl w.heap.size _ _ rfl hx ?_))
  generalize ((w.alloc (.cells #[.int .i64 (N : Int), dv] 30)).alloc (.cells #[.int .i64 0, .slice none 0 0] 30)) = w2 at *
  refine (wrong_any B N _ ls a true w2 HD.out HOK.out).mono ?_
  rw [HW.out]
  rintro e w3 ⟨rfl, hb3⟩
  replace hx := hx.belowS hb3; replace hZ := hZ.belowS hb3; replace HD := Lib.hid (HD.out.below hb3); replace hb := hb.trans (hb3.mono hb.size); have hs3 := hb3.size
  replace hc0 := hx.c0
  clear hb3
  go_wp2_with (first | (refine wpList_want rfl ?_; intro K hK; refine wp_load30 _ rfl w.heap.size _ _ rfl hx ?_; refine hK _ _ ?_; clear hK K))
  refine (wrong_any B N _ ls x false w3 HD.out HOK.out).mono ?_
  rw [HP.out]
  rintro e w4 ⟨rfl, hb4⟩
  replace hx := hx.belowS hb4; replace hZ := hZ.belowS hb4; replace HD := Lib.hid (HD.out.below hb4); replace hb := hb.trans (hb4.mono hb.size); have hs4 := hb4.size
  replace hc0 := hx.c0
  clear hb4
  go_wp2_with (first | (refine wpList_load30 rfl _ rfl w.heap.size _ _ rfl hx ?_))
  refine (Find_any B N _ ls a w4 HD.out HOK.out).mono ?_
  rw [HL.out.1, HL.out.2]
  rintro e w6 ⟨rfl, hb6⟩
  replace hx := hx.belowS hb6; replace hZ := hZ.belowS hb6; replace HD := Lib.hid (HD.out.below hb6); replace hb := hb.trans (hb6.mono hb.size); have hs6 := hb6.size
  clear hb6
  go_wp2_with (first | (refine wpList_load30 rfl _ rfl w.heap.size _ _ rfl hx ?_))
  refine (rput_any B N _ ls k j x w6 HD.out (by omega) HOK.out hk HI.out).mono ?_
  rintro e w7 ⟨⟨v7, rfl, dv', rfl, hd⟩, hb7⟩
  replace hZ := hZ.belowS hb7
  replace hb := hb.trans (hb7.mono hb.size)
  have hs7 := hb7.size
  go_wp2_with (refine wpList_store30 rfl _ _ rfl (w.heap.size + 1) _ _ _ _ rfl rfl hZ hd.one ?_; intro w5 hZ5 t5)
  refine bodyPost_ret (results_ct rfl _ w5 (w.heap.size + 1) _ _ (.int .i64 0) rfl rfl hZ5) rfl ?_
  exact ⟨⟨_, rfl, dv', rfl, by rw [← HJ.out]; exact hd.turn t5 hZ (by decide) (by decide)⟩, hb.trans (t5.below (by omega))⟩
theorem rBehind_any (B N : Nat) (v : Value) (ls : List (List Nat)) (a n : Int) (w : World) (h : RV w B N v ls) (hB0 : B ≤ w.heap.size) (ok : OkL N ls) :
    Calls Try.prog 27 #[v, .int .i64 a, .int .i64 n] w fun e w' => (∃ v', e = .returned (.tuple #[v', .int .i64 (behI N ls a n)]) ∧ RV w' B N v' (behL N ls a n)) ∧ Below w.heap.size w w' := by
  obtain ⟨dv, rfl, h⟩ := h
  by_cases hin : inN N a = true ∧ inN N n = true
  · obtain ⟨ha, hn⟩ := hin
    have ha' := inN_iff.1 ha
    have hn' := inN_iff.1 hn
    cases hh : hasB ls a with
    | true =>
      have hq : wrongI N ls a true = 0 := by simp [wrongI, ha, hh]
      cases hg : hasB ls n with
      | true =>
        have hp : wrongI N ls n false = 10 := by simp [wrongI, hn, hg]
        have e0 : behI N ls a n = 10 := by simp [behI, ha, hn, hg]
        have e1 : behL N ls a n = ls := by unfold behL; rw [if_neg (by omega)]
        rw [e0, e1]
        exact rBehind_no2 B N dv ls a n w h ok 10 ha'.1 ha'.2 hn'.1 hn'.2 hq hp (by omega)
      | false =>
        have hp : wrongI N ls n false = 0 := by simp [wrongI, hn, hg]
        have e0 : behI N ls a n = 0 := by simp [behI, ha, hn, hg, hh]
        have e1 : behL N ls a n = insL ls (fk ls a) (fi ls a + 1) n.toNat := by unfold behL; rw [if_pos e0]
        rw [e0, e1]
        obtain ⟨x, rfl⟩ : ∃ x : Nat, n = x := ⟨n.toNat, by omega⟩
        rw [Int.toNat_natCast]
        exact rBehind_yes B N dv ls a x w h hB0 ok ha'.1 ha'.2 (by omega) hq hp hh
    | false =>
      have hq : wrongI N ls a true = 10 := by simp [wrongI, ha, hh]
      have e0 : behI N ls a n = 10 := by simp [behI, ha, hn, hh]
      have e1 : behL N ls a n = ls := by unfold behL; rw [if_neg (by omega)]
      rw [e0, e1]
      exact rBehind_no1 B N dv ls a n w h ok 10 ha'.1 ha'.2 hn'.1 hn'.2 hq (by omega)
  · have e0 : behI N ls a n = 14 := by
      unfold behI
      rw [if_neg (by simpa using hin)]
    have e1 : behL N ls a n = ls := by unfold behL; rw [if_neg (by omega)]
    rw [e0, e1]
    rw [inN_iff, inN_iff] at hin
    by_cases h0 : 0 ≤ a
    · by_cases h1 : a < N
      · by_cases h2 : 0 ≤ n
        · exact rBehind_out3 B N dv ls a n w h h0 h1 h2 (by omega)
        · exact rBehind_out2 B N dv ls a n w h h0 h1 (by omega)
      · exact rBehind_out1 B N dv ls a n w h h0 (by omega)
    · exact rBehind_out0 B N dv ls a n w h (by omega)
set_option maxRecDepth 100000 in
set_option maxHeartbeats 4000000 in
theorem rNew_no0 (n m : Int) (w : World) (h1 : n < 1) :
    Calls Try.prog 9 #[.int .i64 n, .int .i64 m] w fun e w' => e = .returned (.tuple #[.agg #[.int .i64 0, .slice none 0 0], .int .i64 14]) ∧ Below w.heap.size w w' := by
  have hb : Below w.heap.size w (w.alloc (.cells #[.int .i64 0, .slice none 0 0] 30)) := (Below.refl _ w).alloc (Nat.le_refl _) _
  have hZ := IsT.new w 0 (.slice none 0 0)
  go_enter Try.func9, Try.ntmps9
  go_wp2_with (first | (refine wpList_alloc30 rfl rfl ?_) | (refine wpList_store30 rfl _ _ rfl w.heap.size 0 (.slice none 0 0) 0 (.slice none 0 0) rfl rfl hZ rfl ?_; clear hZ; intro w1 hZ t1))
  refine bodyPost_ret (results_ct rfl _ w1 w.heap.size 0 (.slice none 0 0) (.int .i64 14) rfl rfl hZ) rfl ?_
  exact ⟨rfl, hb.trans (t1.below (Nat.le_refl _))⟩
set_option maxRecDepth 100000 in
set_option maxHeartbeats 4000000 in
theorem rNew_no1 (n m : Int) (w : World) (h1 : ¬ n < 1) (h2 : 64 < n) :
    Calls Try.prog 9 #[.int .i64 n, .int .i64 m] w fun e w' => e = .returned (.tuple #[.agg #[.int .i64 0, .slice none 0 0], .int .i64 14]) ∧ Below w.heap.size w w' := by
  have hb : Below w.heap.size w (w.alloc (.cells #[.int .i64 0, .slice none 0 0] 30)) := (Below.refl _ w).alloc (Nat.le_refl _) _
  have hZ := IsT.new w 0 (.slice none 0 0)
  go_enter Try.func9, Try.ntmps9
  go_wp2_with (first | (refine wpList_alloc30 rfl rfl ?_) | (refine wpList_store30 rfl _ _ rfl w.heap.size 0 (.slice none 0 0) 0 (.slice none 0 0) rfl rfl hZ rfl ?_; clear hZ; intro w1 hZ t1))
  refine bodyPost_ret (results_ct rfl _ w1 w.heap.size 0 (.slice none 0 0) (.int .i64 14) rfl rfl hZ) rfl ?_
  exact ⟨rfl, hb.trans (t1.below (Nat.le_refl _))⟩
set_option maxRecDepth 100000 in
set_option maxHeartbeats 4000000 in
theorem rNew_no2 (n m : Int) (w : World) (h1 : ¬ n < 1) (h2 : ¬ 64 < n) (h3 : m < 1) :
    Calls Try.prog 9 #[.int .i64 n, .int .i64 m] w fun e w' => e = .returned (.tuple #[.agg #[.int .i64 0, .slice none 0 0], .int .i64 14]) ∧ Below w.heap.size w w' := by
  have hb : Below w.heap.size w (w.alloc (.cells #[.int .i64 0, .slice none 0 0] 30)) := (Below.refl _ w).alloc (Nat.le_refl _) _
  have hZ := IsT.new w 0 (.slice none 0 0)
  go_enter Try.func9, Try.ntmps9
  go_wp2_with (first | (refine wpList_alloc30 rfl rfl ?_) | (refine wpList_store30 rfl _ _ rfl w.heap.size 0 (.slice none 0 0) 0 (.slice none 0 0) rfl rfl hZ rfl ?_; clear hZ; intro w1 hZ t1))
  refine bodyPost_ret (results_ct rfl _ w1 w.heap.size 0 (.slice none 0 0) (.int .i64 14) rfl rfl hZ) rfl ?_
  exact ⟨rfl, hb.trans (t1.below (Nat.le_refl _))⟩
set_option maxRecDepth 100000 in
set_option maxHeartbeats 4000000 in
theorem rNew_no3 (n m : Int) (w : World) (h1 : ¬ n < 1) (h2 : ¬ 64 < n) (h3 : ¬ m < 1) (h4 : 64 < m) :
    Calls Try.prog 9 #[.int .i64 n, .int .i64 m] w fun e w' => e = .returned (.tuple #[.agg #[.int .i64 0, .slice none 0 0], .int .i64 14]) ∧ Below w.heap.size w w' := by
  have hb : Below w.heap.size w (w.alloc (.cells #[.int .i64 0, .slice none 0 0] 30)) := (Below.refl _ w).alloc (Nat.le_refl _) _
  have hZ := IsT.new w 0 (.slice none 0 0)
  go_enter Try.func9, Try.ntmps9
  go_wp2_with (first | (refine wpList_alloc30 rfl rfl ?_) | (refine wpList_store30 rfl _ _ rfl w.heap.size 0 (.slice none 0 0) 0 (.slice none 0 0) rfl rfl hZ rfl ?_; clear hZ; intro w1 hZ t1))
  refine bodyPost_ret (results_ct rfl _ w1 w.heap.size 0 (.slice none 0 0) (.int .i64 14) rfl rfl hZ) rfl ?_
  exact ⟨rfl, hb.trans (t1.below (Nat.le_refl _))⟩
theorem rNew_no (n m : Int) (w : World) (hn : ¬ (1 ≤ n ∧ n ≤ 64 ∧ 1 ≤ m ∧ m ≤ 64)) :
    Calls Try.prog 9 #[.int .i64 n, .int .i64 m] w fun e w' => e = .returned (.tuple #[.agg #[.int .i64 0, .slice none 0 0], .int .i64 14]) ∧ Below w.heap.size w w' := by
  by_cases h1 : n < 1
  · exact rNew_no0 n m w h1
  · by_cases h2 : 64 < n
    · exact rNew_no1 n m w h1 h2
    · by_cases h3 : m < 1
      · exact rNew_no2 n m w h1 h2 h3
      · exact rNew_no3 n m w h1 h2 h3 (by omega)
set_option maxRecDepth 100000 in
set_option maxHeartbeats 4000000 in
theorem rNew_yes (N M : Nat) (w : World) (h1 : 1 ≤ N) (h2 : N ≤ 64) (h3 : 1 ≤ M) (h4 : M ≤ 64) :
    Calls Try.prog 9 #[.int .i64 (N : Int), .int .i64 (M : Int)] w fun e w' => (∃ v', e = .returned (.tuple #[v', .int .i64 0]) ∧ RV w' w.heap.size N v' (List.replicate M [])) ∧ Below w.heap.size w w' := by
  obtain ⟨i0, hi, hz0, hz1, hz2⟩ := info_parts Try.info43
  have e1 : ¬ (N : Int) < 1 := by omega
  have e2 : ¬ 64 < (N : Int) := by omega
  have e3 : ¬ (M : Int) < 1 := by omega
  have e4 : ¬ 64 < (M : Int) := by omega
  have hb : Below w.heap.size w (w.alloc (.cells #[.int .i64 0, .slice none 0 0] 30)) := (Below.refl _ w).alloc (Nat.le_refl _) _
  have hZ := IsT.new w 0 (.slice none 0 0)
  have hsz : (w.alloc (.cells #[.int .i64 0, .slice none 0 0] 30)).heap.size = w.heap.size + 1 := by simp
  go_enter Try.func9, Try.ntmps9
  go_wp2_with (first | (refine wpList_alloc30 rfl rfl ?_; generalize (w.alloc (.cells #[.int .i64 0, .slice none 0 0] 30)) = w0 at *) | (refine wpList_make_full _ rfl _ _ 28 rfl w.heap.size 43 i0 (.slice none 0 0) 1 Try.underlying28 hi hz0 hz1 .i64 .i64 (M : Int) (M : Int) M rfl rfl rfl rfl (by rw [hz2]; omega) (by unfold maxLen; omega) (by omega) ?_; intro w1 hown hgrow; have hb1 := (Below.refl w0.heap.size w0).grown hgrow (Nat.le_refl _) (fun _ e => by cases e); replace hZ := hZ.below hb1 (by omega)) | (refine wpList_store30 rfl _ _ rfl w.heap.size _ _ 0 (.slice none 0 0) rfl rfl hZ rfl ?_; intro w2 hZ2 t2))
  have hc : (madeCells (Value.slice none 0 0).cells (M * 1)).toList = List.replicate M (Value.slice none 0 0) := by
    rw [Nat.mul_one]; exact toList_madeCells_one _ _
  rw [hc, hsz] at hown
  have hs1 := hgrow.size
  have hr : RowV w1 w.heap.size 43 (.slice (some ⟨w.heap.size + 1, 0, none⟩) M M) (List.replicate M (Value.slice none 0 0)) := by
    unfold RowV
    rw [List.length_replicate]
    exact hown
  have hr2 := hr.turn t2 hZ (by decide)
  refine bodyPost_ret (results_ct rfl _ w2 w.heap.size _ _ (.int .i64 0) rfl rfl hZ2) rfl ?_
  refine ⟨⟨_, rfl, _, rfl, _, by simp, hr2, fun k hk => ⟨.slice none 0 0, ?_, ?_⟩⟩, (hb.trans (hb1.mono (by omega))).trans (t2.below (Nat.le_refl _))⟩
  · rw [List.length_replicate] at hk
    simp [hk]
  · rw [row_none]
    exact RowV.nil _ _ _
end Go.Proofs.Ytglnjpbjlcbgoaa
