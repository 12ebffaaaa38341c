/-
  The statements' functions that are handed to Nodes; awake; do. Condition: both hold the same lists.
-/
import Derived.Test.YtglnjpbjlcbgoaaVq
import Derived.Test.YtglnjpbjlcbgoaaVo
namespace Go.Proofs.Ytglnjpbjlcbgoaa
open Go.RowKit

theorem Only.turn_new {g b : Nat} {w w1 w2 : World} (h : Only g w w1) (t : Turn b w1 w2) (hb : w.heap.size ≤ b) : Only g w w2 := ⟨t.os.trans h.os, t.tape.trans h.tape, t.output.trans h.output, by rw [t.size]; exact h.size, fun k hk hg => (t.block k (by omega)).trans (h.block k hk hg)⟩
theorem Boxed.sm {w w' : World} {b : Nat} {t : TypeId} {v : Value} (h : Boxed w b t v) (s : Same w w') : Boxed w' b t v := by
  unfold Boxed; rw [s.heap]; exact h
theorem Boxed.belowS {w w' : World} {b : Nat} {t : TypeId} {v : Value} (h : Boxed w b t v) (hb : Below w.heap.size w w') : Boxed w' b t v := (hb.block b h.lt).trans h
set_option maxRecDepth 100000 in
set_option maxHeartbeats 4000000 in
theorem told_29 (B bo bk bw i : Nat) (u : Value) (xs : List Nat) (W : World) (ho : Boxed W bo 4 (.bool true)) (hk : Boxed W bk 3 (.int .i64 (i : Int))) (hw : Boxed W bw 43 u) (hro : RowO W B u xs) (hi : i < xs.length) (hl : xs.length ≤ 64) (h1 : bo ≠ bk) :
    Calls Try.prog 29 #[.int .i64 (xs.getD i 0 : Nat), .pointer (some ⟨bo, 0, none⟩), .pointer (some ⟨bk, 0, none⟩), .pointer (some ⟨bw, 0, none⟩)] W
      fun e W' => e = .returned (.bool true) ∧ W' = (W.setCell ⟨bo, 0, none⟩ (.bool true)).setCell ⟨bk, 0, none⟩ (.int .i64 ((i : Int) + 1)) := by
  obtain ⟨a, c, rfl⟩ := hro.sl
  rw [encI_len] at hro hw
  obtain ⟨b, rfl, hx⟩ := RowV.atI hro hi
  have co := ho.cell
  have fo := ho.frozen
  have ck := hk.cell
  have fk' := hk.frozen
  have cw := hw.cell
  have hk1 := hk.other (B' := bo) (fun e => h1 e.symm) (.bool true)
  have ck1 := hk1.cell
  have fk1 := hk1.frozen
  have co2 := ((ho.set (.bool true)).other (B' := bk) h1 (.int .i64 ((i : Int) + 1))).cell
  clear ho hk hw hro hk1
  generalize xs.getD i 0 = x at *
  go_enter Try.func29, Try.ntmps29
  go_wp2_with fail
  go_ret
  exact ⟨rfl, rfl⟩
set_option maxRecDepth 100000 in
set_option maxHeartbeats 4000000 in
theorem told_23 (B bo bk bw i : Nat) (u : Value) (xs : List Nat) (W : World) (ho : Boxed W bo 4 (.bool true)) (hk : Boxed W bk 3 (.int .i64 (i : Int))) (hw : Boxed W bw 43 u) (hro : RowO W B u xs) (hi : i < xs.length) (hl : xs.length ≤ 64) (h1 : bo ≠ bk) :
    Calls Try.prog 23 #[.int .i64 (xs.getD i 0 : Nat), .pointer (some ⟨bo, 0, none⟩), .pointer (some ⟨bk, 0, none⟩), .pointer (some ⟨bw, 0, none⟩)] W
      fun e W' => e = .returned (.bool true) ∧ W' = (W.setCell ⟨bo, 0, none⟩ (.bool true)).setCell ⟨bk, 0, none⟩ (.int .i64 ((i : Int) + 1)) := by
  obtain ⟨a, c, rfl⟩ := hro.sl
  rw [encI_len] at hro hw
  obtain ⟨b, rfl, hx⟩ := RowV.atI hro hi
  have co := ho.cell
  have fo := ho.frozen
  have ck := hk.cell
  have fk' := hk.frozen
  have cw := hw.cell
  have hk1 := hk.other (B' := bo) (fun e => h1 e.symm) (.bool true)
  have ck1 := hk1.cell
  have fk1 := hk1.frozen
  have co2 := ((ho.set (.bool true)).other (B' := bk) h1 (.int .i64 ((i : Int) + 1))).cell
  clear ho hk hw hro hk1
  generalize xs.getD i 0 = x at *
  go_enter Try.func23, Try.ntmps23
  go_wp2_with fail
  go_ret
  exact ⟨rfl, rfl⟩
set_option maxRecDepth 100000 in
set_option maxHeartbeats 4000000 in
theorem told_13 (bk bm i m : Nat) (W : World) (b : Bool) (hk : Boxed W bk 3 (.int .i64 (i : Int))) (hm : Boxed W bm 5 (.int .u8 (m : Int))) (hi : i < 64) (hm' : m < 256) (h1 : bm ≠ bk) (hb : decide ((i : Int) + 1 < (m : Int)) = b) (x : Int) :
    Calls Try.prog 13 #[.int .i64 x, .pointer (some ⟨bk, 0, none⟩), .pointer (some ⟨bm, 0, none⟩)] W
      fun e W' => e = .returned (.bool b) ∧ W' = W.setCell ⟨bk, 0, none⟩ (.int .i64 ((i : Int) + 1)) := by
  have ck := hk.cell
  have fk' := hk.frozen
  have cm := hm.cell
  have ck1 := (hk.set (.int .i64 ((i : Int) + 1))).cell
  have cm1 := (hm.other (B' := bk) h1 (.int .i64 ((i : Int) + 1))).cell
  have HB := Lib.hid hb
  clear hk hm hb
  go_enter Try.func13, Try.ntmps13
  go_wp2_with fail
  go_ret
  exact ⟨by rw [← HB.out]; rfl, rfl⟩
set_option maxRecDepth 100000 in
set_option maxHeartbeats 4000000 in
theorem awake_any (w : World) : Calls Try.prog 7 #[] w fun e w' => e = .returned (.bool true) ∧ Below w.heap.size w w' := by
  have H0 : Calls Try.prog 8 #[.int .i64 9, .int .i64 2] w _ := New_ring 9 2 w (by omega) (by omega) (by omega) (by omega)
  have E0 : List.replicate 2 ([] : List Nat) = [[], []] := rfl
  have E1 : pushI 9 [[], []] 0 5 = 0 ∧ pushL 9 [[], []] 0 5 false = [[5], []] := by decide
  have E2 : pushI 9 [[5], []] 0 2 = 0 ∧ pushL 9 [[5], []] 0 2 true = [[2, 5], []] := by decide
  have E3 : behI 9 [[2, 5], []] 2 7 = 0 ∧ behL 9 [[2, 5], []] 2 7 = [[2, 7, 5], []] := by decide
  have E4 : nextI [[2, 7, 5], []] 2 = 7 ∧ nextI [[2, 7, 5], []] 7 = 5 ∧ nextI [[2, 7, 5], []] 5 = -1 := by decide
  rw [E0] at H0
  have E1 := Lib.hid E1
  have E2 := Lib.hid E2
  have E3 := Lib.hid E3
  have E4 := Lib.hid E4
  have H0 := Lib.hid H0
  clear E0
  go_enter Try.func7, Try.ntmps7
  go_wp2_with (first | (go_at_call 8; refine H0.out.mono ?_; rintro e w1 ⟨⟨p, g, c, rfl, hr, hp, hg⟩, hb⟩) | (go_at_call 21; refine (Push_any hr _ _).mono ?_; rw [E1.out.1, E1.out.2]; rintro e w2 ⟨rfl, hr2, ho2⟩; have hb2 := hb.trans (ho2.below hb.size hg); clear hr hb ho2) | (go_at_call 20; refine (Lead_any hr2 _ _).mono ?_; rw [E2.out.1, E2.out.2]; rintro e w3 ⟨rfl, hr3, ho3⟩; have hb3 := hb2.trans (ho3.below hb2.size hg); clear hr2 hb2 ho3) | (go_at_call 24; refine (Behind_any hr3 _ _).mono ?_; rw [E3.out.1, E3.out.2]; rintro e w4 ⟨rfl, hr4, ho4⟩; have hb4 := hb3.trans (ho4.below hb3.size hg); clear hr3 hb3 ho4) | (go_at_call 15; refine (Next_any hr4 2).mono ?_; rw [E4.out.1]; rintro e w5 ⟨rfl, s5⟩; have hr5 := hr4.sm s5; have hb5 := hb4.trans (s5.below _); clear hr4 hb4 s5) | (go_at_call 15; refine (Next_any hr5 7).mono ?_; rw [E4.out.2.1]; rintro e w6 ⟨rfl, s6⟩; have hr6 := hr5.sm s6; have hb6 := hb5.trans (s6.below _); clear hr5 hb5 s6) | (go_at_call 15; refine (Next_any hr6 5).mono ?_; rw [E4.out.2.2]; rintro e w7 ⟨rfl, s7⟩; have hb7 := hb6.trans (s7.below _); clear hr6 hb6 s7))
  go_ret
  exact ⟨rfl, hb7⟩
/-- what an act makes of lists. -/
def actL (N : Nat) (ls : List (List Nat)) (k a n : Int) : List (List Nat) :=
  if k.tmod 4 = 0 then pushL N ls a n false else if k.tmod 4 = 1 then pushL N ls a n true else if k.tmod 4 = 2 then behL N ls a n else dropL N ls n
theorem actL_ok {N : Nat} {ls : List (List Nat)} (ok : OkL N ls) (k a n : Int) : OkL N (actL N ls k a n) := by
  unfold actL
  split
  · exact pushL_ok ok _ _ _
  · split
    · exact pushL_ok ok _ _ _
    · split
      · exact behL_ok ok _ _
      · exact dropL_ok ok _
theorem actL_len (N : Nat) (ls : List (List Nat)) (k a n : Int) : (actL N ls k a n).length = ls.length := by
  unfold actL
  split
  · exact pushL_len _ _ _ _ _
  · split
    · exact pushL_len _ _ _ _ _
    · split
      · exact behL_len _ _ _ _
      · exact dropL_len _ _ _
set_option maxRecDepth 100000 in
set_option maxHeartbeats 4000000 in
theorem do_0 (p g c B N : Nat) (dv : Value) (ls : List (List Nat)) (k a n : Int) (w : World) (hr : Ring w p g c N ls) (hd : Doc w B dv ls) (hB : B ≤ w.heap.size) (hk : k.tmod 4 = 0) :
    Calls Try.prog 10 #[.pointer (some ⟨p, 0, none⟩), .agg #[.int .i64 (N : Int), dv], .agg #[.int .u8 k, .int .i64 a, .int .i64 n]] w fun e w' => (∃ v', e = .returned (.tuple #[v', .bool true]) ∧ RV w' B N v' (pushL N ls a n false)) ∧ Ring w' p g c N (pushL N ls a n false) ∧ Only g w w' := by
  have hx : IsT ((((w.alloc (.cells #[.int .i64 (N : Int), dv] 30)).alloc (.cells #[.int .u8 k, .int .i64 a, .int .i64 n] 34)).alloc (.cells #[.int .i64 0, .slice none 0 0] 30)).alloc (.cells #[.int .i64 0, .slice none 0 0] 30)) w.heap.size (N : Int) dv := (((IsT.new w (N : Int) dv).alloc _).alloc _).alloc _
  have hA : IsA ((((w.alloc (.cells #[.int .i64 (N : Int), dv] 30)).alloc (.cells #[.int .u8 k, .int .i64 a, .int .i64 n] 34)).alloc (.cells #[.int .i64 0, .slice none 0 0] 30)).alloc (.cells #[.int .i64 0, .slice none 0 0] 30)) (w.heap.size + 1) k a n := by
    have := ((IsA.new (w.alloc (.cells #[.int .i64 (N : Int), dv] 30)) k a n).alloc (.cells #[.int .i64 0, .slice none 0 0] 30)).alloc (.cells #[.int .i64 0, .slice none 0 0] 30)
    simpa using this
  have hZ : IsT ((((w.alloc (.cells #[.int .i64 (N : Int), dv] 30)).alloc (.cells #[.int .u8 k, .int .i64 a, .int .i64 n] 34)).alloc (.cells #[.int .i64 0, .slice none 0 0] 30)).alloc (.cells #[.int .i64 0, .slice none 0 0] 30)) (w.heap.size + 2) 0 (.slice none 0 0) := by
    have := (IsT.new ((w.alloc (.cells #[.int .i64 (N : Int), dv] 30)).alloc (.cells #[.int .u8 k, .int .i64 a, .int .i64 n] 34)) 0 (.slice none 0 0)).alloc (.cells #[.int .i64 0, .slice none 0 0] 30)
    simpa using this
  have hX := IsT.new (((w.alloc (.cells #[.int .i64 (N : Int), dv] 30)).alloc (.cells #[.int .u8 k, .int .i64 a, .int .i64 n] 34)).alloc (.cells #[.int .i64 0, .slice none 0 0] 30)) 0 (.slice none 0 0)
  have HE : Hid ((((w.alloc (.cells #[.int .i64 (N : Int), dv] 30)).alloc (.cells #[.int .u8 k, .int .i64 a, .int .i64 n] 34)).alloc (.cells #[.int .i64 0, .slice none 0 0] 30)).heap.size = w.heap.size + 3) := Lib.hid (by simp)
  have hb : Below w.heap.size w ((((w.alloc (.cells #[.int .i64 (N : Int), dv] 30)).alloc (.cells #[.int .u8 k, .int .i64 a, .int .i64 n] 34)).alloc (.cells #[.int .i64 0, .slice none 0 0] 30)).alloc (.cells #[.int .i64 0, .slice none 0 0] 30)) := ((((Below.refl _ w).alloc (Nat.le_refl _) _).alloc (by simp) _).alloc (by simp; omega) _).alloc (by simp; omega) _
  have hsz : w.heap.size + 4 ≤ ((((w.alloc (.cells #[.int .i64 (N : Int), dv] 30)).alloc (.cells #[.int .u8 k, .int .i64 a, .int .i64 n] 34)).alloc (.cells #[.int .i64 0, .slice none 0 0] 30)).alloc (.cells #[.int .i64 0, .slice none 0 0] 30)).heap.size := by simp
  have hlp := hr.ltp
  have hlg := hr.ltg
  have HOK := Lib.hid hr.ok
  have HOO : Hid (Only g w ((((w.alloc (.cells #[.int .i64 (N : Int), dv] 30)).alloc (.cells #[.int .u8 k, .int .i64 a, .int .i64 n] 34)).alloc (.cells #[.int .i64 0, .slice none 0 0] 30)).alloc (.cells #[.int .i64 0, .slice none 0 0] 30))) := Lib.hid (Only.of_below hb)
  replace hr := hr.belowS hb
  replace hd := hd.below hb
  have hx0 : IsT (((w.alloc (.cells #[.int .i64 (N : Int), dv] 30)).alloc (.cells #[.int .u8 k, .int .i64 a, .int .i64 n] 34)).alloc (.cells #[.int .i64 0, .slice none 0 0] 30)) w.heap.size (N : Int) dv := ((IsT.new w (N : Int) dv).alloc _).alloc _
  have hone := hd.one
  go_enter Try.func10, Try.ntmps10
  go_wp2_with (first | (refine wpList_alloc30 rfl rfl ?_) | (refine wpList_load30 rfl _ rfl w.heap.size _ _ rfl hx0 ?_) | (refine wpList_store30 rfl _ _ rfl _ _ _ _ _ rfl rfl hX hone ?_; clear hx0; rw [HE.out] at hX; rw [HE.out]; clear HE; generalize ((((w.alloc (.cells #[.int .i64 (N : Int), dv] 30)).alloc (.cells #[.int .u8 k, .int .i64 a, .int .i64 n] 34)).alloc (.cells #[.int .i64 0, .slice none 0 0] 30)).alloc (.cells #[.int .i64 0, .slice none 0 0] 30)) = w1 at *; intro w2 hX2 t2; replace hx := hx.turn t2 (by omega); replace hA := hA.turn t2 (by omega); replace hZ := hZ.turn t2 (by omega); replace hr := hr.turn t2 (by omega) (by omega); replace hd := hd.turn t2 hX (by decide) (by decide); replace HOO := Lib.hid (HOO.out.turn_new t2 (by omega)); clear hX hb; have hs2 := t2.size; clear t2; have hA0 := hA.c0; have hA1 := hA.c1; have hA2 := hA.c2) | (go_at_call 21; refine (Push_any hr _ _).mono ?_; rintro e w3 ⟨rfl, hr3, ho3⟩; replace hx := hx.only ho3 (by omega); replace hA := hA.only ho3 (by omega); replace hZ := hZ.only ho3 (by omega); replace hX2 := hX2.only ho3 (by omega); replace hd := hr.row hd ho3; replace HOO := Lib.hid (HOO.out.trans ho3); clear hr; have hs3 := ho3.size; clear ho3 hA0 hA1 hA2; have hA0 := hA.c0; have hA1 := hA.c1; have hA2 := hA.c2) | (refine wpList_load30 rfl _ rfl w.heap.size _ _ rfl hx ?_) | (go_at_call 26; refine (rPush_any B N _ ls a n false w3 ⟨_, rfl, hd⟩ (by omega) HOK.out).mono ?_; rintro e w4 ⟨⟨v4, rfl, dv4, rfl, hd4⟩, hb4⟩; have hr4 := hr3.belowS hb4; replace hZ := hZ.belowS hb4; replace hX2 := hX2.belowS hb4; replace HOO := Lib.hid (HOO.out.trans (Only.of_below hb4)); have hs4 := hb4.size; have hone4 := hd4.one; clear hd hr3 hb4 hx hA hA0 hA1 hA2) | (refine wpList_store30 rfl _ _ rfl (w.heap.size + 3) _ _ _ _ rfl rfl hX2 hone4 ?_; intro w5 hX5 t5; have hr5 := hr4.turn t5 (by omega) (by omega); have hd5 := hd4.turn t5 hX2 (by decide) (by decide); replace hZ := hZ.turn t5 (by omega); replace HOO := Lib.hid (HOO.out.turn_new t5 (by omega)); have hs5 := t5.size; clear hr4 hd4 hX2 t5) | (refine wpList_load30 rfl _ rfl (w.heap.size + 3) _ _ rfl hX5 ?_) | (refine wpList_store30 rfl _ _ rfl (w.heap.size + 2) _ _ _ _ rfl rfl hZ hone4 ?_; intro w6 hZ6 t6))
  refine bodyPost_ret (results_ct rfl _ w6 (w.heap.size + 2) _ _ (.bool true) rfl rfl hZ6) rfl ?_
  exact ⟨⟨_, rfl, dv4, rfl, hd5.turn t6 hZ (by decide) (by decide)⟩, hr5.turn t6 (by omega) (by omega), HOO.out.turn_new t6 (by omega)⟩
set_option maxRecDepth 100000 in
set_option maxHeartbeats 4000000 in
theorem do_1 (p g c B N : Nat) (dv : Value) (ls : List (List Nat)) (k a n : Int) (w : World) (hr : Ring w p g c N ls) (hd : Doc w B dv ls) (hB : B ≤ w.heap.size) (hk : k.tmod 4 = 1) :
    Calls Try.prog 10 #[.pointer (some ⟨p, 0, none⟩), .agg #[.int .i64 (N : Int), dv], .agg #[.int .u8 k, .int .i64 a, .int .i64 n]] w fun e w' => (∃ v', e = .returned (.tuple #[v', .bool true]) ∧ RV w' B N v' (pushL N ls a n true)) ∧ Ring w' p g c N (pushL N ls a n true) ∧ Only g w w' := by
  have hx : IsT ((((w.alloc (.cells #[.int .i64 (N : Int), dv] 30)).alloc (.cells #[.int .u8 k, .int .i64 a, .int .i64 n] 34)).alloc (.cells #[.int .i64 0, .slice none 0 0] 30)).alloc (.cells #[.int .i64 0, .slice none 0 0] 30)) w.heap.size (N : Int) dv := (((IsT.new w (N : Int) dv).alloc _).alloc _).alloc _
  have hA : IsA ((((w.alloc (.cells #[.int .i64 (N : Int), dv] 30)).alloc (.cells #[.int .u8 k, .int .i64 a, .int .i64 n] 34)).alloc (.cells #[.int .i64 0, .slice none 0 0] 30)).alloc (.cells #[.int .i64 0, .slice none 0 0] 30)) (w.heap.size + 1) k a n := by
    have := ((IsA.new (w.alloc (.cells #[.int .i64 (N : Int), dv] 30)) k a n).alloc (.cells #[.int .i64 0, .slice none 0 0] 30)).alloc (.cells #[.int .i64 0, .slice none 0 0] 30)
    simpa using this
  have hZ : IsT ((((w.alloc (.cells #[.int .i64 (N : Int), dv] 30)).alloc (.cells #[.int .u8 k, .int .i64 a, .int .i64 n] 34)).alloc (.cells #[.int .i64 0, .slice none 0 0] 30)).alloc (.cells #[.int .i64 0, .slice none 0 0] 30)) (w.heap.size + 2) 0 (.slice none 0 0) := by
    have := (IsT.new ((w.alloc (.cells #[.int .i64 (N : Int), dv] 30)).alloc (.cells #[.int .u8 k, .int .i64 a, .int .i64 n] 34)) 0 (.slice none 0 0)).alloc (.cells #[.int .i64 0, .slice none 0 0] 30)
    simpa using this
  have hX := IsT.new (((w.alloc (.cells #[.int .i64 (N : Int), dv] 30)).alloc (.cells #[.int .u8 k, .int .i64 a, .int .i64 n] 34)).alloc (.cells #[.int .i64 0, .slice none 0 0] 30)) 0 (.slice none 0 0)
  have HE : Hid ((((w.alloc (.cells #[.int .i64 (N : Int), dv] 30)).alloc (.cells #[.int .u8 k, .int .i64 a, .int .i64 n] 34)).alloc (.cells #[.int .i64 0, .slice none 0 0] 30)).heap.size = w.heap.size + 3) := Lib.hid (by simp)
  have hb : Below w.heap.size w ((((w.alloc (.cells #[.int .i64 (N : Int), dv] 30)).alloc (.cells #[.int .u8 k, .int .i64 a, .int .i64 n] 34)).alloc (.cells #[.int .i64 0, .slice none 0 0] 30)).alloc (.cells #[.int .i64 0, .slice none 0 0] 30)) := ((((Below.refl _ w).alloc (Nat.le_refl _) _).alloc (by simp) _).alloc (by simp; omega) _).alloc (by simp; omega) _
  have hsz : w.heap.size + 4 ≤ ((((w.alloc (.cells #[.int .i64 (N : Int), dv] 30)).alloc (.cells #[.int .u8 k, .int .i64 a, .int .i64 n] 34)).alloc (.cells #[.int .i64 0, .slice none 0 0] 30)).alloc (.cells #[.int .i64 0, .slice none 0 0] 30)).heap.size := by simp
  have hlp := hr.ltp
  have hlg := hr.ltg
  have HOK := Lib.hid hr.ok
  have HOO : Hid (Only g w ((((w.alloc (.cells #[.int .i64 (N : Int), dv] 30)).alloc (.cells #[.int .u8 k, .int .i64 a, .int .i64 n] 34)).alloc (.cells #[.int .i64 0, .slice none 0 0] 30)).alloc (.cells #[.int .i64 0, .slice none 0 0] 30))) := Lib.hid (Only.of_below hb)
  replace hr := hr.belowS hb
  replace hd := hd.below hb
  have hx0 : IsT (((w.alloc (.cells #[.int .i64 (N : Int), dv] 30)).alloc (.cells #[.int .u8 k, .int .i64 a, .int .i64 n] 34)).alloc (.cells #[.int .i64 0, .slice none 0 0] 30)) w.heap.size (N : Int) dv := ((IsT.new w (N : Int) dv).alloc _).alloc _
  have hone := hd.one
  go_enter Try.func10, Try.ntmps10
  go_wp2_with (first | (refine wpList_alloc30 rfl rfl ?_) | (refine wpList_load30 rfl _ rfl w.heap.size _ _ rfl hx0 ?_) | (refine wpList_store30 rfl _ _ rfl _ _ _ _ _ rfl rfl hX hone ?_; clear hx0; rw [HE.out] at hX; rw [HE.out]; clear HE; generalize ((((w.alloc (.cells #[.int .i64 (N : Int), dv] 30)).alloc (.cells #[.int .u8 k, .int .i64 a, .int .i64 n] 34)).alloc (.cells #[.int .i64 0, .slice none 0 0] 30)).alloc (.cells #[.int .i64 0, .slice none 0 0] 30)) = w1 at *; intro w2 hX2 t2; replace hx := hx.turn t2 (by omega); replace hA := hA.turn t2 (by omega); replace hZ := hZ.turn t2 (by omega); replace hr := hr.turn t2 (by omega) (by omega); replace hd := hd.turn t2 hX (by decide) (by decide); replace HOO := Lib.hid (HOO.out.turn_new t2 (by omega)); clear hX hb; have hs2 := t2.size; clear t2; have hA0 := hA.c0; have hA1 := hA.c1; have hA2 := hA.c2) | (go_at_call 20; refine (Lead_any hr _ _).mono ?_; rintro e w3 ⟨rfl, hr3, ho3⟩; replace hx := hx.only ho3 (by omega); replace hA := hA.only ho3 (by omega); replace hZ := hZ.only ho3 (by omega); replace hX2 := hX2.only ho3 (by omega); replace hd := hr.row hd ho3; replace HOO := Lib.hid (HOO.out.trans ho3); clear hr; have hs3 := ho3.size; clear ho3 hA0 hA1 hA2; have hA0 := hA.c0; have hA1 := hA.c1; have hA2 := hA.c2) | (refine wpList_load30 rfl _ rfl w.heap.size _ _ rfl hx ?_) | (go_at_call 26; refine (rPush_any B N _ ls a n true w3 ⟨_, rfl, hd⟩ (by omega) HOK.out).mono ?_; rintro e w4 ⟨⟨v4, rfl, dv4, rfl, hd4⟩, hb4⟩; have hr4 := hr3.belowS hb4; replace hZ := hZ.belowS hb4; replace hX2 := hX2.belowS hb4; replace HOO := Lib.hid (HOO.out.trans (Only.of_below hb4)); have hs4 := hb4.size; have hone4 := hd4.one; clear hd hr3 hb4 hx hA hA0 hA1 hA2) | (refine wpList_store30 rfl _ _ rfl (w.heap.size + 3) _ _ _ _ rfl rfl hX2 hone4 ?_; intro w5 hX5 t5; have hr5 := hr4.turn t5 (by omega) (by omega); have hd5 := hd4.turn t5 hX2 (by decide) (by decide); replace hZ := hZ.turn t5 (by omega); replace HOO := Lib.hid (HOO.out.turn_new t5 (by omega)); have hs5 := t5.size; clear hr4 hd4 hX2 t5) | (refine wpList_load30 rfl _ rfl (w.heap.size + 3) _ _ rfl hX5 ?_) | (refine wpList_store30 rfl _ _ rfl (w.heap.size + 2) _ _ _ _ rfl rfl hZ hone4 ?_; intro w6 hZ6 t6))
  refine bodyPost_ret (results_ct rfl _ w6 (w.heap.size + 2) _ _ (.bool true) rfl rfl hZ6) rfl ?_
  exact ⟨⟨_, rfl, dv4, rfl, hd5.turn t6 hZ (by decide) (by decide)⟩, hr5.turn t6 (by omega) (by omega), HOO.out.turn_new t6 (by omega)⟩
set_option maxRecDepth 100000 in
set_option maxHeartbeats 4000000 in
theorem do_2 (p g c B N : Nat) (dv : Value) (ls : List (List Nat)) (k a n : Int) (w : World) (hr : Ring w p g c N ls) (hd : Doc w B dv ls) (hB : B ≤ w.heap.size) (hk : k.tmod 4 = 2) :
    Calls Try.prog 10 #[.pointer (some ⟨p, 0, none⟩), .agg #[.int .i64 (N : Int), dv], .agg #[.int .u8 k, .int .i64 a, .int .i64 n]] w fun e w' => (∃ v', e = .returned (.tuple #[v', .bool true]) ∧ RV w' B N v' (behL N ls a n)) ∧ Ring w' p g c N (behL N ls a n) ∧ Only g w w' := by
  have hx : IsT ((((w.alloc (.cells #[.int .i64 (N : Int), dv] 30)).alloc (.cells #[.int .u8 k, .int .i64 a, .int .i64 n] 34)).alloc (.cells #[.int .i64 0, .slice none 0 0] 30)).alloc (.cells #[.int .i64 0, .slice none 0 0] 30)) w.heap.size (N : Int) dv := (((IsT.new w (N : Int) dv).alloc _).alloc _).alloc _
  have hA : IsA ((((w.alloc (.cells #[.int .i64 (N : Int), dv] 30)).alloc (.cells #[.int .u8 k, .int .i64 a, .int .i64 n] 34)).alloc (.cells #[.int .i64 0, .slice none 0 0] 30)).alloc (.cells #[.int .i64 0, .slice none 0 0] 30)) (w.heap.size + 1) k a n := by
    have := ((IsA.new (w.alloc (.cells #[.int .i64 (N : Int), dv] 30)) k a n).alloc (.cells #[.int .i64 0, .slice none 0 0] 30)).alloc (.cells #[.int .i64 0, .slice none 0 0] 30)
    simpa using this
  have hZ : IsT ((((w.alloc (.cells #[.int .i64 (N : Int), dv] 30)).alloc (.cells #[.int .u8 k, .int .i64 a, .int .i64 n] 34)).alloc (.cells #[.int .i64 0, .slice none 0 0] 30)).alloc (.cells #[.int .i64 0, .slice none 0 0] 30)) (w.heap.size + 2) 0 (.slice none 0 0) := by
    have := (IsT.new ((w.alloc (.cells #[.int .i64 (N : Int), dv] 30)).alloc (.cells #[.int .u8 k, .int .i64 a, .int .i64 n] 34)) 0 (.slice none 0 0)).alloc (.cells #[.int .i64 0, .slice none 0 0] 30)
    simpa using this
  have hX := IsT.new (((w.alloc (.cells #[.int .i64 (N : Int), dv] 30)).alloc (.cells #[.int .u8 k, .int .i64 a, .int .i64 n] 34)).alloc (.cells #[.int .i64 0, .slice none 0 0] 30)) 0 (.slice none 0 0)
  have HE : Hid ((((w.alloc (.cells #[.int .i64 (N : Int), dv] 30)).alloc (.cells #[.int .u8 k, .int .i64 a, .int .i64 n] 34)).alloc (.cells #[.int .i64 0, .slice none 0 0] 30)).heap.size = w.heap.size + 3) := Lib.hid (by simp)
  have hb : Below w.heap.size w ((((w.alloc (.cells #[.int .i64 (N : Int), dv] 30)).alloc (.cells #[.int .u8 k, .int .i64 a, .int .i64 n] 34)).alloc (.cells #[.int .i64 0, .slice none 0 0] 30)).alloc (.cells #[.int .i64 0, .slice none 0 0] 30)) := ((((Below.refl _ w).alloc (Nat.le_refl _) _).alloc (by simp) _).alloc (by simp; omega) _).alloc (by simp; omega) _
  have hsz : w.heap.size + 4 ≤ ((((w.alloc (.cells #[.int .i64 (N : Int), dv] 30)).alloc (.cells #[.int .u8 k, .int .i64 a, .int .i64 n] 34)).alloc (.cells #[.int .i64 0, .slice none 0 0] 30)).alloc (.cells #[.int .i64 0, .slice none 0 0] 30)).heap.size := by simp
  have hlp := hr.ltp
  have hlg := hr.ltg
  have HOK := Lib.hid hr.ok
  have HOO : Hid (Only g w ((((w.alloc (.cells #[.int .i64 (N : Int), dv] 30)).alloc (.cells #[.int .u8 k, .int .i64 a, .int .i64 n] 34)).alloc (.cells #[.int .i64 0, .slice none 0 0] 30)).alloc (.cells #[.int .i64 0, .slice none 0 0] 30))) := Lib.hid (Only.of_below hb)
  replace hr := hr.belowS hb
  replace hd := hd.below hb
  have hx0 : IsT (((w.alloc (.cells #[.int .i64 (N : Int), dv] 30)).alloc (.cells #[.int .u8 k, .int .i64 a, .int .i64 n] 34)).alloc (.cells #[.int .i64 0, .slice none 0 0] 30)) w.heap.size (N : Int) dv := ((IsT.new w (N : Int) dv).alloc _).alloc _
  have hone := hd.one
  go_enter Try.func10, Try.ntmps10
  go_wp2_with (first | (refine wpList_alloc30 rfl rfl ?_) | (refine wpList_load30 rfl _ rfl w.heap.size _ _ rfl hx0 ?_) | (refine wpList_store30 rfl _ _ rfl _ _ _ _ _ rfl rfl hX hone ?_; clear hx0; rw [HE.out] at hX; rw [HE.out]; clear HE; generalize ((((w.alloc (.cells #[.int .i64 (N : Int), dv] 30)).alloc (.cells #[.int .u8 k, .int .i64 a, .int .i64 n] 34)).alloc (.cells #[.int .i64 0, .slice none 0 0] 30)).alloc (.cells #[.int .i64 0, .slice none 0 0] 30)) = w1 at *; intro w2 hX2 t2; replace hx := hx.turn t2 (by omega); replace hA := hA.turn t2 (by omega); replace hZ := hZ.turn t2 (by omega); replace hr := hr.turn t2 (by omega) (by omega); replace hd := hd.turn t2 hX (by decide) (by decide); replace HOO := Lib.hid (HOO.out.turn_new t2 (by omega)); clear hX hb; have hs2 := t2.size; clear t2; have hA0 := hA.c0; have hA1 := hA.c1; have hA2 := hA.c2) | (go_at_call 24; refine (Behind_any hr _ _).mono ?_; rintro e w3 ⟨rfl, hr3, ho3⟩; replace hx := hx.only ho3 (by omega); replace hA := hA.only ho3 (by omega); replace hZ := hZ.only ho3 (by omega); replace hX2 := hX2.only ho3 (by omega); replace hd := hr.row hd ho3; replace HOO := Lib.hid (HOO.out.trans ho3); clear hr; have hs3 := ho3.size; clear ho3 hA0 hA1 hA2; have hA0 := hA.c0; have hA1 := hA.c1; have hA2 := hA.c2) | (refine wpList_load30 rfl _ rfl w.heap.size _ _ rfl hx ?_) | (go_at_call 27; refine (rBehind_any B N _ ls a n w3 ⟨_, rfl, hd⟩ (by omega) HOK.out).mono ?_; rintro e w4 ⟨⟨v4, rfl, dv4, rfl, hd4⟩, hb4⟩; have hr4 := hr3.belowS hb4; replace hZ := hZ.belowS hb4; replace hX2 := hX2.belowS hb4; replace HOO := Lib.hid (HOO.out.trans (Only.of_below hb4)); have hs4 := hb4.size; have hone4 := hd4.one; clear hd hr3 hb4 hx hA hA0 hA1 hA2) | (refine wpList_store30 rfl _ _ rfl (w.heap.size + 3) _ _ _ _ rfl rfl hX2 hone4 ?_; intro w5 hX5 t5; have hr5 := hr4.turn t5 (by omega) (by omega); have hd5 := hd4.turn t5 hX2 (by decide) (by decide); replace hZ := hZ.turn t5 (by omega); replace HOO := Lib.hid (HOO.out.turn_new t5 (by omega)); have hs5 := t5.size; clear hr4 hd4 hX2 t5) | (refine wpList_load30 rfl _ rfl (w.heap.size + 3) _ _ rfl hX5 ?_) | (refine wpList_store30 rfl _ _ rfl (w.heap.size + 2) _ _ _ _ rfl rfl hZ hone4 ?_; intro w6 hZ6 t6))
  refine bodyPost_ret (results_ct rfl _ w6 (w.heap.size + 2) _ _ (.bool true) rfl rfl hZ6) rfl ?_
  exact ⟨⟨_, rfl, dv4, rfl, hd5.turn t6 hZ (by decide) (by decide)⟩, hr5.turn t6 (by omega) (by omega), HOO.out.turn_new t6 (by omega)⟩
set_option maxRecDepth 100000 in
set_option maxHeartbeats 4000000 in
theorem do_3 (p g c B N : Nat) (dv : Value) (ls : List (List Nat)) (k a n : Int) (w : World) (hr : Ring w p g c N ls) (hd : Doc w B dv ls) (hB : B ≤ w.heap.size) (hk0 : ¬ k.tmod 4 = 0) (hk1 : ¬ k.tmod 4 = 1) (hk2 : ¬ k.tmod 4 = 2) :
    Calls Try.prog 10 #[.pointer (some ⟨p, 0, none⟩), .agg #[.int .i64 (N : Int), dv], .agg #[.int .u8 k, .int .i64 a, .int .i64 n]] w fun e w' => (∃ v', e = .returned (.tuple #[v', .bool true]) ∧ RV w' B N v' (dropL N ls n)) ∧ Ring w' p g c N (dropL N ls n) ∧ Only g w w' := by
  have hx : IsT ((((w.alloc (.cells #[.int .i64 (N : Int), dv] 30)).alloc (.cells #[.int .u8 k, .int .i64 a, .int .i64 n] 34)).alloc (.cells #[.int .i64 0, .slice none 0 0] 30)).alloc (.cells #[.int .i64 0, .slice none 0 0] 30)) w.heap.size (N : Int) dv := (((IsT.new w (N : Int) dv).alloc _).alloc _).alloc _
  have hA : IsA ((((w.alloc (.cells #[.int .i64 (N : Int), dv] 30)).alloc (.cells #[.int .u8 k, .int .i64 a, .int .i64 n] 34)).alloc (.cells #[.int .i64 0, .slice none 0 0] 30)).alloc (.cells #[.int .i64 0, .slice none 0 0] 30)) (w.heap.size + 1) k a n := by
    have := ((IsA.new (w.alloc (.cells #[.int .i64 (N : Int), dv] 30)) k a n).alloc (.cells #[.int .i64 0, .slice none 0 0] 30)).alloc (.cells #[.int .i64 0, .slice none 0 0] 30)
    simpa using this
  have hZ : IsT ((((w.alloc (.cells #[.int .i64 (N : Int), dv] 30)).alloc (.cells #[.int .u8 k, .int .i64 a, .int .i64 n] 34)).alloc (.cells #[.int .i64 0, .slice none 0 0] 30)).alloc (.cells #[.int .i64 0, .slice none 0 0] 30)) (w.heap.size + 2) 0 (.slice none 0 0) := by
    have := (IsT.new ((w.alloc (.cells #[.int .i64 (N : Int), dv] 30)).alloc (.cells #[.int .u8 k, .int .i64 a, .int .i64 n] 34)) 0 (.slice none 0 0)).alloc (.cells #[.int .i64 0, .slice none 0 0] 30)
    simpa using this
  have hX := IsT.new (((w.alloc (.cells #[.int .i64 (N : Int), dv] 30)).alloc (.cells #[.int .u8 k, .int .i64 a, .int .i64 n] 34)).alloc (.cells #[.int .i64 0, .slice none 0 0] 30)) 0 (.slice none 0 0)
  have HE : Hid ((((w.alloc (.cells #[.int .i64 (N : Int), dv] 30)).alloc (.cells #[.int .u8 k, .int .i64 a, .int .i64 n] 34)).alloc (.cells #[.int .i64 0, .slice none 0 0] 30)).heap.size = w.heap.size + 3) := Lib.hid (by simp)
  have hb : Below w.heap.size w ((((w.alloc (.cells #[.int .i64 (N : Int), dv] 30)).alloc (.cells #[.int .u8 k, .int .i64 a, .int .i64 n] 34)).alloc (.cells #[.int .i64 0, .slice none 0 0] 30)).alloc (.cells #[.int .i64 0, .slice none 0 0] 30)) := ((((Below.refl _ w).alloc (Nat.le_refl _) _).alloc (by simp) _).alloc (by simp; omega) _).alloc (by simp; omega) _
  have hsz : w.heap.size + 4 ≤ ((((w.alloc (.cells #[.int .i64 (N : Int), dv] 30)).alloc (.cells #[.int .u8 k, .int .i64 a, .int .i64 n] 34)).alloc (.cells #[.int .i64 0, .slice none 0 0] 30)).alloc (.cells #[.int .i64 0, .slice none 0 0] 30)).heap.size := by simp
  have hlp := hr.ltp
  have hlg := hr.ltg
  have HOK := Lib.hid hr.ok
  have HOO : Hid (Only g w ((((w.alloc (.cells #[.int .i64 (N : Int), dv] 30)).alloc (.cells #[.int .u8 k, .int .i64 a, .int .i64 n] 34)).alloc (.cells #[.int .i64 0, .slice none 0 0] 30)).alloc (.cells #[.int .i64 0, .slice none 0 0] 30))) := Lib.hid (Only.of_below hb)
  replace hr := hr.belowS hb
  replace hd := hd.below hb
  have hx0 : IsT (((w.alloc (.cells #[.int .i64 (N : Int), dv] 30)).alloc (.cells #[.int .u8 k, .int .i64 a, .int .i64 n] 34)).alloc (.cells #[.int .i64 0, .slice none 0 0] 30)) w.heap.size (N : Int) dv := ((IsT.new w (N : Int) dv).alloc _).alloc _
  have hone := hd.one
  have hk3 := beq_ff hk0
  have hk4 := beq_ff hk1
  have hk5 := beq_ff hk2
  clear hk0 hk1 hk2
  go_enter Try.func10, Try.ntmps10
  go_wp2_with (first | (refine wpList_alloc30 rfl rfl ?_) | (refine wpList_load30 rfl _ rfl w.heap.size _ _ rfl hx0 ?_) | (refine wpList_store30 rfl _ _ rfl _ _ _ _ _ rfl rfl hX hone ?_; clear hx0; rw [HE.out] at hX; rw [HE.out]; clear HE; generalize ((((w.alloc (.cells #[.int .i64 (N : Int), dv] 30)).alloc (.cells #[.int .u8 k, .int .i64 a, .int .i64 n] 34)).alloc (.cells #[.int .i64 0, .slice none 0 0] 30)).alloc (.cells #[.int .i64 0, .slice none 0 0] 30)) = w1 at *; intro w2 hX2 t2; replace hx := hx.turn t2 (by omega); replace hA := hA.turn t2 (by omega); replace hZ := hZ.turn t2 (by omega); replace hr := hr.turn t2 (by omega) (by omega); replace hd := hd.turn t2 hX (by decide) (by decide); replace HOO := Lib.hid (HOO.out.turn_new t2 (by omega)); clear hX hb; have hs2 := t2.size; clear t2; have hA0 := hA.c0; have hA1 := hA.c1; have hA2 := hA.c2) | (go_at_call 22; refine (Drop_any hr _).mono ?_; rintro e w3 ⟨rfl, hr3, ho3⟩; replace hx := hx.only ho3 (by omega); replace hA := hA.only ho3 (by omega); replace hZ := hZ.only ho3 (by omega); replace hX2 := hX2.only ho3 (by omega); replace hd := hr.row hd ho3; replace HOO := Lib.hid (HOO.out.trans ho3); clear hr; have hs3 := ho3.size; clear ho3 hA0 hA1 hA2; have hA0 := hA.c0; have hA1 := hA.c1; have hA2 := hA.c2) | (refine wpList_load30 rfl _ rfl w.heap.size _ _ rfl hx ?_) | (go_at_call 28; refine (rDrop_any B N _ ls n w3 ⟨_, rfl, hd⟩ (by omega) HOK.out).mono ?_; rintro e w4 ⟨⟨v4, rfl, dv4, rfl, hd4⟩, hb4⟩; have hr4 := hr3.belowS hb4; replace hZ := hZ.belowS hb4; replace hX2 := hX2.belowS hb4; replace HOO := Lib.hid (HOO.out.trans (Only.of_below hb4)); have hs4 := hb4.size; have hone4 := hd4.one; clear hd hr3 hb4 hx hA hA0 hA1 hA2) | (refine wpList_store30 rfl _ _ rfl (w.heap.size + 3) _ _ _ _ rfl rfl hX2 hone4 ?_; intro w5 hX5 t5; have hr5 := hr4.turn t5 (by omega) (by omega); have hd5 := hd4.turn t5 hX2 (by decide) (by decide); replace hZ := hZ.turn t5 (by omega); replace HOO := Lib.hid (HOO.out.turn_new t5 (by omega)); have hs5 := t5.size; clear hr4 hd4 hX2 t5) | (refine wpList_load30 rfl _ rfl (w.heap.size + 3) _ _ rfl hX5 ?_) | (refine wpList_store30 rfl _ _ rfl (w.heap.size + 2) _ _ _ _ rfl rfl hZ hone4 ?_; intro w6 hZ6 t6))
  refine bodyPost_ret (results_ct rfl _ w6 (w.heap.size + 2) _ _ (.bool true) rfl rfl hZ6) rfl ?_
  exact ⟨⟨_, rfl, dv4, rfl, hd5.turn t6 hZ (by decide) (by decide)⟩, hr5.turn t6 (by omega) (by omega), HOO.out.turn_new t6 (by omega)⟩
theorem do_any (p g c B N : Nat) (v : Value) (ls : List (List Nat)) (k a n : Int) (w : World) (hr : Ring w p g c N ls) (hd : RV w B N v ls) (hB : B ≤ w.heap.size) :
    Calls Try.prog 10 #[.pointer (some ⟨p, 0, none⟩), v, .agg #[.int .u8 k, .int .i64 a, .int .i64 n]] w fun e w' => (∃ v', e = .returned (.tuple #[v', .bool true]) ∧ RV w' B N v' (actL N ls k a n)) ∧ Ring w' p g c N (actL N ls k a n) ∧ Only g w w' := by
  obtain ⟨dv, rfl, hd⟩ := hd
  by_cases h0 : k.tmod 4 = 0
  · have e : actL N ls k a n = pushL N ls a n false := by unfold actL; rw [if_pos h0]
    rw [e]; exact do_0 p g c B N dv ls k a n w hr hd hB h0
  · by_cases h1 : k.tmod 4 = 1
    · have e : actL N ls k a n = pushL N ls a n true := by unfold actL; rw [if_neg h0, if_pos h1]
      rw [e]; exact do_1 p g c B N dv ls k a n w hr hd hB h1
    · by_cases h2 : k.tmod 4 = 2
      · have e : actL N ls k a n = behL N ls a n := by unfold actL; rw [if_neg h0, if_neg h1, if_pos h2]
        rw [e]; exact do_2 p g c B N dv ls k a n w hr hd hB h2
      · have e : actL N ls k a n = dropL N ls n := by unfold actL; rw [if_neg h0, if_neg h1, if_neg h2]
        rw [e]; exact do_3 p g c B N dv ls k a n w hr hd hB h0 h1 h2
end Go.Proofs.Ytglnjpbjlcbgoaa
