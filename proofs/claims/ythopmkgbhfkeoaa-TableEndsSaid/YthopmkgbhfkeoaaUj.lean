/-
  The law's own is: a table that is the document's. Condition: the table is one.
-/
import Derived.Test.YthopmkgbhfkeoaaUi
import Derived.Test.YthopmkgbhfkeoaaUh
namespace Go.Proofs.Ythopmkgbhfkeoaa
open Go.RowKit

theorem run_load30 {X : World} {b : Nat} {v : Value} {m : Int} (h : IsT X b v m) : (loadVar 30 ⟨b, 0, none⟩).run Try.prog X = .ok (.agg #[v, .int .i64 m]) X := run_loadVar_row X b 30 30 _ (0, 0) _ h Try.underlying30 rfl Try.info30
/-- what the walk of is keeps. -/
structure Sq (W : World) (p g B b : Nat) (a : Option Addr) (c : Nat) (l : List Int) (m : Int) (w : World) : Prop where
  tab : IsTab w p g l m
  row : RowO w B (.slice a l.length c) l
  box : IsT w b (.slice a l.length c) m
  bel : Below W.heap.size W w
theorem Sq.below {W w w' : World} {p g B b : Nat} {a : Option Addr} {c : Nat} {l : List Int} {m : Int} (h : Sq W p g B b a c l m w) (hb : Below w.heap.size w w') : Sq W p g B b a c l m w' :=
  ⟨h.tab.belowS hb, h.row.below hb, h.box.belowS hb, h.bel.trans (hb.mono h.bel.size)⟩
theorem Sq.rt {W w : World} {p g B b : Nat} {a : Option Addr} {c : Nat} {l : List Int} {m : Int} (h : Sq W p g B b a c l m w) : RT w B (.agg #[.slice a l.length c, .int .i64 m]) l m := ⟨a, c, rfl, h.row⟩
theorem Below.drewn (w : World) : Below w.heap.size w w.drew := ⟨rfl, rfl, rfl, Nat.le_refl _, fun _ _ => rfl⟩
set_option maxRecDepth 100000 in
set_option maxHeartbeats 4000000 in
theorem Is_true (p g B : Nat) (v : Value) (l : List Int) (m n : Int) (w : World) (h : IsTab w p g l m) (hr : RT w B v l m) (hok : TabOk l m) :
    Calls Try.prog 17 #[.pointer (some ⟨p, 0, none⟩), v, .int .i64 n] w fun e w' => e = .returned (.bool true) ∧ Below w.heap.size w w' := by
  obtain ⟨a, c, rfl, hr⟩ := hr
  have ok := Lib.hid hok
  have n1 := hok.n1
  have n64 := hok.n64
  have hy := taken_len l
  clear hok
  have hb0 : Below w.heap.size w (w.alloc (.cells #[.slice a l.length c, .int .i64 m] 30)) := (Below.refl _ w).alloc (Nat.le_refl _) _
  have HS : Hid (Sq w p g B w.heap.size a c l m (w.alloc (.cells #[.slice a l.length c, .int .i64 m] 30))) := Lib.hid ⟨h.alloc _, hr.alloc _, IsT.new w _ m, hb0⟩
  clear h hr hb0
  have hwr : IntKind.i64.wrap ((l.length : Int) - ((taken l).length : Int)) = (l.length : Int) - ((taken l).length : Int) := IntWalk.i64_in _ (by omega)
  have hwr2 : IntKind.i64.wrap ((l.length : Int) - ((l.length : Int) - ((taken l).length : Int))) = ((taken l).length : Int) := by rw [IntWalk.i64_in _ (by omega)]; omega
  go_enter Try.func17, Try.ntmps17
  go_wp2_with fail
  replace HS := Lib.hid (HS.out.below (Below.drewn _))
  refine Rd.region (fun X => IsT X w.heap.size (.slice a l.length c) m) 8 [0, 1, 2, 5, 6, 7] [0, 1, 2, 3, 4, 5, 6, 7] (by kernel_rfl) (by kernel_rfl) (by kernel_rfl) (by kernel_rfl) rfl HS.out.box ?_
  generalize (w.alloc (.cells #[.slice a l.length c, .int .i64 m] 30)).drew = w1 at *
  refine Rd.seq_float (.pointer (some ⟨w.heap.size, 0, none⟩)) (by simp only [List.getElem?_toArray, List.getElem?_cons_zero]; rfl) rfl (by rfl) (fun X _ => by go_simp) ?_
  simp only [Act.put, List.setIfInBounds_toArray, List.set_cons_succ, List.set_cons_zero]
  refine Rd.seq_float (.slice a l.length c) (by simp only [List.getElem?_toArray, List.getElem?_cons_succ, List.getElem?_cons_zero]; rfl) rfl (by rfl) (fun X hX => by have hX0 := IsT.c0 hX; go_simp) ?_
  simp only [Act.put, List.setIfInBounds_toArray, List.set_cons_succ, List.set_cons_zero]
  refine Rd.seq_float (.int .i64 (l.length : Int)) (by simp only [List.getElem?_toArray, List.getElem?_cons_succ, List.getElem?_cons_zero]; rfl) rfl (by rfl) (fun X _ => by go_simp) ?_
  simp only [Act.put, List.setIfInBounds_toArray, List.set_cons_succ, List.set_cons_zero]
  refine Rd.seq_move (by simp only [List.getElem?_toArray, List.getElem?_cons_succ, List.getElem?_cons_zero]; rfl) rfl (by rfl) (fun K hK => ?_)
  refine wp_load30 _ rfl w.heap.size _ m rfl HS.out.box ?_
  refine hK _ _ (fun _ => HS.out.box) ?_
  clear hK K
  refine Rd.seq_move (by simp only [List.getElem?_toArray, List.getElem?_cons_succ, List.getElem?_cons_zero]; rfl) rfl (by rfl) (fun K hK => ?_)
  go_simp
  refine (rIds_any B _ l m _ HS.out.rt n64).mono ?_
  rw [ok.out.ids, ids_len]
  rintro e w2 ⟨⟨a1, c1, rfl, -⟩, hb⟩
  replace HS := Lib.hid (HS.out.below hb)
  clear hb
  refine hK _ _ (fun _ => HS.out.box) ?_
  clear hK K
  refine Rd.seq_float (.int .i64 ((taken l).length : Int)) (by simp only [List.getElem?_toArray, List.getElem?_cons_succ, List.getElem?_cons_zero]; rfl) rfl (by rfl) (fun X _ => by go_simp) ?_
  simp only [Act.put, List.setIfInBounds_toArray, List.set_cons_succ, List.set_cons_zero]
  refine Rd.seq_float (.int .i64 ((l.length : Int) - ((taken l).length : Int))) (by simp only [List.getElem?_toArray, List.getElem?_cons_succ, List.getElem?_cons_zero]; rfl) rfl (by rfl) (fun X _ => by go_simp) ?_
  simp only [Act.put, List.setIfInBounds_toArray, List.set_cons_succ, List.set_cons_zero]
  refine Rd.seq_float (.int .i64 ((l.length : Int) - ((taken l).length : Int))) (by simp only [List.getElem?_toArray, List.getElem?_cons_succ, List.getElem?_cons_zero]; rfl) rfl (by rfl) (fun X _ => by go_simp) ?_
  simp only [Act.put, List.setIfInBounds_toArray, List.set_cons_succ, List.set_cons_zero]
  refine Rd.seq_end ?_
  go_wp2_with fail
  replace HS := Lib.hid (HS.out.below (Below.drewn _))
  refine Rd.region (fun X => IsT X w.heap.size (.slice a l.length c) m) 29 [0, 2, 5, 6, 7, 9, 10, 11, 12, 13, 14, 15, 16, 17, 19, 20, 21, 22, 23, 25, 26, 27, 28] [0, 2, 1, 3, 4, 5, 6, 7, 9, 10, 11, 12, 13, 8, 14, 15, 16, 17, 19, 18, 20, 21, 22, 23, 25, 26, 24, 27, 28] (by kernel_rfl) (by kernel_rfl) (by kernel_rfl) (by kernel_rfl) rfl HS.out.box ?_
  generalize w2.drew = w3 at *
  refine Rd.seq_float (.pointer (some ⟨p, 0, none⟩)) (by simp only [List.getElem?_toArray, List.getElem?_cons_zero]; rfl) rfl (by rfl) (fun X _ => by go_simp) ?_
  simp only [Act.put, List.setIfInBounds_toArray, List.set_cons_succ, List.set_cons_zero]
  refine Rd.seq_float (.agg #[.slice a l.length c, .int .i64 m]) (by simp only [List.getElem?_toArray, List.getElem?_cons_succ, List.getElem?_cons_zero]; rfl) rfl (by rfl) (fun X hX => by have hX0 := IsT.c0 hX; have hX1 := IsT.c1 hX; go_simp) ?_
  simp only [Act.put, List.setIfInBounds_toArray, List.set_cons_succ, List.set_cons_zero]
  refine Rd.seq_move (by simp only [List.getElem?_toArray, List.getElem?_cons_succ, List.getElem?_cons_zero]; rfl) rfl (by rfl) (fun K hK => ?_)
  go_simp
  refine (Ids_any p g l m _ HS.out.tab n1 n64).mono ?_
  rintro e w4 ⟨⟨a4, c4, rfl, hr4⟩, hb⟩
  have H4 := Lib.hid hr4.src
  clear hr4
  replace HS := Lib.hid (HS.out.below hb)
  refine hK _ _ (fun _ => HS.out.box) ?_
  clear hb
  clear hK K
  refine Rd.seq_move (by simp only [List.getElem?_toArray, List.getElem?_cons_succ, List.getElem?_cons_zero]; rfl) rfl (by rfl) (fun K hK => ?_)
  go_simp
  refine (rIds_any B _ l m _ HS.out.rt n64).mono ?_
  rw [ok.out.ids]
  rintro e w5 ⟨⟨a5, c5, rfl, hr5⟩, hb⟩
  have H5 := Lib.hid hr5.src
  clear hr5
  replace H4 := Lib.hid (H4.out.below hb)
  replace HS := Lib.hid (HS.out.below hb)
  refine hK _ _ (fun _ => HS.out.box) ?_
  clear hb
  clear hK K
  refine Rd.seq_move (by simp only [List.getElem?_toArray, List.getElem?_cons_succ, List.getElem?_cons_zero]; rfl) rfl (by rfl) (fun K hK => ?_)
  go_simp
  refine (Ints_same _ _ _ _ H4.out H5.out (Nat.le_trans (ids_le l) n64)).mono ?_
  rintro e w6 ⟨rfl, hb⟩
  clear H4 H5
  replace HS := Lib.hid (HS.out.below hb)
  refine hK _ _ (fun _ => HS.out.box) ?_
  clear hb
  clear hK K
  refine Rd.seq_float (.bool false) (by simp only [List.getElem?_toArray, List.getElem?_cons_succ, List.getElem?_cons_zero]; rfl) rfl (by rfl) (fun X _ => by go_simp) ?_
  simp only [Act.put, List.setIfInBounds_toArray, List.set_cons_succ, List.set_cons_zero]
  refine Rd.seq_float (.bool false) (by simp only [List.getElem?_toArray, List.getElem?_cons_succ, List.getElem?_cons_zero]; rfl) rfl (by rfl) (fun X _ => by go_simp) ?_
  simp only [Act.put, List.setIfInBounds_toArray, List.set_cons_succ, List.set_cons_zero]
  refine Rd.seq_float (.pointer (some ⟨p, 0, none⟩)) (by simp only [List.getElem?_toArray, List.getElem?_cons_succ, List.getElem?_cons_zero]; rfl) rfl (by rfl) (fun X _ => by go_simp) ?_
  simp only [Act.put, List.setIfInBounds_toArray, List.set_cons_succ, List.set_cons_zero]
  refine Rd.seq_float (.pointer (some ⟨w.heap.size, 0, none⟩)) (by simp only [List.getElem?_toArray, List.getElem?_cons_succ, List.getElem?_cons_zero]; rfl) rfl (by rfl) (fun X _ => by go_simp) ?_
  simp only [Act.put, List.setIfInBounds_toArray, List.set_cons_succ, List.set_cons_zero]
  refine Rd.seq_float (.slice a l.length c) (by simp only [List.getElem?_toArray, List.getElem?_cons_succ, List.getElem?_cons_zero]; rfl) rfl (by rfl) (fun X hX => by have hX0 := IsT.c0 hX; go_simp) ?_
  simp only [Act.put, List.setIfInBounds_toArray, List.set_cons_succ, List.set_cons_zero]
  refine Rd.seq_float (.int .i64 (l.length : Int)) (by simp only [List.getElem?_toArray, List.getElem?_cons_succ, List.getElem?_cons_zero]; rfl) rfl (by rfl) (fun X _ => by go_simp) ?_
  simp only [Act.put, List.setIfInBounds_toArray, List.set_cons_succ, List.set_cons_zero]
  refine Rd.seq_float (.int .i64 ((l.length : Int) - ((taken l).length : Int))) (by simp only [List.getElem?_toArray, List.getElem?_cons_succ, List.getElem?_cons_zero]; rfl) rfl (by rfl) (fun X _ => by go_simp) ?_
  simp only [Act.put, List.setIfInBounds_toArray, List.set_cons_succ, List.set_cons_zero]
  refine Rd.seq_float (.int .i64 ((taken l).length : Int)) (by simp only [List.getElem?_toArray, List.getElem?_cons_succ, List.getElem?_cons_zero]; rfl) rfl (by rfl) (fun X _ => by go_simp) ?_
  simp only [Act.put, List.setIfInBounds_toArray, List.set_cons_succ, List.set_cons_zero]
  refine Rd.seq_move (by simp only [List.getElem?_toArray, List.getElem?_cons_succ, List.getElem?_cons_zero]; rfl) rfl (by rfl) (fun K hK => ?_)
  go_simp
  refine (Len_any p g l m _ HS.out.tab n1 n64).mono ?_
  rintro e w7 ⟨rfl, hb⟩
  replace HS := Lib.hid (HS.out.below hb)
  refine hK _ _ (fun _ => HS.out.box) ?_
  clear hb
  clear hK K
  refine Rd.seq_float (.bool false) (by simp only [List.getElem?_toArray, List.getElem?_cons_succ, List.getElem?_cons_zero]; rfl) rfl (by rfl) (fun X _ => by go_simp) ?_
  simp only [Act.put, List.setIfInBounds_toArray, List.set_cons_succ, List.set_cons_zero]
  refine Rd.seq_float (.bool false) (by simp only [List.getElem?_toArray, List.getElem?_cons_succ, List.getElem?_cons_zero]; rfl) rfl (by rfl) (fun X _ => by go_simp) ?_
  simp only [Act.put, List.setIfInBounds_toArray, List.set_cons_succ, List.set_cons_zero]
  refine Rd.seq_float (.bool false) (by simp only [List.getElem?_toArray, List.getElem?_cons_succ, List.getElem?_cons_zero]; rfl) rfl (by rfl) (fun X _ => by go_simp) ?_
  simp only [Act.put, List.setIfInBounds_toArray, List.set_cons_succ, List.set_cons_zero]
  refine Rd.seq_float (.pointer (some ⟨p, 0, none⟩)) (by simp only [List.getElem?_toArray, List.getElem?_cons_succ, List.getElem?_cons_zero]; rfl) rfl (by rfl) (fun X _ => by go_simp) ?_
  simp only [Act.put, List.setIfInBounds_toArray, List.set_cons_succ, List.set_cons_zero]
  refine Rd.seq_float (.int .i64 ((l.length : Int) - ((taken l).length : Int))) (by simp only [List.getElem?_toArray, List.getElem?_cons_succ, List.getElem?_cons_zero]; rfl) rfl (by rfl) (fun X _ => by go_simp) ?_
  simp only [Act.put, List.setIfInBounds_toArray, List.set_cons_succ, List.set_cons_zero]
  refine Rd.seq_move (by simp only [List.getElem?_toArray, List.getElem?_cons_succ, List.getElem?_cons_zero]; rfl) rfl (by rfl) (fun K hK => ?_)
  go_simp
  refine (Room_any p g l m _ HS.out.tab n1 n64).mono ?_
  rintro e w8 ⟨rfl, hb⟩
  replace HS := Lib.hid (HS.out.below hb)
  refine hK _ _ (fun _ => HS.out.box) ?_
  clear hb
  clear hK K
  refine Rd.seq_float (.bool false) (by simp only [List.getElem?_toArray, List.getElem?_cons_succ, List.getElem?_cons_zero]; rfl) rfl (by rfl) (fun X _ => by go_simp) ?_
  simp only [Act.put, List.setIfInBounds_toArray, List.set_cons_succ, List.set_cons_zero]
  refine Rd.seq_float (.bool false) (by simp only [List.getElem?_toArray, List.getElem?_cons_succ, List.getElem?_cons_zero]; rfl) rfl (by rfl) (fun X _ => by go_simp) ?_
  simp only [Act.put, List.setIfInBounds_toArray, List.set_cons_succ, List.set_cons_zero]
  refine Rd.seq_float (.bool false) (by simp only [List.getElem?_toArray, List.getElem?_cons_succ, List.getElem?_cons_zero]; rfl) rfl (by rfl) (fun X _ => by go_simp) ?_
  simp only [Act.put, List.setIfInBounds_toArray, List.set_cons_succ, List.set_cons_zero]
  refine Rd.seq_float (.pointer (some ⟨p, 0, none⟩)) (by simp only [List.getElem?_toArray, List.getElem?_cons_succ, List.getElem?_cons_zero]; rfl) rfl (by rfl) (fun X _ => by go_simp) ?_
  simp only [Act.put, List.setIfInBounds_toArray, List.set_cons_succ, List.set_cons_zero]
  refine Rd.seq_float (.pointer (some ⟨w.heap.size, 1, none⟩)) (by simp only [List.getElem?_toArray, List.getElem?_cons_succ, List.getElem?_cons_zero]; rfl) rfl (by rfl) (fun X _ => by go_simp) ?_
  simp only [Act.put, List.setIfInBounds_toArray, List.set_cons_succ, List.set_cons_zero]
  refine Rd.seq_float (.int .i64 m) (by simp only [List.getElem?_toArray, List.getElem?_cons_succ, List.getElem?_cons_zero]; rfl) rfl (by rfl) (fun X hX => by have hX1 := IsT.c1 hX; go_simp) ?_
  simp only [Act.put, List.setIfInBounds_toArray, List.set_cons_succ, List.set_cons_zero]
  refine Rd.seq_move (by simp only [List.getElem?_toArray, List.getElem?_cons_succ, List.getElem?_cons_zero]; rfl) rfl (by rfl) (fun K hK => ?_)
  go_simp
  refine (Last_any p g l m _ HS.out.tab).mono ?_
  rintro e w9 ⟨rfl, rfl⟩
  refine hK _ _ (fun _ => HS.out.box) ?_
  clear hK K
  refine Rd.seq_float (.bool false) (by simp only [List.getElem?_toArray, List.getElem?_cons_succ, List.getElem?_cons_zero]; rfl) rfl (by rfl) (fun X _ => by go_simp) ?_
  simp only [Act.put, List.setIfInBounds_toArray, List.set_cons_succ, List.set_cons_zero]
  refine Rd.seq_float (.bool false) (by simp only [List.getElem?_toArray, List.getElem?_cons_succ, List.getElem?_cons_zero]; rfl) rfl (by rfl) (fun X _ => by go_simp) ?_
  simp only [Act.put, List.setIfInBounds_toArray, List.set_cons_succ, List.set_cons_zero]
  refine Rd.seq_end ?_
  go_wp2_with fail
  refine (Slot_any p g l m n _ HS.out.tab n64).mono ?_
  cases hh : hasB l n with
  | true =>
    have HR : Hid (hasS l n = (find l n : Int) ∧ hasE l n = 0 ∧ atI l n = (find l n : Int)) := Lib.hid (by simp [hasS, hasE, atI, hh])
    clear hh
    generalize find l n = k at *
    rw [HR.out.1, HR.out.2.1]
    rintro e w10 ⟨rfl, rfl⟩
    go_wp2_with (first | (refine wpList_load30 rfl _ rfl w.heap.size _ m rfl HS.out.box ?_))
    refine (rAt B _ l m n _ HS.out.rt n64).mono ?_
    rw [HR.out.2.2]
    rintro e w11 ⟨rfl, hb⟩
    replace HS := Lib.hid (HS.out.below hb)
    clear hb HR
    have hc0 := HS.out.box.c0
    by_cases hn0 : 0 ≤ n
    · by_cases hn1 : n < l.length
      · obtain ⟨q, rfl⟩ : ∃ q : Nat, n = q := ⟨n.toNat, by omega⟩
        obtain ⟨gb, rfl, -, -, hcq, -⟩ := HS.out.row.at (j := q) (by omega)
        have HI : Hid (idI l (q : Int) = l.getD q 0) := Lib.hid (by unfold idI; rw [if_pos (by omega)]; rfl)
        generalize l.getD q 0 = y at *
        go_wp2_with fail
        refine (Id_any p g l m (q : Int) _ HS.out.tab).mono ?_
        rw [HI.out]
        rintro e w12 ⟨rfl, rfl⟩
        go_wp2_with fail
        go_ret
        exact ⟨rfl, HS.out.bel⟩
      · have HI : Hid (idI l n = 0) := Lib.hid (by unfold idI; rw [if_neg (by omega)])
        go_wp2_with fail
        refine (Id_any p g l m n _ HS.out.tab).mono ?_
        rw [HI.out]
        rintro e w12 ⟨rfl, rfl⟩
        go_wp2_with fail
        go_ret
        exact ⟨rfl, HS.out.bel⟩
    · have HI : Hid (idI l n = 0) := Lib.hid (by unfold idI; rw [if_neg (by omega)])
      go_wp2_with fail
      refine (Id_any p g l m n _ HS.out.tab).mono ?_
      rw [HI.out]
      rintro e w12 ⟨rfl, rfl⟩
      go_wp2_with fail
      go_ret
      exact ⟨rfl, HS.out.bel⟩
  | false =>
    have HR : Hid (hasS l n = 0 ∧ hasE l n = 3 ∧ atI l n = -1) := Lib.hid (by simp [hasS, hasE, atI, hh])
    clear hh
    rw [HR.out.1, HR.out.2.1]
    rintro e w10 ⟨rfl, rfl⟩
    go_wp2_with (first | (refine wpList_load30 rfl _ rfl w.heap.size _ m rfl HS.out.box ?_))
    refine (rAt B _ l m n _ HS.out.rt n64).mono ?_
    rw [HR.out.2.2]
    rintro e w11 ⟨rfl, hb⟩
    replace HS := Lib.hid (HS.out.below hb)
    clear hb HR
    have hc0 := HS.out.box.c0
    by_cases hn0 : 0 ≤ n
    · by_cases hn1 : n < l.length
      · obtain ⟨q, rfl⟩ : ∃ q : Nat, n = q := ⟨n.toNat, by omega⟩
        obtain ⟨gb, rfl, -, -, hcq, -⟩ := HS.out.row.at (j := q) (by omega)
        have HI : Hid (idI l (q : Int) = l.getD q 0) := Lib.hid (by unfold idI; rw [if_pos (by omega)]; rfl)
        generalize l.getD q 0 = y at *
        go_wp2_with fail
        refine (Id_any p g l m (q : Int) _ HS.out.tab).mono ?_
        rw [HI.out]
        rintro e w12 ⟨rfl, rfl⟩
        go_wp2_with fail
        go_ret
        exact ⟨rfl, HS.out.bel⟩
      · have HI : Hid (idI l n = 0) := Lib.hid (by unfold idI; rw [if_neg (by omega)])
        go_wp2_with fail
        refine (Id_any p g l m n _ HS.out.tab).mono ?_
        rw [HI.out]
        rintro e w12 ⟨rfl, rfl⟩
        go_wp2_with fail
        go_ret
        exact ⟨rfl, HS.out.bel⟩
    · have HI : Hid (idI l n = 0) := Lib.hid (by unfold idI; rw [if_neg (by omega)])
      go_wp2_with fail
      refine (Id_any p g l m n _ HS.out.tab).mono ?_
      rw [HI.out]
      rintro e w12 ⟨rfl, rfl⟩
      go_wp2_with fail
      go_ret
      exact ⟨rfl, HS.out.bel⟩
end Go.Proofs.Ythopmkgbhfkeoaa
