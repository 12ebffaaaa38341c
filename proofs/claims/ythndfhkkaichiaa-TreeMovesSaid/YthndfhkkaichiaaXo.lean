/-
  The document's Depth, Below, Root. Condition: the groups are a forest.
-/
import Derived.Test.YthndfhkkaichiaaXn
namespace Go.Proofs.Ythndfhkkaichiaa
open Go.RowKit Go.Maps

theorem run_load30 {o : Oper} {a : Act} {X : World} {x : Operand} {b : Nat} {r m : Int} {v : Value} (ho : o.op = .load 30 x) (hx : a.eval x = .pointer (some ⟨b, 0, none⟩)) (hw : Blk X b 30 (cellsF r m v)) : (execOp a.eval o).run Try.prog X = .ok (.value (.agg #[.int .i64 r, .int .i64 m, v])) X := by
  unfold execOp
  simp only [ho, hx, Instr.loadAt, Instr.sureAddr, Sem.run_bind, Sem.run_pure, Result.andThen_ok, run_loadVar_row X b 30 30 _ (0, 0) _ hw Try.underlying30 rfl Try.info30]
  rfl
theorem gr_eq {L : List Gr} (x : Int) : L.getD (pos L x) g0 = gr L x := rfl
/-- what is read of the document's forest, its box at b0, its groups in b. -/
structure Rdd (w1 : World) (b0 b c : Nat) (r m : Int) (L : List Gr) : Prop where
  box : ∀ X, Below w1.heap.size w1 X → Blk X b0 30 (cellsF r m (.slice (some ⟨b, 0, none⟩) L.length c))
  cl : ∀ X, Below w1.heap.size w1 X → Cl X b 0 L
  at' : ∀ (y : Int) X, Below w1.heap.size w1 X → Calls Try.prog 50 #[.agg #[.int .i64 r, .int .i64 m, .slice (some ⟨b, 0, none⟩) L.length c], .int .i64 y] X fun e w' => e = .returned (.int .i64 (atG L y)) ∧ Below w1.heap.size w1 w'
theorem Rdd.of {w : World} {r m : Int} {a : Option Addr} {c : Nat} {L : List Gr} (h : RowG w (.slice a L.length c) L) (hl : L.length ≤ 64) (hne : 0 < L.length) : ∃ b, a = some ⟨b, 0, none⟩ ∧ Rdd (w.alloc (.cells #[.int .i64 r, .int .i64 m, .slice (some ⟨b, 0, none⟩) L.length c] 30)) w.heap.size b c r m L := by
  obtain ⟨b, rfl, hc⟩ := h.at hne
  have hB := Blk.new w 30 (cellsF r m (.slice (some ⟨b, 0, none⟩) L.length c))
  have h1 := h.alloc (.cells #[.int .i64 r, .int .i64 m, .slice (some ⟨b, 0, none⟩) L.length c] 30)
  have hb : Below w.heap.size w (w.alloc (.cells #[.int .i64 r, .int .i64 m, .slice (some ⟨b, 0, none⟩) L.length c] 30)) := (Below.refl _ w).alloc (Nat.le_refl _) _
  refine ⟨b, rfl, fun X hX => hB.below hX, fun X hX => (hc.below hb).below hX, fun y X hX => ?_⟩
  refine (At_any r m _ c L y X (h1.below hX) hl).mono ?_
  rintro e w' ⟨rfl, hb'⟩
  exact ⟨rfl, Below.stay hX hb'⟩
theorem has_pos_len {L : List Gr} {x : Int} (h : has L x = true) : 0 < L.length := by have := has_pos h; omega
section
variable (r m : Int) (a : Option Addr) (c : Nat) (L : List Gr)
set_option maxRecDepth 100000 in
set_option maxHeartbeats 4000000 in
theorem rDepth_any (x : Int) (m0 k : Int) (w : World) (h : RowG w (.slice a L.length c) L) (ok : Ok L m0 k) (hh : has L x = true) :
    Calls Try.prog 34 #[.agg (cellsF r m (.slice a L.length c)), .int .i64 x] w fun e w' => e = .returned (.int .i64 (dep L x)) ∧ Below w.heap.size w w' := by
  have hne := has_pos_len hh
  have n64 := ok.n64
  obtain ⟨b, rfl, hR⟩ := Rdd.of (r := r) (m := m) h ok.n64 hne
  have hb1 : Below w.heap.size w (w.alloc (.cells #[.int .i64 r, .int .i64 m, .slice (some ⟨b, 0, none⟩) L.length c] 30)) := (Below.refl _ w).alloc (Nat.le_refl _) _
  have OK := Lib.hid ok
  have HR := Lib.hid hR
  clear h ok hR hne
  unfold cellsF
  go_enter Try.func34, Try.ntmps34
  go_wp2_with fail
  generalize w.alloc (.cells #[.int .i64 r, .int .i64 m, .slice (some ⟨b, 0, none⟩) L.length c] 30) = w1 at *
  go_loopw [1, 5] (fun i v wr => ∃ y n : Int, i = .int .i64 y ∧ v = .int .i64 n ∧ Hid (y = -1 ∨ has L y = true) ∧ Hid (n + dep L y = dep L x) ∧ Below w1.heap.size w1 wr ∧ 0 ≤ n) (fun i _ _ => (pth L (intOf i)).length)
  case atStart => exact ⟨x, 0, rfl, rfl, Lib.hid (.inr hh), Lib.hid (by omega), Below.refl _ _, Int.le_refl _⟩
  case round =>
    clear hh
    obtain ⟨y, n, rfl, rfl, HY, HN, hb, hn⟩ := hrel
    have hd := OK.out.dep8 x
    have hd2 := OK.out.dep8 y
    have hn8 : n ≤ 8 := by have := HN.out; omega
    clear hd hd2
    cases hh : has L y with
    | false =>
      obtain rfl : y = -1 := by
        rcases HY.out with e | e
        · exact e
        · rw [hh] at e; cases e
      have HE : Hid (n = dep L x) := Lib.hid (by have := HN.out; unfold dep at this ⊢; rw [pth_no hh] at this; simp at this; exact this)
      clear hh
      go_wp2_with fail
      go_ret
      rw [← HE.out]
      exact ⟨rfl, hb1.trans (hb.mono hb1.size)⟩
    | true =>
      have hy := OK.out.id hh
      have hj := has_pos hh
      have HJ : Hid (atG L y = (pos L y : Int)) := Lib.hid (atG_yes hh)
      have HV : Hid (∀ X, Below w1.heap.size w1 X → X.cell? ⟨b, pos L y * 5 + 1, none⟩ = some (.int .i64 (gr L y).pa)) := Lib.hid fun X hX => (HR.out.cl X hX).pa hj
      have HP := Lib.hid (OK.out.pa hh)
      have HD : Hid (n + 1 + dep L (gr L y).pa = dep L x) := Lib.hid (by have := HN.out; have := OK.out.dep hh; omega)
      have HM : Hid ((pth L (gr L y).pa).length < (pth L y).length) := Lib.hid (by rw [OK.out.yes hh, List.length_cons]; omega)
      clear hh
      generalize (gr L y).pa = pa at *
      generalize pos L y = j at *
      have hy0 : 0 ≤ y := by omega
      clear hy
      go_wp2_with fail
      have hq : Below w1.heap.size w1 wr.drew := Below.drewS hb
      refine Rd.region (fun X => Below w1.heap.size w1 X) 9 [0, 1, 2, 3, 5, 6, 7, 8] [0, 1, 2, 3, 4, 5, 6, 7, 8] (by kernel_rfl) (by kernel_rfl) (by kernel_rfl) (by kernel_rfl) rfl hq ?_
      refine Rd.seq_float (.pointer (some ⟨w.heap.size, 2, none⟩)) (by simp only [List.getElem?_toArray, List.getElem?_cons_zero]; rfl) rfl (by rfl) (fun X _ => by go_simp) ?_
      simp only [Act.put, List.setIfInBounds_toArray, List.set_cons_succ, List.set_cons_zero]
      refine Rd.seq_float (.slice (some ⟨b, 0, none⟩) L.length c) (by simp only [List.getElem?_toArray, List.getElem?_cons_succ, List.getElem?_cons_zero]; rfl) rfl (by rfl) (fun X hX => by have e2 := cF2 (HR.out.box X hX); go_simp) ?_
      simp only [Act.put, List.setIfInBounds_toArray, List.set_cons_succ, List.set_cons_zero]
      refine Rd.seq_float (.agg #[.int .i64 r, .int .i64 m, .slice (some ⟨b, 0, none⟩) L.length c]) (by simp only [List.getElem?_toArray, List.getElem?_cons_succ, List.getElem?_cons_zero]; rfl) rfl (by rfl) (fun X hX => run_load30 rfl rfl (HR.out.box X hX)) ?_
      simp only [Act.put, List.setIfInBounds_toArray, List.set_cons_succ, List.set_cons_zero]
      refine Rd.seq_float (.int .i64 y) (by simp only [List.getElem?_toArray, List.getElem?_cons_succ, List.getElem?_cons_zero]; rfl) rfl (by rfl) (fun X _ => by go_simp) ?_
      simp only [Act.put, List.setIfInBounds_toArray, List.set_cons_succ, List.set_cons_zero]
      refine Rd.seq_move (by simp only [List.getElem?_toArray, List.getElem?_cons_succ, List.getElem?_cons_zero]; rfl) rfl (by rfl) (fun K hK => ?_)
      go_simp
      refine (HR.out.at' _ _ hq).mono ?_
      rw [HJ.out]
      rintro e w3 ⟨rfl, hb3⟩
      refine hK _ _ (fun _ => hb3) ?_
      clear hK K
      refine Rd.seq_float (.pointer (some ⟨b, j * 5, none⟩)) (by simp only [List.getElem?_toArray, List.getElem?_cons_succ, List.getElem?_cons_zero]; rfl) rfl (by rfl) (fun X _ => by first | (go_simp; done) | (go_simp; intro hx; omega)) ?_
      simp only [Act.put, List.setIfInBounds_toArray, List.set_cons_succ, List.set_cons_zero]
      refine Rd.seq_float (.pointer (some ⟨b, j * 5 + 1, none⟩)) (by simp only [List.getElem?_toArray, List.getElem?_cons_succ, List.getElem?_cons_zero]; rfl) rfl (by rfl) (fun X _ => by go_simp) ?_
      simp only [Act.put, List.setIfInBounds_toArray, List.set_cons_succ, List.set_cons_zero]
      refine Rd.seq_float (.int .i64 pa) (by simp only [List.getElem?_toArray, List.getElem?_cons_succ, List.getElem?_cons_zero]; rfl) rfl (by rfl) (fun X hX => by have e2 := HV.out X hX; go_simp) ?_
      simp only [Act.put, List.setIfInBounds_toArray, List.set_cons_succ, List.set_cons_zero]
      refine Rd.seq_float (.int .i64 pa) (by simp only [List.getElem?_toArray, List.getElem?_cons_succ, List.getElem?_cons_zero]; rfl) rfl (by rfl) (fun X _ => by go_simp) ?_
      simp only [Act.put, List.setIfInBounds_toArray, List.set_cons_succ, List.set_cons_zero]
      refine Rd.seq_end ?_
      go_wp2_with fail
      exact ⟨⟨pa, n + 1, rfl, rfl, HP, HD, hb3, by omega⟩, HM.out⟩
set_option maxRecDepth 100000 in
set_option maxHeartbeats 4000000 in
theorem rBelow_any (x t : Int) (m0 k : Int) (w : World) (h : RowG w (.slice a L.length c) L) (ok : Ok L m0 k) (hh : has L x = true) :
    Calls Try.prog 53 #[.agg (cellsF r m (.slice a L.length c)), .int .i64 x, .int .i64 t] w fun e w' => e = .returned (.bool (belowB L x t)) ∧ Below w.heap.size w w' := by
  have hne := has_pos_len hh
  have n64 := ok.n64
  obtain ⟨b, rfl, hR⟩ := Rdd.of (r := r) (m := m) h ok.n64 hne
  have hb1 : Below w.heap.size w (w.alloc (.cells #[.int .i64 r, .int .i64 m, .slice (some ⟨b, 0, none⟩) L.length c] 30)) := (Below.refl _ w).alloc (Nat.le_refl _) _
  have OK := Lib.hid ok
  have HR := Lib.hid hR
  clear h ok hR hne
  unfold cellsF
  go_enter Try.func53, Try.ntmps53
  go_wp2_with fail
  generalize w.alloc (.cells #[.int .i64 r, .int .i64 m, .slice (some ⟨b, 0, none⟩) L.length c] 30) = w1 at *
  go_loopw [1] (fun i wr => ∃ y : Int, i = .int .i64 y ∧ Hid (y = -1 ∨ has L y = true) ∧ Hid (belowB L x t = belowB L y t) ∧ Below w1.heap.size w1 wr) (fun i _ => (pth L (intOf i)).length)
  case atStart => exact ⟨x, rfl, Lib.hid (.inr hh), Lib.hid rfl, Below.refl _ _⟩
  case round =>
    clear hh
    obtain ⟨y, rfl, HY, HN, hb⟩ := hrel
    cases hh : has L y with
    | false =>
      obtain rfl : y = -1 := by
        rcases HY.out with e | e
        · exact e
        · rw [hh] at e; cases e
      have HE : Hid (belowB L x t = false) := Lib.hid (by rw [HN.out]; exact below_no hh t)
      clear hh
      go_wp2_with fail
      go_ret
      rw [HE.out]
      exact ⟨rfl, hb1.trans (hb.mono hb1.size)⟩
    | true =>
      have hy := OK.out.id hh
      have hj := has_pos hh
      have HJ : Hid (atG L y = (pos L y : Int)) := Lib.hid (atG_yes hh)
      have HV : Hid (∀ X, Below w1.heap.size w1 X → X.cell? ⟨b, pos L y * 5 + 1, none⟩ = some (.int .i64 (gr L y).pa)) := Lib.hid fun X hX => (HR.out.cl X hX).pa hj
      have HP := Lib.hid (OK.out.pa hh)
      have HS := Lib.hid (OK.out.below_step hh t)
      have HM : Hid ((pth L (gr L y).pa).length < (pth L y).length) := Lib.hid (by rw [OK.out.yes hh, List.length_cons]; omega)
      clear hh
      have hy0 : 0 ≤ y := by omega
      clear hy
      by_cases e : y = t
      · subst e
        have HE : Hid (belowB L x y = true) := Lib.hid (by rw [HN.out, HS.out]; simp)
        have hyy : (y == y) = true := by simp
        go_wp2_with fail
        go_ret
        rw [HE.out]
        exact ⟨rfl, hb1.trans (hb.mono hb1.size)⟩
      · have HE : Hid (belowB L x t = belowB L (gr L y).pa t) := Lib.hid (by rw [HN.out, HS.out, decide_eq_false e, Bool.false_or])
        have e2 := beq_ff e
        clear HS HN e
        generalize (gr L y).pa = pa at *
        generalize pos L y = j at *
        go_wp2_with fail
        have hq : Below w1.heap.size w1 wr.drew := Below.drewS hb
        refine Rd.region (fun X => Below w1.heap.size w1 X) 9 [0, 1, 2, 3, 5, 6, 7, 8] [0, 1, 2, 3, 4, 5, 6, 7, 8] (by kernel_rfl) (by kernel_rfl) (by kernel_rfl) (by kernel_rfl) rfl hq ?_
        refine Rd.seq_float (.pointer (some ⟨w.heap.size, 2, none⟩)) (by simp only [List.getElem?_toArray, List.getElem?_cons_zero]; rfl) rfl (by rfl) (fun X _ => by go_simp) ?_
        simp only [Act.put, List.setIfInBounds_toArray, List.set_cons_succ, List.set_cons_zero]
        refine Rd.seq_float (.slice (some ⟨b, 0, none⟩) L.length c) (by simp only [List.getElem?_toArray, List.getElem?_cons_succ, List.getElem?_cons_zero]; rfl) rfl (by rfl) (fun X hX => by have e2 := cF2 (HR.out.box X hX); go_simp) ?_
        simp only [Act.put, List.setIfInBounds_toArray, List.set_cons_succ, List.set_cons_zero]
        refine Rd.seq_float (.agg #[.int .i64 r, .int .i64 m, .slice (some ⟨b, 0, none⟩) L.length c]) (by simp only [List.getElem?_toArray, List.getElem?_cons_succ, List.getElem?_cons_zero]; rfl) rfl (by rfl) (fun X hX => run_load30 rfl rfl (HR.out.box X hX)) ?_
        simp only [Act.put, List.setIfInBounds_toArray, List.set_cons_succ, List.set_cons_zero]
        refine Rd.seq_float (.int .i64 y) (by simp only [List.getElem?_toArray, List.getElem?_cons_succ, List.getElem?_cons_zero]; rfl) rfl (by rfl) (fun X _ => by go_simp) ?_
        simp only [Act.put, List.setIfInBounds_toArray, List.set_cons_succ, List.set_cons_zero]
        refine Rd.seq_move (by simp only [List.getElem?_toArray, List.getElem?_cons_succ, List.getElem?_cons_zero]; rfl) rfl (by rfl) (fun K hK => ?_)
        go_simp
        refine (HR.out.at' _ _ hq).mono ?_
        rw [HJ.out]
        rintro e w3 ⟨rfl, hb3⟩
        refine hK _ _ (fun _ => hb3) ?_
        clear hK K
        refine Rd.seq_float (.pointer (some ⟨b, j * 5, none⟩)) (by simp only [List.getElem?_toArray, List.getElem?_cons_succ, List.getElem?_cons_zero]; rfl) rfl (by rfl) (fun X _ => by first | (go_simp; done) | (go_simp; intro hx; omega)) ?_
        simp only [Act.put, List.setIfInBounds_toArray, List.set_cons_succ, List.set_cons_zero]
        refine Rd.seq_float (.pointer (some ⟨b, j * 5 + 1, none⟩)) (by simp only [List.getElem?_toArray, List.getElem?_cons_succ, List.getElem?_cons_zero]; rfl) rfl (by rfl) (fun X _ => by go_simp) ?_
        simp only [Act.put, List.setIfInBounds_toArray, List.set_cons_succ, List.set_cons_zero]
        refine Rd.seq_float (.int .i64 pa) (by simp only [List.getElem?_toArray, List.getElem?_cons_succ, List.getElem?_cons_zero]; rfl) rfl (by rfl) (fun X hX => by have e2 := HV.out X hX; go_simp) ?_
        simp only [Act.put, List.setIfInBounds_toArray, List.set_cons_succ, List.set_cons_zero]
        refine Rd.seq_float (.int .i64 pa) (by simp only [List.getElem?_toArray, List.getElem?_cons_succ, List.getElem?_cons_zero]; rfl) rfl (by rfl) (fun X _ => by go_simp) ?_
        simp only [Act.put, List.setIfInBounds_toArray, List.set_cons_succ, List.set_cons_zero]
        refine Rd.seq_end ?_
        go_wp2_with fail
        exact ⟨⟨pa, rfl, HP, HE, hb3⟩, HM.out⟩
set_option maxRecDepth 100000 in
set_option maxHeartbeats 4000000 in
theorem rRoot_any (x : Int) (m0 k : Int) (w : World) (h : RowG w (.slice a L.length c) L) (ok : Ok L m0 k) (hh : has L x = true) :
    Calls Try.prog 35 #[.agg (cellsF r m (.slice a L.length c)), .int .i64 x] w fun e w' => e = .returned (.int .i64 (topI L x)) ∧ Below w.heap.size w w' := by
  have hne := has_pos_len hh
  have n64 := ok.n64
  obtain ⟨b, rfl, hR⟩ := Rdd.of (r := r) (m := m) h ok.n64 hne
  have hb1 : Below w.heap.size w (w.alloc (.cells #[.int .i64 r, .int .i64 m, .slice (some ⟨b, 0, none⟩) L.length c] 30)) := (Below.refl _ w).alloc (Nat.le_refl _) _
  have OK := Lib.hid ok
  have HR := Lib.hid hR
  clear h ok hR hne
  unfold cellsF
  go_enter Try.func35, Try.ntmps35
  go_wp2_with fail
  generalize w.alloc (.cells #[.int .i64 r, .int .i64 m, .slice (some ⟨b, 0, none⟩) L.length c] 30) = w1 at *
  go_loopw [1] (fun i wr => ∃ y : Int, i = .int .i64 y ∧ Hid (has L y = true) ∧ Hid (topI L x = topI L y) ∧ Below w1.heap.size w1 wr) (fun i _ => (pth L (intOf i)).length)
  case atStart => exact ⟨x, rfl, Lib.hid hh, Lib.hid rfl, Below.refl _ _⟩
  case round =>
    clear hh
    obtain ⟨y, rfl, HY, HN, hb⟩ := hrel
    have hh := HY.out
    have hq : Below w1.heap.size w1 wr.drew := Below.drewS hb
    have hy := OK.out.id hh
    have hj := has_pos hh
    have HJ : Hid (atG L y = (pos L y : Int)) := Lib.hid (atG_yes hh)
    have HV : Hid (∀ X, Below w1.heap.size w1 X → X.cell? ⟨b, pos L y * 5 + 1, none⟩ = some (.int .i64 (gr L y).pa)) := Lib.hid fun X hX => (HR.out.cl X hX).pa hj
    have HP := Lib.hid (OK.out.pa hh)
    have HM : Hid ((pth L (gr L y).pa).length < (pth L y).length) := Lib.hid (by rw [OK.out.yes hh, List.length_cons]; omega)
    rcases OK.out.pa hh with hp | hp
    · have HE : Hid (topI L x = y) := Lib.hid (by rw [HN.out]; exact OK.out.top_end hh hp)
      clear HM HP HN HY hh
      rw [hp] at HV
      clear hp
      generalize pos L y = j at *
      go_wp2_with fail
      refine Rd.region (fun X => Below w1.heap.size w1 X) 9 [0, 1, 2, 3, 5, 6, 7, 8] [0, 1, 2, 3, 4, 5, 6, 7, 8] (by kernel_rfl) (by kernel_rfl) (by kernel_rfl) (by kernel_rfl) rfl hq ?_
      refine Rd.seq_float (.pointer (some ⟨w.heap.size, 2, none⟩)) (by simp only [List.getElem?_toArray, List.getElem?_cons_zero]; rfl) rfl (by rfl) (fun X _ => by go_simp) ?_
      simp only [Act.put, List.setIfInBounds_toArray, List.set_cons_succ, List.set_cons_zero]
      refine Rd.seq_float (.slice (some ⟨b, 0, none⟩) L.length c) (by simp only [List.getElem?_toArray, List.getElem?_cons_succ, List.getElem?_cons_zero]; rfl) rfl (by rfl) (fun X hX => by have e2 := cF2 (HR.out.box X hX); go_simp) ?_
      simp only [Act.put, List.setIfInBounds_toArray, List.set_cons_succ, List.set_cons_zero]
      refine Rd.seq_float (.agg #[.int .i64 r, .int .i64 m, .slice (some ⟨b, 0, none⟩) L.length c]) (by simp only [List.getElem?_toArray, List.getElem?_cons_succ, List.getElem?_cons_zero]; rfl) rfl (by rfl) (fun X hX => run_load30 rfl rfl (HR.out.box X hX)) ?_
      simp only [Act.put, List.setIfInBounds_toArray, List.set_cons_succ, List.set_cons_zero]
      refine Rd.seq_float (.int .i64 y) (by simp only [List.getElem?_toArray, List.getElem?_cons_succ, List.getElem?_cons_zero]; rfl) rfl (by rfl) (fun X _ => by go_simp) ?_
      simp only [Act.put, List.setIfInBounds_toArray, List.set_cons_succ, List.set_cons_zero]
      refine Rd.seq_move (by simp only [List.getElem?_toArray, List.getElem?_cons_succ, List.getElem?_cons_zero]; rfl) rfl (by rfl) (fun K hK => ?_)
      go_simp
      refine (HR.out.at' _ _ hq).mono ?_
      rw [HJ.out]
      rintro e w3 ⟨rfl, hb3⟩
      refine hK _ _ (fun _ => hb3) ?_
      clear hK K
      refine Rd.seq_float (.pointer (some ⟨b, j * 5, none⟩)) (by simp only [List.getElem?_toArray, List.getElem?_cons_succ, List.getElem?_cons_zero]; rfl) rfl (by rfl) (fun X _ => by first | (go_simp; done) | (go_simp; intro hx; omega)) ?_
      simp only [Act.put, List.setIfInBounds_toArray, List.set_cons_succ, List.set_cons_zero]
      refine Rd.seq_float (.pointer (some ⟨b, j * 5 + 1, none⟩)) (by simp only [List.getElem?_toArray, List.getElem?_cons_succ, List.getElem?_cons_zero]; rfl) rfl (by rfl) (fun X _ => by go_simp) ?_
      simp only [Act.put, List.setIfInBounds_toArray, List.set_cons_succ, List.set_cons_zero]
      refine Rd.seq_float (.int .i64 (-1)) (by simp only [List.getElem?_toArray, List.getElem?_cons_succ, List.getElem?_cons_zero]; rfl) rfl (by rfl) (fun X hX => by have e2 := HV.out X hX; go_simp) ?_
      simp only [Act.put, List.setIfInBounds_toArray, List.set_cons_succ, List.set_cons_zero]
      refine Rd.seq_float (.bool false) (by simp only [List.getElem?_toArray, List.getElem?_cons_succ, List.getElem?_cons_zero]; rfl) rfl (by rfl) (fun X _ => by go_simp) ?_
      simp only [Act.put, List.setIfInBounds_toArray, List.set_cons_succ, List.set_cons_zero]
      refine Rd.seq_end ?_
      go_wp2_with fail
      go_ret
      rw [HE.out]
      exact ⟨rfl, hb1.trans (hb3.mono hb1.size)⟩
    · have HE : Hid (topI L x = topI L (gr L y).pa) := Lib.hid (by rw [HN.out]; exact OK.out.top_step hh hp)
      have hp0 : 0 ≤ (gr L y).pa := by have := OK.out.id hp; omega
      have HPP := Lib.hid hp
      clear HP HN HY hh hp
      generalize (gr L y).pa = pa at *
      generalize pos L y = j at *
      go_wp2_with fail
      refine Rd.region (fun X => Below w1.heap.size w1 X) 9 [0, 1, 2, 3, 5, 6, 7, 8] [0, 1, 2, 3, 4, 5, 6, 7, 8] (by kernel_rfl) (by kernel_rfl) (by kernel_rfl) (by kernel_rfl) rfl hq ?_
      refine Rd.seq_float (.pointer (some ⟨w.heap.size, 2, none⟩)) (by simp only [List.getElem?_toArray, List.getElem?_cons_zero]; rfl) rfl (by rfl) (fun X _ => by go_simp) ?_
      simp only [Act.put, List.setIfInBounds_toArray, List.set_cons_succ, List.set_cons_zero]
      refine Rd.seq_float (.slice (some ⟨b, 0, none⟩) L.length c) (by simp only [List.getElem?_toArray, List.getElem?_cons_succ, List.getElem?_cons_zero]; rfl) rfl (by rfl) (fun X hX => by have e2 := cF2 (HR.out.box X hX); go_simp) ?_
      simp only [Act.put, List.setIfInBounds_toArray, List.set_cons_succ, List.set_cons_zero]
      refine Rd.seq_float (.agg #[.int .i64 r, .int .i64 m, .slice (some ⟨b, 0, none⟩) L.length c]) (by simp only [List.getElem?_toArray, List.getElem?_cons_succ, List.getElem?_cons_zero]; rfl) rfl (by rfl) (fun X hX => run_load30 rfl rfl (HR.out.box X hX)) ?_
      simp only [Act.put, List.setIfInBounds_toArray, List.set_cons_succ, List.set_cons_zero]
      refine Rd.seq_float (.int .i64 y) (by simp only [List.getElem?_toArray, List.getElem?_cons_succ, List.getElem?_cons_zero]; rfl) rfl (by rfl) (fun X _ => by go_simp) ?_
      simp only [Act.put, List.setIfInBounds_toArray, List.set_cons_succ, List.set_cons_zero]
      refine Rd.seq_move (by simp only [List.getElem?_toArray, List.getElem?_cons_succ, List.getElem?_cons_zero]; rfl) rfl (by rfl) (fun K hK => ?_)
      go_simp
      refine (HR.out.at' _ _ hq).mono ?_
      rw [HJ.out]
      rintro e w3 ⟨rfl, hb3⟩
      refine hK _ _ (fun _ => hb3) ?_
      clear hK K
      refine Rd.seq_float (.pointer (some ⟨b, j * 5, none⟩)) (by simp only [List.getElem?_toArray, List.getElem?_cons_succ, List.getElem?_cons_zero]; rfl) rfl (by rfl) (fun X _ => by first | (go_simp; done) | (go_simp; intro hx; omega)) ?_
      simp only [Act.put, List.setIfInBounds_toArray, List.set_cons_succ, List.set_cons_zero]
      refine Rd.seq_float (.pointer (some ⟨b, j * 5 + 1, none⟩)) (by simp only [List.getElem?_toArray, List.getElem?_cons_succ, List.getElem?_cons_zero]; rfl) rfl (by rfl) (fun X _ => by go_simp) ?_
      simp only [Act.put, List.setIfInBounds_toArray, List.set_cons_succ, List.set_cons_zero]
      refine Rd.seq_float (.int .i64 pa) (by simp only [List.getElem?_toArray, List.getElem?_cons_succ, List.getElem?_cons_zero]; rfl) rfl (by rfl) (fun X hX => by have e2 := HV.out X hX; go_simp) ?_
      simp only [Act.put, List.setIfInBounds_toArray, List.set_cons_succ, List.set_cons_zero]
      refine Rd.seq_float (.bool true) (by simp only [List.getElem?_toArray, List.getElem?_cons_succ, List.getElem?_cons_zero]; rfl) rfl (by rfl) (fun X _ => by go_simp) ?_
      simp only [Act.put, List.setIfInBounds_toArray, List.set_cons_succ, List.set_cons_zero]
      refine Rd.seq_end ?_
      go_wp2_with fail
      have hq2 : Below w1.heap.size w1 w3.drew := Below.drewS hb3
      refine Rd.region (fun X => Below w1.heap.size w1 X) 9 [0, 1, 2, 3, 5, 6, 7, 8] [0, 1, 2, 3, 4, 5, 6, 7, 8] (by kernel_rfl) (by kernel_rfl) (by kernel_rfl) (by kernel_rfl) rfl hq2 ?_
      refine Rd.seq_float (.pointer (some ⟨w.heap.size, 2, none⟩)) (by simp only [List.getElem?_toArray, List.getElem?_cons_zero]; rfl) rfl (by rfl) (fun X _ => by go_simp) ?_
      simp only [Act.put, List.setIfInBounds_toArray, List.set_cons_succ, List.set_cons_zero]
      refine Rd.seq_float (.slice (some ⟨b, 0, none⟩) L.length c) (by simp only [List.getElem?_toArray, List.getElem?_cons_succ, List.getElem?_cons_zero]; rfl) rfl (by rfl) (fun X hX => by have e2 := cF2 (HR.out.box X hX); go_simp) ?_
      simp only [Act.put, List.setIfInBounds_toArray, List.set_cons_succ, List.set_cons_zero]
      refine Rd.seq_float (.agg #[.int .i64 r, .int .i64 m, .slice (some ⟨b, 0, none⟩) L.length c]) (by simp only [List.getElem?_toArray, List.getElem?_cons_succ, List.getElem?_cons_zero]; rfl) rfl (by rfl) (fun X hX => run_load30 rfl rfl (HR.out.box X hX)) ?_
      simp only [Act.put, List.setIfInBounds_toArray, List.set_cons_succ, List.set_cons_zero]
      refine Rd.seq_float (.int .i64 y) (by simp only [List.getElem?_toArray, List.getElem?_cons_succ, List.getElem?_cons_zero]; rfl) rfl (by rfl) (fun X _ => by go_simp) ?_
      simp only [Act.put, List.setIfInBounds_toArray, List.set_cons_succ, List.set_cons_zero]
      refine Rd.seq_move (by simp only [List.getElem?_toArray, List.getElem?_cons_succ, List.getElem?_cons_zero]; rfl) rfl (by rfl) (fun K hK => ?_)
      go_simp
      refine (HR.out.at' _ _ hq2).mono ?_
      rw [HJ.out]
      rintro e w4 ⟨rfl, hb4⟩
      refine hK _ _ (fun _ => hb4) ?_
      clear hK K
      refine Rd.seq_float (.pointer (some ⟨b, j * 5, none⟩)) (by simp only [List.getElem?_toArray, List.getElem?_cons_succ, List.getElem?_cons_zero]; rfl) rfl (by rfl) (fun X _ => by first | (go_simp; done) | (go_simp; intro hx; omega)) ?_
      simp only [Act.put, List.setIfInBounds_toArray, List.set_cons_succ, List.set_cons_zero]
      refine Rd.seq_float (.pointer (some ⟨b, j * 5 + 1, none⟩)) (by simp only [List.getElem?_toArray, List.getElem?_cons_succ, List.getElem?_cons_zero]; rfl) rfl (by rfl) (fun X _ => by go_simp) ?_
      simp only [Act.put, List.setIfInBounds_toArray, List.set_cons_succ, List.set_cons_zero]
      refine Rd.seq_float (.int .i64 pa) (by simp only [List.getElem?_toArray, List.getElem?_cons_succ, List.getElem?_cons_zero]; rfl) rfl (by rfl) (fun X hX => by have e2 := HV.out X hX; go_simp) ?_
      simp only [Act.put, List.setIfInBounds_toArray, List.set_cons_succ, List.set_cons_zero]
      refine Rd.seq_float (.int .i64 pa) (by simp only [List.getElem?_toArray, List.getElem?_cons_succ, List.getElem?_cons_zero]; rfl) rfl (by rfl) (fun X _ => by go_simp) ?_
      simp only [Act.put, List.setIfInBounds_toArray, List.set_cons_succ, List.set_cons_zero]
      refine Rd.seq_end ?_
      go_wp2_with fail
      exact ⟨⟨pa, rfl, HPP, HE, hb4⟩, HM.out⟩
end
end Go.Proofs.Ythndfhkkaichiaa
