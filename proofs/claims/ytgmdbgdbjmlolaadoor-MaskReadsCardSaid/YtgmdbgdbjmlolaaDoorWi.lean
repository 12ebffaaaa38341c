/-
  The contract of the document's answer roundelref01.Of; and the walk of the statement MaskOf. Condition: the table of math/bits lies as its initialiser lays it.
-/
import Derived.Test.YtgmdbgdbjmlolaaDoorWf
import Derived.Test.YtgmdbgdbjmlolaaDoorWe
import Derived.Laws.ResultCell
namespace Go.Proofs.YtgmdbgdbjmlolaaDoor
open Go.RowKit Go.Shelf

section
variable {ops : Array Oper} {rest : List Oper} {o : Oper} {a : Act} {w : World} {Q : Exit → Act → World → Prop}
/-- a load of 64 bools whose guard says yes. -/
theorem wpList_load30g (hg : Region.wanted o (yielded ops a.tmps) = true) (x : Operand) (ho : o.op = .load 30 x) (b : Nat) (f : Nat → Bool) (hx : a.eval x = .pointer (some ⟨b, 0, none⟩)) (hw : IsArr w b f) (h : wpList Tryd.prog ops Q rest (a.put o.dst (.agg (arrB f))) w) : wpList Tryd.prog ops Q (o :: rest) a w := by
  unfold wpList
  rw [if_pos hg]
  exact .inl (wp_load_row 30 x ho b hx 30 _ (0, 0) _ hw Tryd.underlying30 rfl (size30 f) h)
end
theorem results30 {fn : Func} {p u : Tmp} (h : fn.results = #[.cell p 30, .tmp u]) (tmps : Array Value) (w : World) (b : Nat) (f : Nat → Bool) (v : Value) (hp : tmps.getD p undef = .pointer (some ⟨b, 0, none⟩)) (hv : tmps.getD u undef = v) (hw : IsArr w b f) :
    (results fn tmps).run Tryd.prog w = .ok (.tuple #[.agg (arrB f), v]) w := by
  rw [results_cell_tmp h, hp, hv]
  simp only [asAddr, Sem.run_pure, Result.andThen_ok, run_loadVar_row w b 30 30 _ (0, 0) _ hw Tryd.underlying30 rfl (size30 f)]
theorem upd_with {N k : Nat} (hk : k < 64) : arrB (upd N.testBit k true) = arrB (withN N (k : Int)).testBit := arrB_ext fun i _ => by
  rw [withN_bit hk]
  unfold upd
  by_cases h : i = k
  · subst h; simp
  · have h' : ¬ k = i := fun e => h e.symm
    simp [h, h']
theorem IsArr.cast {w : World} {b : Nat} {f g : Nat → Bool} (h : IsArr w b f) (e : arrB f = arrB g) : IsArr w b g := by unfold IsArr at *; rw [← e]; exact h

set_option maxRecDepth 100000 in
set_option maxHeartbeats 2000000 in
theorem RefOf_any (b off cap : Nat) (l : List Int) (w : World) (hl : l.length ≤ maxLen) (hbw : b < w.heap.size)
    (hcell : ∀ j, j < l.length → w.cell? ⟨b, off + j, none⟩ = some (.int .i64 (l.getD j 0))) :
    Calls Tryd.prog 12 #[.slice (some ⟨b, off, none⟩) l.length cap] w fun e w' => e = .returned (.tuple #[.agg (arrB (ofPair l).1.testBit), .int .i64 (ofPair l).2]) ∧ Below w.heap.size w w' := by
  unfold maxLen at hl
  have HC := Lib.hid hcell
  clear hcell
  generalize hp : ofPair l = p
  have HP := Lib.hid hp
  clear hp
  have hz1 : IsArr ((w.alloc (.cells (arrB fun _ => false) 30)).alloc (.cells (arrB fun _ => false) 30)) (w.heap.size + 1) (fun _ => false) := by
    have h := IsArr.new (w.alloc (.cells (arrB fun _ => false) 30)) (fun _ => false)
    rw [World.size_alloc] at h
    exact h
  have hz0 : IsArr ((w.alloc (.cells (arrB fun _ => false) 30)).alloc (.cells (arrB fun _ => false) 30)) w.heap.size (fun _ => false) := (IsArr.new w _).alloc _
  have hB : Below w.heap.size w ((w.alloc (.cells (arrB fun _ => false) 30)).alloc (.cells (arrB fun _ => false) 30)) := ((Below.refl _ w).alloc (Nat.le_refl _) _).alloc (by simp) _
  go_enter Tryd.func12, Tryd.ntmps12
  go_wp2_with (first | (refine wpList_alloc30 rfl rfl ?_; try simp only [World.size_alloc]) | (refine wpList_build30 rfl rfl ?_) | (refine wpList_store30 rfl _ _ rfl (w.heap.size + 1) (fun _ => false) (fun _ => false) rfl rfl hz1 ?_; intro w1 i1 t1))
  have hi0 := hz0.turn t1 (by omega)
  have hb1 := hB.trans (t1.below (Nat.le_succ _))
  clear hz1 hz0 hB t1
  have ez : (fun _ : Nat => false) = (0 : Nat).testBit := by funext j; simp
  rw [ez] at i1
  clear ez
  go_loopw [9] (fun i wr => ∃ k n : Nat, k ≤ l.length ∧ i = .int .i64 k ∧ n < 18446744073709551616 ∧ Hid (foldOf l 0 = foldOf (l.drop k) n) ∧ IsArr wr (w.heap.size + 1) n.testBit ∧ IsArr wr w.heap.size (fun _ => false) ∧ Below w.heap.size w wr) (fun i _ => l.length - (intOf i).toNat)
  case atStart => exact ⟨0, 0, Nat.zero_le _, rfl, by omega, Lib.hid rfl, i1, hi0, hb1⟩
  case round =>
    obtain ⟨k, n, hk, rfl, hn, H, hi, hj, hb⟩ := hrel
    by_cases hlt : k < l.length
    · have hc : wr.cell? ⟨b, off + k, none⟩ = some (.int .i64 (l.getD k 0)) := (hb.cell (p := ⟨b, off + k, none⟩) hbw).trans (HC.out k hlt)
      have hd := drop_at hlt
      generalize l.getD k 0 = c at hc hd
      have h1 := H.out
      rw [hd, foldOf] at h1
      clear hd H
      cases hcb : coreB c
      · have HF : Hid (p = (0, 2)) := Lib.hid (by rw [← HP.out]; unfold ofPair; rw [h1, hcb]; rfl)
        have HB := Lib.hid hcb
        clear h1 hcb
        go_wp2_with (first | (go_at_call 16; refine (Core_is c false _ HB).mono ?_; rintro e w' ⟨rfl, rfl⟩) | (refine wpList_build30 rfl rfl ?_) | (refine wpList_store30 rfl _ _ rfl w.heap.size (fun _ => false) (fun _ => false) rfl rfl hj ?_; intro w2 i2 t2))
        refine bodyPost_ret (results30 rfl _ w2 w.heap.size (fun _ => false) (.int .i64 2) rfl rfl i2) rfl ?_
        refine ⟨?_, hb.trans (t2.below (Nat.le_refl _))⟩
        rw [HF.out]
        have ez : (fun _ : Nat => false) = (0 : Nat).testBit := by funext j; simp
        rw [ez]
      · have H2 := Lib.hid (h1.trans (by rw [hcb]; rfl) : foldOf l 0 = foldOf (l.drop (k + 1)) (withN n c))
        obtain ⟨m, hm, rfl⟩ := core_nat hcb
        have HB := Lib.hid hcb
        have hw := withN_lt (m : Int) hn
        have hc2 := hi.cell hm
        have hf2 := hi.frozen m
        clear h1 hcb
        go_wp2_with (go_at_call 16; refine (Core_is (m : Int) true _ HB).mono ?_; rintro e w' ⟨rfl, rfl⟩)
        exact ⟨⟨k + 1, withN n (m : Int), by omega, by go_num, hw, H2, (hi.set m true).cast (upd_with hm), hj.turn (Turn.setCell _ _ _ _) (by omega), hb.trans ((Turn.setCell _ _ _ _).below (Nat.le_succ _))⟩, by simp [intOf]; omega⟩
    · have HF : Hid (p = (n, 0)) := Lib.hid (by rw [← HP.out]; unfold ofPair; rw [H.out, List.drop_of_length_le (by omega)]; rfl)
      go_wp2_with (first | (refine wpList_load30 rfl _ rfl (w.heap.size + 1) n.testBit rfl hi ?_) | (refine wpList_store30 rfl _ _ rfl w.heap.size n.testBit (fun _ => false) rfl rfl hj ?_; intro w2 i2 t2))
      refine bodyPost_ret (results30 rfl _ w2 w.heap.size n.testBit (.int .i64 0) rfl rfl i2) rfl ?_
      exact ⟨by rw [HF.out], hb.trans (t2.below (Nat.le_refl _))⟩

set_option maxRecDepth 100000 in
set_option maxHeartbeats 2000000 in
theorem RefOf_nil (ad : Option Addr) (cap : Nat) (w : World) :
    Calls Tryd.prog 12 #[.slice ad 0 cap] w fun e w' => e = .returned (.tuple #[.agg (arrB (ofPair []).1.testBit), .int .i64 (ofPair []).2]) ∧ Below w.heap.size w w' := by
  have HP := Lib.hid (show ofPair [] = (0, 0) by rfl)
  generalize ofPair [] = p at HP ⊢
  have hz1 : IsArr ((w.alloc (.cells (arrB fun _ => false) 30)).alloc (.cells (arrB fun _ => false) 30)) (w.heap.size + 1) (fun _ => false) := by
    have h := IsArr.new (w.alloc (.cells (arrB fun _ => false) 30)) (fun _ => false)
    rw [World.size_alloc] at h
    exact h
  have hz0 : IsArr ((w.alloc (.cells (arrB fun _ => false) 30)).alloc (.cells (arrB fun _ => false) 30)) w.heap.size (fun _ => false) := (IsArr.new w _).alloc _
  have hB : Below w.heap.size w ((w.alloc (.cells (arrB fun _ => false) 30)).alloc (.cells (arrB fun _ => false) 30)) := ((Below.refl _ w).alloc (Nat.le_refl _) _).alloc (by simp) _
  go_enter Tryd.func12, Tryd.ntmps12
  go_wp2_with (first | (refine wpList_alloc30 rfl rfl ?_; try simp only [World.size_alloc]) | (refine wpList_build30 rfl rfl ?_) | (refine wpList_store30 rfl _ _ rfl (w.heap.size + 1) (fun _ => false) (fun _ => false) rfl rfl hz1 ?_; intro w1 i1 t1))
  have hi0 := hz0.turn t1 (by omega)
  have hb1 := hB.trans (t1.below (Nat.le_succ _))
  clear hz1 hz0 hB t1
  refine wp_loop_rounds 1 ?_
  rw [rounds_succ]
  go_wp2_with (first | (refine wpList_load30 rfl _ rfl (w.heap.size + 1) (fun _ => false) rfl i1 ?_) | (refine wpList_store30 rfl _ _ rfl w.heap.size (fun _ => false) (fun _ => false) rfl rfl hi0 ?_; intro w2 i2 t2))
  refine bodyPost_ret (results30 rfl _ w2 w.heap.size (fun _ => false) (.int .i64 0) rfl rfl i2) rfl ?_
  refine ⟨?_, hb1.trans (t2.below (Nat.le_refl _))⟩
  rw [HP.out]
  have ez : (fun _ : Nat => false) = (0 : Nat).testBit := by funext j; simp
  rw [ez]

theorem Is_same (N : Nat) (w : World) (hN : N < 18446744073709551616) :
    Calls Tryd.prog 13 #[.int .u64 N, .agg (arrB N.testBit)] w fun e w' => e = .returned (.bool true) ∧ Below w.heap.size w w' := by
  have h := Is_any N N w hN
  rw [show ((N : Int) == (N : Int)) = true by simp] at h
  exact h
theorem ofPair_lt (l : List Int) : (ofPair l).1 < 18446744073709551616 := by
  have h : ∀ (l : List Int) (n m : Nat), n < 18446744073709551616 → foldOf l n = some m → m < 18446744073709551616 := by
    intro l
    induction l with
    | nil => intro n m hn h; simp only [foldOf, Option.some.injEq] at h; omega
    | cons c r ih =>
      intro n m hn h
      unfold foldOf at h
      split at h
      · exact ih _ _ (withN_lt c hn) h
      · cases h
  unfold ofPair
  cases he : foldOf l 0 with
  | none => simp
  | some n => exact h l 0 n (by omega) he

set_option maxRecDepth 100000 in
set_option maxHeartbeats 2000000 in
/-- the walk of MaskOf where the slice is short, out of what Of and the document's Of answer. -/
theorem of_core (v : Value) (len N : Nat) (code : Int) (w : World) (hT : Tab w) (hw : 0 < w.heap.size) (hlen : len ≤ 100) (hN : N < 18446744073709551616)
    (hv : ∃ ad cap, v = .slice ad len cap)
    (h11 : ∀ W, Below w.heap.size w W → Calls Tryd.prog 11 #[v] W fun e w' => e = .returned (.tuple #[.int .u64 N, .int .i64 code]) ∧ W = w')
    (h12 : ∀ W, Below w.heap.size w W → Calls Tryd.prog 12 #[v] W fun e w' => e = .returned (.tuple #[.agg (arrB N.testBit), .int .i64 code]) ∧ Below W.heap.size W w') :
    Calls Tryd.prog 3 #[v] w fun e w' => e = .returned (.bool true) ∧ Below w.heap.size w w' := by
  obtain ⟨ad, cap, rfl⟩ := hv
  have H11 := Lib.hid h11
  have H12 := Lib.hid h12
  clear h11 h12
  go_enter Tryd.func3, Tryd.ntmps3
  go_wp2_with fail
  refine (awake_any w hT hw).mono ?_
  rintro e w1 ⟨rfl, hb1⟩
  go_wp2_with fail
  refine (H11.out _ hb1).mono ?_
  rintro e w' ⟨rfl, rfl⟩
  go_wp2_with fail
  refine (H12.out _ hb1).mono ?_
  rintro e w2 ⟨rfl, hb2⟩
  have hI := IsArr.new w2 (fun _ => false)
  have hb : Below w.heap.size w w2 := hb1.trans (hb2.mono hb1.size)
  go_wp2_with (first | (refine wpList_alloc30 rfl rfl ?_) | (refine wpList_store30 rfl _ _ rfl w2.heap.size N.testBit (fun _ => false) rfl rfl hI ?_; intro w5 i5 t5) | (refine wpList_load30g rfl _ rfl w2.heap.size N.testBit rfl i5 ?_) | (go_at_call 13; refine (Is_same N _ hN).mono ?_; rintro e w6 ⟨rfl, hb6⟩))
  go_ret
  have hb5 : Below w.heap.size w w5 := (hb.trans ((Below.refl _ w2).alloc hb.size _)).trans (t5.below hb.size)
  exact ⟨rfl, hb5.trans (hb6.mono hb5.size)⟩

set_option maxHeartbeats 1000000 in
/-- where the slice is long, nothing is asked. -/
theorem of_long (ad : Option Addr) (len cap : Nat) (w : World) (hT : Tab w) (hw : 0 < w.heap.size) (hlen : 100 < len) :
    Calls Tryd.prog 3 #[.slice ad len cap] w fun e w' => e = .returned (.bool true) ∧ Below w.heap.size w w' := by
  go_enter Tryd.func3, Tryd.ntmps3
  go_wp2_with fail
  refine (awake_any w hT hw).mono ?_
  rintro e w1 ⟨rfl, hb1⟩
  go_wp2_with fail
  refine (awake_any w1 (hT.below hb1 hw) (Nat.lt_of_lt_of_le hw hb1.size)).mono ?_
  rintro e w2 ⟨rfl, hb2⟩
  go_wp2_with fail
  go_ret
  exact ⟨rfl, hb1.trans (hb2.mono hb1.size)⟩

/-- MaskOf is true at any slice of ints. -/
theorem of_any (b off cap : Nat) (l : List Int) (w : World) (hT : Tab w) (hw : 0 < w.heap.size) (hl : l.length ≤ maxLen) (hbw : b < w.heap.size)
    (hcell : ∀ j, j < l.length → w.cell? ⟨b, off + j, none⟩ = some (.int .i64 (l.getD j 0))) :
    Calls Tryd.prog 3 #[.slice (some ⟨b, off, none⟩) l.length cap] w fun e w' => e = .returned (.bool true) ∧ Below w.heap.size w w' := by
  by_cases hlen : l.length ≤ 100
  · refine of_core _ l.length (ofPair l).1 (ofPair l).2 w hT hw hlen (ofPair_lt l) ⟨_, _, rfl⟩ (fun W hb => ?_) (fun W hb => ?_)
    · exact Of_any b off cap l W hl (fun j hj => (hb.cell (p := ⟨b, off + j, none⟩) hbw).trans (hcell j hj))
    · exact RefOf_any b off cap l W hl (Nat.lt_of_lt_of_le hbw hb.size) (fun j hj => (hb.cell (p := ⟨b, off + j, none⟩) hbw).trans (hcell j hj))
  · exact of_long _ _ _ w hT hw (by omega)
theorem of_nil (ad : Option Addr) (cap : Nat) (w : World) (hT : Tab w) (hw : 0 < w.heap.size) :
    Calls Tryd.prog 3 #[.slice ad 0 cap] w fun e w' => e = .returned (.bool true) ∧ Below w.heap.size w w' :=
  of_core _ 0 (ofPair []).1 (ofPair []).2 w hT hw (by omega) (ofPair_lt []) ⟨_, _, rfl⟩ (fun W _ => Of_nil ad cap W) (fun W _ => RefOf_nil ad cap W)
end Go.Proofs.YtgmdbgdbjmlolaaDoor
