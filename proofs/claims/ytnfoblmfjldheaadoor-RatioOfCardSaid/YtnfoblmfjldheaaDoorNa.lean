/-
  Contracts of package nat: trim, limb, Good, Of, Cmp; and cmp.Compare. No condition but that slices are not longer than a million limbs.
-/
import Derived.Test.YtnfoblmfjldheaaDoorBk
namespace Go.Proofs.YtnfoblmfjldheaaDoor
open Go.RowKit Go.Dig Go.Shelf Go.Proofs
attribute [local go_sem] Oper.semAt_some

theorem Tryd.info64 : (Tryd.prog.info? 64).map (fun i => (i.zero, i.size, i.bytes)) = some (some (.int .u64 0), 1, 8) := by kernel_rfl
/-- a limb as a value. -/
def encU (c : Nat) : Value := .int .u64 (c : Int)
theorem RowU.of_owns {w : World} {B : Nat} {v : Value} {l : List Nat} (h : w.ownsRow B 64 1 v l.length (l.map encU)) : RowU w v l := by
  rcases h.2 with ⟨rfl, h1⟩ | ⟨g, cap, cur, rfl, h2, h3⟩
  · have : l = [] := List.eq_nil_of_length_eq_zero h1
    subst this
    exact ⟨_, _, rfl, Nat.le_refl _, fun h => absurd rfl h⟩
  · refine ⟨_, cap, rfl, h3.2.1, fun _ => ⟨g, 0, rfl, (Array.getElem?_eq_some_iff.1 h3.1).1, fun j hj => ?_⟩⟩
    rw [Nat.zero_add, h.cellAt j (by omega)]
    simp [List.getD, hj, encU]

/-! ### limb -/
set_option maxHeartbeats 1000000 in
theorem limb_any (v : Value) (l : List Nat) (i : Nat) (w : World) (h : RowU w v l) (hl : l.length ≤ 1000000) (_hi : i ≤ 1000000) :
    Calls Tryd.prog 70 #[v, .int .i64 (i : Int)] w fun e w' => e = .returned (.int .u64 (l.getD i 0 : Nat)) ∧ w = w' := by
  obtain ⟨ad, cap, rfl, hcap, h2⟩ := h
  by_cases hlt : i < l.length
  · obtain ⟨b, off, rfl, hb, hc⟩ := h2 (by rintro rfl; simp at hlt)
    have hci := hc i hlt
    generalize l.getD i 0 = x at hci ⊢
    clear hc h2
    go_enter Tryd.func70, Tryd.ntmps70
    go_wp2_with fail
    go_ret
    exact ⟨rfl, rfl⟩
  · have e : l.getD i 0 = 0 := by simp [List.getD, Nat.le_of_not_lt hlt]
    rw [e]
    clear h2
    go_enter Tryd.func70, Tryd.ntmps70
    go_wp2_with fail
    go_ret
    exact ⟨rfl, rfl⟩

/-! ### trim -/
theorem trim_take : ∀ (l : List Nat), trim l = l.take (trim l).length
  | [] => rfl
  | d :: l => by
    have ih := trim_take l
    unfold trim
    split
    · rfl
    · rw [List.length_cons, List.take_succ_cons, ← ih]
theorem trim_len (l : List Nat) : (trim l).length ≤ l.length := by
  have h := congrArg List.length (trim_take l)
  rw [List.length_take] at h
  omega
/-- what trim answers: a piece of the same memory. -/
def trimV (ad : Option Addr) (cap : Nat) (l : List Nat) : Value := if trim l = [] then .slice none 0 0 else .slice ad (trim l).length cap
theorem RowU.trimmed {w : World} {ad : Option Addr} {n cap : Nat} {l : List Nat} (h : RowU w (.slice ad n cap) l) : RowU w (trimV ad cap l) (trim l) := by
  unfold trimV
  by_cases h0 : trim l = []
  · rw [if_pos h0, h0]; exact ⟨_, _, rfl, Nat.le_refl _, fun h => absurd rfl h⟩
  · rw [if_neg h0]
    have h1 := h.take (trim_len l)
    rw [← trim_take] at h1
    exact h1

set_option maxRecDepth 100000 in
set_option maxHeartbeats 2000000 in
theorem nTrim_any (ad : Option Addr) (cap : Nat) (l : List Nat) (w : World) (h : RowU w (.slice ad l.length cap) l) (hl : l.length ≤ 1000000) :
    Calls Tryd.prog 60 #[.slice ad l.length cap] w fun e w' => e = .returned (trimV ad cap l) ∧ Below w.heap.size w w' := by
  have R := Lib.hid h
  have hcap : l.length ≤ cap := by obtain ⟨_, _, e, h1, _⟩ := h; cases e; exact h1
  clear h
  refine (callsIn_wide (n := 3)).1 ?_
  refine callsIn_of_wp_marks Tryd.func60 rfl trivial ?_ rfl
  simp only [Tryd.ntmps60, List.size_toArray, List.length_cons, List.length_nil, Nat.reduceAdd, Nat.reduceSub, Array.replicate_succ, Array.replicate_zero, List.push_toArray, List.append_toArray, List.nil_append, List.cons_append]
  gi_wp2_with fail
  refine ⟨trivial, ?_⟩
  refine (callsIn_wide.2 (Backward_any _ _ _ _)).mono ?_
  rintro e w' ⟨rfl, rfl⟩
  gi_wp2_with fail
  have bA := Boxed.new w 28 (.slice ad l.length cap)
  have bR := Boxed.new (w.alloc (.cells #[.slice ad l.length cap] 28)) 28 (.slice none 0 0)
  rw [World.size_alloc] at bR
  have bC := Boxed.new ((w.alloc (.cells #[.slice ad l.length cap] 28)).alloc (.cells #[.slice none 0 0] 28)) 28 (.slice ad l.length cap)
  rw [World.size_alloc, World.size_alloc] at bC
  have hB0 : Below w.heap.size w (((w.alloc (.cells #[.slice ad l.length cap] 28)).alloc (.cells #[.slice none 0 0] 28)).alloc (.cells #[.slice ad l.length cap] 28)) := (((Below.refl _ w).alloc (Nat.le_refl _) _).alloc (by simp) _).alloc (by simp; omega) _
  refine range_back (w.heap.size + 1 + 1) ad l.length cap hl (fun k => l.getD k 0) rfl rfl bC.cell
    (fun m W => Hid (trim (l.take m) = trim l) ∧ Boxed W w.heap.size 28 (.slice ad l.length cap) ∧ Boxed W (w.heap.size + 1) 28 (.slice none 0 0) ∧ Boxed W (w.heap.size + 1 + 1) 28 (.slice ad l.length cap) ∧ Below w.heap.size w W)
    (fun c W => c = .ret ∧ Boxed W (w.heap.size + 1) 28 (trimV ad cap l) ∧ Below w.heap.size w W)
    (OwnFrom.and (ownFrom_pure _ _) (OwnFrom.and (Own.from (boxed_own _ _ _) _) (OwnFrom.and (Own.from (boxed_own _ _ _) _) (OwnFrom.and (Own.from (boxed_own _ _ _) _) (ownFrom_below (Nat.le_refl _) (by simp; omega))))))
    (OwnFrom.and (ownFrom_pure _ _) (OwnFrom.and (Own.from (boxed_own _ _ _) _) (ownFrom_below (Nat.le_refl _) (by simp; omega))))
    (fun k W hk hi => ⟨hi.2.2.2.1.cell, by
      obtain ⟨b, off, rfl, hb, hc⟩ := R.out.cell hk
      exact ⟨b, off, rfl, (hi.2.2.2.2.cell (p := ⟨b, off + k, none⟩) hb).trans hc⟩⟩)
    ⟨Lib.hid (by rw [List.take_length]), (bA.alloc _).alloc _, bR.alloc _, bC, hB0⟩
    (fun k => { tmps := #[.slice ad l.length cap, .pointer (some ⟨w.heap.size, 0, none⟩), .pointer (some ⟨w.heap.size + 1, 0, none⟩), .int .i64 (k : Int), .int .u64 (l.getD k 0 : Nat), .slice ad l.length cap, .func (.func 90) #[] #[.pointer (some ⟨w.heap.size + 1 + 1, 0, none⟩)], .int .i64 (k : Int), .int .u64 (l.getD k 0 : Nat), undef, undef, undef, undef, undef, undef], defers := [] }) ?assign ?body ?done ?stop
  case assign =>
    intro ll k W K hK
    gi_wp2
    exact hK
  case body =>
    rintro ll k W hk _ _ ⟨HT, bA, bR, bC, hB⟩
    have hc := bA.cell
    have hcr := bR.cell
    have hfr := bR.frozen
    have hsnoc : l.take (k + 1) = l.take k ++ [l.getD k 0] := by
      rw [List.take_add_one]; simp [List.getD, hk]
    by_cases hz : l.getD k 0 = 0
    · have HT2 : Hid (trim (l.take k) = trim l) := Lib.hid (by rw [← HT.out, hsnoc, hz, trim_snoc_zero])
      rw [hz]
      gi_wp2_with fail
      exact ⟨KeepsFrom.refl _ _, HT2, bA, bR, bC, hB⟩
    · have HT2 : Hid (trimV ad cap l = .slice ad (k + 1) cap) := Lib.hid (by
        have e : trim l = l.take (k + 1) := by rw [← HT.out, hsnoc, trim_snoc _ hz]
        have e2 : (trim l).length = k + 1 := by rw [e, List.length_take]; omega
        unfold trimV
        rw [if_neg (fun h => by rw [h] at e2; simp at e2), e2])
      have hne : ((l.getD k 0 : Nat) : Int) ≠ 0 := by omega
      generalize l.getD k 0 = x at hne
      gi_wp2_with fail
      exact ⟨(KeepsOthers.setCell _ _ _).from _, rfl, by rw [HT2.out]; exact bR.set _, hB.setCell (p := ⟨w.heap.size + 1, 0, none⟩) (by simp) _⟩
  case done =>
    rintro D W hD ⟨HT, bA, bR, bC, hB⟩ hK
    have HT2 : Hid (trimV ad cap l = .slice none 0 0) := Lib.hid (by unfold trimV; rw [← HT.out]; rfl)
    have hcr := bR.cell
    have hfr := bR.frozen
    have hD2 : w.heap.size ≤ D := by simp at hD; omega
    gi_wp2_with fail
    have hK2 := (KeepsOthers.setCell W ⟨w.heap.size + 1, 0, none⟩ (.slice none 0 0)).same D _ hK rfl
    have hc2 := (bR.set (.slice none 0 0)).cell
    have hB2 := hB.setCell (p := ⟨w.heap.size + 1, 0, none⟩) (by simp) (.slice none 0 0)
    generalize W.setCell ⟨w.heap.size + 1, 0, none⟩ (.slice none 0 0) = W2 at hK2 hc2 hB2 ⊢
    refine ⟨by simp, .inl ⟨_, _, rfl, run_takeDeferred hK2, ?_⟩⟩
    have hc5 := cell_kept hc2 (grownBy_putObj' _ D (.deferred none)) (fun r e => by cases e; exact ⟨_, hK2, rfl⟩)
    refine ⟨.slice none 0 0, ?_, by rw [HT2.out], hB2.trans (belowK_b (w := w) (Nat.le_refl _) W2 D _ _ hD2 hK2 rfl rfl)⟩
    simp [results, Tryd.f60, go_sem, hc5]
  case stop =>
    rintro D c W hD ⟨rfl, bR, hB⟩ hK
    have hcr := bR.cell
    have hfr := bR.frozen
    have hD2 : w.heap.size ≤ D := by simp at hD; omega
    gi_wp2_with fail
    refine ⟨by simp, .inl ⟨_, _, rfl, run_takeDeferred hK, ?_⟩⟩
    have hc5 := cell_kept hcr (grownBy_putObj' _ D (.deferred none)) (fun r e => by cases e; exact ⟨_, hK, rfl⟩)
    refine ⟨trimV ad cap l, ?_, rfl, hB.trans (belowK_b (w := w) (Nat.le_refl _) W D _ _ hD2 hK rfl rfl)⟩
    have ht : ∃ ad' n', trimV ad cap l = .slice ad' n' (if trim l = [] then 0 else cap) := by
      unfold trimV; split <;> exact ⟨_, _, rfl⟩
    obtain ⟨ad', n', ht⟩ := ht
    rw [ht] at hc5 ⊢
    simp [results, Tryd.f60, go_sem, hc5]

/-! ### cmp.Compare -/
theorem cmpZ_lt {a b : Nat} (h : a < b) : cmpZ a b = -1 := by unfold cmpZ; rw [if_pos h]
theorem cmpZ_gt {a b : Nat} (h : b < a) : cmpZ a b = 1 := by unfold cmpZ; rw [if_neg (by omega), if_pos h]
theorem cmpZ_eq (a : Nat) : cmpZ a a = 0 := by unfold cmpZ; simp
theorem isNaN_int (a : Nat) (w : World) : Calls Tryd.prog 89 #[.int .i64 (a : Int)] w fun e w' => e = .returned (.bool false) ∧ w = w' := by
  go_enter Tryd.func89, Tryd.ntmps89
  go_wp2_with fail
  go_ret
  exact ⟨by simp, rfl⟩
theorem isNaN_u64 (a : Nat) (w : World) : Calls Tryd.prog 91 #[.int .u64 (a : Int)] w fun e w' => e = .returned (.bool false) ∧ w = w' := by
  go_enter Tryd.func91, Tryd.ntmps91
  go_wp2_with fail
  go_ret
  exact ⟨by simp, rfl⟩
set_option maxHeartbeats 1000000 in
theorem Compare_int (a b : Nat) (w : World) : Calls Tryd.prog 72 #[.int .i64 (a : Int), .int .i64 (b : Int)] w fun e w' => e = .returned (.int .i64 (cmpZ a b)) ∧ w = w' := by
  rcases Nat.lt_trichotomy a b with h | h | h
  · have HZ := Lib.hid (cmpZ_lt h)
    go_enter Tryd.func72, Tryd.ntmps72
    go_wp2_with (go_at_call 89; refine (isNaN_int _ _).mono ?_; rintro e w' ⟨rfl, rfl⟩)
    go_ret
    exact ⟨by rw [HZ.out]; rfl, rfl⟩
  · subst h
    have HZ := Lib.hid (cmpZ_eq a)
    go_enter Tryd.func72, Tryd.ntmps72
    go_wp2_with (go_at_call 89; refine (isNaN_int _ _).mono ?_; rintro e w' ⟨rfl, rfl⟩)
    go_ret
    exact ⟨by rw [HZ.out]; rfl, rfl⟩
  · have HZ := Lib.hid (cmpZ_gt h)
    go_enter Tryd.func72, Tryd.ntmps72
    go_wp2_with (go_at_call 89; refine (isNaN_int _ _).mono ?_; rintro e w' ⟨rfl, rfl⟩)
    go_ret
    exact ⟨by rw [HZ.out]; rfl, rfl⟩
set_option maxHeartbeats 1000000 in
theorem Compare_u64 (a b : Nat) (w : World) : Calls Tryd.prog 74 #[.int .u64 (a : Int), .int .u64 (b : Int)] w fun e w' => e = .returned (.int .i64 (cmpZ a b)) ∧ w = w' := by
  rcases Nat.lt_trichotomy a b with h | h | h
  · have HZ := Lib.hid (cmpZ_lt h)
    go_enter Tryd.func74, Tryd.ntmps74
    go_wp2_with (go_at_call 91; refine (isNaN_u64 _ _).mono ?_; rintro e w' ⟨rfl, rfl⟩)
    go_ret
    exact ⟨by rw [HZ.out]; rfl, rfl⟩
  · subst h
    have HZ := Lib.hid (cmpZ_eq a)
    go_enter Tryd.func74, Tryd.ntmps74
    go_wp2_with (go_at_call 91; refine (isNaN_u64 _ _).mono ?_; rintro e w' ⟨rfl, rfl⟩)
    go_ret
    exact ⟨by rw [HZ.out]; rfl, rfl⟩
  · have HZ := Lib.hid (cmpZ_gt h)
    go_enter Tryd.func74, Tryd.ntmps74
    go_wp2_with (go_at_call 91; refine (isNaN_u64 _ _).mono ?_; rintro e w' ⟨rfl, rfl⟩)
    go_ret
    exact ⟨by rw [HZ.out]; rfl, rfl⟩

/-! ### Good -/
/-- limbs are a natural. -/
def goodB (l : List Nat) : Bool := l.length == 0 || l.getD (l.length - 1) 0 != 0
set_option maxHeartbeats 1000000 in
theorem nGood_any (v : Value) (l : List Nat) (w : World) (h : RowU w v l) (hl : l.length ≤ 1000000) :
    Calls Tryd.prog 41 #[v] w fun e w' => e = .returned (.bool (goodB l)) ∧ w = w' := by
  have R := Lib.hid h
  obtain ⟨ad, cap, rfl, hcap, h2⟩ := h
  by_cases h0 : l.length = 0
  · have HG : Hid (goodB l = true) := Lib.hid (by simp [goodB, h0])
    rw [h0]
    clear h2
    go_enter Tryd.func41, Tryd.ntmps41
    go_wp2_with fail
    go_ret
    exact ⟨by rw [HG.out]; rfl, rfl⟩
  · obtain ⟨b, off, rfl, hb, hc⟩ := R.out.cell (j := l.length - 1) (by omega)
    have HG : Hid (goodB l = (((l.getD (l.length - 1) 0 : Nat) : Int) != 0)) := Lib.hid (by
      unfold goodB
      have : (l.length == 0) = false := by simpa using h0
      rw [this, Bool.false_or, Bool.eq_iff_iff]
      simp)
    generalize l.getD (l.length - 1) 0 = x at hc HG
    have hpos : 0 < l.length := by omega
    have hn0 : ((l.length : Int) == 0) = false := by rw [beq_eq_false_iff_ne]; omega
    generalize l.length = n at *
    clear h2
    go_enter Tryd.func41, Tryd.ntmps41
    go_wp2_with fail
    go_ret
    exact ⟨by rw [HG.out]; rfl, rfl⟩

/-! ### Of -/
/-- the limbs of a number. -/
abbrev L (n : Nat) : List Nat := dig 18446744073709551616 n
theorem trim_one {n : Nat} (h : n < 18446744073709551616) : trim [n] = L n := by
  have h1 := trim_dig (B := 18446744073709551616) (by omega) [n] (Small.cons h Small.nil)
  rw [h1]
  simp [val]
set_option maxHeartbeats 1000000 in
theorem nOf_any (n : Nat) (w : World) (hn : n < 18446744073709551616) :
    Calls Tryd.prog 39 #[.int .u64 (n : Int)] w fun e w' => ∃ v, e = .returned v ∧ RowU w' v (L n) ∧ Below w.heap.size w w' := by
  have HT := Lib.hid (trim_one hn)
  have hrow : RowU (w.alloc (.cells #[.int .u64 (n : Int)] 64)) (.slice (some ⟨w.heap.size, 0, none⟩) 1 1) [n] :=
    RowU.of_owns (B := w.heap.size) (World.ownsRow_lit w #[.int .u64 (n : Int)] 1 (Nat.le_refl _) (by unfold maxLen; omega) rfl)
  have hb : Below w.heap.size w (w.alloc (.cells #[.int .u64 (n : Int)] 64)) := (Below.refl _ w).alloc (Nat.le_refl _) _
  go_enter Tryd.func39, Tryd.ntmps39
  go_wp2_with fail
  refine (nTrim_any (some ⟨w.heap.size, 0, none⟩) 1 [n] _ hrow (by simp)).mono ?_
  rintro e w' ⟨rfl, hb2⟩
  go_wp2_with fail
  go_ret
  refine ⟨_, rfl, ?_, hb.trans (hb2.mono hb.size)⟩
  have h3 := (RowU.trimmed hrow).below hb2
  rw [HT.out] at h3
  exact h3
end Go.Proofs.YtnfoblmfjldheaaDoor
