/-
  Contracts of package nat: trim, limb, Good, Of, Cmp; and cmp.Compare. No condition but that slices are not longer than a million limbs. Contract of nat.Cmp: the order of what limbs count. No condition but that slices are not longer than a million limbs. What a call leaves as it was, where it writes into some blocks that are named by a predicate: Fr. And rows that a call owns, cut shorter; rows and boxes through such calls. No program, no condition.
-/
import Derived.Test.YtphllajedkpcbaaGreatDoorBk
namespace Go.Proofs.YtphllajedkpcbaaGreatDoor
open Go.RowKit Go.Dig Go.Shelf Go.Proofs
attribute [local go_sem] Oper.semAt_some

theorem Tryz.info56 : (Tryz.prog.info? 56).map (fun i => (i.zero, i.size, i.bytes)) = some (some (.int .u64 0), 1, 8) := by kernel_rfl
/-- a limb as a value. -/
def encU (c : Nat) : Value := .int .u64 (c : Int)
theorem RowU.of_owns {w : World} {B : Nat} {v : Value} {l : List Nat} (h : w.ownsRow B 56 1 v l.length (l.map encU)) : RowU w v l := by
  rcases h.2 with ⟨rfl, h1⟩ | ⟨g, cap, cur, rfl, h2, h3⟩
  · have : l = [] := List.eq_nil_of_length_eq_zero h1
    subst this
    exact ⟨_, _, rfl, Nat.le_refl _, fun h => absurd rfl h⟩
  · refine ⟨_, cap, rfl, h3.2.1, fun _ => ⟨g, 0, rfl, (Array.getElem?_eq_some_iff.1 h3.1).1, fun j hj => ?_⟩⟩
    rw [Nat.zero_add, h.cellAt j (by omega)]
    simp [List.getD, hj, encU]

/-! ### limb -/
set_option maxHeartbeats 1000000 in
theorem limb_any (v : Value) (l : List Nat) (i : Nat) (w : World) (h : RowU w v l) (hl : l.length ≤ 1000000) (_hi : i ≤ 1000000) :
    Calls Tryz.prog 66 #[v, .int .i64 (i : Int)] w fun e w' => e = .returned (.int .u64 (l.getD i 0 : Nat)) ∧ w = w' := by
  obtain ⟨ad, cap, rfl, hcap, h2⟩ := h
  by_cases hlt : i < l.length
  · obtain ⟨b, off, rfl, hb, hc⟩ := h2 (by rintro rfl; simp at hlt)
    have hci := hc i hlt
    generalize l.getD i 0 = x at hci ⊢
    clear hc h2
    go_enter Tryz.func66, Tryz.ntmps66
    go_wp2_with fail
    go_ret
    exact ⟨rfl, rfl⟩
  · have e : l.getD i 0 = 0 := by simp [List.getD, Nat.le_of_not_lt hlt]
    rw [e]
    clear h2
    go_enter Tryz.func66, Tryz.ntmps66
    go_wp2_with fail
    go_ret
    exact ⟨rfl, rfl⟩

/-! ### trim -/
theorem trim_take : ∀ (l : List Nat), trim l = l.take (trim l).length
  | [] => rfl
  | d :: l => by
    have ih := trim_take l
    unfold trim
    split
    · rfl
    · rw [List.length_cons, List.take_succ_cons, ← ih]
theorem trim_len (l : List Nat) : (trim l).length ≤ l.length := by
  have h := congrArg List.length (trim_take l)
  rw [List.length_take] at h
  omega
/-- what trim answers: a piece of the same memory. -/
def trimV (ad : Option Addr) (cap : Nat) (l : List Nat) : Value := if trim l = [] then .slice none 0 0 else .slice ad (trim l).length cap
theorem RowU.trimmed {w : World} {ad : Option Addr} {n cap : Nat} {l : List Nat} (h : RowU w (.slice ad n cap) l) : RowU w (trimV ad cap l) (trim l) := by
  unfold trimV
  by_cases h0 : trim l = []
  · rw [if_pos h0, h0]; exact ⟨_, _, rfl, Nat.le_refl _, fun h => absurd rfl h⟩
  · rw [if_neg h0]
    have h1 := h.take (trim_len l)
    rw [← trim_take] at h1
    exact h1

set_option maxRecDepth 100000 in
set_option maxHeartbeats 2000000 in
theorem nTrim_any (ad : Option Addr) (cap : Nat) (l : List Nat) (w : World) (h : RowU w (.slice ad l.length cap) l) (hl : l.length ≤ 1000000) :
    Calls Tryz.prog 47 #[.slice ad l.length cap] w fun e w' => e = .returned (trimV ad cap l) ∧ Below w.heap.size w w' := by
  have R := Lib.hid h
  have hcap : l.length ≤ cap := by obtain ⟨_, _, e, h1, _⟩ := h; cases e; exact h1
  clear h
  refine (callsIn_wide (n := 3)).1 ?_
  refine callsIn_of_wp_marks Tryz.func47 rfl trivial ?_ rfl
  simp only [Tryz.ntmps47, List.size_toArray, List.length_cons, List.length_nil, Nat.reduceAdd, Nat.reduceSub, Array.replicate_succ, Array.replicate_zero, List.push_toArray, List.append_toArray, List.nil_append, List.cons_append]
  gi_wp2_with fail
  refine ⟨trivial, ?_⟩
  refine (callsIn_wide.2 (Backward_any _ _ _ _)).mono ?_
  rintro e w' ⟨rfl, rfl⟩
  gi_wp2_with fail
  have bA := Boxed.new w 27 (.slice ad l.length cap)
  have bR := Boxed.new (w.alloc (.cells #[.slice ad l.length cap] 27)) 27 (.slice none 0 0)
  rw [World.size_alloc] at bR
  have bC := Boxed.new ((w.alloc (.cells #[.slice ad l.length cap] 27)).alloc (.cells #[.slice none 0 0] 27)) 27 (.slice ad l.length cap)
  rw [World.size_alloc, World.size_alloc] at bC
  have hB0 : Below w.heap.size w (((w.alloc (.cells #[.slice ad l.length cap] 27)).alloc (.cells #[.slice none 0 0] 27)).alloc (.cells #[.slice ad l.length cap] 27)) := (((Below.refl _ w).alloc (Nat.le_refl _) _).alloc (by simp) _).alloc (by simp; omega) _
  refine range_back (w.heap.size + 1 + 1) ad l.length cap hl (fun k => l.getD k 0) rfl rfl bC.cell
    (fun m W => Hid (trim (l.take m) = trim l) ∧ Boxed W w.heap.size 27 (.slice ad l.length cap) ∧ Boxed W (w.heap.size + 1) 27 (.slice none 0 0) ∧ Boxed W (w.heap.size + 1 + 1) 27 (.slice ad l.length cap) ∧ Below w.heap.size w W)
    (fun c W => c = .ret ∧ Boxed W (w.heap.size + 1) 27 (trimV ad cap l) ∧ Below w.heap.size w W)
    (OwnFrom.and (ownFrom_pure _ _) (OwnFrom.and (Own.from (boxed_own _ _ _) _) (OwnFrom.and (Own.from (boxed_own _ _ _) _) (OwnFrom.and (Own.from (boxed_own _ _ _) _) (ownFrom_below (Nat.le_refl _) (by simp; omega))))))
    (OwnFrom.and (ownFrom_pure _ _) (OwnFrom.and (Own.from (boxed_own _ _ _) _) (ownFrom_below (Nat.le_refl _) (by simp; omega))))
    (fun k W hk hi => ⟨hi.2.2.2.1.cell, by
      obtain ⟨b, off, rfl, hb, hc⟩ := R.out.cell hk
      exact ⟨b, off, rfl, (hi.2.2.2.2.cell (p := ⟨b, off + k, none⟩) hb).trans hc⟩⟩)
    ⟨Lib.hid (by rw [List.take_length]), (bA.alloc _).alloc _, bR.alloc _, bC, hB0⟩
    (fun k => { tmps := #[.slice ad l.length cap, .pointer (some ⟨w.heap.size, 0, none⟩), .pointer (some ⟨w.heap.size + 1, 0, none⟩), .int .i64 (k : Int), .int .u64 (l.getD k 0 : Nat), .slice ad l.length cap, .func (.func 88) #[] #[.pointer (some ⟨w.heap.size + 1 + 1, 0, none⟩)], .int .i64 (k : Int), .int .u64 (l.getD k 0 : Nat), undef, undef, undef, undef, undef, undef], defers := [] }) ?assign ?body ?done ?stop
  case assign =>
    intro ll k W K hK
    gi_wp2
    exact hK
  case body =>
    rintro ll k W hk _ _ ⟨HT, bA, bR, bC, hB⟩
    have hc := bA.cell
    have hcr := bR.cell
    have hfr := bR.frozen
    have hsnoc : l.take (k + 1) = l.take k ++ [l.getD k 0] := by
      rw [List.take_add_one]; simp [List.getD, hk]
    by_cases hz : l.getD k 0 = 0
    · have HT2 : Hid (trim (l.take k) = trim l) := Lib.hid (by rw [← HT.out, hsnoc, hz, trim_snoc_zero])
      rw [hz]
      gi_wp2_with fail
      exact ⟨KeepsFrom.refl _ _, HT2, bA, bR, bC, hB⟩
    · have HT2 : Hid (trimV ad cap l = .slice ad (k + 1) cap) := Lib.hid (by
        have e : trim l = l.take (k + 1) := by rw [← HT.out, hsnoc, trim_snoc _ hz]
        have e2 : (trim l).length = k + 1 := by rw [e, List.length_take]; omega
        unfold trimV
        rw [if_neg (fun h => by rw [h] at e2; simp at e2), e2])
      have hne : ((l.getD k 0 : Nat) : Int) ≠ 0 := by omega
      generalize l.getD k 0 = x at hne
      gi_wp2_with fail
      exact ⟨(KeepsOthers.setCell _ _ _).from _, rfl, by rw [HT2.out]; exact bR.set _, hB.setCell (p := ⟨w.heap.size + 1, 0, none⟩) (by simp) _⟩
  case done =>
    rintro D W hD ⟨HT, bA, bR, bC, hB⟩ hK
    have HT2 : Hid (trimV ad cap l = .slice none 0 0) := Lib.hid (by unfold trimV; rw [← HT.out]; rfl)
    have hcr := bR.cell
    have hfr := bR.frozen
    have hD2 : w.heap.size ≤ D := by simp at hD; omega
    gi_wp2_with fail
    have hK2 := (KeepsOthers.setCell W ⟨w.heap.size + 1, 0, none⟩ (.slice none 0 0)).same D _ hK rfl
    have hc2 := (bR.set (.slice none 0 0)).cell
    have hB2 := hB.setCell (p := ⟨w.heap.size + 1, 0, none⟩) (by simp) (.slice none 0 0)
    generalize W.setCell ⟨w.heap.size + 1, 0, none⟩ (.slice none 0 0) = W2 at hK2 hc2 hB2 ⊢
    refine ⟨by simp, .inl ⟨_, _, rfl, run_takeDeferred hK2, ?_⟩⟩
    have hc5 := cell_kept hc2 (grownBy_putObj' _ D (.deferred none)) (fun r e => by cases e; exact ⟨_, hK2, rfl⟩)
    refine ⟨.slice none 0 0, ?_, by rw [HT2.out], hB2.trans (belowK_b (w := w) (Nat.le_refl _) W2 D _ _ hD2 hK2 rfl rfl)⟩
    simp [results, Tryz.f47, go_sem, hc5]
  case stop =>
    rintro D c W hD ⟨rfl, bR, hB⟩ hK
    have hcr := bR.cell
    have hfr := bR.frozen
    have hD2 : w.heap.size ≤ D := by simp at hD; omega
    gi_wp2_with fail
    refine ⟨by simp, .inl ⟨_, _, rfl, run_takeDeferred hK, ?_⟩⟩
    have hc5 := cell_kept hcr (grownBy_putObj' _ D (.deferred none)) (fun r e => by cases e; exact ⟨_, hK, rfl⟩)
    refine ⟨trimV ad cap l, ?_, rfl, hB.trans (belowK_b (w := w) (Nat.le_refl _) W D _ _ hD2 hK rfl rfl)⟩
    have ht : ∃ ad' n', trimV ad cap l = .slice ad' n' (if trim l = [] then 0 else cap) := by
      unfold trimV; split <;> exact ⟨_, _, rfl⟩
    obtain ⟨ad', n', ht⟩ := ht
    rw [ht] at hc5 ⊢
    simp [results, Tryz.f47, go_sem, hc5]

/-! ### cmp.Compare -/
theorem cmpZ_lt {a b : Nat} (h : a < b) : cmpZ a b = -1 := by unfold cmpZ; rw [if_pos h]
theorem cmpZ_gt {a b : Nat} (h : b < a) : cmpZ a b = 1 := by unfold cmpZ; rw [if_neg (by omega), if_pos h]
theorem cmpZ_eq (a : Nat) : cmpZ a a = 0 := by unfold cmpZ; simp
theorem isNaN_int (a : Nat) (w : World) : Calls Tryz.prog 87 #[.int .i64 (a : Int)] w fun e w' => e = .returned (.bool false) ∧ w = w' := by
  go_enter Tryz.func87, Tryz.ntmps87
  go_wp2_with fail
  go_ret
  exact ⟨by simp, rfl⟩
theorem isNaN_u64 (a : Nat) (w : World) : Calls Tryz.prog 89 #[.int .u64 (a : Int)] w fun e w' => e = .returned (.bool false) ∧ w = w' := by
  go_enter Tryz.func89, Tryz.ntmps89
  go_wp2_with fail
  go_ret
  exact ⟨by simp, rfl⟩
set_option maxHeartbeats 1000000 in
theorem Compare_int (a b : Nat) (w : World) : Calls Tryz.prog 68 #[.int .i64 (a : Int), .int .i64 (b : Int)] w fun e w' => e = .returned (.int .i64 (cmpZ a b)) ∧ w = w' := by
  rcases Nat.lt_trichotomy a b with h | h | h
  · have HZ := Lib.hid (cmpZ_lt h)
    go_enter Tryz.func68, Tryz.ntmps68
    go_wp2_with (go_at_call 87; refine (isNaN_int _ _).mono ?_; rintro e w' ⟨rfl, rfl⟩)
    go_ret
    exact ⟨by rw [HZ.out]; rfl, rfl⟩
  · subst h
    have HZ := Lib.hid (cmpZ_eq a)
    go_enter Tryz.func68, Tryz.ntmps68
    go_wp2_with (go_at_call 87; refine (isNaN_int _ _).mono ?_; rintro e w' ⟨rfl, rfl⟩)
    go_ret
    exact ⟨by rw [HZ.out]; rfl, rfl⟩
  · have HZ := Lib.hid (cmpZ_gt h)
    go_enter Tryz.func68, Tryz.ntmps68
    go_wp2_with (go_at_call 87; refine (isNaN_int _ _).mono ?_; rintro e w' ⟨rfl, rfl⟩)
    go_ret
    exact ⟨by rw [HZ.out]; rfl, rfl⟩
set_option maxHeartbeats 1000000 in
theorem Compare_u64 (a b : Nat) (w : World) : Calls Tryz.prog 70 #[.int .u64 (a : Int), .int .u64 (b : Int)] w fun e w' => e = .returned (.int .i64 (cmpZ a b)) ∧ w = w' := by
  rcases Nat.lt_trichotomy a b with h | h | h
  · have HZ := Lib.hid (cmpZ_lt h)
    go_enter Tryz.func70, Tryz.ntmps70
    go_wp2_with (go_at_call 89; refine (isNaN_u64 _ _).mono ?_; rintro e w' ⟨rfl, rfl⟩)
    go_ret
    exact ⟨by rw [HZ.out]; rfl, rfl⟩
  · subst h
    have HZ := Lib.hid (cmpZ_eq a)
    go_enter Tryz.func70, Tryz.ntmps70
    go_wp2_with (go_at_call 89; refine (isNaN_u64 _ _).mono ?_; rintro e w' ⟨rfl, rfl⟩)
    go_ret
    exact ⟨by rw [HZ.out]; rfl, rfl⟩
  · have HZ := Lib.hid (cmpZ_gt h)
    go_enter Tryz.func70, Tryz.ntmps70
    go_wp2_with (go_at_call 89; refine (isNaN_u64 _ _).mono ?_; rintro e w' ⟨rfl, rfl⟩)
    go_ret
    exact ⟨by rw [HZ.out]; rfl, rfl⟩

/-! ### Good -/
/-- limbs are a natural. -/
def goodB (l : List Nat) : Bool := l.length == 0 || l.getD (l.length - 1) 0 != 0
set_option maxHeartbeats 1000000 in
theorem nGood_any (v : Value) (l : List Nat) (w : World) (h : RowU w v l) (hl : l.length ≤ 1000000) :
    Calls Tryz.prog 81 #[v] w fun e w' => e = .returned (.bool (goodB l)) ∧ w = w' := by
  have R := Lib.hid h
  obtain ⟨ad, cap, rfl, hcap, h2⟩ := h
  by_cases h0 : l.length = 0
  · have HG : Hid (goodB l = true) := Lib.hid (by simp [goodB, h0])
    rw [h0]
    clear h2
    go_enter Tryz.func81, Tryz.ntmps81
    go_wp2_with fail
    go_ret
    exact ⟨by rw [HG.out]; rfl, rfl⟩
  · obtain ⟨b, off, rfl, hb, hc⟩ := R.out.cell (j := l.length - 1) (by omega)
    have HG : Hid (goodB l = (((l.getD (l.length - 1) 0 : Nat) : Int) != 0)) := Lib.hid (by
      unfold goodB
      have : (l.length == 0) = false := by simpa using h0
      rw [this, Bool.false_or, Bool.eq_iff_iff]
      simp)
    generalize l.getD (l.length - 1) 0 = x at hc HG
    have hpos : 0 < l.length := by omega
    have hn0 : ((l.length : Int) == 0) = false := by rw [beq_eq_false_iff_ne]; omega
    generalize l.length = n at *
    clear h2
    go_enter Tryz.func81, Tryz.ntmps81
    go_wp2_with fail
    go_ret
    exact ⟨by rw [HG.out]; rfl, rfl⟩

/-! ### Of -/
/-- the limbs of a number. -/
abbrev L (n : Nat) : List Nat := dig 18446744073709551616 n
theorem trim_one {n : Nat} (h : n < 18446744073709551616) : trim [n] = L n := by
  have h1 := trim_dig (B := 18446744073709551616) (by omega) [n] (Small.cons h Small.nil)
  rw [h1]
  simp [val]
set_option maxHeartbeats 1000000 in
theorem nOf_any (n : Nat) (w : World) (hn : n < 18446744073709551616) :
    Calls Tryz.prog 21 #[.int .u64 (n : Int)] w fun e w' => ∃ v, e = .returned v ∧ RowU w' v (L n) ∧ Below w.heap.size w w' := by
  have HT := Lib.hid (trim_one hn)
  have hrow : RowU (w.alloc (.cells #[.int .u64 (n : Int)] 56)) (.slice (some ⟨w.heap.size, 0, none⟩) 1 1) [n] :=
    RowU.of_owns (B := w.heap.size) (World.ownsRow_lit w #[.int .u64 (n : Int)] 1 (Nat.le_refl _) (by unfold maxLen; omega) rfl)
  have hb : Below w.heap.size w (w.alloc (.cells #[.int .u64 (n : Int)] 56)) := (Below.refl _ w).alloc (Nat.le_refl _) _
  go_enter Tryz.func21, Tryz.ntmps21
  go_wp2_with fail
  refine (nTrim_any (some ⟨w.heap.size, 0, none⟩) 1 [n] _ hrow (by simp)).mono ?_
  rintro e w' ⟨rfl, hb2⟩
  go_wp2_with fail
  go_ret
  refine ⟨_, rfl, ?_, hb.trans (hb2.mono hb.size)⟩
  have h3 := (RowU.trimmed hrow).below hb2
  rw [HT.out] at h3
  exact h3
end Go.Proofs.YtphllajedkpcbaaGreatDoor

namespace Go.Proofs.YtphllajedkpcbaaGreatDoor
open Go.RowKit Go.Dig Go.Shelf Go.Proofs
attribute [local go_sem] Oper.semAt_some

/-- the value of limbs. -/
abbrev V (l : List Nat) : Nat := val 18446744073709551616 l
abbrev SmallU (l : List Nat) : Prop := Small 18446744073709551616 l
theorem trim_L {l : List Nat} (h : SmallU l) : trim l = L (V l) := trim_dig (by omega) l h
theorem V_L (n : Nat) : V (L n) = n := dig_val (by omega) n
theorem small_L (n : Nat) : SmallU (L n) := dig_small (by omega) n

/-- trim's answer as a slice. -/
theorem trimV_slice {w : World} {ad : Option Addr} {n cap : Nat} {l : List Nat} (h : RowU w (.slice ad n cap) l) : ∃ a c, trimV ad cap l = .slice a (trim l).length c ∧ RowU w (.slice a (trim l).length c) (trim l) := by
  have h1 := RowU.trimmed h
  obtain ⟨a, c, e, -, -⟩ := id h1
  exact ⟨a, c, e, e ▸ h1⟩

set_option maxRecDepth 100000 in
set_option maxHeartbeats 2000000 in
theorem nCmp_any (v1 v2 : Value) (la lb : List Nat) (w : World) (h1 : RowU w v1 la) (h2 : RowU w v2 lb) (s1 : SmallU la) (s2 : SmallU lb) (hl1 : la.length ≤ 1000000) (hl2 : lb.length ≤ 1000000) :
    Calls Tryz.prog 34 #[v1, v2] w fun e w' => e = .returned (.int .i64 (cmpZ (V la) (V lb))) ∧ Below w.heap.size w w' := by
  have R1 := Lib.hid h1
  have R2 := Lib.hid h2
  obtain ⟨ad1, cap1, rfl, hc1, -⟩ := h1
  obtain ⟨ad2, cap2, rfl, hc2, -⟩ := h2
  obtain ⟨a1, c1, e1, r1⟩ := trimV_slice R1.out
  obtain ⟨a2, c2, e2, r2⟩ := trimV_slice R2.out
  have T1 := Lib.hid (fun (W : World) (hb : Below w.heap.size w W) => nTrim_any ad1 cap1 la W (R1.out.below hb) hl1)
  have T2 := Lib.hid (fun (W : World) (hb : Below w.heap.size w W) => nTrim_any ad2 cap2 lb W (R2.out.below hb) hl2)
  rw [e1] at T1
  rw [e2] at T2
  have hlx : (trim la).length ≤ 1000000 := Nat.le_trans (trim_len _) hl1
  have hly : (trim lb).length ≤ 1000000 := Nat.le_trans (trim_len _) hl2
  have Q1 := Lib.hid r1
  have Q2 := Lib.hid r2
  rw [trim_L s1] at T1 hlx Q1
  rw [trim_L s2] at T2 hly Q2
  generalize V la = x at *
  generalize V lb = y at *
  clear R1 R2 e1 e2 r1 r2 s1 s2
  generalize la.length = n1 at *
  generalize lb.length = n2 at *
  have bB := Boxed.new w 27 (.slice ad2 n2 cap2)
  have bR := Boxed.new (w.alloc (.cells #[.slice ad2 n2 cap2] 27)) 3 (.int .i64 0)
  rw [World.size_alloc] at bR
  replace bB := bB.alloc (.cells #[.int .i64 0] 3)
  have hB0 : Below w.heap.size w ((w.alloc (.cells #[.slice ad2 n2 cap2] 27)).alloc (.cells #[.int .i64 0] 3)) := ((Below.refl _ w).alloc (Nat.le_refl _) _).alloc (by simp) _
  refine (callsIn_wide (n := 3)).1 ?_
  refine callsIn_of_wp_marks Tryz.func34 rfl trivial ?_ rfl
  simp only [Tryz.ntmps34, List.size_toArray, List.length_cons, List.length_nil, Nat.reduceAdd, Nat.reduceSub, Array.replicate_succ, Array.replicate_zero, List.push_toArray, List.append_toArray, List.nil_append, List.cons_append]
  gi_wp2_with fail
  generalize (w.alloc (.cells #[.slice ad2 n2 cap2] 27)).alloc (.cells #[.int .i64 0] 3) = W0 at bB bR hB0 ⊢
  refine wpIn_wide.2 (Rd.region (fun X => X.cell? ⟨w.heap.size, 0, none⟩ = some (.slice ad2 n2 cap2)) 5 [0, 2, 4] [0, 2, 1, 3, 4, 5] (by kernel_rfl) (by kernel_rfl) (by kernel_rfl) (by kernel_rfl) rfl bB.cell ?_)
  have bB1 : Boxed W0.drew w.heap.size 27 (.slice ad2 n2 cap2) := bB
  have bR1 : Boxed W0.drew (w.heap.size + 1) 3 (.int .i64 0) := bR
  have hB1 : Below w.heap.size w W0.drew := hB0.drew
  clear bB bR hB0
  generalize W0.drew = W1 at bB1 bR1 hB1 ⊢
  refine Rd.seq_float (.slice ad1 n1 cap1) (by simp only [List.getElem?_toArray, List.getElem?_cons_zero]; rfl) rfl (by rfl) (fun X _ => by go_simp) ?_
  simp only [Act.put, List.setIfInBounds_toArray, List.set_cons_succ, List.set_cons_zero]
  refine Rd.seq_float (.slice ad2 n2 cap2) (by simp only [List.getElem?_toArray, List.getElem?_cons_succ, List.getElem?_cons_zero]; rfl) rfl (by rfl) (fun X hX => by go_simp) ?_
  simp only [Act.put, List.setIfInBounds_toArray, List.set_cons_succ, List.set_cons_zero]
  refine Rd.seq_move (by simp only [List.getElem?_toArray, List.getElem?_cons_succ, List.getElem?_cons_zero]; rfl) rfl (by rfl) (fun K hK => ?_)
  go_simp
  refine (T1.out W1 hB1).mono ?_
  rintro e W2 ⟨rfl, hb2⟩
  have bB2 : Boxed W2 w.heap.size 27 (.slice ad2 n2 cap2) := (hb2.block _ bB1.lt).trans bB1
  have bR2 : Boxed W2 (w.heap.size + 1) 3 (.int .i64 0) := (hb2.block _ bR1.lt).trans bR1
  have hB2 : Below w.heap.size w W2 := hB1.trans (hb2.mono hB1.size)
  refine hK _ _ (fun _ => bB2.cell) ?_
  clear hK K
  refine Rd.seq_move (by simp only [List.getElem?_toArray, List.getElem?_cons_succ, List.getElem?_cons_zero]; rfl) rfl (by rfl) (fun K hK => ?_)
  go_simp
  refine (T2.out W2 hB2).mono ?_
  rintro e W3 ⟨rfl, hb3⟩
  have bB3 : Boxed W3 w.heap.size 27 (.slice ad2 n2 cap2) := (hb3.block _ bB2.lt).trans bB2
  have bR3 : Boxed W3 (w.heap.size + 1) 3 (.int .i64 0) := (hb3.block _ bR2.lt).trans bR2
  have hB3 : Below w.heap.size w W3 := hB2.trans (hb3.mono hB2.size)
  refine hK _ _ (fun _ => bB3.cell) ?_
  clear hK K
  refine Rd.seq_float (.slice a1 (L x).length c1) (by simp only [List.getElem?_toArray, List.getElem?_cons_succ, List.getElem?_cons_zero]; rfl) rfl (by rfl) (fun X _ => by go_simp) ?_
  simp only [Act.put, List.setIfInBounds_toArray, List.set_cons_zero]
  refine Rd.seq_move (by simp only [List.getElem?_toArray, List.getElem?_cons_succ, List.getElem?_cons_zero]; rfl) rfl (by rfl) (fun K hK => ?_)
  go_simp
  have hc3 := bB3.cell
  have hf3 := bB3.frozen
  go_simp
  refine hK _ _ (fun h => absurd h (by omega)) ?_
  refine Rd.seq_end ?_
  have bB4 := bB3.set (.slice a2 (L y).length c2)
  have bR4 : Boxed (W3.setCell ⟨w.heap.size, 0, none⟩ (.slice a2 (L y).length c2)) (w.heap.size + 1) 3 (.int .i64 0) := bR3.other (by omega) _
  have hB4 : Below w.heap.size w (W3.setCell ⟨w.heap.size, 0, none⟩ (.slice a2 (L y).length c2)) := hB3.setCell (p := ⟨w.heap.size, 0, none⟩) (Nat.le_refl _) _
  clear bB1 bB2 bB3 bR1 bR2 bR3 hB1 hB2 hB3 hb2 hb3 T1 T2
  generalize W3.setCell ⟨w.heap.size, 0, none⟩ (.slice a2 (L y).length c2) = W4 at bB4 bR4 hB4 ⊢
  have hcB := bB4.cell
  have hcR := bR4.cell
  have hfR := bR4.frozen
  by_cases hne : (L x).length = (L y).length
  · have HL := Lib.hid hne
    have hneq : (((L x).length : Int) != ((L y).length : Int)) = false := by rw [hne]; simp
    clear hne
    gi_wp2_with fail
    refine ⟨trivial, ?_⟩
    refine (callsIn_wide.2 (Backward_any _ _ _ _)).mono ?_
    rintro e w' ⟨rfl, rfl⟩
    gi_wp2_with fail
    have hlt4 := bR4.lt
    have bC := Boxed.new W4 27 (.slice a1 (L x).length c1)
    have bB5 := bB4.alloc (.cells #[.slice a1 (L x).length c1] 27)
    have bR5 := bR4.alloc (.cells #[.slice a1 (L x).length c1] 27)
    have hB5 := hB4.alloc hB4.size (.cells #[.slice a1 (L x).length c1] 27)
    have hs4 := hB4.size
    have hsz : (W4.alloc (.cells #[.slice a1 (L x).length c1] 27)).heap.size = W4.heap.size + 1 := World.size_alloc _ _
    clear hcB hcR hfR bB4 bR4
    refine range_back W4.heap.size a1 (L x).length c1 hlx (fun k => (L x).getD k 0) rfl rfl bC.cell
      (fun m W => Hid (V ((L x).drop m) = V ((L y).drop m)) ∧ Boxed W w.heap.size 27 (.slice a2 (L y).length c2) ∧ Boxed W (w.heap.size + 1) 3 (.int .i64 0) ∧ Boxed W W4.heap.size 27 (.slice a1 (L x).length c1) ∧ Below w.heap.size w W)
      (fun c W => c = .ret ∧ Boxed W (w.heap.size + 1) 3 (.int .i64 (cmpZ x y)) ∧ Below w.heap.size w W)
      (OwnFrom.and (ownFrom_pure _ _) (OwnFrom.and (Own.from (boxed_own _ _ _) _) (OwnFrom.and (Own.from (boxed_own _ _ _) _) (OwnFrom.and (Own.from (boxed_own _ _ _) _) (ownFrom_below (Nat.le_refl _) (by rw [hsz]; omega))))))
      (OwnFrom.and (ownFrom_pure _ _) (OwnFrom.and (Own.from (boxed_own _ _ _) _) (ownFrom_below (Nat.le_refl _) (by rw [hsz]; omega))))
      (fun k W hk hi => ⟨hi.2.2.2.1.cell, by
        obtain ⟨b, off, rfl, hb, hc⟩ := Q1.out.cell hk
        exact ⟨b, off, rfl, (hi.2.2.2.2.cell (p := ⟨b, off + k, none⟩) hb).trans hc⟩⟩)
      ⟨Lib.hid (by rw [List.drop_length, HL.out, List.drop_length]), bB5, bR5, bC, hB5⟩
      (fun k => { tmps := #[.slice a1 (L x).length c1, .slice ad2 n2 cap2, undef, .pointer (some ⟨w.heap.size, 0, none⟩), .pointer (some ⟨w.heap.size + 1, 0, none⟩), .int .i64 (k : Int), .int .u64 ((L x).getD k 0 : Nat), .slice ad1 n1 cap1, .slice a1 (L x).length c1, .slice ad2 n2 cap2, .slice a2 (L y).length c2, .slice a1 (L x).length c1, .int .i64 ((L x).length : Int), .slice a2 (L y).length c2, .int .i64 ((L y).length : Int), .bool false, undef, undef, undef, undef, undef, .slice a1 (L x).length c1, .func (.func 88) #[] #[.pointer (some ⟨W4.heap.size, 0, none⟩)], .int .i64 (k : Int), .int .u64 ((L x).getD k 0 : Nat), undef, undef, undef, undef, undef, undef, undef, undef, undef, undef, undef, undef], defers := [] }) ?assign ?body ?done ?stop
    case assign =>
      intro ll k W K hK
      gi_wp2
      exact hK
    case body =>
      rintro ll k W hk _ _ ⟨HT, bB, bR, bC, hB⟩
      have hky : k < (L y).length := by rw [← HL.out]; exact hk
      have hcB := bB.cell
      have hcR := bR.cell
      have hfR := bR.frozen
      obtain ⟨b2, o2, rfl, hb2, hc2⟩ := Q2.out.cell hky
      replace hc2 := (hB.cell (p := ⟨b2, o2 + k, none⟩) hb2).trans hc2
      have HV : Hid (((L x).getD k 0 < (L y).getD k 0 → x < y) ∧ ((L y).getD k 0 < (L x).getD k 0 → y < x) ∧ ((L x).getD k 0 = (L y).getD k 0 → V ((L x).drop k) = V ((L y).drop k))) := Lib.hid (by
        refine ⟨fun h => ?_, fun h => ?_, fun h => ?_⟩
        · have := lt_of_digit (by omega) (small_L x) hk hky HT.out h
          have e1 := V_L x
          have e2 := V_L y
          unfold V at e1 e2
          omega
        · have := lt_of_digit (by omega) (small_L y) hky hk HT.out.symm h
          have e1 := V_L x
          have e2 := V_L y
          unfold V at e1 e2
          omega
        · have e1 := val_drop (B := 18446744073709551616) (L x) k hk
          have e2 := val_drop (B := 18446744073709551616) (L y) k hky
          have := HT.out
          unfold V at this ⊢
          rw [e1, e2, h, this])
      generalize (L x).getD k 0 = p at HV
      generalize (L y).getD k 0 = q at HV hc2
      by_cases hpq : p = q
      · subst hpq
        have HT2 := Lib.hid (Lib.hid (HV.out.2.2 rfl))
        clear HV
        have hnn : ((p : Int) != (p : Int)) = false := by simp
        gi_wp2_with fail
        exact ⟨KeepsFrom.refl _ _, HT2.out, bB, bR, bC, hB⟩
      · have HZ : Hid (cmpZ x y = cmpZ p q) := Lib.hid (by
          rcases Nat.lt_or_gt_of_ne hpq with h | h
          · rw [cmpZ_lt h, cmpZ_lt (HV.out.1 h)]
          · rw [cmpZ_gt h, cmpZ_gt (HV.out.2.1 h)])
        have hnn : ((p : Int) != (q : Int)) = true := by rw [bne_iff_ne]; omega
        gi_wp2_with fail
        refine ⟨trivial, ?_⟩
        refine (CallsIn.inRound ll (callsIn_wide.2 (Compare_u64 _ _ _))).mono ?_
        rintro e w' ⟨rfl, rfl⟩
        gi_wp2_with fail
        exact ⟨(KeepsOthers.setCell _ _ _).from _, rfl, by rw [HZ.out]; exact bR.set _, hB.setCell (p := ⟨w.heap.size + 1, 0, none⟩) (by simp) _⟩
    case done =>
      rintro D W hD ⟨HT, bB, bR, bC, hB⟩ hK
      have HZ : Hid (cmpZ x y = 0) := Lib.hid (by
        have h := HT.out
        rw [List.drop_zero, List.drop_zero, V_L, V_L] at h
        rw [h]; exact cmpZ_eq y)
      have hcr := bR.cell
      have hfr := bR.frozen
      have hD2 : w.heap.size ≤ D := by rw [hsz] at hD; omega
      gi_wp2_with fail
      have hK2 := (KeepsOthers.setCell W ⟨w.heap.size + 1, 0, none⟩ (.int .i64 0)).same D _ hK rfl
      have hc2 := (bR.set (.int .i64 0)).cell
      have hB2 := hB.setCell (p := ⟨w.heap.size + 1, 0, none⟩) (by simp) (.int .i64 0)
      generalize W.setCell ⟨w.heap.size + 1, 0, none⟩ (.int .i64 0) = W2 at hK2 hc2 hB2 ⊢
      refine ⟨by simp, .inl ⟨_, _, rfl, run_takeDeferred hK2, ?_⟩⟩
      have hc5 := cell_kept hc2 (grownBy_putObj' _ D (.deferred none)) (fun r e => by cases e; exact ⟨_, hK2, rfl⟩)
      refine ⟨.int .i64 0, ?_, by rw [HZ.out], hB2.trans (belowK_b (w := w) (Nat.le_refl _) W2 D _ _ hD2 hK2 rfl rfl)⟩
      simp [results, Tryz.f34, go_sem, hc5]
    case stop =>
      rintro D c W hD ⟨rfl, bR, hB⟩ hK
      have hcr := bR.cell
      have hfr := bR.frozen
      have hD2 : w.heap.size ≤ D := by rw [hsz] at hD; omega
      gi_wp2_with fail
      refine ⟨by simp, .inl ⟨_, _, rfl, run_takeDeferred hK, ?_⟩⟩
      have hc5 := cell_kept hcr (grownBy_putObj' _ D (.deferred none)) (fun r e => by cases e; exact ⟨_, hK, rfl⟩)
      refine ⟨.int .i64 (cmpZ x y), ?_, rfl, hB.trans (belowK_b (w := w) (Nat.le_refl _) W D _ _ hD2 hK rfl rfl)⟩
      simp [results, Tryz.f34, go_sem, hc5]
  · have HZ : Hid (cmpZ x y = cmpZ (L x).length (L y).length) := Lib.hid (by
      rcases Nat.lt_or_gt_of_ne hne with h | h
      · rw [cmpZ_lt h, cmpZ_lt (lt_of_len (by omega) h)]
      · rw [cmpZ_gt h, cmpZ_gt (lt_of_len (by omega) h)])
    have hneq : (((L x).length : Int) != ((L y).length : Int)) = true := by rw [bne_iff_ne]; omega
    clear hne
    gi_wp2_with fail
    refine ⟨trivial, ?_⟩
    refine (callsIn_wide.2 (Compare_int _ _ _)).mono ?_
    rintro e w' ⟨rfl, rfl⟩
    gi_wp2_with fail
    have hc5 := (bR4.set (.int .i64 (cmpZ (L x).length (L y).length))).cell
    refine ⟨.int .i64 (cmpZ (L x).length (L y).length), ?_, by rw [HZ.out], hB4.setCell (p := ⟨w.heap.size + 1, 0, none⟩) (by simp) _⟩
    simp [results, Tryz.f34, go_sem, hc5]
end Go.Proofs.YtphllajedkpcbaaGreatDoor

namespace Go.Proofs.YtphllajedkpcbaaGreatDoor
open Go.RowKit Go.Dig Go.Shelf Go.Proofs

/-- of what was there only blocks of G may have turned. -/
structure Fr (G : Nat → Prop) (w w' : World) : Prop where
  os : w'.os = w.os
  tape : w'.tape = w.tape
  output : w'.output = w.output
  size : w.heap.size ≤ w'.heap.size
  block : ∀ k, k < w.heap.size → ¬ G k → w'.heap[k]? = w.heap[k]?

variable {G G' : Nat → Prop} {w w' w'' : World}
theorem Fr.refl (G : Nat → Prop) (w : World) : Fr G w w := ⟨rfl, rfl, rfl, Nat.le_refl _, fun _ _ _ => rfl⟩
theorem Fr.trans (h : Fr G w w') (k : Fr G' w' w'') (hG : ∀ i, i < w.heap.size → G' i → G i) : Fr G w w'' :=
  ⟨k.os.trans h.os, k.tape.trans h.tape, k.output.trans h.output, Nat.le_trans h.size k.size, fun i hi hn => (k.block i (Nat.lt_of_lt_of_le hi h.size) (fun h9 => hn (hG i hi h9))).trans (h.block i hi hn)⟩
theorem Fr.more (h : Fr G w w') (hG : ∀ i, i < w.heap.size → G i → G' i) : Fr G' w w' := ⟨h.os, h.tape, h.output, h.size, fun i hi hn => h.block i hi (fun h9 => hn (hG i hi h9))⟩
theorem Fr.of_below (h : Below w.heap.size w w') : Fr G w w' := ⟨h.os, h.tape, h.output, h.size, fun i hi _ => h.block i hi⟩
theorem Fr.of_grown {row : Option Nat} (h : w.grownBy w' row) (hr : ∀ k, k < w.heap.size → row = some k → G k) : Fr G w w' :=
  ⟨h.os, h.tape, h.output, h.size, fun i hi hn => h.block i hi (fun e => hn (hr i hi e.symm))⟩
theorem Fr.below {B : Nat} (h : Fr G w w') (hB : B ≤ w.heap.size) (hG : ∀ k, G k → B ≤ k) : Below B w w' :=
  ⟨h.os, h.tape, h.output, h.size, fun k hk => h.block k (by omega) (fun h9 => by have := hG k h9; omega)⟩
theorem Fr.grown {g : Nat} (h : Fr (· = g) w w') : w.grownBy w' (some g) := ⟨h.os, h.tape, h.output, h.size, fun k hk hne => h.block k hk (fun e => hne (by rw [e]))⟩
theorem Fr.alloc (h : Fr G w w') (o : Obj) : Fr G w (w'.alloc o) := h.trans (G' := fun _ => False) (Fr.of_grown (World.grownBy_alloc w' o none) (fun k _ e => by cases e)) (fun _ _ h => h.elim)
theorem Fr.drew (h : Fr G w w') : Fr G w w'.drew := ⟨h.os, h.tape, h.output, h.size, h.block⟩
theorem Fr.setCell (h : Fr G w w') {p : Addr} (hp : w.heap.size ≤ p.block ∨ G p.block) (u : Value) : Fr G w (w'.setCell p u) :=
  h.trans (G' := fun k => k = p.block) ⟨rfl, rfl, rfl, by simp [World.setCell], fun k _ hn => Below.heap_setCell _ _ _ _ hn⟩ (fun i hi e => by
    rcases hp with hp | hp
    · omega
    · rw [e]; exact hp)
theorem Fr.cell (h : Fr G w w') {p : Addr} (hp : p.block < w.heap.size) (hn : ¬ G p.block) : w'.cell? p = w.cell? p := World.cell?_of_block (w := w) (h.block p.block hp hn)
theorem Fr.boxed (h : Fr G w w') {B : Nat} {t : TypeId} {v : Value} (hb : Boxed w B t v) (hn : ¬ G B) : Boxed w' B t v := (h.block B hb.lt hn).trans hb
theorem Fr.lim (h : Fr G w w') {q : IntKind} {ad : Option Addr} {n cap : Nat} {l : List Nat} (hl : Lim q w (.slice ad n cap) l) (hn : ∀ b off, ad = some ⟨b, off, none⟩ → b < w.heap.size → ¬ G b) : Lim q w' (.slice ad n cap) l := by
  obtain ⟨ad', cap', e, h1, h2⟩ := hl
  cases e
  refine ⟨ad, cap, rfl, h1, fun hne => ?_⟩
  obtain ⟨b, off, rfl, hb, hc⟩ := h2 hne
  exact ⟨b, off, rfl, Nat.lt_of_lt_of_le hb h.size, fun j hj => (h.cell (p := ⟨b, off + j, none⟩) hb (hn b off rfl hb)).trans (hc j hj)⟩
theorem Fr.owns (h : Fr G w w') {base : Nat} {e : TypeId} {size : Nat} {g n cap : Nat} {xs : List Value} (ho : w.ownsRow base e size (.slice (some ⟨g, 0, none⟩) n cap) n xs) (hn : ¬ G g) : w'.ownsRow base e size (.slice (some ⟨g, 0, none⟩) n cap) n xs := by
  refine ⟨ho.1, ?_⟩
  rcases ho.2 with ⟨h', _⟩ | ⟨g', cap', cur, h', hb, hg, rest⟩
  · cases h'
  · cases h'
    exact .inr ⟨g, cap, cur, rfl, hb, (h.block g (Array.getElem?_eq_some_iff.1 hg).1 hn).trans hg, rest⟩
/-- it abides what the law of a range asks. -/
theorem ownFrom_fr {β : Type} {B : Nat} {w₀ : World} (hB : w₀.heap.size ≤ B) : OwnFrom B (fun (_ : β) W => Fr G w₀ W) := fun _ _ _ _ hs hg hr =>
  hs.trans (G' := fun k => B ≤ k) (Fr.of_grown hg (fun k _ e => (hr k e).1)) (fun i hi h9 => by omega)
theorem owns_own {W W' : World} {row : Option Nat} {base : Nat} {e : TypeId} {size : Nat} {v : Value} {n : Nat} {xs : List Value} (h : W.ownsRow base e size v n xs) (hg : W.grownBy W' row)
    (hrow : ∀ r, row = some r → ∃ o : Obj, W.heap[r]? = some o ∧ o.isCells = false) : W'.ownsRow base e size v n xs := by
  refine ⟨h.1, ?_⟩
  rcases h.2 with h' | ⟨g, cap, cur, hv, hb, hc, rest⟩
  · exact .inl h'
  · exact .inr ⟨g, cap, cur, hv, hb, (grownBy_keeps_cells hg hrow hc rfl).trans hc, rest⟩
theorem boxed_keep {W W' : World} {row : Option Nat} {B : Nat} {t : TypeId} {v : Value} (h : Boxed W B t v) (hg : W.grownBy W' row) (hrow : ∀ r, row = some r → ∃ o : Obj, W.heap[r]? = some o ∧ o.isCells = false) : Boxed W' B t v :=
  (grownBy_keeps_cells hg hrow h rfl).trans h

/-! ### rows that are owned -/
/-- the block g holds limbs, from its first cell on; it may be written. -/
abbrev Own64 (w : World) (base g n cap : Nat) (l : List Nat) : Prop := w.ownsRow base 56 1 (.slice (some ⟨g, 0, none⟩) n cap) n (l.map encU)
theorem Own64.len {base g n cap : Nat} {l : List Nat} (h : Own64 w base g n cap l) : l.length = n := by have := h.1; simpa using this
theorem Own64.lt {base g n cap : Nat} {l : List Nat} (h : Own64 w base g n cap l) : base ≤ g ∧ g < w.heap.size := World.ownsRow.lt h g rfl
theorem Own64.cap {base g n cap : Nat} {l : List Nat} (h : Own64 w base g n cap l) : n ≤ cap := by
  rcases h.2 with ⟨h', _⟩ | ⟨g', cap', cur, h', hb, hg, h1, _⟩
  · cases h'
  · cases h'; exact h1
theorem Own64.cell {base g n cap : Nat} {l : List Nat} (h : Own64 w base g n cap l) {j : Nat} (hj : j < n) : w.cell? ⟨g, j, none⟩ = some (.int .u64 (l.getD j 0 : Nat)) := by
  have hl := h.len
  rw [h.cellAt j (by omega)]
  simp [List.getD, show j < l.length by omega, encU]
theorem Own64.frozen {base g n cap : Nat} {l : List Nat} (h : Own64 w base g n cap l) (j : Nat) : w.frozen? ⟨g, j, none⟩ = false := h.frozenAt j
theorem Own64.row {base g n cap : Nat} {l : List Nat} (h : Own64 w base g n cap l) : RowU w (.slice (some ⟨g, 0, none⟩) n cap) l := by
  have hl := h.len
  subst hl
  exact RowU.of_owns h
theorem Own64.set {base g n cap : Nat} {l : List Nat} (h : Own64 w base g n cap l) (j x : Nat) : Own64 (w.setCell ⟨g, j, none⟩ (.int .u64 (x : Int))) base g n cap (l.set j x) := by
  have h1 := (h.stored j (.int .u64 (x : Int))).1
  rw [show (.int .u64 (x : Int) : Value) = encU x from rfl, ← List.map_set] at h1
  exact h1
/-- cut shorter. -/
theorem Own64.take {base g n cap k : Nat} {l : List Nat} (h : Own64 w base g n cap l) (hk : k ≤ n) : Own64 w base g k cap (l.take k) := by
  have hl := h.len
  refine ⟨by rw [List.length_map, List.length_take]; omega, ?_⟩
  rcases h.2 with ⟨h', _⟩ | ⟨g', cap', cur, h', hb, hg, h1, h2, h3, h4⟩
  · cases h'
  · cases h'
    refine .inr ⟨g, cap, cur, rfl, hb, hg, by omega, h2, h3, ?_⟩
    rw [Nat.mul_one] at h4 ⊢
    rw [List.map_take, ← h4, List.take_take, Nat.min_eq_left hk]
/-- a piece of it, as a slice. -/
theorem Own64.sub {base g n cap : Nat} {l : List Nat} (h : Own64 w base g n cap l) {i k c : Nat} (hik : i + k ≤ n) (hc : k ≤ c) : RowU w (.slice (some ⟨g, i, none⟩) k c) ((l.drop i).take k) := by
  have hl := h.len
  have hlen : ((l.drop i).take k).length = k := by rw [List.length_take, List.length_drop]; omega
  refine ⟨_, c, by rw [hlen], by omega, fun _ => ⟨g, i, rfl, h.lt.2, fun j hj => ?_⟩⟩
  rw [hlen] at hj
  rw [h.cell (by omega)]
  have e : ((l.drop i).take k).getD j 0 = l.getD (i + j) 0 := by simp [List.getD, List.getElem?_take_of_lt hj]
  rw [e]
end Go.Proofs.YtphllajedkpcbaaGreatDoor
