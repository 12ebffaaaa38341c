/-
  Contracts of package mask: First, Cores and its iterator, runEnd, runText. Condition: the table of math/bits lies as its initialiser lays it.
-/
import Derived.Test.YtgmdbgdbjmlolaaDoorWa
import Derived.Test.YtgmdbgdbjmlolaaDoorMathb
import Derived.Test.YtgmdbgdbjmlolaaDoorShelf
import Derived.RangeFuncNested
import Derived.RangeFuncBound
import Derived.RangeFuncCalls
import Derived.RangeFuncLeaves
import Derived.Shelf.Abstract
import Derived.Shelf.RegionOpen
import Derived.OwnWalkIn
import Derived.TacticsInMore
import Derived.LoopNIn
import Derived.LoopIn
namespace Go.Proofs.YtgmdbgdbjmlolaaDoor
open Go.RowKit Go.Shelf
attribute [local go_sem] Oper.semAt_some

/-- the table of bits lies in its variable. -/
abbrev Tab (w : World) : Prop := TabAt 0 Lib.deBruijn64tab w
theorem Tab.below {B : Nat} {w w' : World} (h : Tab w) (hb : Below B w w') (h0 : 0 < B) : Tab w' := fun j hj => (hb.cell (p := ⟨0, j, none⟩) h0).trans (h j hj)

/-- the least core; -1 of the empty set. -/
def firstZ (n : Nat) : Int := if n = 0 then -1 else (Lib.ctz 64 n : Nat)

set_option maxHeartbeats 400000 in
theorem First_any (n : Nat) (w : World) (hn : n < 18446744073709551616) (hT : Tab w) :
    Calls Tryd.prog 22 #[.int .u64 n] w fun e w' => e = .returned (.int .i64 (firstZ n)) ∧ w = w' := by
  by_cases h : n = 0
  · subst h
    go_enter Tryd.func22, Tryd.ntmps22
    go_wp2
    go_ret
    exact ⟨ret_int rfl, rfl⟩
  · have h1 : ((n : Int) == 0) = false := by simp; omega
    have H := Lib.hid (show firstZ n = (Lib.ctz 64 n : Nat) by unfold firstZ; simp [h])
    have h := Lib.hid h
    go_enter Tryd.func22, Tryd.ntmps22
    go_wp2_with (go_at_call 36; refine (Tryd.bits_TrailingZeros64 n hn _ (fun _ => hT)).mono ?_; rintro e w' ⟨rfl, rfl⟩)
    go_ret
    exact ⟨ret_int H.out.symm, rfl⟩

set_option maxHeartbeats 400000 in
theorem runEnd_any (n c : Nat) (w : World) (hn : n < 18446744073709551616) (hc : c < 64) :
    Calls Tryd.prog 39 #[.int .u64 n, .int .i64 c] w fun e w' => e = .returned (.int .i64 (runEndN n c : Nat)) ∧ w = w' := by
  go_enter Tryd.func39, Tryd.ntmps39
  go_wp2_with fail
  go_loop [1] (fun i => ∃ k : Nat, k < 64 ∧ i = .int .i64 k ∧ Hid (runEndN n c = runEndN n k)) (fun i => 64 - (intOf i).toNat)
  case atStart => exact ⟨c, hc, rfl, Lib.hid rfl⟩
  case round =>
    obtain ⟨k, hk, rfl, H⟩ := hrel
    cases hb : n.testBit (k + 1)
    · have h1 : hasB n ((k : Int) + 1) = false := by rw [show (k : Int) + 1 = ((k + 1 : Nat) : Int) by omega, hasB_any hn]; exact hb
      have H2 := Lib.hid (H.out.trans (run_ends hb))
      clear hb H
      go_wp2_with (go_at_call 15; refine (Has_any n _ _ hn).mono ?_; rintro e w' ⟨rfl, rfl⟩)
      go_ret
      exact ⟨ret_int (by rw [H2.out]), rfl⟩
    · have h1 : hasB n ((k : Int) + 1) = true := by rw [show (k : Int) + 1 = ((k + 1 : Nat) : Int) by omega, hasB_any hn]; exact hb
      have h2 := run_go_on hn hb
      have h3 := h2.1
      have H2 := Lib.hid (H.out.trans h2.2)
      clear hb H h2
      go_wp2_with (go_at_call 15; refine (Has_any n _ _ hn).mono ?_; rintro e w' ⟨rfl, rfl⟩)
      go_round
      case rel => exact ⟨k + 1, h3, by go_num, H2⟩
      case measure => simp [intOf]; omega

theorem ret_str {a b : List UInt8} (h : a = b) : Ending.returned (.string ⟨a.toArray⟩) = .returned (.string ⟨b.toArray⟩) := by rw [h]

theorem bytes_append (a b : List UInt8) : (⟨a.toArray⟩ : ByteArray) ++ (⟨b.toArray⟩ : ByteArray) = ⟨(a ++ b).toArray⟩ := by
  apply ByteArray.ext
  simp

set_option maxHeartbeats 400000 in
theorem runText_any (a b : Nat) (w : World) (ha : a < 64) (hb : b < 64) :
    Calls Tryd.prog 38 #[.int .i64 a, .int .i64 b] w fun e w' => e = .returned (.string ⟨(runTextL a b).toArray⟩) ∧ w = w' := by
  by_cases h : a = b
  · subst h
    have H := Lib.hid (show runTextL a a = Lib.decDigits a by simp [runTextL])
    go_enter Tryd.func38, Tryd.ntmps38
    go_wp2_with (go_at_call 44; refine (Tryd.strconv_Itoa_small _ (by omega) _).mono ?_; rintro e w' ⟨rfl, rfl⟩)
    go_ret
    exact ⟨ret_str H.out.symm, rfl⟩
  · have h1 : ((a : Int) == (b : Int)) = false := by simp; omega
    have H := Lib.hid (show runTextL a b = Lib.decDigits a ++ [45] ++ Lib.decDigits b by simp [runTextL, h])
    have h := Lib.hid h
    have l1 := dec_len (i := a) (by omega)
    have l2 := dec_len (i := b) (by omega)
    go_enter Tryd.func38, Tryd.ntmps38
    go_wp2_with (go_at_call 44; refine (Tryd.strconv_Itoa_small _ (by omega) _).mono ?_; rintro e w' ⟨rfl, rfl⟩)
    go_ret
    refine ⟨?_, rfl⟩
    rw [H.out]
    exact congrArg (fun x => Ending.returned (Value.string x)) (by rw [bytes_append (Lib.decDigits a) [45], bytes_append])

theorem First_is (n k : Nat) (w : World) (hn : n < 18446744073709551616) (h : firstZ n = (k : Int)) (hT : Tab w) :
    Calls Tryd.prog 22 #[.int .u64 n] w fun e w' => e = .returned (.int .i64 k) ∧ w = w' := by
  rw [← h]; exact First_any n w hn hT
theorem without_lt {n c : Nat} (h : n.testBit c = true) : withoutN n (c : Int) < n := by
  have h1 := withoutN_le n (c : Int)
  rcases Nat.lt_or_ge (withoutN n (c : Int)) n with h2 | h2
  · exact h2
  · exfalso
    have e : withoutN n (c : Int) = n := by omega
    by_cases hc : c < 64
    · have h3 : (withoutN n (c : Int)).testBit c = true := by rw [e]; exact h
      unfold withoutN at h3
      rw [onlyN_nat hc, Nat.testBit_and] at h3
      have hp : 2 ^ c < 2 ^ 64 := Nat.pow_lt_pow_right (by omega) hc
      rw [show 18446744073709551615 - 2 ^ c = 2 ^ 64 - (2 ^ c + 1) by omega, Nat.testBit_two_pow_sub_succ hp, Nat.testBit_two_pow] at h3
      simp at h3
    · unfold withoutN at e
      rw [onlyN_no (coreB_big (by omega))] at e
      have h4 : n &&& 18446744073709551615 = n := e
      rw [show 18446744073709551615 = 2 ^ 64 - 1 by omega, Nat.and_two_pow_sub_one_eq_mod] at h4
      have h5 : n < 2 ^ 64 := by rw [← h4]; exact Nat.mod_lt _ (by omega)
      rw [bit_far (by omega) (by omega)] at h
      cases h

/-- cores as members of a type: what a loop's body is handed. -/
abbrev Core := Fin 64

set_option maxRecDepth 100000 in
set_option maxHeartbeats 1000000 in
/-- the iterator: for every body that keeps what lay below n₀. -/
theorem Cores1_in (l Bn n₀ N : Nat) (h0n : 0 < n₀) (s : Nat) (hs : s < 18446744073709551616) (xs : List Core) (hxs : xs.map (·.val) = coresOf s) (J Jx : List Core → World → Prop)
    (hY : ∀ pre x W, J pre W → pre.length < xs.length → YieldAt Fence.wide (N - 1) Tryd.prog l #[.int .i64 (x.val : Int)] W fun e W' =>
      (e = .returned (.bool true) ∧ J (pre ++ [x]) W' ∧ Below n₀ W W') ∨ (e = .returned (.bool false) ∧ Jx (pre ++ [x]) W'))
    (W : World) (hBn : W.cell? ⟨Bn, 0, none⟩ = some (.int .u64 s)) (hT : Tab W) (h0 : J [] W) :
    CallsIn Fence.wide N Tryd.prog 37 #[.func (.yield l) #[] #[], .pointer (some ⟨Bn, 0, none⟩)] W fun e W' => (∃ v, e = .returned v) ∧
      ((∃ ys, ys = xs ∧ J ys W') ∨ (∃ pre, pre <+: xs ∧ Jx pre W')) := by
  refine callsIn_of_wp Tryd.func37 rfl trivial ?_ rfl
  simp only [Tryd.ntmps37, List.size_toArray, List.length_cons, List.length_nil, Nat.reduceAdd, Nat.reduceSub, Array.replicate_succ, Array.replicate_zero, List.push_toArray, List.append_toArray, List.nil_append, List.cons_append]
  gi_wp2_with fail
  gi_loopw [3] (fun p wr => ∃ (pre rest : List Core) (r : Nat), p = .int .u64 r ∧ r < 18446744073709551616 ∧ Hid (xs = pre ++ rest) ∧ Hid (rest.map (·.val) = coresOf r) ∧ Tab wr ∧ J pre wr)
    (fun p _ => (intOf p).toNat)
  case atStart =>
    exact ⟨[], xs, s, rfl, hs, Lib.hid rfl, Lib.hid hxs, hT, h0⟩
  case round =>
    obtain ⟨pre, rest, r, rfl, hr, Hx, Hc, hTr, hJs⟩ := hrel
    by_cases hz : r = 0
    · subst hz
      obtain rfl : rest = [] := by have := Hc.out; rw [cores_zero] at this; simpa using this
      gi_wp2
      go_end0
      exact ⟨⟨_, rfl⟩, .inl ⟨pre, by simp [Hx.out], hJs⟩⟩
    · obtain ⟨x, rest', rfl, hxv, hrest⟩ : ∃ (x : Core) (rest' : List Core), rest = x :: rest' ∧ Lib.ctz 64 r = x.val ∧ rest'.map (·.val) = coresOf (withoutN r (x.val : Int)) := by
        have h1 := Hc.out
        rw [cores_step hz hr] at h1
        match rest, h1 with
        | x :: rest', h1 =>
          simp only [List.map_cons, List.cons.injEq] at h1
          exact ⟨x, rest', rfl, h1.1.symm, by rw [h1.2, h1.1]⟩
      have hfirst : firstZ r = (x.val : Int) := by unfold firstZ; rw [if_neg hz, hxv]
      have hlt : withoutN r (x.val : Int) < r := without_lt (by rw [← hxv]; exact (ctz_facts hz hr).2.1)
      have hlt2 : withoutN r (x.val : Int) < 18446744073709551616 := by omega
      have hz1 : ((r : Int) != 0) = true := by rw [bne_iff_ne]; omega
      have HF := Lib.hid hfirst
      have HR := Lib.hid hrest
      clear hfirst hrest hxv hz
      obtain ⟨fn, tmps, assign, body, hy, hR⟩ := hY pre x wr hJs (by rw [Hx.out]; simp)
      gi_wp2_with fail
      refine ⟨trivial, fun h => (by cases h), ?_⟩
      refine (callsIn_wide.2 (First_is r x.val wr hr HF.out hTr)).mono ?_
      rintro e w' ⟨rfl, rfl⟩
      gi_wp2_with fail
      refine ⟨fun h => (by cases h), ?_⟩
      refine hR.mono ?_
      rintro e W3 (⟨rfl, hJ3, hk3⟩ | ⟨rfl, hJx3⟩)
      · have hT3 : Tab W3 := hTr.below hk3 h0n
        gi_wp2_with fail
        refine ⟨trivial, fun h => (by cases h), ?_⟩
        refine (callsIn_wide.2 (First_is r x.val W3 hr HF.out hT3)).mono ?_
        rintro e w' ⟨rfl, rfl⟩
        gi_wp2_with fail
        refine ⟨trivial, fun h => (by cases h), ?_⟩
        refine (callsIn_wide.2 (Without_any r (x.val : Int) W3 hr)).mono ?_
        rintro e w' ⟨rfl, rfl⟩
        gi_wp2_with fail
        go_roundw
        case rel => exact ⟨pre ++ [x], rest', withoutN r (x.val : Int), rfl, hlt2, Lib.hid (by simp [Hx.out]), HR, hT3, hJ3⟩
        case measure => simp [intOf]; omega
      · gi_wp2_with fail
        refine bodyPost_ret (results_none rfl _ _ _) rfl ?_
        exact ⟨⟨_, rfl⟩, .inr ⟨pre ++ [x], ⟨rest', by simp [Hx.out]⟩, hJx3⟩⟩

set_option maxHeartbeats 1000000 in
/-- s.Cores(): the receiver is boxed; the function value captures the box. -/
theorem Cores_any (s : Nat) (w : World) :
    Calls Tryd.prog 26 #[.int .u64 s] w fun e w' => e = .returned (.func (.func 37) #[] #[.pointer (some ⟨w.heap.size, 0, none⟩)]) ∧ w' = w.alloc (.cells #[.int .u64 s] 25) := by
  go_enter Tryd.func26, Tryd.ntmps26
  go_wp2
  go_ret
  exact ⟨rfl, rfl⟩

/-- what s.Cores() hands back tells all cores of s, rising, or a part, where a round has said no. -/
theorem Cores_stops (N Bn n₀ : Nat) (h0n : 0 < n₀) (s : Nat) (hs : s < 18446744073709551616) (xs : List Core) (hxs : xs.map (·.val) = coresOf s) (w : World) (hBn : Bn < w.heap.size)
    (hc : w.cell? ⟨Bn, 0, none⟩ = some (.int .u64 s)) (hT : Tab w) :
    SeqStopsK Fence.wide N Tryd.prog 37 #[.pointer (some ⟨Bn, 0, none⟩)] (fun x : Core => #[Value.int .i64 (x.val : Int)]) (Below n₀) (fun ys => ys = xs) (fun pre => pre <+: xs) xs.length w := fun l J Jx W hW _ _ hY h0 =>
  Cores1_in l Bn n₀ N h0n s hs xs hxs J Jx hY W ((hW.cell (p := ⟨Bn, 0, none⟩) hBn).trans hc) (hT.below hW (by omega)) h0
end Go.Proofs.YtgmdbgdbjmlolaaDoor
