/-
  Contract of the document's answer roundelref01.digits: the digits of a core (a number below 64); and plain facts on the text of a set as it grows.
-/
import Derived.Test.YtgmdbgdbjmlolaaDoorWj
import Derived.Test.YtgmdbgdbjmlolaaDoorMathr
namespace Go.Proofs.YtgmdbgdbjmlolaaDoor
open Go.RowKit Go.Shelf

theorem digit_one : ∀ d : Fin 10, (⟨#[48, 49, 50, 51, 52, 53, 54, 55, 56, 57]⟩ : ByteArray).extract d.val (d.val + 1) = ⟨#[UInt8.ofNat (48 + d.val)]⟩ := by decide +kernel
theorem digit_at {d : Nat} (h : d < 10) : (⟨#[48, 49, 50, 51, 52, 53, 54, 55, 56, 57]⟩ : ByteArray).extract d (d + 1) = ⟨#[UInt8.ofNat (48 + d)]⟩ := digit_one ⟨d, h⟩
theorem digits_small {n : Nat} (h : n < 10) : (⟨#[]⟩ : ByteArray) ++ (⟨#[48, 49, 50, 51, 52, 53, 54, 55, 56, 57]⟩ : ByteArray).extract (n % 10) (n % 10 + 1) = ⟨(dec2 n).toArray⟩ := by
  rw [digit_at (by omega), Nat.mod_eq_of_lt h]; unfold dec2; rw [if_pos h]; rfl
theorem digits_more {n : Nat} (h : ¬ n < 10) (h64 : n < 64) : (⟨#[48, 49, 50, 51, 52, 53, 54, 55, 56, 57]⟩ : ByteArray).extract (n / 10) (n / 10 + 1) ++ (⟨#[48, 49, 50, 51, 52, 53, 54, 55, 56, 57]⟩ : ByteArray).extract (n % 10) (n % 10 + 1) = ⟨(dec2 n).toArray⟩ := by
  rw [digit_at (by omega), digit_at (by omega)]; unfold dec2; rw [if_neg h]; rfl

set_option maxRecDepth 100000 in
set_option maxHeartbeats 2000000 in
theorem digits_any (n : Nat) (hn : n < 64) (w : World) :
    Calls Tryd.prog 42 #[.int .i64 (n : Int)] w fun e w' => e = .returned (encS (Lib.decDigits n)) ∧ w = w' := by
  rw [dec_eq (by omega)]
  by_cases h : n < 10
  · have HD := Lib.hid (digits_small h)
    go_enter Tryd.func42, Tryd.ntmps42
    go_wp2_with fail
    rw [HD.out]
    go_ret
    exact ⟨rfl, rfl⟩
  · have HD := Lib.hid (digits_more h hn)
    go_enter Tryd.func42, Tryd.ntmps42
    go_wp2_with fail
    rw [HD.out]
    go_ret
    exact ⟨rfl, rfl⟩

/-! ### the text as it grows -/
def textTo (N k : Nat) : List UInt8 := Lib.join (runsOf N (coresTo N k)) [44]
theorem coresTo_lt {N k c : Nat} (h : c ∈ coresTo N k) : c < k := by
  simp only [coresTo, List.mem_filter, List.mem_range] at h; exact h.1
theorem textTo_len {N k : Nat} (hN : N < 18446744073709551616) (hk : k ≤ 64) : (textTo N k).length ≤ 384 := by
  have h1 := join_len (runsOf N (coresTo N k)) (runs_small hN fun c hc => by have := coresTo_lt hc; omega)
  have h2 := runs_len N (coresTo N k)
  have h3 := coresTo_len N k
  unfold textTo; omega
theorem runs_pos {N k : Nat} (hk : k ≤ 64) : ∀ x ∈ runsOf N (coresTo N k), 1 ≤ x.length := by
  intro x hx
  simp only [runsOf, List.mem_map, List.mem_filter] at hx
  obtain ⟨c, ⟨hc, _⟩, rfl⟩ := hx
  have := coresTo_lt hc
  exact run_pos (by omega)
theorem textTo_nil {N k : Nat} (hk : k ≤ 64) : textTo N k = [] ↔ runsOf N (coresTo N k) = [] := by
  constructor
  · intro h
    have h1 := join_long _ (runs_pos (N := N) hk)
    unfold textTo at h
    rw [h] at h1
    exact List.eq_nil_of_length_eq_zero (by simpa using h1)
  · intro h; unfold textTo; rw [h]; rfl
theorem join_snoc (t : List UInt8) : ∀ (rs : List (List UInt8)), rs ≠ [] → Lib.join (rs ++ [t]) [44] = Lib.join rs [44] ++ 44 :: t
  | [], h => absurd rfl h
  | x :: rs, _ => by
    rw [List.cons_append, Lib.join_cons, Lib.join_cons]
    simp [Lib.joinTail]
/-- a run that begins at k ends at a core with none behind it, and is the one run more. -/
theorem run_next {N k : Nat} (hN : N < 18446744073709551616) (hk : k < 64) (hb : N.testBit k = true) (h0 : hasB N ((k : Int) - 1) = false) :
    k ≤ runEndN N k ∧ runEndN N k < 64 ∧ N.testBit (runEndN N k + 1) = false ∧ runsOf N (coresTo N (runEndN N k + 1)) = runsOf N (coresTo N k) ++ [runTextL k (runEndN N k)] := by
  have hge : k ≤ runEndN N k := runGo_ge N _ k
  have hlt := runEndN_lt hN hk
  have hin : ∀ j, k ≤ j → j ≤ runEndN N k → N.testBit j = true := fun j h1 h2 => runGo_in N _ k j hb h1 h2
  refine ⟨hge, hlt, ?_, ?_⟩
  · cases he : N.testBit (runEndN N k + 1)
    · rfl
    · have := run_reach hN (runEndN N k + 1 - k) k (fun j h1 h2 => by
        by_cases e : j ≤ runEndN N k
        · exact hin j h1 e
        · have : j = runEndN N k + 1 := by omega
          rw [this]; exact he)
      omega
  · have main : ∀ d, k + d ≤ runEndN N k → runsOf N (coresTo N (k + d + 1)) = runsOf N (coresTo N k) ++ [runTextL k (runEndN N k)] := by
      intro d
      induction d with
      | zero => intro _; rw [Nat.add_zero, coresTo_yes hb, runs_hit h0]
      | succ d ih =>
        intro hd
        have hb2 := hin (k + (d + 1)) (by omega) hd
        rw [coresTo_yes hb2, runs_miss, ← ih (by omega)]
        · rfl
        · have e : ((k + (d + 1) : Nat) : Int) - 1 = ((k + d : Nat) : Int) := by omega
          rw [e, hasB_any hN]; exact hin (k + d) (by omega) (by omega)
    have := main (runEndN N k - k) (by omega)
    rwa [show k + (runEndN N k - k) = runEndN N k by omega] at this
theorem textTo_next {N k : Nat} (hN : N < 18446744073709551616) (hk : k < 64) (hb : N.testBit k = true) (h0 : hasB N ((k : Int) - 1) = false) :
    textTo N (runEndN N k + 1) = (if textTo N k = [] then [] else textTo N k ++ [44]) ++ runTextL k (runEndN N k) := by
  have h := (run_next hN hk hb h0).2.2.2
  by_cases hn : textTo N k = []
  · rw [if_pos hn]
    rw [textTo_nil (by omega)] at hn
    unfold textTo
    rw [h, hn, List.nil_append, Lib.join_one, List.nil_append]
  · rw [if_neg hn]
    have hn2 : runsOf N (coresTo N k) ≠ [] := fun e => hn ((textTo_nil (by omega)).2 e)
    unfold textTo
    rw [h, join_snoc _ _ hn2, List.append_assoc]; rfl
theorem textTo_no {N k : Nat} (hb : N.testBit k = false) : textTo N (k + 1) = textTo N k := by unfold textTo; rw [coresTo_no hb]
theorem textTo_all {N : Nat} (hN : N < 18446744073709551616) : textOf N = if textTo N 64 = [] then [110, 111, 110, 101] else textTo N 64 := by
  by_cases h0 : N = 0
  · subst h0
    have : textTo 0 64 = [] := by unfold textTo; rw [show coresTo 0 64 = coresOf 0 from rfl, cores_zero]; rfl
    rw [if_pos this]; unfold textOf; rw [if_pos rfl]
  · have h1 : textTo N 64 ≠ [] := fun e => runs_ne h0 hN ((textTo_nil (Nat.le_refl _)).1 e)
    rw [if_neg h1]; unfold textOf; rw [if_neg h0]; rfl
end Go.Proofs.YtgmdbgdbjmlolaaDoor
