/-
  TableEnds: none is given beyond the last id of all. No condition.
-/
import Derived.Test.YthopmkgbhfkeoaaUm
namespace Go.Proofs.Ythopmkgbhfkeoaa
open Go.RowKit

theorem Skip_first {n p g : Nat} {w : World} (hn : n < 40) (h : IsTab w p g (List.replicate 64 0) 0) :
    Calls Try.prog 16 #[.pointer (some ⟨p, 0, none⟩), .int .i64 (2147483648 - (n : Int))] w fun e w' => e = .returned (.int .i64 0) ∧ IsTab w' p g (fillL (2147483648 - (n : Int)) 64 0) (2147483648 - (n : Int) + ((0 : Nat) : Int)) ∧ Only p g w w' := by
  have hB : skipB 0 (2147483648 - (n : Int)) = true := by
    simp only [skipB, decide_eq_true_eq]
    omega
  have := Skip_any p g _ 0 (2147483648 - (n : Int)) w h (TabOk.new (by omega) (by omega))
  rw [show skipE 0 (2147483648 - (n : Int)) = 0 by simp only [skipE, hB, if_true], show skipM 0 (2147483648 - (n : Int)) = 2147483648 - (n : Int) + ((0 : Nat) : Int) by simp only [skipM, hB, if_true]; omega, ← fillL_zero (2147483648 - (n : Int)) 64] at this
  exact this
theorem Skip_none {n p g : Nat} {w : World} {x : Int} (hn : n < 40) (hx : x < 0 ∨ (n : Int) < x) (h : IsTab w p g (fillL (2147483648 - (n : Int)) 64 0) (2147483648 - (n : Int) + ((0 : Nat) : Int))) :
    Calls Try.prog 16 #[.pointer (some ⟨p, 0, none⟩), .int .i64 x] w fun e w' => e = .returned (.int .i64 14) ∧ IsTab w' p g (fillL (2147483648 - (n : Int)) 64 0) (2147483648 - (n : Int) + ((0 : Nat) : Int)) ∧ Only p g w w' := by
  have hB : skipB (2147483648 - (n : Int) + ((0 : Nat) : Int)) x = false := by
    simp only [skipB, decide_eq_false_iff_not]
    omega
  have := Skip_any p g _ _ x w h (fillL_ok (by omega) (by omega) (by omega) (by omega) (by omega))
  rwa [show skipE (2147483648 - (n : Int) + ((0 : Nat) : Int)) x = 14 by unfold skipE; rw [hB]; rfl, show skipM (2147483648 - (n : Int) + ((0 : Nat) : Int)) x = 2147483648 - (n : Int) + ((0 : Nat) : Int) by unfold skipM; rw [hB]; rfl] at this
set_option maxRecDepth 100000 in
set_option maxHeartbeats 4000000 in
theorem ends_any (left : Nat) (w : World) (hl : left < 256) :
    Calls Try.prog 6 #[.int .u8 (left : Int)] w fun e w' => e = .returned (.bool true) ∧ Below w.heap.size w w' := by
  have hB := Below.refl w.heap.size w
  have hn : Hid ((left : Int) % 40 = ((left % 40 : Nat) : Int)) := Lib.hid (by omega)
  have h40 : left % 40 < 40 := by omega
  have HN := Lib.hid (fun w => New_yes 64 w (by omega) (by omega))
  go_enter Try.func6, Try.ntmps6
  go_wp2_with fail
  refine (awake_any _).mono ?_
  rintro e w1 ⟨rfl, hb⟩
  replace hB := hB.trans (hb.mono hB.size)
  clear hb
  go_wp2_with fail
  refine (HN.out _).mono ?_
  rintro e w2 ⟨⟨p, g, rfl, hT, hp, hg⟩, hb⟩
  replace hp := Nat.le_trans hB.size hp
  replace hg := Nat.le_trans hB.size hg
  replace hB := hB.trans (hb.mono hB.size)
  clear hb HN
  go_wp2_with fail
  rw [hn.out]
  clear hn hl
  generalize left % 40 = n at *
  refine (Skip_first h40 hT).mono ?_
  rintro e w3 ⟨rfl, hT, ho⟩
  replace hB := hB.trans (ho.below (B := w.heap.size) hB.size hp hg)
  clear ho
  go_wp2_with fail
  refine (Skip_none h40 (.inr (by omega)) hT).mono ?_
  rintro e w4 ⟨rfl, hT, ho⟩
  replace hB := hB.trans (ho.below (B := w.heap.size) hB.size hp hg)
  clear ho
  go_wp2_with fail
  refine (Skip_none h40 (.inl (by omega)) hT).mono ?_
  rintro e w5 ⟨rfl, hT, ho⟩
  replace hB := hB.trans (ho.below (B := w.heap.size) hB.size hp hg)
  clear ho
  go_wp2_with fail
  have H0 : Hid (IsTab w5 p g (fillL (2147483648 - (n : Int)) 64 0) (2147483648 - (n : Int) + ((0 : Nat) : Int)) ∧ Below w.heap.size w w5) := Lib.hid ⟨hT, hB⟩
  clear hT hB
  go_loopw [42] (fun i wr => ∃ k : Nat, k ≤ n ∧ i = .int .i64 k ∧ Hid (IsTab wr p g (fillL (2147483648 - (n : Int)) 64 k) (2147483648 - (n : Int) + ((k : Nat) : Int)) ∧ Below w.heap.size w wr)) (fun i _ => n - (intOf i).toNat)
  case atStart => exact ⟨0, by omega, rfl, H0⟩
  case round =>
    clear H0
    obtain ⟨k, hk, rfl, HT⟩ := hrel
    obtain ⟨hT, hB⟩ := HT.out
    clear HT
    by_cases hlt : k < n
    · go_wp2_with fail
      refine (Add_fill (by omega) (by omega) (by omega) (by omega) (by omega) hT).mono ?_
      rintro e w6 ⟨rfl, hT, ho⟩
      replace hB := hB.trans (ho.below (B := w.heap.size) hB.size hp hg)
      clear ho
      go_wp2_with fail
      exact ⟨⟨k + 1, by omega, by go_num, Lib.hid ⟨hT, hB⟩⟩, by simp [intOf]; omega⟩
    · obtain rfl : k = n := by omega
      go_wp2_with fail
      refine (Add_over (by omega) (by omega) (by omega) (by omega) (by omega) (.inr (by omega)) hT).mono ?_
      rintro e w7 ⟨rfl, rfl⟩
      go_wp2_with fail
      refine (Len_fill (by omega) (by omega) (by omega) (by omega) hT).mono ?_
      rintro e w8 ⟨rfl, hb⟩
      replace hB := hB.trans (hb.mono hB.size)
      replace hT := hT.belowS hb
      clear hb
      go_wp2_with fail
      refine (Last_any p g _ _ _ hT).mono ?_
      rw [show 2147483648 - (k : Int) + (k : Int) = 2147483648 by omega]
      rintro e w9 ⟨rfl, rfl⟩
      go_wp2_with fail
      go_ret
      exact ⟨rfl, hB⟩
end Go.Proofs.Ythopmkgbhfkeoaa
