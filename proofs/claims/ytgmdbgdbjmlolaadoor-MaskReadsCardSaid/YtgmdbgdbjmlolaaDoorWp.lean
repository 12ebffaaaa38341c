/-
  Contract of package mask's Read. Conditions: as in Wn.
-/
import Derived.Test.YtgmdbgdbjmlolaaDoorWo
namespace Go.Proofs.YtgmdbgdbjmlolaaDoor
open Go.RowKit Go.Shelf

/-- a set and a code, as values. -/
def readVals (o : Option Nat) : Value := .tuple #[.int .u64 ((o.getD 0 : Nat) : Int), .int .i64 (if o.isSome then 0 else 17)]

theorem readSpec_lt : ∀ (f : Nat) (l : List UInt8) (acc n : Nat), acc < 18446744073709551616 → readSpec f l acc = some n → n < 18446744073709551616
  | 0, _, _, _, _, h => by cases h
  | f + 1, l, acc, n, ha, h => by
    unfold readSpec at h
    split at h
    · cases h
    · rename_i p hp
      have hr : addRun acc p < 18446744073709551616 := addTo_lt ha _
      split at h
      · exact readSpec_lt f _ _ n hr h
      · simp only [Option.some.injEq] at h; omega
theorem readText_lt {l : List UInt8} {n : Nat} (h : readText l = some n) : n < 18446744073709551616 := readSpec_lt _ _ 0 n (by omega) h

set_option maxRecDepth 100000 in
set_option maxHeartbeats 2000000 in
theorem Read_any (l : List UInt8) (w : World) (hl : l.length ≤ 400) (hw : Rw w) :
    Calls Tryd.prog 29 #[encS l] w fun e w' => e = .returned (readVals (readMask l)) ∧ Below w.heap.size w w' := by
  by_cases h : l = noneL
  · subst h
    unfold encS noneL
    go_enter Tryd.func29, Tryd.ntmps29
    go_wp2_with fail
    go_ret2
    exact ⟨rfl, Below.refl _ _⟩
  · have hne : (l == [110, 111, 110, 101]) = false := beq_eq_false_iff_ne.2 h
    have hspec : readMask l = match readText l with | some n => if textOf n = l then some n else none | none => none := by unfold readMask; rw [if_neg h]; rfl
    have H41 := Lib.hid (readRuns_any l w hl hw)
    unfold encS setVals at H41
    generalize readMask l = r at hspec ⊢
    have hlt := Lib.hid (fun n (h : readText l = some n) => readText_lt h)
    generalize readText l = o at hspec H41 hlt
    unfold encS
    clear h
    cases o with
    | none =>
      subst hspec
      go_enter Tryd.func29, Tryd.ntmps29
      go_wp2_with fail
      refine H41.out.mono ?_
      rintro e w1 ⟨rfl, hb1⟩
      have hw1 := hw.below hb1 hw.size
      go_wp2_with fail
      go_ret2
      exact ⟨rfl, hb1⟩
    | some n =>
      have hn := hlt.out n rfl
      clear hlt
      have H28 := Lib.hid (fun W h1 h2 => Text_any n hn W h1 h2)
      unfold encS at H28
      simp only at hspec
      generalize textOf n = t at hspec H28
      go_enter Tryd.func29, Tryd.ntmps29
      go_wp2_with fail
      refine H41.out.mono ?_
      rintro e w1 ⟨rfl, hb1⟩
      have hw1 := hw.below hb1 hw.size
      go_wp2_with fail
      refine (H28.out w1 hw1.tab (by have := hw1.size; omega)).mono ?_
      rintro e w2 ⟨rfl, hb2⟩
      have hB2 := hb1.trans (hb2.mono hb1.size)
      by_cases ht : t = l
      · have hne2 : (t == l) = true := by rw [ht]; exact beq_self_eq_true l
        rw [if_pos ht] at hspec
        subst hspec
        clear ht
        go_wp2_with fail
        go_ret2
        exact ⟨rfl, hB2⟩
      · have hne2 : (t == l) = false := beq_eq_false_iff_ne.2 ht
        rw [if_neg ht] at hspec
        subst hspec
        clear ht
        go_wp2_with fail
        go_ret2
        exact ⟨rfl, hB2⟩
end Go.Proofs.YtgmdbgdbjmlolaaDoor
