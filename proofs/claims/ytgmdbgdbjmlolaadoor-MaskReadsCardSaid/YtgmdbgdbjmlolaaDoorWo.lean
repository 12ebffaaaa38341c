/-
  Contract of package mask's readRuns: the runs of a text, read one after another. Conditions: as in Wn.
-/
import Derived.Test.YtgmdbgdbjmlolaaDoorWn
namespace Go.Proofs.YtgmdbgdbjmlolaaDoor
open Go.RowKit Go.Shelf

set_option maxRecDepth 100000 in
set_option maxHeartbeats 2000000 in
theorem readRuns_any (l0 : List UInt8) (w : World) (hl0 : l0.length ≤ 400) (hw : Rw w) :
    Calls Tryd.prog 41 #[encS l0] w fun e w' => e = .returned (setVals (readText l0)) ∧ Below w.heap.size w w' := by
  unfold encS
  go_enter Tryd.func41, Tryd.ntmps41
  go_wp2_with fail
  go_loopw [0, 4, 5] (fun s x m wr => RunsI l0 w s x m wr) (fun s _ m _ => boolN m * (strLen s + 1))
  case atStart => exact ⟨l0, 0, l0.length + 1, true, rfl, rfl, rfl, by omega, hl0, hw, Below.refl _ _, by rw [if_pos rfl]; exact ⟨rfl, by omega⟩⟩
  case round =>
    obtain ⟨l, acc, f, t, rfl, rfl, rfl, hacc, hl, hwr, hb, hspec⟩ := hrel
    cases t
    · rw [if_neg (by decide)] at hspec
      have HS := Lib.hid hspec
      clear hspec
      go_wp2_with fail
      go_ret2
      exact ⟨by rw [HS.out]; rfl, hb⟩
    · rw [if_pos rfl] at hspec
      obtain ⟨hs1, hf⟩ := hspec
      match f, hf, hs1 with
      | f + 1, hf, hs1 =>
      have hcut := Cut_any l 44 wr hl hwr
      have hlen := cut_len l 44
      unfold readSpec at hs1
      generalize Lib.cut l [44] = p at hcut hlen hs1
      obtain ⟨x, y, t⟩ := p
      simp only at hs1 hlen
      obtain ⟨hlx, hly, hlt⟩ := hlen
      have H48 := Lib.hid hcut
      unfold encS at H48
      have H49 := Lib.hid (fun W (h : Rw W) => readRun_any x W (by omega) h)
      unfold encS runVals at H49
      clear hcut
      have hrl := Lib.hid (fun p (h : runOfText x = some p) => runOf_lt h)
      generalize runOfText x = r at hs1 H49 hrl
      have HS := Lib.hid hs1
      clear hs1
      go_wp2_with fail
      refine H48.out.mono ?_
      rintro e w1 ⟨rfl, hb1⟩
      have hw1 := hwr.below hb1 hwr.size
      have hB1 := hb.trans (hb1.mono hb.size)
      go_wp2_with fail
      refine (H49.out w1 hw1).mono ?_
      rintro e w2 ⟨rfl, hb2⟩
      have hw2 := hw1.below hb2 hw1.size
      have hB2 := hB1.trans (hb2.mono hB1.size)
      clear H48 H49 hb1 hb2 hw1 hB1 hwr hb
      cases r with
      | none =>
        clear hrl
        go_wp2_with fail
        go_ret2
        exact ⟨by rw [HS.out]; rfl, hB2⟩
      | some p =>
        obtain ⟨a, b⟩ := p
        have hab := hrl.out (a, b) rfl
        obtain ⟨ha, hbb⟩ := hab
        clear hrl
        have HS2 : Hid (readText l0 = if t = true then readSpec f y (addTo acc a (b + 1 - a)) else some (addTo acc a (b + 1 - a))) := Lib.hid HS.out
        clear HS
        go_wp2_with fail
        go_loop [4, 10] (fun x i => ∃ k n : Nat, k ≤ b + 1 - a ∧ i = .int .i64 ((a + k : Nat) : Int) ∧ x = .int .u64 (n : Int) ∧ n < 18446744073709551616 ∧ Hid (n = addTo acc a k)) (fun _ i => b + 1 - (intOf i).toNat)
        case atStart => exact ⟨0, acc, Nat.zero_le _, rfl, rfl, hacc, Lib.hid rfl⟩
        case round =>
          obtain ⟨k, n, hk, rfl, rfl, hn, HN⟩ := hrel
          by_cases hkb : a + k ≤ b
          · have H18 := Lib.hid (With_any n ((a + k : Nat) : Int) w2 hn)
            have hw := withN_lt ((a + k : Nat) : Int) hn
            have HN2 : Hid (withN n ((a + k : Nat) : Int) = addTo acc a (k + 1)) := Lib.hid (by rw [HN.out]; rfl)
            generalize withN n ((a + k : Nat) : Int) = n2 at H18 hw HN2
            clear HN
            go_wp2_with fail
            refine H18.out.mono ?_
            rintro e w' ⟨rfl, rfl⟩
            go_wp2_with fail
            go_round
            case rel => exact ⟨k + 1, n2, by omega, by go_num, rfl, hw, HN2⟩
            case measure => simp [intOf]; omega
          · have e : k = b + 1 - a := by omega
            have HS3 : Hid (readText l0 = if t = true then readSpec f y n else some n) := Lib.hid (by rw [HN.out, e]; exact HS2.out)
            clear HN HS2
            go_wp2_with fail
            go_round
            case rel => exact ⟨y, n, f, t, rfl, rfl, rfl, hn, by omega, hw2, hB2, by
              cases t
              · rw [if_neg (by decide)]; exact HS3.out
              · rw [if_pos rfl]; exact ⟨HS3.out, by have := hlt rfl; omega⟩⟩
            case measure =>
              cases t
              · simp [boolN]
              · have := hlt rfl
                have e1 : (⟨y.toArray⟩ : ByteArray).size = y.length := rfl
                have e2 : (⟨l.toArray⟩ : ByteArray).size = l.length := rfl
                simp only [boolN, strLen, e1, e2]; omega
end Go.Proofs.YtgmdbgdbjmlolaaDoor
