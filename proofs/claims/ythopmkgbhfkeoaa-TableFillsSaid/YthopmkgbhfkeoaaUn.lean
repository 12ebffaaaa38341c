/-
  TableFills: as many as the capacity, each in the next slot; then one less, and one more in its slot. No condition.
-/
import Derived.Test.YthopmkgbhfkeoaaUm
namespace Go.Proofs.Ythopmkgbhfkeoaa
open Go.RowKit

set_option maxRecDepth 100000 in
set_option maxHeartbeats 4000000 in
theorem fills_any (room which : Nat) (w : World) (hr : room < 256) (hw : which < 256) :
    Calls Try.prog 5 #[.int .u8 (room : Int), .int .u8 (which : Int)] w fun e w' => e = .returned (.bool true) ∧ Below w.heap.size w w' := by
  have hB := Below.refl w.heap.size w
  have hn : Hid ((1 : Int) + (room : Int) % 64 = ((1 + room % 64 : Nat) : Int)) := Lib.hid (by omega)
  have hwr : IntKind.i64.wrap ((1 : Int) + (room : Int) % 64) = (1 : Int) + (room : Int) % 64 := IntWalk.i64_in _ (by omega)
  have h1 : 1 ≤ 1 + room % 64 := by omega
  have h64 : 1 + room % 64 ≤ 64 := by omega
  go_enter Try.func5, Try.ntmps5
  go_wp2_with fail
  refine (awake_any _).mono ?_
  rintro e w1 ⟨rfl, hb⟩
  replace hB := hB.trans (hb.mono hB.size)
  clear hb
  go_wp2_with fail
  rw [hn.out]
  clear hn hwr hr
  generalize 1 + room % 64 = n at *
  refine (New_yes n _ h1 h64).mono ?_
  rintro e w2 ⟨⟨p, g, rfl, hT, hp, hg⟩, hb⟩
  replace hp := Nat.le_trans hB.size hp
  replace hg := Nat.le_trans hB.size hg
  replace hB := hB.trans (hb.mono hB.size)
  rw [← fillL_zero 0 n] at hT
  clear hb
  have H0 : Hid (IsTab w2 p g (fillL 0 n 0) (0 + ((0 : Nat) : Int)) ∧ Below w.heap.size w w2) := Lib.hid ⟨hT, hB⟩
  clear hT hB
  go_wp2_with fail
  go_loopw [36] (fun i wr => ∃ k : Nat, k ≤ n ∧ i = .int .i64 k ∧ Hid (IsTab wr p g (fillL 0 n k) (0 + ((k : Nat) : Int)) ∧ Below w.heap.size w wr)) (fun i _ => n - (intOf i).toNat)
  case atStart => exact ⟨0, by omega, rfl, H0⟩
  case round =>
    clear H0
    obtain ⟨k, hk, rfl, HT⟩ := hrel
    obtain ⟨hT, hB⟩ := HT.out
    clear HT
    by_cases hlt : k < n
    · go_wp2_with fail
      refine (Add_fill h1 h64 hlt (by omega) (by omega) hT).mono ?_
      rintro e w3 ⟨rfl, hT, ho⟩
      replace hB := hB.trans (ho.below (B := w.heap.size) hB.size hp hg)
      clear ho
      rw [Int.zero_add]
      go_wp2_with fail
      exact ⟨⟨k + 1, by omega, by go_num, Lib.hid ⟨hT, hB⟩⟩, by simp [intOf]; omega⟩
    · obtain rfl : k = n := by omega
      have hq : Hid ((which : Int) % (k : Int) = ((which % k : Nat) : Int)) := Lib.hid (by rw [Int.natCast_emod])
      have hqk : which % k < k := Nat.mod_lt _ (by omega)
      go_wp2_with fail
      refine (Add_over h1 h64 (Nat.le_refl _) (by omega) (by omega) (.inl rfl) hT).mono ?_
      rintro e w3 ⟨rfl, rfl⟩
      go_wp2_with fail
      refine (Room_fill h1 h64 (by omega) hT).mono ?_
      rintro e w4 ⟨rfl, hb⟩
      replace hB := hB.trans (hb.mono hB.size)
      replace hT := hT.belowS hb
      clear hb
      rw [Int.zero_add] at hT
      go_wp2_with fail
      rw [hq.out]
      clear hq
      generalize which % k = q at *
      refine (Drop_fill h64 hqk hT).mono ?_
      rintro e w5 ⟨rfl, hT, ho⟩
      replace hB := hB.trans (ho.below (B := w.heap.size) hB.size hp hg)
      clear ho
      go_wp2_with fail
      refine (Drop_gone h64 hT).mono ?_
      rintro e w6 ⟨rfl, hT, ho⟩
      replace hB := hB.trans (ho.below (B := w.heap.size) hB.size hp hg)
      clear ho
      go_wp2_with fail
      refine (Add_back h1 h64 hqk hT).mono ?_
      rintro e w7 ⟨rfl, hT, ho⟩
      replace hB := hB.trans (ho.below (B := w.heap.size) hB.size hp hg)
      clear ho
      go_wp2_with fail
      refine (Len_back h1 h64 hT).mono ?_
      rintro e w8 ⟨rfl, hb⟩
      replace hB := hB.trans (hb.mono hB.size)
      replace hT := hT.belowS hb
      clear hb
      go_wp2_with fail
      go_ret
      exact ⟨rfl, hB⟩
end Go.Proofs.Ythopmkgbhfkeoaa
