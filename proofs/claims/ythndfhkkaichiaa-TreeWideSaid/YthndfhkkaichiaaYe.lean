/-
  TreeWide: a group's fan is as great as it may be, and no greater. No condition.
-/
import Derived.Test.YthndfhkkaichiaaYk
namespace Go.Proofs.Ythndfhkkaichiaa
open Go.RowKit Go.Maps

/-- a root of j members and i groups. -/
def wideL (j : Int) (i : Nat) : List Gr := ⟨1, -1, 1, j, 0⟩ :: (List.range i).map fun c : Nat => ⟨(c : Int) + 2, 1, 1, 0, 0⟩
theorem wide_more (j : Int) (i : Nat) : addG (wideL j i) ((i : Int) + 1) 1 1 = wideL j (i + 1) := by
  unfold addG wideL
  rw [List.range_succ, List.map_append, List.cons_append]
  have e : (i : Int) + 1 + 1 = (i : Int) + 2 := by omega
  rw [e]; rfl
theorem wide_pos (j : Int) (i : Nat) : pos (wideL j i) 1 = 0 := by simp [wideL, pos]
theorem wide_has (j : Int) (i : Nat) : has (wideL j i) 1 = true := by simp [has, wide_pos]; simp [wideL]
theorem wide_gr (j : Int) (i : Nat) : gr (wideL j i) 1 = ⟨1, -1, 1, j, 0⟩ := by simp [gr, wide_pos]; simp [wideL]
theorem wide_len (j : Int) (i : Nat) : (wideL j i).length = i + 1 := by simp [wideL]
theorem wide_kids (j : Int) (i : Nat) : (kids (wideL j i) 1).length = i := by
  unfold kids wideL
  rw [List.length_map, List.filter_cons]
  simp only [show ((-1 : Int) == 1) = false by decide]
  simp [List.filter_eq_self.2]
theorem wide_fan (j : Int) (i : Nat) : fanI (wideL j i) 1 = i + j := by unfold fanI; rw [wide_kids, wide_gr]
theorem wide_join (j : Int) (i : Nat) : countG (wideL j i) 1 1 0 = wideL (j + 1) i := by
  unfold countG setG
  rw [wide_pos, wide_gr]
  simp [wideL]
theorem wide_count {j : Int} {i : Nat} (h0 : 0 ≤ j) : countC (wideL j i) 1 1 0 = if (i : Int) + j = 32 then 6 else 0 := by
  unfold countC
  rw [wide_has, wide_fan, wide_gr]
  simp only [Bool.true_eq_false, if_false]
  by_cases h : (i : Int) + j = 32
  · rw [if_pos ⟨by decide, h⟩, if_pos h]
  · rw [if_neg (fun e => h e.2), if_neg h, if_neg (by omega)]
theorem wide_add {j m k : Int} {i : Nat} (ok : Ok (wideL j i) m k) (h0 : 0 ≤ j) (hi : (i : Int) + j ≤ 32) : addC (wideL j i) 64 1 1 = if (i : Int) + j = 32 then 6 else 0 := by
  have hd : dep (wideL j i) 1 = 1 := by
    rw [ok.dep (wide_has j i), wide_gr]
    unfold Proofs.Ythndfhkkaichiaa.dep
    rw [pth_no (ok.low (show (-1 : Int) < 1 by decide))]; rfl
  unfold addC
  rw [wide_has, wide_fan, hd, wide_len]
  simp only [Bool.true_eq_false, if_false]
  rw [if_neg (by omega), if_neg (by omega)]
  by_cases h : (i : Int) + j = 32
  · rw [if_pos (.inl h), if_pos h]
  · rw [if_neg (by omega), if_neg h]
theorem rem_byte {x n : Nat} (hx : x < 256) (hn : 0 < n) (hn2 : n < 256) : IntKind.i64.wrap ((x : Int).tmod (n : Int)) = ((x % n : Nat) : Int) := by
  have h1 : (x : Int).tmod (n : Int) = ((x % n : Nat) : Int) := by rw [Int.tmod_eq_emod_of_nonneg (by omega)]; rfl
  have h2 : x % n < n := Nat.mod_lt _ hn
  rw [h1]
  exact IntWalk.i64_in _ (by omega)
set_option maxRecDepth 100000 in
set_option maxHeartbeats 4000000 in
theorem wide_any (x : Nat) (w : World) (hx : x < 256) :
    Calls Try.prog 5 #[.int .u8 (x : Int)] w fun e w' => e = .returned (.bool true) ∧ Below w.heap.size w w' := by
  have hrem : (x : Int).tmod 33 = ((x % 33 : Nat) : Int) := by rw [Int.tmod_eq_emod_of_nonneg (by omega)]; rfl
  have hk : x % 33 < 33 := Nat.mod_lt _ (by omega)
  generalize x % 33 = k at *
  go_enter Try.func5, Try.ntmps5
  go_wp2_with (first | (go_at_call 8; refine (awake_any _).mono ?_; rintro e w1 ⟨rfl, hb0⟩) | (go_at_call 9; refine (Sw.made _).mono ?_; rintro e w2 ⟨fp, rfl, hs2⟩; have HS := Lib.hid (hs2.base hb0); clear hs2) | (go_at_call 13; refine HS.out.root.mono ?_; rintro e w3 ⟨rfl, hs3⟩; have HS3 := Lib.hid hs3; clear hs3 HS))
  have hk0 := hk
  go_loopw [31] (fun i wr => ∃ j : Nat, j ≤ k ∧ i = .int .i64 (j : Int) ∧ Hid (Sw w fp wr (wideL (j : Int) 0) 1 (1 + (j : Int)))) (fun i _ => k - (intOf i).toNat)
  case atStart => exact ⟨0, by omega, rfl, Lib.hid (show Sw w fp w3 oneL 1 1 from HS3.out)⟩
  case round =>
    clear HS3
    obtain ⟨j, hj, rfl, HS⟩ := hrel
    by_cases hlt : j < k
    · have hlt2 : (j : Int) < (k : Int) := by omega
      go_wp2_with (first | (go_at_call 18; refine (HS.out.join (by constructor <;> omega) (by omega) (by rw [wide_count (by omega), if_neg (by omega)]) (wide_join _ _)).mono ?_; rintro e w5 ⟨rfl, hs5⟩; have HS5 := Lib.hid hs5; clear hs5 HS))
      exact ⟨⟨j + 1, by omega, by go_num, Lib.hid (by have := HS5.out; rwa [show ((j + 1 : Nat) : Int) = (j : Int) + 1 by omega, show (1 : Int) + ((j : Int) + 1) = 1 + (j : Int) + 1 by omega])⟩, by simp [intOf]; omega⟩
    · obtain rfl : j = k := by omega
      clear hlt hj
      go_wp2_with fail
      go_loopw [40] (fun i wr => ∃ c : Nat, (c : Int) ≤ 32 - (j : Int) ∧ i = .int .i64 (c : Int) ∧ Hid (Sw w fp wr (wideL (j : Int) c) ((c : Int) + 1) (1 + (j : Int) + (c : Int)))) (fun i _ => 32 - (intOf i).toNat)
      case atStart => exact ⟨0, by omega, rfl, Lib.hid (by simpa using HS.out)⟩
      case round =>
        clear HS
        obtain ⟨c, hc, rfl, HS⟩ := hrel
        by_cases hlt : (c : Int) < 32 - (j : Int)
        · go_wp2_with (first | (go_at_call 14; refine (HS.out.add (by constructor <;> omega) (by omega) (by rw [wide_add HS.out.ok (by omega) (by omega), if_neg (by omega)]) (wide_more _ _)).mono ?_; rintro e w6 ⟨rfl, hs6⟩; have HS6 := Lib.hid hs6; clear hs6 HS))
          exact ⟨⟨c + 1, by omega, by go_num, Lib.hid (by have := HS6.out; rwa [show ((c + 1 : Nat) : Int) = (c : Int) + 1 by omega, show 1 + (j : Int) + ((c : Int) + 1) = 1 + (j : Int) + (c : Int) + 1 by omega])⟩, by simp [intOf]; omega⟩
        · have hcj : (c : Int) + (j : Int) = 32 := by omega
          have hcj2 : (c : Int) = 32 - (j : Int) := by omega
          go_wp2_with (first | (go_at_call 14; refine (HS.out.addNo (c := 6) (by constructor <;> omega) (by omega) (by rw [wide_add HS.out.ok (by omega) (by omega), if_pos hcj]) (by omega)).mono ?_; rintro e w6 ⟨rfl, hs6⟩; have HS6 := Lib.hid hs6; clear hs6 HS) | (go_at_call 18; refine (HS6.out.joinNo (c := 6) (by constructor <;> omega) (by omega) (by rw [wide_count (by omega), if_pos hcj]) (by omega)).mono ?_; rintro e w7 ⟨rfl, hs7⟩; have HS7 := Lib.hid hs7; clear hs7 HS6) | (go_at_call 19; refine (HS7.out.kids (x := 1) (by omega)).mono ?_; rw [wide_kids]; rintro e w8 ⟨⟨a8, c8, rfl⟩, hs8⟩; have HS8 := Lib.hid hs8; clear hs8 HS7))
          go_ret
          exact ⟨by simp, HS8.out.bel⟩
end Go.Proofs.Ythndfhkkaichiaa
