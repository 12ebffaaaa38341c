/-
  TreeDeep: groups go as deep as they may, and no deeper. No condition.
-/
import Derived.Test.YthndfhkkaichiaaYk
namespace Go.Proofs.Ythndfhkkaichiaa
open Go.RowKit Go.Maps

deriving instance DecidableEq for Gr
/-- a chain from the root. -/
def chA (j : Nat) : List Gr := (List.range (j + 1)).map fun c : Nat => ⟨(c : Int) + 1, if c = 0 then -1 else (c : Int), 1, 0, 0⟩
/-- two chains below a root. -/
def chB (a i : Nat) : List Gr := chA a ++ (List.range i).map fun c : Nat => ⟨(a : Int) + 2 + (c : Int), if c = 0 then 1 else (a : Int) + 1 + (c : Int), 2, 0, 0⟩
def endB (a i : Nat) : Int := if i = 0 then 1 else (a : Int) + 1 + (i : Int)
theorem chA_code : ∀ j, j < 7 → addC (chA j) 64 ((j : Int) + 1) 1 = 0 := of_decide_eq_true (by kernel_rfl)
theorem chA_more : ∀ j, j < 7 → addG (chA j) ((j : Int) + 1) ((j : Int) + 1) 1 = chA (j + 1) := of_decide_eq_true (by kernel_rfl)
theorem chB_code : ∀ a : Nat, a < 8 → 1 ≤ a → ∀ i : Nat, i < 7 → addC (chB a i) 64 (endB a i) 2 = 0 := of_decide_eq_true (by kernel_rfl)
theorem chB_more : ∀ a : Nat, a < 8 → 1 ≤ a → ∀ i : Nat, i < 7 → addG (chB a i) ((a : Int) + 1 + (i : Int)) (endB a i) 2 = chB a (i + 1) := of_decide_eq_true (by kernel_rfl)
theorem chB_move : ∀ a : Nat, a < 8 → 1 ≤ a → ∀ i : Nat, i < 8 → 1 ≤ i → moveC (chB a i) ((a : Int) + 2) ((a : Int) + 1) = if 8 < (a : Int) + (i : Int) + 1 then 7 else 0 := of_decide_eq_true (by kernel_rfl)
theorem chB_has : ∀ a : Nat, a < 8 → 1 ≤ a → ∀ i : Nat, i < 8 → 1 ≤ i → has (chB a i) ((a : Int) + 1 + (i : Int)) = true ∧ dep (chB a i) ((a : Int) + 1 + (i : Int)) = (i : Int) + 1 := of_decide_eq_true (by kernel_rfl)
theorem chB_end : ∀ a : Nat, a < 8 → 1 ≤ a → ∀ i : Nat, i < 8 → 1 ≤ i → 8 < (a : Int) + (i : Int) + 1 ∨ dep (moveG (chB a i) ((a : Int) + 2) ((a : Int) + 1)) ((a : Int) + 1 + (i : Int)) = (a : Int) + (i : Int) + 1 ∧ belowB (moveG (chB a i) ((a : Int) + 2) ((a : Int) + 1)) ((a : Int) + 1 + (i : Int)) ((a : Int) + 1) = true := of_decide_eq_true (by kernel_rfl)
theorem chA_zero : oneL = chA 0 := rfl
theorem chB_zero (a : Nat) : chB a 0 = chA a := by simp [chB]
attribute [local irreducible] chA chB endB
section
variable {W w w' : World} {fp : Nat} {L : List Gr} {m k : Int}
theorem Sw.move (h : Sw W fp w L m k) {x p : Int} (hx : I64 x) (hp : I64 p) (hk : k < 1000) {c : Int} (hc : moveC L x p = c) :
    Calls Try.prog 15 #[.pointer (some ⟨fp, 0, none⟩), .int .i64 x, .int .i64 p] w fun e w' => e = .returned (.int .i64 c) ∧ Sw W fp w' (if c = 0 then moveG L x p else L) m (k + 1) := by
  obtain ⟨l, hl, hF⟩ := h.F
  refine (Move_any fp W.heap.size L l m k x p w hF hx hp hk).mono ?_
  unfold moveN
  rw [hc]
  rintro e w1 ⟨rfl, h1, h2⟩
  exact ⟨rfl, h.wr ⟨l, hl, h1⟩ h2⟩
theorem Sw.group (h : Sw W fp w L m k) {x d : Int} (hx : I64 x) (hh : has L x = true) (hd : dep L x = d) :
    Calls Try.prog 16 #[.pointer (some ⟨fp, 0, none⟩), .int .i64 x] w fun e w' => (∃ p wt r me aw, e = .returned (.tuple #[.agg (cellsU x p wt d r me aw), .int .i64 0])) ∧ Sw W fp w' L m k := by
  obtain ⟨l, hl, hF⟩ := h.F
  refine (Group_yes fp W.heap.size L l m k x w hF hx hh).mono ?_
  rw [hd]
  rintro e w1 ⟨rfl, hb⟩
  exact ⟨⟨_, _, _, _, _, rfl⟩, h.below hb⟩
theorem Sw.turn44 {b : Nat} {cs : Array Value} (h : Sw W fp w L m k) (t : Turn b w w') (hb : Blk w b 44 cs) (hB : W.heap.size ≤ b) : Sw W fp w' L m k := by
  obtain ⟨l, hl, hF⟩ := h.F
  exact ⟨⟨l, hl, hF.turn t hb (by decide)⟩, h.bel.trans (t.below hB)⟩
theorem Sw.isBelow (h : Sw W fp w L m k) {x t : Int} (hx : I64 x) {b : Bool} (hb : belowB L x t = b) :
    Calls Try.prog 17 #[.pointer (some ⟨fp, 0, none⟩), .int .i64 x, .int .i64 t] w fun e w' => e = .returned (.bool b) ∧ Sw W fp w' L m k := by
  obtain ⟨l, hl, hF⟩ := h.F
  refine (Below_any fp W.heap.size L l m k x t w hF hx).mono ?_
  rw [hb]
  rintro e w1 ⟨rfl, hb⟩
  exact ⟨rfl, h.below hb⟩
end
set_option maxRecDepth 100000 in
set_option maxHeartbeats 4000000 in
theorem deep_any (x y : Nat) (w : World) (hx : x < 256) (hy : y < 256) :
    Calls Try.prog 4 #[.int .u8 (x : Int), .int .u8 (y : Int)] w fun e w' => e = .returned (.bool true) ∧ Below w.heap.size w w' := by
  have hrx : (x : Int).tmod 7 = ((x % 7 : Nat) : Int) := by rw [Int.tmod_eq_emod_of_nonneg (by omega)]; rfl
  have hry : (y : Int).tmod 7 = ((y % 7 : Nat) : Int) := by rw [Int.tmod_eq_emod_of_nonneg (by omega)]; rfl
  have hkx : x % 7 < 7 := Nat.mod_lt _ (by omega)
  have hky : y % 7 < 7 := Nat.mod_lt _ (by omega)
  generalize x % 7 = n at *
  generalize y % 7 = a at *
  go_enter Try.func4, Try.ntmps4
  go_wp2_with (first | (go_at_call 8; refine (awake_any _).mono ?_; rintro e w1 ⟨rfl, hb0⟩) | (go_at_call 9; refine (Sw.made _).mono ?_; rintro e w2 ⟨fp, rfl, hs2⟩; have HS := Lib.hid (hs2.base hb0); clear hs2) | (go_at_call 13; refine HS.out.root.mono ?_; rintro e w3 ⟨rfl, hs3⟩; have HS3 := Lib.hid hs3; clear hs3 HS))
  go_loopw [7, 41] (fun g i wr => ∃ (j : Nat) (q k : Int), j ≤ a + 1 ∧ g = .int .i64 q ∧ i = .int .i64 (j : Int) ∧ Hid (q = (j : Int) + 1) ∧ Hid (k = 1 + (j : Int)) ∧ Hid (Sw w fp wr (chA j) q k)) (fun _ i _ => a + 1 - (intOf i).toNat)
  case atStart => exact ⟨0, 1, 1, by omega, rfl, rfl, Lib.hid rfl, Lib.hid rfl, Lib.hid (by rw [← chA_zero]; exact HS3.out)⟩
  case round =>
    clear HS3
    obtain ⟨j, q, k, hj, rfl, rfl, hq, hk, HS⟩ := hrel
    by_cases hlt : (j : Int) < 1 + (a : Int)
    · go_wp2_with (first | (go_at_call 14; refine (HS.out.add (by have := hq.out; constructor <;> omega) (by have := hk.out; omega) (by rw [hq.out]; exact chA_code j (by omega)) (L' := chA (j + 1)) (by rw [hq.out]; exact chA_more j (by omega))).mono ?_; rintro e w5 ⟨rfl, hs5⟩; have HS5 := Lib.hid hs5; clear hs5 HS))
      exact ⟨⟨j + 1, q + 1, k + 1, by omega, rfl, by go_num, Lib.hid (by have := hq.out; omega), Lib.hid (by have := hk.out; omega), HS5⟩, by simp [intOf]; omega⟩
    · obtain rfl : j = a + 1 := by omega
      clear hlt hj
      go_wp2_with fail
      go_loopw [11, 13, 58] (fun t g i wr => ∃ (c : Nat) (top bel m k' : Int), c ≤ n + 1 ∧ t = .int .i64 top ∧ g = .int .i64 bel ∧ i = .int .i64 (c : Int) ∧ Hid (bel = endB (a + 1) c) ∧ Hid (¬ c = 0 → top = (a : Int) + 3) ∧ Hid (m = (a : Int) + 2 + (c : Int)) ∧ Hid (k' = (a : Int) + 2 + (c : Int)) ∧ Hid (Sw w fp wr (chB (a + 1) c) m k')) (fun _ _ i _ => n + 1 - (intOf i).toNat)
      case atStart => exact ⟨0, 0, 1, q, k, by omega, rfl, rfl, rfl, Lib.hid (by unfold endB; rfl), Lib.hid (by intro h; omega), Lib.hid (by have := hq.out; omega), Lib.hid (by have := hk.out; omega), Lib.hid (by rw [chB_zero]; exact HS.out)⟩
      case round =>
        clear HS
        obtain ⟨c, top, bel, m, k', hc, rfl, rfl, rfl, hbel, htop, hm, hk', HS⟩ := hrel
        by_cases hlt : (c : Int) < 1 + (n : Int)
        · have HA : Hid (addC (chB (a + 1) c) 64 bel 2 = 0) := Lib.hid (by rw [hbel.out]; exact chB_code (a + 1) (by omega) (by omega) c (by omega))
          have HB : Hid (addG (chB (a + 1) c) m bel 2 = chB (a + 1) (c + 1)) := Lib.hid (by have h := chB_more (a + 1) (by omega) (by omega) c (by omega); rw [hbel.out, hm.out]; rwa [show ((a + 1 : Nat) : Int) + 1 + (c : Int) = (a : Int) + 2 + (c : Int) by omega] at h)
          have hbl : 1 ≤ bel ∧ bel ≤ 100 := by rw [hbel.out]; unfold endB; split <;> omega
          have hk9 : k' < 1000 := by have := hk'.out; omega
          have HE : Hid (m + 1 = endB (a + 1) (c + 1)) := Lib.hid (by unfold endB; rw [if_neg (by omega), hm.out]; omega)
          by_cases hc0 : c = 0
          · subst hc0
            go_wp2_with (first | (go_at_call 14; refine (HS.out.add (by constructor <;> omega) (by omega) HA.out HB.out).mono ?_; rintro e w5 ⟨rfl, hs5⟩; have HS5 := Lib.hid hs5; clear hs5 HS))
            exact ⟨⟨_, _, _, _, _, _, _, _, _, _, _, _, _, _, _, _, _, _, _, _, ⟨1, m + 1, m + 1, m + 1, k' + 1, by omega, rfl, rfl, rfl, HE, Lib.hid (by intro _; have := hm.out; omega), Lib.hid (by have := hm.out; omega), Lib.hid (by have := hk'.out; omega), HS5⟩, rfl⟩, by simp [intOf]⟩
          · have hc1 : ¬ (c : Int) = 0 := by omega
            go_wp2_with (first | (go_at_call 14; refine (HS.out.add (by constructor <;> omega) (by omega) HA.out HB.out).mono ?_; rintro e w5 ⟨rfl, hs5⟩; have HS5 := Lib.hid hs5; clear hs5 HS))
            exact ⟨⟨_, _, _, _, _, _, _, _, _, _, _, _, _, _, _, _, _, _, _, _, ⟨c + 1, top, m + 1, m + 1, k' + 1, by omega, rfl, rfl, by go_num, HE, Lib.hid (fun _ => htop.out hc0), Lib.hid (by have := hm.out; omega), Lib.hid (by have := hk'.out; omega), HS5⟩, rfl⟩, by simp [intOf]; omega⟩
        · obtain rfl : c = n + 1 := by omega
          have htp : top = (a : Int) + 3 := htop.out (by omega)
          have hbl : bel = (a : Int) + 2 + ((n : Int) + 1) := by rw [hbel.out]; unfold endB; rw [if_neg (by omega)]; omega
          have hqq := hq.out
          have hkk := hk'.out
          have HMV0 := chB_move (a + 1) (by omega) (by omega) (n + 1) (by omega) (by omega)
          have HH0 := chB_has (a + 1) (by omega) (by omega) (n + 1) (by omega) (by omega)
          have HE0 := chB_end (a + 1) (by omega) (by omega) (n + 1) (by omega) (by omega)
          rw [show (((a + 1 : Nat) : Int)) + 2 = top by omega, show ((a + 1 : Nat) : Int) + 1 = q by omega] at HMV0 HE0
          rw [show q + ((n + 1 : Nat) : Int) = bel by omega] at HE0
          rw [show ((a + 1 : Nat) : Int) + 1 + ((n + 1 : Nat) : Int) = bel by omega] at HH0
          generalize chB (a + 1) (n + 1) = L at *
          have b1 : 1 ≤ top ∧ top ≤ 100 := by omega
          have b2 : 1 ≤ bel ∧ bel ≤ 100 := by omega
          have b3 : 1 ≤ q ∧ q ≤ 100 := by omega
          have b4 : k' < 900 := by omega
          clear hlt hc htp hbl hqq hkk
          by_cases h8 : 8 < 1 + (a : Int) + (1 + (n : Int)) + 1
          · rw [if_pos (by omega)] at HMV0
            have HMV := Lib.hid HMV0
            have HHS := Lib.hid HH0.1
            have HDP := Lib.hid HH0.2
            clear HMV0 HH0 HE0
            go_wp2_with (first | (go_at_call 15; refine (HS.out.move (by constructor <;> omega) (by constructor <;> omega) (by omega) HMV.out).mono ?_; rintro e w7 ⟨rfl, hs7⟩; have HS7 := Lib.hid hs7; clear hs7 HS) | (go_at_call 16; refine (HS7.out.group (by constructor <;> omega) HHS.out HDP.out).mono ?_; rintro e w8 ⟨⟨p8, wt8, r8, me8, aw8, rfl⟩, hs8⟩; have HS8 := Lib.hid (hs8.below ((Below.refl _ w8).alloc (Nat.le_refl _) (.cells #[.int .i64 0, .int .i64 0, .int .i64 0, .int .i64 0, .int .i64 0, .int .i64 0, .int .i64 0] 44))); have hb8 := hs8.le; clear hs8 HS7; have hZ8 := Blk.new w8 44 #[.int .i64 0, .int .i64 0, .int .i64 0, .int .i64 0, .int .i64 0, .int .i64 0, .int .i64 0]) | (refine wpList_alloc44 rfl rfl ?_; generalize w8.alloc (.cells #[.int .i64 0, .int .i64 0, .int .i64 0, .int .i64 0, .int .i64 0, .int .i64 0, .int .i64 0] 44) = w9 at *) | (refine wpList_store44 rfl _ _ rfl w8.heap.size _ p8 wt8 _ r8 me8 aw8 rfl rfl hZ8 rfl ?_; intro w10 hZ10 t10; have HS10 := Lib.hid (HS8.out.turn44 t10 hZ8 hb8); have c3 := cU3 hZ10; clear t10 hZ8 HS8))
            go_ret
            exact ⟨by first | rfl | (simp; omega), HS10.out.bel⟩
          · rw [if_neg (by omega)] at HMV0
            have HMV := Lib.hid HMV0
            have HHS : Hid (has (moveG L top q) bel = true) := Lib.hid ((move_has bel).trans HH0.1)
            have HDP := Lib.hid (HE0.resolve_left (by omega)).1
            have HBL := Lib.hid (HE0.resolve_left (by omega)).2
            clear HMV0 HH0 HE0
            go_wp2_with (first | (go_at_call 15; refine (HS.out.move (by constructor <;> omega) (by constructor <;> omega) (by omega) HMV.out).mono ?_; rintro e w7 ⟨rfl, hs7⟩; have HS7 := Lib.hid hs7; clear hs7 HS) | (go_at_call 16; refine (HS7.out.group (by constructor <;> omega) HHS.out HDP.out).mono ?_; rintro e w8 ⟨⟨p8, wt8, r8, me8, aw8, rfl⟩, hs8⟩; have HS8 := Lib.hid (hs8.below ((Below.refl _ w8).alloc (Nat.le_refl _) (.cells #[.int .i64 0, .int .i64 0, .int .i64 0, .int .i64 0, .int .i64 0, .int .i64 0, .int .i64 0] 44))); have hb8 := hs8.le; clear hs8 HS7; have hZ8 := Blk.new w8 44 #[.int .i64 0, .int .i64 0, .int .i64 0, .int .i64 0, .int .i64 0, .int .i64 0, .int .i64 0]) | (refine wpList_alloc44 rfl rfl ?_; generalize w8.alloc (.cells #[.int .i64 0, .int .i64 0, .int .i64 0, .int .i64 0, .int .i64 0, .int .i64 0, .int .i64 0] 44) = w9 at *) | (refine wpList_store44 rfl _ _ rfl w8.heap.size _ p8 wt8 _ r8 me8 aw8 rfl rfl hZ8 rfl ?_; intro w10 hZ10 t10; have HS10 := Lib.hid (HS8.out.turn44 t10 hZ8 hb8); have c3 := cU3 hZ10; clear t10 hZ8 HS8) | (go_at_call 17; refine (HS10.out.isBelow (by constructor <;> omega) HBL.out).mono ?_; rintro e w11 ⟨rfl, hs11⟩))
            go_ret
            exact ⟨by first | rfl | (simp; omega), hs11.bel⟩
end Go.Proofs.Ythndfhkkaichiaa
