/-
  Contracts of mask.Of, (mask.Set).Len at the example's set, and of the statements' fixed fact (awake). Condition: the table of math/bits lies as its initialiser lays it.
-/
import Derived.Test.YtgmdbgdbjmlolaaDoorWc
import Derived.Test.YtgmdbgdbjmlolaaDoorWl
import Derived.Deep.QuietTactic
import Derived.BigQuiet
namespace Go.Proofs.YtgmdbgdbjmlolaaDoor
open Go.RowKit Go.Shelf

/-- the set of some numbers, put into a set; none, if one is no core. -/
def foldOf : List Int → Nat → Option Nat
  | [], n => some n
  | c :: r, n => if coreB c then foldOf r (withN n c) else none
/-- what Of answers: the set, the error. -/
def ofPair (l : List Int) : Nat × Int := match foldOf l 0 with | some n => (n, 0) | none => (0, 2)

theorem drop_at {l : List Int} {k : Nat} (h : k < l.length) : l.drop k = l.getD k 0 :: l.drop (k + 1) := by
  rw [List.drop_eq_getElem_cons h]; simp [h]
theorem ret_two {k1 k2 : IntKind} {a b a' b' : Int} (h1 : a = a') (h2 : b = b') : Ending.returned (.tuple #[.int k1 a, .int k2 b]) = .returned (.tuple #[.int k1 a', .int k2 b']) := by rw [h1, h2]

set_option maxHeartbeats 1000000 in
theorem Of_any (b off cap : Nat) (l : List Int) (w : World) (hl : l.length ≤ maxLen)
    (hcell : ∀ j, j < l.length → w.cell? ⟨b, off + j, none⟩ = some (.int .i64 (l.getD j 0))) :
    Calls Tryd.prog 11 #[.slice (some ⟨b, off, none⟩) l.length cap] w fun e w' => e = .returned (.tuple #[.int .u64 (ofPair l).1, .int .i64 (ofPair l).2]) ∧ w = w' := by
  unfold maxLen at hl
  have HC := Lib.hid hcell
  clear hcell
  generalize hp : ofPair l = p
  have HP := Lib.hid hp
  clear hp
  go_enter Tryd.func11, Tryd.ntmps11
  go_wp2_with fail
  go_loop [4, 9] (fun s i => ∃ k n : Nat, k ≤ l.length ∧ i = .int .i64 k ∧ s = .int .u64 n ∧ n < 18446744073709551616 ∧ Hid (foldOf l 0 = foldOf (l.drop k) n)) (fun _ i => l.length - (intOf i).toNat)
  case atStart => exact ⟨0, 0, Nat.zero_le _, rfl, rfl, by omega, Lib.hid rfl⟩
  case round =>
    obtain ⟨k, n, hk, rfl, rfl, hn, H⟩ := hrel
    by_cases hlt : k < l.length
    · have hc := HC.out k hlt
      have hd := drop_at hlt
      generalize l.getD k 0 = c at hc hd
      have h1 := H.out
      rw [hd, foldOf] at h1
      clear hd H
      cases hcb : coreB c
      · have HF : Hid (p = (0, 2)) := Lib.hid (by rw [← HP.out]; unfold ofPair; rw [h1, hcb]; rfl)
        clear h1
        go_wp2_with (first | (go_at_call 32; refine (isCore_any _ _).mono ?_; rintro e w' ⟨rfl, rfl⟩) | (go_at_call 18; refine (With_any n _ _ hn).mono ?_; rintro e w' ⟨rfl, rfl⟩))
        go_ret2
        refine ⟨?_, rfl⟩
        rw [HF.out]; rfl
      · have H2 := Lib.hid (h1.trans (by rw [hcb]; rfl) : foldOf l 0 = foldOf (l.drop (k + 1)) (withN n c))
        clear h1
        have hw := withN_lt c hn
        go_wp2_with (first | (go_at_call 32; refine (isCore_any _ _).mono ?_; rintro e w' ⟨rfl, rfl⟩) | (go_at_call 18; refine (With_any n _ _ hn).mono ?_; rintro e w' ⟨rfl, rfl⟩))
        go_round
        case rel => exact ⟨k + 1, withN n c, by omega, by go_num, rfl, hw, H2⟩
        case measure => simp [intOf]; omega
    · have HF : Hid (p = (n, 0)) := Lib.hid (by rw [← HP.out]; unfold ofPair; rw [H.out, List.drop_of_length_le (by omega)]; rfl)
      go_wp2_with fail
      go_ret2
      refine ⟨?_, rfl⟩
      rw [HF.out]; rfl

set_option maxHeartbeats 400000 in
theorem Of_nil (ad : Option Addr) (cap : Nat) (w : World) :
    Calls Tryd.prog 11 #[.slice ad 0 cap] w fun e w' => e = .returned (.tuple #[.int .u64 (ofPair []).1, .int .i64 (ofPair []).2]) ∧ w = w' := by
  go_enter Tryd.func11, Tryd.ntmps11
  go_wp2_with fail
  refine wp_loop_rounds 1 ?_
  rw [rounds_succ]
  go_wp2_with fail
  go_ret2
  exact ⟨rfl, rfl⟩

theorem ofPair_example : ofPair [0, 1, 2, 5] = (39, 0) := by decide
theorem text_39 : textOf 39 = [48, 45, 50, 44, 53] := by
  have h : coresOf 39 = [0, 1, 2, 5] := by decide
  unfold textOf
  rw [if_neg (by omega), h]
  have e : runsOf 39 [0, 1, 2, 5] = [runTextL 0 2, runTextL 5 5] := by
    have h0 : hasB 39 (((0 : Nat) : Int) - 1) = false := by decide
    have h1 : hasB 39 (((1 : Nat) : Int) - 1) = true := by decide
    have h2 : hasB 39 (((2 : Nat) : Int) - 1) = true := by decide
    have h5 : hasB 39 (((5 : Nat) : Int) - 1) = false := by decide
    have r0 : runEndN 39 0 = 2 := by decide
    have r5 : runEndN 39 5 = 5 := by decide
    unfold runsOf
    simp only [List.filter_cons, h0, h1, h2, h5, List.filter_nil, Bool.not_false, Bool.not_true, if_true, Bool.false_eq_true, if_false, List.map_cons, List.map_nil, r0, r5]
  rw [e]
  have d0 : Lib.decDigits 0 = [48] := by rw [dec_small (by omega)]; rfl
  have d2 : Lib.decDigits 2 = [50] := by rw [dec_small (by omega)]; rfl
  have d5 : Lib.decDigits 5 = [53] := by rw [dec_small (by omega)]; rfl
  have t1 : runTextL 0 2 = [48, 45, 50] := by unfold runTextL; rw [if_neg (by omega), d0, d2]; rfl
  have t2 : runTextL 5 5 = [53] := by unfold runTextL; rw [if_pos rfl, d5]
  rw [t1, t2]
  decide

theorem Of_ex (w : World) :
    Calls Tryd.prog 11 #[.slice (some ⟨w.heap.size, 0, none⟩) 4 4] (w.alloc (.cells #[.int .i64 0, .int .i64 1, .int .i64 2, .int .i64 5] 3)) fun e w' => e = .returned (.tuple #[.int .u64 39, .int .i64 0]) ∧ w.alloc (.cells #[.int .i64 0, .int .i64 1, .int .i64 2, .int .i64 5] 3) = w' := by
  have h := Of_any w.heap.size 0 4 [0, 1, 2, 5] (w.alloc (.cells #[.int .i64 0, .int .i64 1, .int .i64 2, .int .i64 5] 3)) (by simp [maxLen]) (fun j hj => by
    rw [Nat.zero_add]
    match j, hj with
    | 0, _ => unfold World.cell?; rw [World.alloc_heap_new]; rfl
    | 1, _ => unfold World.cell?; rw [World.alloc_heap_new]; rfl
    | 2, _ => unfold World.cell?; rw [World.alloc_heap_new]; rfl
    | 3, _ => unfold World.cell?; rw [World.alloc_heap_new]; rfl)
  rw [ofPair_example] at h
  exact h
theorem Text_39 (w : World) (hT : Tab w) (hw : 0 < w.heap.size) :
    Calls Tryd.prog 28 #[.int .u64 39] w fun e w' => e = .returned (.string ⟨#[48, 45, 50, 44, 53]⟩) ∧ Below w.heap.size w w' := by
  have h := Text_any 39 (by omega) w hT hw
  rw [text_39] at h
  exact h
theorem Len_39 (w : World) : Calls Tryd.prog 21 #[.int .u64 39] w fun e w' => e = .returned (.int .i64 4) ∧ w = w' := by
  have h := Len_any 39 w (by omega)
  rw [show popN 64 39 = 4 by decide] at h
  exact h

set_option maxHeartbeats 1000000 in
theorem awake_any (w : World) (hT : Tab w) (hw : 0 < w.heap.size) :
    Calls Tryd.prog 10 #[] w fun e w' => e = .returned (.bool true) ∧ Below w.heap.size w w' := by
  have hB : Below w.heap.size w (w.alloc (.cells #[.int .i64 0, .int .i64 1, .int .i64 2, .int .i64 5] 3)) := (Below.refl _ w).alloc (Nat.le_refl _) _
  go_enter Tryd.func10, Tryd.ntmps10
  go_wp2_with fail
  refine (Of_ex w).mono ?_
  rintro e w' ⟨rfl, rfl⟩
  go_wp2_with fail
  refine (Text_39 _ (hT.below hB hw) (by simp)).mono ?_
  rintro e w1 ⟨rfl, hb1⟩
  go_wp2_with fail
  refine (Len_39 _).mono ?_
  rintro e w' ⟨rfl, rfl⟩
  go_wp2_with fail
  go_ret
  exact ⟨rfl, hB.trans (hb1.mono (by simp))⟩

end Go.Proofs.YtgmdbgdbjmlolaaDoor
