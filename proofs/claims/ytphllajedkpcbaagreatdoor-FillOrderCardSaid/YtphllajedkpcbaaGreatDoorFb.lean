/-
  Rows of ints; the sum of some; whether one of some is wrong. Condition: not more than a hundred.
-/
import Derived.Test.YtphllajedkpcbaaGreatDoorFa
import Derived.Deep.QuietTactic
namespace Go.Proofs.YtphllajedkpcbaaGreatDoor
open Go.RowKit Go.Dig Go.Shelf Go.Proofs Go.Rq

/-- a slice of ints. -/
def RowI (w : World) (v : Value) (l : List Int) : Prop :=
  ∃ ad cap, v = .slice ad l.length cap ∧ l.length ≤ cap ∧ (l ≠ [] → ∃ b off, ad = some ⟨b, off, none⟩ ∧ b < w.heap.size ∧ ∀ j, j < l.length → w.cell? ⟨b, off + j, none⟩ = some (.int .i64 (l.getD j 0)))
abbrev RI (w : World) (p : Sl) (l : List Int) : Prop := RowI w (.slice p.a p.n p.c) l
theorem RowI.below {w w' : World} {v : Value} {l : List Int} (h : RowI w v l) (hb : Below w.heap.size w w') : RowI w' v l := by
  obtain ⟨ad, cap, rfl, hcap, h2⟩ := h
  refine ⟨ad, cap, rfl, hcap, fun hl => ?_⟩
  obtain ⟨b, off, rfl, hlt, hc⟩ := h2 hl
  exact ⟨b, off, rfl, Nat.lt_of_lt_of_le hlt hb.size, fun j hj => (hb.cell (p := ⟨b, off + j, none⟩) hlt).trans (hc j hj)⟩
theorem RowI.sl {w : World} {v : Value} {l : List Int} (h : RowI w v l) : ∃ p : Sl, v = .slice p.a p.n p.c ∧ RI w p l := by
  obtain ⟨ad, cap, rfl, h2⟩ := h
  exact ⟨⟨ad, l.length, cap⟩, rfl, ad, cap, rfl, h2⟩
theorem RI.len {w : World} {p : Sl} {l : List Int} (h : RI w p l) : p.n = l.length := by
  obtain ⟨ad, cap, e, _⟩ := h
  injection e with e1 e2 e3
theorem RI.open {w : World} {p : Sl} {l : List Int} (h : RI w p l) (hne : l ≠ []) : ∃ b off, p.a = some ⟨b, off, none⟩ ∧ b < w.heap.size ∧ ∀ j, j < l.length → w.cell? ⟨b, off + j, none⟩ = some (.int .i64 (l.getD j 0)) := by
  obtain ⟨ad, cap, e, _, h2⟩ := h
  injection e with e1 e2 e3
  rw [e1]
  exact h2 hne
section
variable {w : World} {B : Nat} {t : TypeId}
/-- rows of ints stay where a block of slices is written. -/
theorem RowI.pset {v : Value} {l : List Int} {p r : Option Addr} {n c m d : Nat} (h : RowI w v l) (hp : Pair w B t (.slice p n c) (.slice r m d)) (x' y' : Value) : RowI ((w.setCell ⟨B, 0, none⟩ x').setCell ⟨B, 1, none⟩ y') v l := by
  obtain ⟨ad, cap, e, h1, h2⟩ := h
  refine ⟨ad, cap, e, h1, fun hne => ?_⟩
  obtain ⟨b, off, rfl, hb, hc⟩ := h2 hne
  have hbB : b ≠ B := by
    rintro rfl
    have h3 := hc 0 (List.length_pos_iff.2 hne)
    simp only [World.cell?, show w.heap[b]? = _ from hp] at h3
    match off, h3 with
    | 0, h3 => simp at h3
    | 1, h3 => simp at h3
    | k + 2, h3 => simp at h3
  refine ⟨b, off, rfl, by simpa [World.setCell] using hb, fun j hj => ?_⟩
  rw [World.cell?_of_block (w := w) ((Below.heap_setCell _ _ _ _ hbB).trans (Below.heap_setCell _ _ _ _ hbB)), hc j hj]
end
theorem idrop_at {l : List Int} {k : Nat} (h : k < l.length) : l.drop k = l.getD k 0 :: l.drop (k + 1) := by
  rw [List.drop_eq_getElem_cons h]; simp [h]
theorem getD_mem {l : List Int} {k : Nat} (h : k < l.length) : l.getD k 0 ∈ l := by
  simp [List.getD_eq_getElem?_getD, h]

set_option maxHeartbeats 1000000 in
theorem sum_any (p : Sl) (l : List Int) (w : World) (h : RI w p l) (hl : l.length ≤ 100) (hx : ∀ x ∈ l, 0 ≤ x ∧ x ≤ 10000) :
    Calls Tryz.prog 56 #[.slice p.a p.n p.c] w fun e w' => e = .returned (.int .i64 l.sum) ∧ w = w' := by
  rw [h.len]
  have HX := Lib.hid hx
  clear hx
  by_cases hne : l = []
  · subst hne
    clear h
    go_enter Tryz.func56, Tryz.ntmps56
    go_wp2_with fail
    refine wp_loop_rounds 1 ?_
    rw [rounds_succ]
    go_wp2_with fail
    go_ret
    exact ⟨rfl, rfl⟩
  · obtain ⟨b, off, ea, _, hc⟩ := h.open hne
    rw [ea]
    have HC := Lib.hid hc
    clear hc h
    generalize hs : l.sum = S
    have HS := Lib.hid hs
    clear hs
    go_enter Tryz.func56, Tryz.ntmps56
    go_wp2_with fail
    go_loop [3, 8] (fun s i => ∃ (k : Nat) (z : Int), k ≤ l.length ∧ i = .int .i64 k ∧ s = .int .i64 z ∧ 0 ≤ z ∧ z ≤ 10000 * k ∧ Hid (S = z + (l.drop k).sum)) (fun _ i => l.length - (intOf i).toNat)
    case atStart => exact ⟨0, 0, Nat.zero_le _, rfl, rfl, by omega, by omega, Lib.hid (by rw [List.drop_zero, HS.out]; omega)⟩
    case round =>
      obtain ⟨k, z, hk, rfl, rfl, hz0, hz1, H⟩ := hrel
      by_cases hlt : k < l.length
      · have hc := HC.out k hlt
        have hx := HX.out _ (getD_mem hlt)
        have h1 := H.out
        rw [idrop_at hlt, List.sum_cons] at h1
        generalize l.getD k 0 = c at hc hx h1
        obtain ⟨hx0, hx1⟩ := hx
        have H2 : Hid (S = (z + c) + (l.drop (k + 1)).sum) := Lib.hid (by omega)
        clear h1 H
        go_wp2_with fail
        go_round
        case rel => exact ⟨k + 1, z + c, by omega, by go_num, rfl, by omega, by omega, H2⟩
        case measure => simp [intOf]; omega
      · have h1 := H.out
        rw [List.drop_of_length_le (by omega), List.sum_nil] at h1
        have HF : Hid (S = z) := Lib.hid (by omega)
        clear h1 H
        go_wp2_with fail
        go_ret
        refine ⟨?_, rfl⟩
        rw [HF.out]
        rfl

/-- what is no weight; what is no cap. -/
def noW (x : Int) : Bool := decide (x < 1) || decide (10000 < x)
def noC (x : Int) : Bool := decide (x < 0) || decide (64 < x)
theorem noWeight_any (x : Int) (w : World) : Calls Tryz.prog 54 #[.int .i64 x] w fun e w' => e = .returned (.bool (noW x)) ∧ w = w' := by
  unfold noW
  go_enter Tryz.func54, Tryz.ntmps54
  by_cases h : x < 1
  · go_wp2_with fail
    go_ret
    exact ⟨by simp [h], rfl⟩
  · go_wp2_with fail
    go_ret
    exact ⟨by have h' : ¬ x < 1 := by omega
              simp [h'], rfl⟩
theorem noCap_any (x : Int) (w : World) : Calls Tryz.prog 55 #[.int .i64 x] w fun e w' => e = .returned (.bool (noC x)) ∧ w = w' := by
  unfold noC
  go_enter Tryz.func55, Tryz.ntmps55
  by_cases h : x < 0
  · go_wp2_with fail
    go_ret
    exact ⟨by simp [h], rfl⟩
  · go_wp2_with fail
    go_ret
    exact ⟨by have h' : ¬ x < 0 := by omega
              simp [h'], rfl⟩
set_option maxHeartbeats 1000000 in
theorem index_any (p : Sl) (l : List Int) (w : World) (h : RI w p l) (hl : l.length ≤ 100) (g : Nat) (φ : Int → Bool) (eg : ∀ args w, (callFunc g args).run Tryz.prog w = .ok (.enter g args) w)
    (hf : ∀ x w, Calls Tryz.prog g #[.int .i64 x] w fun e w' => e = .returned (.bool (φ x)) ∧ w = w') :
    Calls Tryz.prog 82 #[.slice p.a p.n p.c, .func (.func g) #[] #[]] w fun e w' => ∃ z : Int, e = .returned (.int .i64 z) ∧ decide (0 ≤ z) = l.any φ ∧ w = w' := by
  rw [h.len]
  have HFn := Lib.hid hf
  clear hf
  by_cases hne : l = []
  · subst hne
    clear h
    go_enter Tryz.func82, Tryz.ntmps82
    go_wp2_with fail
    refine wp_loop_rounds 1 ?_
    rw [rounds_succ]
    go_wp2_with fail
    go_ret
    exact ⟨-1, rfl, by simp, rfl⟩
  · obtain ⟨b, off, ea, _, hc⟩ := h.open hne
    rw [ea]
    have HC := Lib.hid hc
    clear hc h
    generalize hs : l.any φ = S
    have HS := Lib.hid hs
    clear hs
    go_enter Tryz.func82, Tryz.ntmps82
    go_wp2_with fail
    go_loop [8] (fun i => ∃ (k : Nat), k ≤ l.length ∧ i = .int .i64 k ∧ Hid (S = (l.drop k).any φ)) (fun i => l.length - (intOf i).toNat)
    case atStart => exact ⟨0, Nat.zero_le _, rfl, Lib.hid (by rw [List.drop_zero, HS.out])⟩
    case round =>
      obtain ⟨k, hk, rfl, H⟩ := hrel
      by_cases hlt : k < l.length
      · have hc := HC.out k hlt
        have h1 := H.out
        rw [idrop_at hlt, List.any_cons] at h1
        generalize l.getD k 0 = c at hc h1
        cases hp : φ c
        · rw [hp] at h1
          have H2 := Lib.hid h1
          have HG := Lib.hid (HFn.out c w)
          rw [hp] at HG
          clear h1 H
          go_wp2_with fail
          refine HG.out.mono ?_
          rintro e w' ⟨rfl, rfl⟩
          go_wp2_with fail
          go_round
          case rel => exact ⟨k + 1, by omega, by go_num, Lib.hid (by rw [H2.out, Bool.false_or])⟩
          case measure => simp [intOf]; omega
        · rw [hp] at h1
          have H2 := Lib.hid h1
          have HG := Lib.hid (HFn.out c w)
          rw [hp] at HG
          clear h1 H
          go_wp2_with fail
          refine HG.out.mono ?_
          rintro e w' ⟨rfl, rfl⟩
          go_wp2_with fail
          go_ret
          exact ⟨k, rfl, by rw [H2.out]; simp, rfl⟩
      · have h1 := H.out
        rw [List.drop_of_length_le (by omega)] at h1
        have HF := Lib.hid h1
        clear h1 H
        go_wp2_with fail
        go_ret
        exact ⟨-1, rfl, by rw [HF.out]; simp, rfl⟩
set_option maxHeartbeats 1000000 in
theorem contains_any (p : Sl) (l : List Int) (w : World) (h : RI w p l) (hl : l.length ≤ 100) (g : Nat) (φ : Int → Bool) (eg : ∀ args w, (callFunc g args).run Tryz.prog w = .ok (.enter g args) w)
    (hf : ∀ x w, Calls Tryz.prog g #[.int .i64 x] w fun e w' => e = .returned (.bool (φ x)) ∧ w = w') :
    Calls Tryz.prog 53 #[.slice p.a p.n p.c, .func (.func g) #[] #[]] w fun e w' => e = .returned (.bool (l.any φ)) ∧ w = w' := by
  have H := Lib.hid (index_any p l w h hl g φ eg hf)
  clear hf
  go_enter Tryz.func53, Tryz.ntmps53
  go_wp2_with fail
  refine H.out.mono ?_
  rintro e w' ⟨z, rfl, hz, rfl⟩
  have HZ := Lib.hid hz
  clear hz
  go_wp2_with fail
  go_ret
  exact ⟨by rw [← HZ.out]; rfl, rfl⟩
end Go.Proofs.YtphllajedkpcbaaGreatDoor
