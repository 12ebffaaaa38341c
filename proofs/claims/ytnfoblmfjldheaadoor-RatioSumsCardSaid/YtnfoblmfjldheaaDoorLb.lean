/-
  Contracts of the law's own functions Is, few, same, awake. Conditions: slices of numbers of 64 bits, not more than a thousand (few: whatever).
-/
import Derived.Test.YtnfoblmfjldheaaDoorLa
import Derived.BigQuiet
namespace Go.Proofs.YtnfoblmfjldheaaDoor
open Go.RowKit Go.Dig Go.Shelf Go.Proofs

theorem goodB_L (n : Nat) : goodB (L n) = true := by
  unfold goodB
  by_cases h0 : n = 0
  · subst h0; rfl
  · have hne : (L n).length ≠ 0 := fun e => h0 ((dig_nil (by omega) n).1 (List.eq_nil_of_length_eq_zero e))
    have hb := dig_big (B := 18446744073709551616) (by omega) h0
    rcases List.eq_nil_or_concat (L n) with e | ⟨l, d, e⟩
    · rw [e] at hne; simp at hne
    · rw [List.concat_eq_append] at e
      have hs := small_L n
      have hv := V_L n
      unfold L at *
      rw [e] at hs hb hv ⊢
      have hd0 : d ≠ 0 := by
        rintro rfl
        unfold V at hv
        rw [val_snoc, Nat.mul_zero, Nat.add_zero] at hv
        have h1 := val_lt (B := 18446744073709551616) (by omega) l (fun x hx => hs x (by simp [hx]))
        rw [List.length_append, List.length_singleton, Nat.add_sub_cancel] at hb
        omega
      simp [List.getD, hd0]
/-- limbs that are a natural are the natural's. -/
theorem L_of_good {l : List Nat} (h : goodB l = true) (s : SmallU l) : l = L (V l) := by
  apply dig_of_big (by omega) l s
  by_cases h0 : l = []
  · exact .inl h0
  · right
    rcases List.eq_nil_or_concat l with e | ⟨l', d, e⟩
    · exact absurd e h0
    · rw [List.concat_eq_append] at e
      subst e
      unfold goodB at h
      have hd : d ≠ 0 := by
        rintro rfl
        simp [List.getD] at h
      rw [val_snoc, List.length_append, List.length_singleton, Nat.add_sub_cancel]
      have : 18446744073709551616 ^ l'.length * 1 ≤ 18446744073709551616 ^ l'.length * d := Nat.mul_le_mul_left _ (by omega)
      omega

set_option maxRecDepth 100000 in
set_option maxHeartbeats 1000000 in
theorem Is_true (va vw : Value) (x : Nat) (w : World) (h1 : RowU w va (L x)) (h2 : Row w vw (D x)) (hl : (L x).length ≤ 1000) :
    Calls Tryd.prog 18 #[va, vw] w fun e w' => e = .returned (.bool true) ∧ Below w.heap.size w w' := by
  have hDl : (D x).length ≤ 5000 := by
    have := D_len (small_L x)
    rw [V_L] at this
    omega
  have H15 := Lib.hid (rGood_any va (L x) w h1 (by omega))
  rw [goodB_L] at H15
  have H18 := Lib.hid (Limbs_any va (L x) w h1 (small_L x) hl)
  rw [V_L] at H18
  have R2 := Lib.hid h2
  clear h1 h2
  go_enter Tryd.func18, Tryd.ntmps18
  go_wp2_with fail
  refine H15.out.mono ?_
  rintro e w1 ⟨rfl, rfl⟩
  go_wp2_with fail
  refine H18.out.mono ?_
  rintro e w1 ⟨v1, rfl, hv1, hb1⟩
  have H20 := Lib.hid (Cmp_any v1 vw x x w1 hv1 (R2.out.below hb1) (by omega) (by omega))
  rw [cmpZ_eq] at H20
  go_wp2_with fail
  refine H20.out.mono ?_
  rintro e w2 ⟨rfl, hb2⟩
  go_wp2_with fail
  go_ret
  exact ⟨rfl, hb1.trans (hb2.mono hb1.size)⟩

/-! ### same -/
end Go.Proofs.YtnfoblmfjldheaaDoor
