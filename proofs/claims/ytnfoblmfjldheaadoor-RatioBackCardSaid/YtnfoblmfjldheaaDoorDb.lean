/-
  Contract of math/bits.Div64: two limbs by one: the quotient, and what is left. Condition: the high limb is below the divisor.
-/
import Derived.Test.YtnfoblmfjldheaaDoorDa
namespace Go.Proofs.YtnfoblmfjldheaaDoor
open Go.RowKit Go.Dig Go.Shelf Go.Proofs Go.Dv

set_option maxRecDepth 100000 in
set_option maxHeartbeats 4000000 in
theorem Div64_zero (lo y : Nat) (w : World) (h0 : 0 < y) (hlo : lo < 18446744073709551616) :
    Calls Tryd.prog 80 #[.int .u64 0, .int .u64 (lo : Int), .int .u64 (y : Int)] w fun e w' =>
      e = .returned (.tuple #[.int .u64 ((lo / y : Nat) : Int), .int .u64 ((lo % y : Nat) : Int)]) ∧ Below w.heap.size w w' := by
  have hy0 : ((y : Int) == 0) = false := by rw [beq_eq_false_iff_ne]; omega
  have hq : IntKind.u64.wrap ((lo : Int) / (y : Int)) = (lo : Int) / (y : Int) := by
    rw [← Int.natCast_ediv]; exact Mul64.wrapN _ (Nat.lt_of_le_of_lt (Nat.div_le_self _ _) hlo)
  have hr : (lo : Int).tmod (y : Int) = (lo : Int) % (y : Int) := Int.tmod_eq_emod_of_nonneg (by omega)
  go_enter Tryd.func80, Tryd.ntmps80
  go_wp2_with fail
  refine Rd.region (fun X => True) 7 [0, 1, 2, 3, 4, 5, 6] [0, 1, 2, 3, 4, 5, 6, 7] (by kernel_rfl) (by kernel_rfl) (by kernel_rfl) (by kernel_rfl) rfl trivial ?_
  refine Rd.seq_float (.int .u64 (lo : Int)) (by simp only [List.getElem?_toArray, List.getElem?_cons_zero]; rfl) rfl (by rfl) (fun X _ => by go_simp) ?_
  simp only [Act.put, List.setIfInBounds_toArray, List.set_cons_succ, List.set_cons_zero]
  refine Rd.seq_float (.int .u64 (y : Int)) (by simp only [List.getElem?_toArray, List.getElem?_cons_succ, List.getElem?_cons_zero]; rfl) rfl (by rfl) (fun X _ => by go_simp) ?_
  simp only [Act.put, List.setIfInBounds_toArray, List.set_cons_succ, List.set_cons_zero]
  refine Rd.seq_float (.int .u64 ((lo / y : Nat) : Int)) (by simp only [List.getElem?_toArray, List.getElem?_cons_succ, List.getElem?_cons_zero]; rfl) rfl (by rfl) (fun X _ => by go_simp) ?_
  simp only [Act.put, List.setIfInBounds_toArray, List.set_cons_succ, List.set_cons_zero]
  refine Rd.seq_float (.int .u64 (lo : Int)) (by simp only [List.getElem?_toArray, List.getElem?_cons_succ, List.getElem?_cons_zero]; rfl) rfl (by rfl) (fun X _ => by go_simp) ?_
  simp only [Act.put, List.setIfInBounds_toArray, List.set_cons_succ, List.set_cons_zero]
  refine Rd.seq_float (.int .u64 (y : Int)) (by simp only [List.getElem?_toArray, List.getElem?_cons_succ, List.getElem?_cons_zero]; rfl) rfl (by rfl) (fun X _ => by go_simp) ?_
  simp only [Act.put, List.setIfInBounds_toArray, List.set_cons_succ, List.set_cons_zero]
  refine Rd.seq_float (.int .u64 ((lo % y : Nat) : Int)) (by simp only [List.getElem?_toArray, List.getElem?_cons_succ, List.getElem?_cons_zero]; rfl) rfl (by rfl) (fun X _ => by go_simp) ?_
  simp only [Act.put, List.setIfInBounds_toArray, List.set_cons_succ, List.set_cons_zero]
  refine Rd.seq_float (.int .u64 ((lo / y : Nat) : Int)) (by simp only [List.getElem?_toArray, List.getElem?_cons_succ, List.getElem?_cons_zero]; rfl) rfl (by rfl) (fun X _ => by go_simp) ?_
  simp only [Act.put, List.setIfInBounds_toArray, List.set_cons_succ, List.set_cons_zero]
  refine Rd.seq_move (by simp only [List.getElem?_toArray, List.getElem?_cons_succ, List.getElem?_cons_zero]; rfl) rfl (by rfl) (fun K hK => ?_)
  go_simp
  refine hK _ _ (fun h => absurd h (by omega)) ?_
  refine Rd.seq_end ?_
  go_wp2_with fail
  go_ret2
  exact ⟨rfl, (Below.refl _ _).drew⟩

theorem two_join (u z : Nat) : (u * 4294967296 + z / 4294967296) * 4294967296 + z % 4294967296 = u * 18446744073709551616 + z := by omega
/-- what the halves are: the numbers of the walk. -/
theorem Div64_any (hi lo y : Nat) (w : World) (hy : hi < y) (hy2 : y < 18446744073709551616) (hlo : lo < 18446744073709551616) :
    Calls Tryd.prog 80 #[.int .u64 (hi : Int), .int .u64 (lo : Int), .int .u64 (y : Int)] w fun e w' =>
      e = .returned (.tuple #[.int .u64 (((lo + 18446744073709551616 * hi) / y : Nat) : Int), .int .u64 (((lo + 18446744073709551616 * hi) % y : Nat) : Int)]) ∧ Below w.heap.size w w' := by
  by_cases h0 : hi = 0
  · subst h0
    have h := Div64_zero lo y w (by omega) hlo
    simpa using h
  obtain ⟨s, hs⟩ : ∃ s, s + Lib.bitLen y = 64 := ⟨64 - Lib.bitLen y, by have := bitLen_le hy2; omega⟩
  obtain ⟨hY1, hY2, hs63⟩ := scale_high (by omega) hy2 hs
  have hpos : 0 < 2 ^ s := Nat.pow_pos (by omega)
  have hN := scale_two (hi := hi) (lo := lo) (s := s) (by omega)
  have hor := scale_or (hi := hi) (lo := lo) (s := s) (by omega) hlo
  have hNlt : (hi * 18446744073709551616 + lo) * 2 ^ s < y * 2 ^ s * 18446744073709551616 := by
    rw [Nat.mul_right_comm]
    exact Nat.mul_lt_mul_of_pos_right (by omega) hpos
  obtain ⟨hd1, hd2⟩ := scale_div (N := hi * 18446744073709551616 + lo) (y := y) hpos
  have hw1 : IntKind.u64.wrap ((y : Int) * 2 ^ s) = ((y * 2 ^ s : Nat) : Int) := by rw [wrap_pow, Nat.mod_eq_of_lt hY2]
  have hhi : hi * 2 ^ s < 18446744073709551616 := Nat.lt_trans (Nat.mul_lt_mul_of_pos_right hy hpos) hY2
  have hw2 : bits .or .u64 (IntKind.u64.wrap ((hi : Int) * 2 ^ s)) ((lo : Int) / 2 ^ (64 - s)) = ((hi * 2 ^ s + lo / 2 ^ (64 - s) : Nat) : Int) := by
    have e : (lo : Int) / 2 ^ (64 - s) = ((lo / 2 ^ (64 - s) : Nat) : Int) := by simp
    rw [wrap_pow, Nat.mod_eq_of_lt hhi, e, or_u64 _ _ hhi (Nat.lt_of_le_of_lt (Nat.div_le_self _ _) hlo), hor]
  have hw3 := wrap_pow (a := lo) (s := s)
  have hpow : ((2 ^ s : Nat) : Int) = 2 ^ s := by simp
  rw [hN] at hNlt hd1 hd2
  rw [show lo + 18446744073709551616 * hi = hi * 18446744073709551616 + lo by omega, ← hd1, ← hd2]
  -- from here on: Y, u, z as numbers
  generalize y * 2 ^ s = Y at *
  generalize hi * 2 ^ s + lo / 2 ^ (64 - s) = u at *
  have hz : lo * 2 ^ s % 18446744073709551616 < 18446744073709551616 := Nat.mod_lt _ (by omega)
  generalize lo * 2 ^ s % 18446744073709551616 = z at *
  clear hN hor hd1 hd2 hhi
  have hYe : Y / 4294967296 * 4294967296 + Y % 4294967296 = Y := by omega
  have hu : u < Y := by omega
  have Au : Ahead u (z / 4294967296) (Y / 4294967296) (Y % 4294967296) := ⟨by omega, by omega, by omega, by omega, by omega⟩
  have Ru := Au.rest
  have Su := Au.start
  have Lu := Au.small
  rw [hYe] at Ru Lu
  have Av : Ahead ((u * 4294967296 + z / 4294967296) % Y) (z % 4294967296) (Y / 4294967296) (Y % 4294967296) := ⟨by omega, by omega, by omega, by omega, by rw [hYe]; exact Ru.2.2⟩
  have Rv := Av.rest
  have Sv := Av.start
  have Lv := Av.small
  rw [hYe] at Rv Lv
  have T := two_div (X := u * 4294967296 + z / 4294967296) (d := z % 4294967296) (Y := Y) (by omega)
  rw [two_join u z] at T
  rw [T.1, T.2]
  obtain ⟨v, hv⟩ : ∃ v, v = (u * 4294967296 + z / 4294967296) % Y := ⟨_, rfl⟩
  obtain ⟨Q1, hQ1⟩ : ∃ Q1, Q1 = (u * 4294967296 + z / 4294967296) / Y := ⟨_, rfl⟩
  obtain ⟨Q0, hQ0⟩ : ∃ Q0, Q0 = (v * 4294967296 + z % 4294967296) / Y := ⟨_, rfl⟩
  obtain ⟨rr, hrr⟩ : ∃ rr, rr = (v * 4294967296 + z % 4294967296) % Y := ⟨_, rfl⟩
  rw [← hv] at Ru Av Rv Sv Lv ⊢
  rw [← hQ1] at Ru Lu ⊢
  rw [← hQ0] at Rv Lv ⊢
  rw [← hrr] at Rv ⊢
  obtain ⟨P1, hP1⟩ : ∃ P1, P1 = Q1 * Y := ⟨_, rfl⟩
  obtain ⟨P0, hP0⟩ : ∃ P0, P0 = Q0 * Y := ⟨_, rfl⟩
  rw [← hP1] at Ru
  rw [← hP0] at Rv
  refine (Div64_walk s u (z / 4294967296) (Y / 4294967296) (Y % 4294967296) Q1 v (z % 4294967296) Q0 hi lo y Y ((Y / 4294967296 : Nat) : Int) ((Y % 4294967296 : Nat) : Int) u z ((z / 4294967296 : Nat) : Int) ((z % 4294967296 : Nat) : Int)
    ((u / (Y / 4294967296) : Nat) : Int) ((u / (Y / 4294967296) * (Y / 4294967296) : Nat) : Int) ((u - u / (Y / 4294967296) * (Y / 4294967296) : Nat) : Int) Q1 _ _ _ v
    ((v / (Y / 4294967296) : Nat) : Int) ((v / (Y / 4294967296) * (Y / 4294967296) : Nat) : Int) ((v - v / (Y / 4294967296) * (Y / 4294967296) : Nat) : Int) Q0 _ _ _ rr w (by omega) (by omega) (fun w => LZ_any y s w hy2 hs) hs63
    hw1 (by omega) (Mul64.maskN Y hY2) hw2 hw3 (by omega) (Mul64.maskN z hz)
    ?e8 ?e9 ?e10 rfl rfl rfl ?g4 ?e82 ?e92 ?e102 rfl rfl rfl ?g42
    (Lib.hid Au) (Lib.hid Av) (Lib.hid rfl) (Lib.hid rfl) (Lib.hid rfl) (Lib.hid rfl) (Lib.hid rfl) (Lib.hid rfl) (by omega) (by omega) (Lib.hid (by rw [hYe]; exact hQ1)) (Lib.hid (by rw [hYe]; exact hQ0))
    (Int.natCast_nonneg _) (by omega) (Int.natCast_nonneg _) (by omega) (Lib.hid (Lib.hid (by rw [Int.toNat_natCast, Int.toNat_natCast]; exact Su.1)))
    (Int.natCast_nonneg _) (by omega) (Int.natCast_nonneg _) (by omega) (Lib.hid (Lib.hid (by rw [Int.toNat_natCast, Int.toNat_natCast]; exact Sv.1))) (by omega) (by omega) (by omega) (by omega)).mono ?_
  case e8 => rw [← Int.ofNat_tdiv]; exact Mul64.wrapN _ (by omega)
  case e9 => rw [Mul64.mulN]; exact Mul64.wrapN _ (by omega)
  case e10 => rw [IntKind.wrap_u64]; omega
  case e82 => rw [← Int.ofNat_tdiv]; exact Mul64.wrapN _ (by omega)
  case e92 => rw [Mul64.mulN]; exact Mul64.wrapN _ (by omega)
  case e102 => rw [IntKind.wrap_u64]; omega
  case g4 => rw [Mul64.mulN, ← hP1]; simp only [IntKind.wrap_u64]; omega
  case g42 => rw [Mul64.mulN, ← hP0]; simp only [IntKind.wrap_u64]; omega
  rintro e w' ⟨rfl, rfl⟩
  refine ⟨?_, Below.refl _ _⟩
  have e1 : ((Q1 * 4294967296 + Q0 : Nat) : Int) = (Q1 : Int) * 4294967296 + (Q0 : Int) := by omega
  have e2 : ((rr / 2 ^ s : Nat) : Int) = (rr : Int) / 2 ^ s := by rw [Int.natCast_ediv, hpow]
  rw [e1, e2]
end Go.Proofs.YtnfoblmfjldheaaDoor
