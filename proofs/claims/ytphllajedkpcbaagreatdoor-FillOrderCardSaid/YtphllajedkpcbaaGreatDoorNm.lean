/-
  Contracts of nat.DivMod and nat.Gcd over naturals. Condition: not more than a thousand limbs. Contract of nat.Gcd over naturals. Condition: not more than a thousand limbs.
-/
import Derived.Test.YtphllajedkpcbaaGreatDoorNl
import Derived.Test.YtphllajedkpcbaaGreatDoorLc
namespace Go.Proofs.YtphllajedkpcbaaGreatDoor
open Go.RowKit Go.Dig Go.Shelf Go.Proofs

theorem ntrim_nat (v : Value) (a : Nat) (w : World) (h : RowU w v (L a)) (hl : (L a).length ≤ 1000) :
    Calls Tryz.prog 47 #[v] w fun e w' => ∃ ad c, e = .returned (.slice ad (L a).length c) ∧ (a = 0 → ad = none ∧ c = 0) ∧ RowU w' (.slice ad (L a).length c) (L a) ∧ Below w.heap.size w w' := by
  have R := h
  obtain ⟨ad, cap, rfl, hcap, -⟩ := h
  have et : trim (L a) = L a := by rw [trim_L (small_L a), V_L]
  refine (nTrim_any ad cap (L a) w R (by omega)).mono ?_
  rintro e w' ⟨rfl, hb⟩
  unfold trimV
  rw [et]
  by_cases h0 : L a = []
  · rw [if_pos h0, h0]
    exact ⟨none, 0, rfl, fun _ => ⟨rfl, rfl⟩, ⟨_, _, rfl, Nat.le_refl _, fun h => absurd rfl h⟩, hb⟩
  · rw [if_neg h0]
    exact ⟨ad, cap, rfl, fun e => absurd ((dig_nil (by omega) a).2 e) h0, R.below hb, hb⟩
theorem clone_nat (ad : Option Addr) (c a n : Nat) (w : World) (hn : n = (L a).length) (h : RowU w (.slice ad n c) (L a)) (h0 : a = 0 → ad = none ∧ c = 0) (hl : (L a).length ≤ 1000) :
    Calls Tryz.prog 74 #[.slice ad n c] w fun e w' => ∃ v, e = .returned v ∧ RowU w' v (L a) ∧ Below w.heap.size w w' := by
  subst hn
  by_cases ha : a = 0
  · obtain ⟨rfl, rfl⟩ := h0 ha
    subst ha
    refine (Clone_nil w).mono ?_
    rintro e w' ⟨rfl, rfl⟩
    exact ⟨_, rfl, h, Below.refl _ _⟩
  · refine (Clone_any _ (L a) w h (fun e => ha ((dig_nil (by omega) a).1 e)) (by omega)).mono ?_
    rintro e w' ⟨g, cap, rfl, hO, hb⟩
    exact ⟨_, rfl, hO.row, hb⟩
theorem len_pos {a : Nat} (h : a ≠ 0) : 0 < (L a).length := List.length_pos_iff.2 (fun e => h ((dig_nil (by omega) a).1 e))
theorem len_one {b : Nat} (h0 : b ≠ 0) (h : (L b).length = 1) : b < 18446744073709551616 ∧ (L b).getD 0 0 = b := by
  have h1 : b < 18446744073709551616 ^ 1 := (dig_len (by omega) b 1).1 (Nat.le_of_eq h)
  rw [Nat.pow_one] at h1
  refine ⟨h1, ?_⟩
  have e : L b = b % 18446744073709551616 :: L (b / 18446744073709551616) := dig_step (by omega) h0
  rw [e, Nat.mod_eq_of_lt h1]
  rfl

set_option maxRecDepth 100000 in
set_option maxHeartbeats 4000000 in
theorem DivMod_zero (v1 v2 : Value) (a b : Nat) (w : World) (h1 : RowU w v1 (L a)) (h2 : RowU w v2 (L b)) (l1 : (L a).length ≤ 1000) (l2 : (L b).length ≤ 1000) (hb : b = 0) :
    Calls Tryz.prog 46 #[v1, v2] w fun e w' => e = .returned (.tuple #[.slice none 0 0, .slice none 0 0, .int .i64 16]) ∧ Below w.heap.size w w' := by
  have R1 := Lib.hid h1
  have R2 := Lib.hid h2
  clear h1 h2
  obtain ⟨na, hna⟩ : ∃ na, na = (L a).length := ⟨_, rfl⟩
  obtain ⟨nb, hnb⟩ : ∃ nb, nb = (L b).length := ⟨_, rfl⟩
  have HNA := Lib.hid hna
  have HNB := Lib.hid hnb
  have hz : nb = 0 := by rw [hnb, hb]; rfl
  subst hz
  clear hna hnb
  have H38 := ntrim_nat v1 a w R1.out (by have := HNA.out; omega)
  rw [← HNA.out] at H38
  have HH := Lib.hid H38
  clear H38
  go_enter Tryz.func46, Tryz.ntmps46
  go_wp2_with fail
  refine HH.out.mono ?_
  rintro e w1 ⟨ad1, c1, rfl, z1, r1, hb1⟩
  have Z1 := Lib.hid z1
  clear z1 HH
  have H38 := ntrim_nat v2 b w1 (R2.out.below hb1) (by have := HNB.out; omega)
  rw [← HNB.out] at H38
  have HH := Lib.hid H38
  clear H38
  go_wp2_with fail
  refine HH.out.mono ?_
  rintro e w2 ⟨ad2, c2, rfl, z2, r2, hb2⟩
  clear HH z2
  replace r1 := r1.below hb2
  have hB := hb1.trans (hb2.mono hb1.size)
  clear hb1 hb2
  go_wp2_with fail
  go_ret3
  exact ⟨rfl, hB⟩
set_option maxRecDepth 100000 in
set_option maxHeartbeats 4000000 in
theorem DivMod_less (v1 v2 : Value) (a b : Nat) (w : World) (h1 : RowU w v1 (L a)) (h2 : RowU w v2 (L b)) (l1 : (L a).length ≤ 1000) (l2 : (L b).length ≤ 1000) (hb : b ≠ 0) (hab : a < b) :
    Calls Tryz.prog 46 #[v1, v2] w fun e w' => ∃ q r, e = .returned (.tuple #[q, r, .int .i64 0]) ∧ RowU w' q (L (a / b)) ∧ RowU w' r (L (a % b)) ∧ Below w.heap.size w w' := by
  have R1 := Lib.hid h1
  have R2 := Lib.hid h2
  clear h1 h2
  obtain ⟨na, hna⟩ : ∃ na, na = (L a).length := ⟨_, rfl⟩
  obtain ⟨nb, hnb⟩ : ∃ nb, nb = (L b).length := ⟨_, rfl⟩
  have HNA := Lib.hid hna
  have HNB := Lib.hid hnb
  have hz : 0 < nb := by rw [hnb]; exact len_pos hb
  have HAB := Lib.hid hab
  clear hb hab
  clear hna hnb
  have H38 := ntrim_nat v1 a w R1.out (by have := HNA.out; omega)
  rw [← HNA.out] at H38
  have HH := Lib.hid H38
  clear H38
  go_enter Tryz.func46, Tryz.ntmps46
  go_wp2_with fail
  refine HH.out.mono ?_
  rintro e w1 ⟨ad1, c1, rfl, z1, r1, hb1⟩
  have Z1 := Lib.hid z1
  clear z1 HH
  have H38 := ntrim_nat v2 b w1 (R2.out.below hb1) (by have := HNB.out; omega)
  rw [← HNB.out] at H38
  have HH := Lib.hid H38
  clear H38
  go_wp2_with fail
  refine HH.out.mono ?_
  rintro e w2 ⟨ad2, c2, rfl, z2, r2, hb2⟩
  clear HH z2
  replace r1 := r1.below hb2
  have hB := hb1.trans (hb2.mono hb1.size)
  clear hb1 hb2
  have H22 := Lib.hid (cmp_nat (.slice ad1 na c1) (.slice ad2 nb c2) a b w2 r1 r2 (by have := HNA.out; omega) (by have := HNB.out; omega))
  rw [show cmpZ a b = -1 by unfold cmpZ; rw [if_pos HAB.out]] at H22
  go_wp2_with fail
  refine H22.out.mono ?_
  rintro e w3 ⟨rfl, hb⟩
  replace r1 := r1.below hb
  replace r2 := r2.below hb
  replace hB := hB.trans (hb.mono hB.size)
  clear hb H22
  have H49 := Lib.hid (clone_nat ad1 c1 a na w3 HNA.out r1 Z1.out (by have := HNA.out; omega))
  go_wp2_with fail
  refine H49.out.mono ?_
  rintro e w4 ⟨v, rfl, hr, hb⟩
  replace hB := hB.trans (hb.mono hB.size)
  clear hb H49
  obtain ⟨ad4, c4, rfl, -, -⟩ := id hr
  go_wp2_with fail
  go_ret3
  refine ⟨_, _, rfl, ?_, ?_, hB⟩
  · rw [Nat.div_eq_of_lt HAB.out]; exact ⟨_, _, rfl, Nat.le_refl _, fun h => absurd rfl h⟩
  · rw [Nat.mod_eq_of_lt HAB.out]; exact hr
set_option maxRecDepth 100000 in
set_option maxHeartbeats 4000000 in
theorem DivMod_one (v1 v2 : Value) (a b : Nat) (w : World) (h1 : RowU w v1 (L a)) (h2 : RowU w v2 (L b)) (l1 : (L a).length ≤ 1000) (l2 : (L b).length ≤ 1000) (hb : b ≠ 0) (hab : b ≤ a) (ho : (L b).length = 1) :
    Calls Tryz.prog 46 #[v1, v2] w fun e w' => ∃ q r, e = .returned (.tuple #[q, r, .int .i64 0]) ∧ RowU w' q (L (a / b)) ∧ RowU w' r (L (a % b)) ∧ Below w.heap.size w w' := by
  have R1 := Lib.hid h1
  have R2 := Lib.hid h2
  clear h1 h2
  obtain ⟨na, hna⟩ : ∃ na, na = (L a).length := ⟨_, rfl⟩
  obtain ⟨nb, hnb⟩ : ∃ nb, nb = (L b).length := ⟨_, rfl⟩
  have HNA := Lib.hid hna
  have HNB := Lib.hid hnb
  have hz : nb = 1 := by rw [hnb, ho]
  have hz2 : 0 < na := by rw [hna]; exact len_pos (by omega)
  have HAB := Lib.hid hab
  have HB := Lib.hid hb
  have HO := Lib.hid (len_one hb ho)
  clear hb hab ho
  subst hz
  clear hna hnb
  have H38 := ntrim_nat v1 a w R1.out (by have := HNA.out; omega)
  rw [← HNA.out] at H38
  have HH := Lib.hid H38
  clear H38
  go_enter Tryz.func46, Tryz.ntmps46
  go_wp2_with fail
  refine HH.out.mono ?_
  rintro e w1 ⟨ad1, c1, rfl, z1, r1, hb1⟩
  have Z1 := Lib.hid z1
  clear z1 HH
  have H38 := ntrim_nat v2 b w1 (R2.out.below hb1) (by have := HNB.out; omega)
  rw [← HNB.out] at H38
  have HH := Lib.hid H38
  clear H38
  go_wp2_with fail
  refine HH.out.mono ?_
  rintro e w2 ⟨ad2, c2, rfl, z2, r2, hb2⟩
  clear HH z2
  replace r1 := r1.below hb2
  have hB := hb1.trans (hb2.mono hb1.size)
  clear hb1 hb2
  have H22 := Lib.hid (cmp_nat (.slice ad1 na c1) (.slice ad2 1 c2) a b w2 r1 r2 (by have := HNA.out; omega) (by have := HNB.out; omega))
  have hcz : 0 ≤ cmpZ a b := by unfold cmpZ; rw [if_neg (by have := HAB.out; omega)]; split <;> omega
  generalize cmpZ a b = cz at H22 hcz
  go_wp2_with fail
  refine H22.out.mono ?_
  rintro e w3 ⟨rfl, hb⟩
  replace r1 := r1.below hb
  replace r2 := r2.below hb
  replace hB := hB.trans (hb.mono hB.size)
  clear hb H22
  have H49 := Clone_any (.slice ad1 na c1) (L a) w3 r1 (fun e => by have := HNA.out; rw [e] at this; simp at this; omega) (by have := HNA.out; omega)
  rw [← HNA.out] at H49
  have HH := Lib.hid H49
  clear H49
  go_wp2_with fail
  refine HH.out.mono ?_
  rintro e w4 ⟨g, cap, rfl, hO, hb⟩
  replace r2 := r2.below hb
  have hws := hB.size
  replace hB := hB.trans (hb.mono hB.size)
  have hgw := hO.lt
  clear HH
  obtain ⟨b2, o2, rfl, hb2, cc⟩ := r2.cell (j := 0) (by have := HNB.out; omega)
  rw [HO.out.2, Nat.add_zero] at cc
  have H50 := Lib.hid (divLimb_any w3.heap.size g na cap (L a) b w4 hO (small_L a) (by have := HNA.out; omega) (by have := HB.out; omega) HO.out.1)
  clear hO hb r1
  go_wp2_with fail
  refine H50.out.mono ?_
  rintro e w5 ⟨rfl, ⟨Q, hOq, hsq, hvq⟩, hF⟩
  rw [V_L] at hvq ⊢
  have HVQ := Lib.hid (And.intro hsq hvq)
  replace hB : Below w.heap.size w w5 := hB.trans (hF.below hB.size (fun k e => by omega))
  clear H50 hF hsq hvq cc r2
  obtain ⟨qa, qc, hqe, hqr⟩ := trimV_slice hOq.row
  have eq1 : trim Q = L (a / b) := by rw [trim_L HVQ.out.1, HVQ.out.2]
  have hol := hOq.len
  have H38 := nTrim_any (some ⟨g, 0, none⟩) cap Q w5 (by rw [hol]; exact hOq.row) (by have := HNA.out; omega)
  rw [hol, hqe] at H38
  rw [eq1] at H38 hqr
  have HH := Lib.hid H38
  clear H38 hol hqe eq1 hOq
  have hmb : a % b < 18446744073709551616 := Nat.lt_trans (Nat.mod_lt _ (Nat.pos_of_ne_zero HB.out)) HO.out.1
  obtain ⟨mm, hmm⟩ : ∃ mm, mm = a % b := ⟨_, rfl⟩
  have HMM := Lib.hid hmm
  rw [← hmm] at hmb ⊢
  clear hmm
  go_wp2_with fail
  refine HH.out.mono ?_
  rintro e w6 ⟨rfl, hb⟩
  replace hqr := hqr.below hb
  replace hB := hB.trans (hb.mono hB.size)
  clear hb HH
  have H17 := Lib.hid (nOf_any mm w6 hmb)
  go_wp2_with fail
  refine H17.out.mono ?_
  rintro e w7 ⟨v, rfl, hr, hb⟩
  replace hqr := hqr.below hb
  replace hB := hB.trans (hb.mono hB.size)
  obtain ⟨ad7, c7, rfl, -, -⟩ := id hr
  clear hb H17
  go_wp2_with fail
  go_ret3
  exact ⟨_, _, rfl, hqr, by rw [← HMM.out]; exact hr, hB⟩
set_option maxRecDepth 100000 in
set_option maxHeartbeats 4000000 in
theorem DivMod_long (v1 v2 : Value) (a b : Nat) (w : World) (h1 : RowU w v1 (L a)) (h2 : RowU w v2 (L b)) (l1 : (L a).length ≤ 1000) (l2 : (L b).length ≤ 1000) (hb : b ≠ 0) (hab : b ≤ a) (ho : (L b).length ≠ 1) :
    Calls Tryz.prog 46 #[v1, v2] w fun e w' => ∃ q r, e = .returned (.tuple #[q, r, .int .i64 0]) ∧ RowU w' q (L (a / b)) ∧ RowU w' r (L (a % b)) ∧ Below w.heap.size w w' := by
  have R1 := Lib.hid h1
  have R2 := Lib.hid h2
  clear h1 h2
  obtain ⟨na, hna⟩ : ∃ na, na = (L a).length := ⟨_, rfl⟩
  obtain ⟨nb, hnb⟩ : ∃ nb, nb = (L b).length := ⟨_, rfl⟩
  have HNA := Lib.hid hna
  have HNB := Lib.hid hnb
  have hz : 2 ≤ nb := by have := len_pos hb; omega
  have hz2 : nb ≤ na := by have := len_mono hab; omega
  have HAB := Lib.hid hab
  clear hb hab ho
  clear hna hnb
  have H38 := ntrim_nat v1 a w R1.out (by have := HNA.out; omega)
  rw [← HNA.out] at H38
  have HH := Lib.hid H38
  clear H38
  go_enter Tryz.func46, Tryz.ntmps46
  go_wp2_with fail
  refine HH.out.mono ?_
  rintro e w1 ⟨ad1, c1, rfl, z1, r1, hb1⟩
  have Z1 := Lib.hid z1
  clear z1 HH
  have H38 := ntrim_nat v2 b w1 (R2.out.below hb1) (by have := HNB.out; omega)
  rw [← HNB.out] at H38
  have HH := Lib.hid H38
  clear H38
  go_wp2_with fail
  refine HH.out.mono ?_
  rintro e w2 ⟨ad2, c2, rfl, z2, r2, hb2⟩
  clear HH z2
  replace r1 := r1.below hb2
  have hB := hb1.trans (hb2.mono hb1.size)
  clear hb1 hb2
  have H22 := Lib.hid (cmp_nat (.slice ad1 na c1) (.slice ad2 nb c2) a b w2 r1 r2 (by have := HNA.out; omega) (by have := HNB.out; omega))
  have hcz : 0 ≤ cmpZ a b := by unfold cmpZ; rw [if_neg (by have := HAB.out; omega)]; split <;> omega
  generalize cmpZ a b = cz at H22 hcz
  go_wp2_with fail
  refine H22.out.mono ?_
  rintro e w3 ⟨rfl, hb⟩
  replace r1 := r1.below hb
  replace r2 := r2.below hb
  replace hB := hB.trans (hb.mono hB.size)
  clear hb H22
  have H51 := Lib.hid (divLong_any (.slice ad1 na c1) (.slice ad2 nb c2) a b w3 r1 r2 (by have := HNA.out; omega) (by have := HNB.out; omega) (by have := HNB.out; have := HNA.out; omega))
  have hnb1 : ((nb : Int) == 1) = false := by rw [beq_eq_false_iff_ne]; omega
  go_wp2_with fail
  refine H51.out.mono ?_
  rintro e w4 ⟨q, r, rfl, hq, hr, hb⟩
  replace hB := hB.trans (hb.mono hB.size)
  obtain ⟨ad7, c7, rfl, -, -⟩ := id hq
  obtain ⟨ad8, c8, rfl, -, -⟩ := id hr
  clear hb H51
  go_wp2_with fail
  go_ret3
  exact ⟨_, _, rfl, hq, hr, hB⟩
theorem divmod_nat (v1 v2 : Value) (a b : Nat) (w : World) (h1 : RowU w v1 (L a)) (h2 : RowU w v2 (L b)) (l1 : (L a).length ≤ 1000) (l2 : (L b).length ≤ 1000) (hb : b ≠ 0) :
    Calls Tryz.prog 46 #[v1, v2] w fun e w' => ∃ q r, e = .returned (.tuple #[q, r, .int .i64 0]) ∧ RowU w' q (L (a / b)) ∧ RowU w' r (L (a % b)) ∧ Below w.heap.size w w' := by
  by_cases hab : a < b
  · exact DivMod_less v1 v2 a b w h1 h2 l1 l2 hb hab
  · by_cases ho : (L b).length = 1
    · exact DivMod_one v1 v2 a b w h1 h2 l1 l2 hb (by omega) ho
    · exact DivMod_long v1 v2 a b w h1 h2 l1 l2 hb (by omega) ho
end Go.Proofs.YtphllajedkpcbaaGreatDoor

namespace Go.Proofs.YtphllajedkpcbaaGreatDoor
open Go.RowKit Go.Dig Go.Shelf Go.Proofs

set_option maxRecDepth 100000 in
set_option maxHeartbeats 4000000 in
theorem gcd_nat (v1 v2 : Value) (a b : Nat) (w : World) (h1 : RowU w v1 (L a)) (h2 : RowU w v2 (L b)) (l1 : (L a).length ≤ 1000) (l2 : (L b).length ≤ 1000) :
    Calls Tryz.prog 45 #[v1, v2] w fun e w' => ∃ v, e = .returned v ∧ RowU w' v (L (Nat.gcd a b)) ∧ Below w.heap.size w w' := by
  have R1 := Lib.hid h1
  have R2 := Lib.hid h2
  have HLL := Lib.hid (And.intro l1 l2)
  have HT := Lib.hid (ntrim_nat v1 a w h1 l1)
  clear h1 h2 l1 l2
  go_enter Tryz.func45, Tryz.ntmps45
  go_wp2_with fail
  refine HT.out.mono ?_
  rintro e w1 ⟨ad1, c1, rfl, z1, r1, hb1⟩
  have Z1 := Lib.hid z1
  clear z1 HT
  have HT := Lib.hid (ntrim_nat v2 b w1 (R2.out.below hb1) HLL.out.2)
  go_wp2_with fail
  refine HT.out.mono ?_
  rintro e w2 ⟨ad2, c2, rfl, z2, r2, hb2⟩
  clear HT z2
  replace r1 := r1.below hb2
  have hB := hb1.trans (hb2.mono hb1.size)
  clear hb1 hb2
  go_wp2_with fail
  go_loopg [0, 1] b (fun k A B wr => ∃ (x : Nat) (ad1 ad2 : Option Addr) (c1 c2 n1 n2 : Nat), A = .slice ad1 n1 c1 ∧ B = .slice ad2 n2 c2 ∧ Hid (n1 = (L x).length ∧ n2 = (L k).length ∧ (x = 0 → ad1 = none ∧ c1 = 0) ∧ Nat.gcd x k = Nat.gcd a b ∧ (L x).length ≤ 1000 ∧ (L k).length ≤ 1000) ∧ RowU wr (.slice ad1 n1 c1) (L x) ∧ RowU wr (.slice ad2 n2 c2) (L k) ∧ Below w.heap.size w wr)
  case atStart => exact ⟨a, ad1, ad2, c1, c2, _, _, rfl, rfl, Lib.hid ⟨rfl, rfl, Z1.out, rfl, HLL.out.1, HLL.out.2⟩, r1, r2, hB⟩
  case round =>
    clear r1 r2 hB Z1 R1 R2
    obtain ⟨x, ad1, ad2, c1, c2, n1, n2, rfl, rfl, HI, r1, r2, hB⟩ := hrel
    by_cases hk : gk = 0
    · have hz : n2 = 0 := by rw [HI.out.2.1, hk]; rfl
      subst hz
      have HE : Hid (Nat.gcd a b = x) := Lib.hid (by rw [← HI.out.2.2.2.1, hk, Nat.gcd_zero_right])
      have H49 := Lib.hid (clone_nat ad1 c1 x n1 wr HI.out.1 r1 HI.out.2.2.1 HI.out.2.2.2.2.1)
      clear hk
      go_wp2_with fail
      refine H49.out.mono ?_
      rintro e w4 ⟨v, rfl, hr, hb⟩
      obtain ⟨ad4, c4, rfl, -, -⟩ := id hr
      replace hB := hB.trans (hb.mono hB.size)
      go_wp2_with fail
      go_ret
      exact ⟨_, rfl, by rw [HE.out]; exact hr, hB⟩
    · have hz : 0 < n2 := by rw [HI.out.2.1]; exact len_pos hk
      have H29 := Lib.hid (divmod_nat (.slice ad1 n1 c1) (.slice ad2 n2 c2) x gk wr r1 r2 HI.out.2.2.2.2.1 HI.out.2.2.2.2.2 hk)
      have HLT : Hid (x % gk < gk) := Lib.hid (Nat.mod_lt _ (Nat.pos_of_ne_zero hk))
      have hz2 : ((n2 : Int) > 0) := by omega
      have HK := Lib.hid hk
      clear hk
      go_wp2_with fail
      refine H29.out.mono ?_
      rintro e w3 ⟨q, r, rfl, hq, hr, hb⟩
      obtain ⟨ad3, c3, rfl, -, -⟩ := id hq
      obtain ⟨ad4, c4, rfl, -, -⟩ := id hr
      replace r2 := r2.below hb
      replace hB := hB.trans (hb.mono hB.size)
      have HI2 : Hid (Hid (n2 = (L gk).length ∧ (L (x % gk)).length = (L (x % gk)).length ∧ (gk = 0 → ad2 = none ∧ c2 = 0) ∧ Nat.gcd gk (x % gk) = Nat.gcd a b ∧ (L gk).length ≤ 1000 ∧ (L (x % gk)).length ≤ 1000)) := Lib.hid (Lib.hid ⟨HI.out.2.1, rfl, fun e => absurd e HK.out, by rw [← HI.out.2.2.2.1, ← gcd_step], HI.out.2.2.2.2.2, Nat.le_trans (len_mono (Nat.le_of_lt HLT.out)) HI.out.2.2.2.2.2⟩)
      clear hb H29 HI r1 hq
      go_wp2_with fail
      go_roundg (x % gk)
      case measure => exact HLT.out
      case rel => exact ⟨gk, ad2, ad4, c2, c4, _, _, rfl, rfl, Lib.hid ⟨HI2.out.out.1, rfl, HI2.out.out.2.2⟩, r2, hr, hB⟩
end Go.Proofs.YtphllajedkpcbaaGreatDoor
