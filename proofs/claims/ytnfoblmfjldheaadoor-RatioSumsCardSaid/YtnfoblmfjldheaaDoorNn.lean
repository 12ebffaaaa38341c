/-
  Contract of nat.Gcd over naturals. Condition: not more than a thousand limbs.
-/
import Derived.Test.YtnfoblmfjldheaaDoorNm
namespace Go.Proofs.YtnfoblmfjldheaaDoor
open Go.RowKit Go.Dig Go.Shelf Go.Proofs

set_option maxRecDepth 100000 in
set_option maxHeartbeats 4000000 in
theorem gcd_nat (v1 v2 : Value) (a b : Nat) (w : World) (h1 : RowU w v1 (L a)) (h2 : RowU w v2 (L b)) (l1 : (L a).length ≤ 1000) (l2 : (L b).length ≤ 1000) :
    Calls Tryd.prog 44 #[v1, v2] w fun e w' => ∃ v, e = .returned v ∧ RowU w' v (L (Nat.gcd a b)) ∧ Below w.heap.size w w' := by
  have R1 := Lib.hid h1
  have R2 := Lib.hid h2
  have HLL := Lib.hid (And.intro l1 l2)
  have HT := Lib.hid (ntrim_nat v1 a w h1 l1)
  clear h1 h2 l1 l2
  go_enter Tryd.func44, Tryd.ntmps44
  go_wp2_with fail
  refine HT.out.mono ?_
  rintro e w1 ⟨ad1, c1, rfl, z1, r1, hb1⟩
  have Z1 := Lib.hid z1
  clear z1 HT
  have HT := Lib.hid (ntrim_nat v2 b w1 (R2.out.below hb1) HLL.out.2)
  go_wp2_with fail
  refine HT.out.mono ?_
  rintro e w2 ⟨ad2, c2, rfl, z2, r2, hb2⟩
  clear HT z2
  replace r1 := r1.below hb2
  have hB := hb1.trans (hb2.mono hb1.size)
  clear hb1 hb2
  go_wp2_with fail
  go_loopg [0, 1] b (fun k A B wr => ∃ (x : Nat) (ad1 ad2 : Option Addr) (c1 c2 n1 n2 : Nat), A = .slice ad1 n1 c1 ∧ B = .slice ad2 n2 c2 ∧ Hid (n1 = (L x).length ∧ n2 = (L k).length ∧ (x = 0 → ad1 = none ∧ c1 = 0) ∧ Nat.gcd x k = Nat.gcd a b ∧ (L x).length ≤ 1000 ∧ (L k).length ≤ 1000) ∧ RowU wr (.slice ad1 n1 c1) (L x) ∧ RowU wr (.slice ad2 n2 c2) (L k) ∧ Below w.heap.size w wr)
  case atStart => exact ⟨a, ad1, ad2, c1, c2, _, _, rfl, rfl, Lib.hid ⟨rfl, rfl, Z1.out, rfl, HLL.out.1, HLL.out.2⟩, r1, r2, hB⟩
  case round =>
    clear r1 r2 hB Z1 R1 R2
    obtain ⟨x, ad1, ad2, c1, c2, n1, n2, rfl, rfl, HI, r1, r2, hB⟩ := hrel
    by_cases hk : gk = 0
    · have hz : n2 = 0 := by rw [HI.out.2.1, hk]; rfl
      subst hz
      have HE : Hid (Nat.gcd a b = x) := Lib.hid (by rw [← HI.out.2.2.2.1, hk, Nat.gcd_zero_right])
      have H49 := Lib.hid (clone_nat ad1 c1 x n1 wr HI.out.1 r1 HI.out.2.2.1 HI.out.2.2.2.2.1)
      clear hk
      go_wp2_with fail
      refine H49.out.mono ?_
      rintro e w4 ⟨v, rfl, hr, hb⟩
      obtain ⟨ad4, c4, rfl, -, -⟩ := id hr
      replace hB := hB.trans (hb.mono hB.size)
      go_wp2_with fail
      go_ret
      exact ⟨_, rfl, by rw [HE.out]; exact hr, hB⟩
    · have hz : 0 < n2 := by rw [HI.out.2.1]; exact len_pos hk
      have H29 := Lib.hid (divmod_nat (.slice ad1 n1 c1) (.slice ad2 n2 c2) x gk wr r1 r2 HI.out.2.2.2.2.1 HI.out.2.2.2.2.2 hk)
      have HLT : Hid (x % gk < gk) := Lib.hid (Nat.mod_lt _ (Nat.pos_of_ne_zero hk))
      have hz2 : ((n2 : Int) > 0) := by omega
      have HK := Lib.hid hk
      clear hk
      go_wp2_with fail
      refine H29.out.mono ?_
      rintro e w3 ⟨q, r, rfl, hq, hr, hb⟩
      obtain ⟨ad3, c3, rfl, -, -⟩ := id hq
      obtain ⟨ad4, c4, rfl, -, -⟩ := id hr
      replace r2 := r2.below hb
      replace hB := hB.trans (hb.mono hB.size)
      have HI2 : Hid (Hid (n2 = (L gk).length ∧ (L (x % gk)).length = (L (x % gk)).length ∧ (gk = 0 → ad2 = none ∧ c2 = 0) ∧ Nat.gcd gk (x % gk) = Nat.gcd a b ∧ (L gk).length ≤ 1000 ∧ (L (x % gk)).length ≤ 1000)) := Lib.hid (Lib.hid ⟨HI.out.2.1, rfl, fun e => absurd e HK.out, by rw [← HI.out.2.2.2.1, ← gcd_step], HI.out.2.2.2.2.2, Nat.le_trans (len_mono (Nat.le_of_lt HLT.out)) HI.out.2.2.2.2.2⟩)
      clear hb H29 HI r1 hq
      go_wp2_with fail
      go_roundg (x % gk)
      case measure => exact HLT.out
      case rel => exact ⟨gk, ad2, ad4, c2, c4, _, _, rfl, rfl, Lib.hid ⟨HI2.out.out.1, rfl, HI2.out.out.2.2⟩, r2, hr, hB⟩
end Go.Proofs.YtnfoblmfjldheaaDoor
