/-
  Contract of the document's answer roundelref02.Gcd. Condition: not more than ten thousand digits.
-/
import Derived.Test.YtnfoblmfjldheaaDoorRg
namespace Go.Proofs.YtnfoblmfjldheaaDoor
open Go.RowKit Go.Dig Go.Shelf Go.Proofs

set_option maxRecDepth 100000 in
set_option maxHeartbeats 4000000 in
theorem Gcd_any (v1 v2 : Value) (a b : Nat) (w : World) (h1 : Row w v1 (D a)) (h2 : Row w v2 (D b)) (l1 : (D a).length ≤ 10000) (l2 : (D b).length ≤ 10000) :
    Calls Tryd.prog 23 #[v1, v2] w fun e w' => ∃ v, e = .returned v ∧ Row w' v (D (Nat.gcd a b)) ∧ Below w.heap.size w w' := by
  have R1 := Lib.hid h1
  have R2 := Lib.hid h2
  have HLL := Lib.hid (And.intro l1 l2)
  obtain ⟨ad1, c1, rfl, -, -⟩ := h1
  obtain ⟨ad2, c2, rfl, -, -⟩ := h2
  clear l1 l2
  go_enter Tryd.func23, Tryd.ntmps23
  go_wp2_with fail
  go_loopg [0, 1] b (fun gk A B wr => ∃ (x : Nat) (ad1 ad2 : Option Addr) (c1 c2 n1 n2 : Nat), A = .slice ad1 n1 c1 ∧ B = .slice ad2 n2 c2 ∧ Hid (n1 = (D x).length ∧ n2 = (D gk).length ∧ Nat.gcd x gk = Nat.gcd a b ∧ (D x).length ≤ 10000 ∧ (D gk).length ≤ 10000) ∧ Row wr (.slice ad1 n1 c1) (D x) ∧ Row wr (.slice ad2 n2 c2) (D gk) ∧ Below w.heap.size w wr)
  case atStart => exact ⟨a, ad1, ad2, c1, c2, _, _, rfl, rfl, Lib.hid ⟨rfl, rfl, rfl, HLL.out.1, HLL.out.2⟩, R1.out, R2.out, Below.refl _ _⟩
  case round =>
    clear R1 R2
    obtain ⟨x, ad1, ad2, c1, c2, n1, n2, rfl, rfl, HI, r1, r2, hB⟩ := hrel
    by_cases hk : gk = 0
    · have hz : n2 = 0 := by rw [HI.out.2.1, hk]; rfl
      subst hz
      have HE : Hid (Nat.gcd a b = x) := Lib.hid (by rw [← HI.out.2.2.1, hk, Nat.gcd_zero_right])
      clear hk
      go_wp2_with fail
      go_ret
      exact ⟨_, rfl, by rw [HE.out]; exact r1, hB⟩
    · have hz : 0 < n2 := by rw [HI.out.2.1]; exact List.length_pos_iff.2 (fun e => hk ((dig_nil (by omega) gk).1 e))
      have H29 := Lib.hid (Div_any (.slice ad1 n1 c1) (.slice ad2 n2 c2) x gk wr r1 r2 HI.out.2.2.2.1 HI.out.2.2.2.2 hk)
      have HLT : Hid (x % gk < gk) := Lib.hid (Nat.mod_lt _ (Nat.pos_of_ne_zero hk))
      have hz2 : ((n2 : Int) > 0) := by omega
      clear hk
      go_wp2_with fail
      refine H29.out.mono ?_
      rintro e w3 ⟨q, r, rfl, hq, hr, hb⟩
      obtain ⟨ad3, c3, rfl, -, -⟩ := id hq
      obtain ⟨ad4, c4, rfl, -, -⟩ := id hr
      replace r2 := r2.below hb
      replace hB := hB.trans (hb.mono hB.size)
      have HI2 := Lib.hid (Lib.hid (And.intro HI.out.2.1 (And.intro (show Nat.gcd gk (x % gk) = Nat.gcd a b by rw [← HI.out.2.2.1, ← gcd_step]) (And.intro HI.out.2.2.2.2 (Nat.le_trans (D_mono (Nat.le_of_lt HLT.out)) HI.out.2.2.2.2)))))
      clear hb H29 HI r1 hq
      go_wp2_with fail
      go_roundg (x % gk)
      case measure => exact HLT.out
      case rel => exact ⟨gk, ad2, ad4, c2, c4, _, _, rfl, rfl, Lib.hid ⟨HI2.out.out.1, rfl, HI2.out.out.2⟩, r2, hr, hB⟩
end Go.Proofs.YtnfoblmfjldheaaDoor
