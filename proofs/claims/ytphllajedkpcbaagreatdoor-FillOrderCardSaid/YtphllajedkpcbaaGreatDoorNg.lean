/-
  Contracts of nat.timesAdd, nat.addTimes, nat.Mul. Conditions: not more than a hundred thousand limbs; what addTimes writes into is a block that it may write, and not the one of its factor.
-/
import Derived.Test.YtphllajedkpcbaaGreatDoorNf
import Derived.Test.YtphllajedkpcbaaGreatDoorRd
import Derived.Test.YtphllajedkpcbaaGreatDoorShelf
namespace Go.Proofs.YtphllajedkpcbaaGreatDoor
open Go.RowKit Go.Dig Go.Shelf Go.Proofs

/-! ### timesAdd -/
set_option maxRecDepth 100000 in
set_option maxHeartbeats 1000000 in
theorem timesAdd_walk (x m y z h0 l0 l1 c1 l2 c2 : Nat) (w : World) (hh : h0 + c1 + c2 < 18446744073709551616)
    (H70 : Hid (Calls Tryz.prog 110 #[.int .u64 (x : Int), .int .u64 (m : Int)] w fun e w' => e = .returned (.tuple #[.int .u64 (h0 : Int), .int .u64 (l0 : Int)]) ∧ w' = w))
    (A1 : ∀ w, (callFunc 65 #[.int .u64 (l0 : Int), .int .u64 (y : Int), .int .u64 0]).run Tryz.prog w = .ok (.value (.tuple #[.int .u64 (l1 : Int), .int .u64 (c1 : Int)])) w)
    (A2 : ∀ w, (callFunc 65 #[.int .u64 (l1 : Int), .int .u64 (z : Int), .int .u64 0]).run Tryz.prog w = .ok (.value (.tuple #[.int .u64 (l2 : Int), .int .u64 (c2 : Int)])) w) :
    Calls Tryz.prog 86 #[.int .u64 (x : Int), .int .u64 (m : Int), .int .u64 (y : Int), .int .u64 (z : Int)] w fun e w' =>
      e = .returned (.tuple #[.int .u64 (l2 : Int), .int .u64 ((h0 + c1 + c2 : Nat) : Int)]) ∧ w = w' := by
  have hh2 : h0 + c1 < 18446744073709551616 := by omega
  go_enter Tryz.func86, Tryz.ntmps86
  go_wp2_with fail
  refine H70.out.mono ?_
  rintro e w1 ⟨rfl, rfl⟩
  go_wp2_with fail
  go_ret2
  exact ⟨rfl, rfl⟩
theorem timesAdd_is (x m y z lo hi : Nat) (w : World) (hx : x < 18446744073709551616) (hm : m < 18446744073709551616) (hy : y < 18446744073709551616) (hz : z < 18446744073709551616) (hlo : lo = (y + x * m + z) % 18446744073709551616) (hhi : hi = (y + x * m + z) / 18446744073709551616) :
    Calls Tryz.prog 86 #[.int .u64 (x : Int), .int .u64 (m : Int), .int .u64 (y : Int), .int .u64 (z : Int)] w fun e w' =>
      e = .returned (.tuple #[.int .u64 (lo : Int), .int .u64 (hi : Int)]) ∧ w = w' := by
  have hle : x * m ≤ 18446744073709551615 * 18446744073709551615 := Nat.mul_le_mul (by omega) (by omega)
  have H70 := Tryz.bits_Mul64 x m hx hm w
  obtain ⟨p, hp⟩ : ∃ p, p = x * m := ⟨_, rfl⟩
  rw [← hp] at hle H70 hlo hhi
  have hfin : p / 18446744073709551616 + (p % 18446744073709551616 + y + 0) / 18446744073709551616 + ((p % 18446744073709551616 + y + 0) % 18446744073709551616 + z + 0) / 18446744073709551616 = hi := by omega
  have hfin2 : ((p % 18446744073709551616 + y + 0) % 18446744073709551616 + z + 0) % 18446744073709551616 = lo := by omega
  have h := timesAdd_walk x m y z (p / 18446744073709551616) (p % 18446744073709551616) ((p % 18446744073709551616 + y + 0) % 18446744073709551616) ((p % 18446744073709551616 + y + 0) / 18446744073709551616)
    (((p % 18446744073709551616 + y + 0) % 18446744073709551616 + z + 0) % 18446744073709551616) (((p % 18446744073709551616 + y + 0) % 18446744073709551616 + z + 0) / 18446744073709551616) w (by omega) (Lib.hid H70)
    (fun w => Tryz.add64 _ y 0 _ _ (by omega) rfl rfl w) (fun w => Tryz.add64 _ z 0 _ _ (by omega) rfl rfl w)
  rw [hfin, hfin2] at h
  exact h

/-! ### addTimes -/
set_option maxRecDepth 100000 in
set_option maxHeartbeats 4000000 in
theorem addTimes_any (base g n cap i c0 : Nat) (o la : List Nat) (v : Value) (m : Nat) (w : World) (hO : Own64 w base g n cap o) (hA : RowU w v la) (hne : ∀ b off k c, v = .slice (some ⟨b, off, none⟩) k c → la ≠ [] → b ≠ g)
    (so : SmallU o) (sa : SmallU la) (hm : m < 18446744073709551616) (hin : i + la.length ≤ n) (hl : la.length ≤ 100000) :
    Calls Tryz.prog 67 #[.slice (some ⟨g, i, none⟩) la.length c0, v, .int .u64 (m : Int)] w fun e w' => ∃ (cy : Nat) (o' : List Nat), e = .returned (.int .u64 (cy : Int)) ∧ Own64 w' base g n cap o' ∧ MulI 18446744073709551616 la o o' m cy i la.length ∧ Fr (· = g) w w' := by
  have R1 := Lib.hid hA
  obtain ⟨ad1, cap1, rfl, hc1, -⟩ := hA
  have HO := Lib.hid hO
  have HS := Lib.hid (And.intro so sa)
  have hol : o.length = n := hO.len
  have HNE := Lib.hid hne
  clear hO so sa hne
  go_enter Tryz.func67, Tryz.ntmps67
  go_wp2_with fail
  go_loopw [7, 11] (fun c j wr => ∃ (k cy : Nat) (out : List Nat), k ≤ la.length ∧ c = .int .u64 (cy : Int) ∧ j = .int .i64 (k : Int) ∧ Own64 wr base g n cap out ∧ Hid (MulI 18446744073709551616 la o out m cy i k) ∧ Fr (· = g) w wr) (fun _ j _ => la.length - (intOf j).toNat)
  case atStart => exact ⟨0, 0, o, by omega, rfl, rfl, HO.out, Lib.hid (MulI.zero (by omega) HS.out.1), Fr.refl _ _⟩
  case round =>
    obtain ⟨k, cy, out, hk, rfl, rfl, hO, HI, hF⟩ := hrel
    have hcy := HI.out.low
    by_cases hlt : k < la.length
    · have HI2 := Lib.hid (Lib.hid (HI.out.step (by omega) HS.out.2 hm (by omega)))
      obtain ⟨b1, o1, rfl, hb1, c1⟩ := R1.out.cell hlt
      have hbg := HNE.out b1 o1 _ _ rfl (by rintro rfl; simp at hlt)
      replace c1 : wr.drew.cell? ⟨b1, o1 + k, none⟩ = some (.int .u64 (la.getD k 0 : Nat)) := (hF.cell (p := ⟨b1, o1 + k, none⟩) hb1 hbg).trans c1
      have c2 : wr.drew.cell? ⟨g, i + k, none⟩ = some (.int .u64 (out.getD (i + k) 0 : Nat)) := hO.cell (j := i + k) (by omega)
      have hx := HS.out.2.getD (by omega) k
      have hz := HI.out.small.getD (by omega) (i + k)
      clear HI
      rw [Nat.mul_comm m] at HI2
      generalize la.getD k 0 = x at c1 hx HI2
      generalize out.getD (i + k) 0 = z at c2 hz HI2
      obtain ⟨lo, hlo⟩ : ∃ lo, lo = (z + x * m + cy) % 18446744073709551616 := ⟨_, rfl⟩
      obtain ⟨hi, hhi⟩ : ∃ hi, hi = (z + x * m + cy) / 18446744073709551616 := ⟨_, rfl⟩
      rw [← hlo, ← hhi] at HI2
      have HLO := Lib.hid hlo
      have HHI := Lib.hid hhi
      have hO1 : Own64 wr.drew base g n cap out := hO
      have hF1 : Fr (· = g) w wr.drew := hF.drew
      clear hlo hhi hO hF
      go_wp2_with fail
      refine Rd.regionK (fun X => X.cell? ⟨b1, o1 + k, none⟩ = some (.int .u64 (x : Int)) ∧ X.cell? ⟨g, i + k, none⟩ = some (.int .u64 (z : Int))) 17 [0, 1, 2, 3, 4, 6, 7, 8, 9, 11, 13, 14, 15, 16] [5, 10] [0, 1, 2, 3, 4, 5, 6, 7, 8, 9, 10, 11, 12, 13, 14, 15, 16, 17, 18] (by kernel_rfl) (by kernel_rfl) (by kernel_rfl) (by kernel_rfl) rfl ⟨c1, c2⟩ ?_
      generalize wr.drew = W1 at c1 c2 hO1 hF1 ⊢
      refine Rd.seqK_plain (.slice (some ⟨g, i, none⟩) la.length c0) (by simp only [List.getElem?_toArray, List.getElem?_cons_zero]; rfl) rfl (by rfl) (fun X => by go_simp) ?_
      simp only [Act.put, List.setIfInBounds_toArray, List.set_cons_succ, List.set_cons_zero]
      refine Rd.seqK_plain (.int .i64 (k : Int)) (by simp only [List.getElem?_toArray, List.getElem?_cons_succ, List.getElem?_cons_zero]; rfl) rfl (by rfl) (fun X => by go_simp) ?_
      simp only [Act.put, List.setIfInBounds_toArray, List.set_cons_succ, List.set_cons_zero]
      refine Rd.seqK_plain (.slice (some ⟨b1, o1, none⟩) la.length cap1) (by simp only [List.getElem?_toArray, List.getElem?_cons_succ, List.getElem?_cons_zero]; rfl) rfl (by rfl) (fun X => by go_simp) ?_
      simp only [Act.put, List.setIfInBounds_toArray, List.set_cons_succ, List.set_cons_zero]
      refine Rd.seqK_plain (.int .i64 (k : Int)) (by simp only [List.getElem?_toArray, List.getElem?_cons_succ, List.getElem?_cons_zero]; rfl) rfl (by rfl) (fun X => by go_simp) ?_
      simp only [Act.put, List.setIfInBounds_toArray, List.set_cons_succ, List.set_cons_zero]
      refine Rd.seqK_plain (.pointer (some ⟨b1, o1 + k, none⟩)) (by simp only [List.getElem?_toArray, List.getElem?_cons_succ, List.getElem?_cons_zero]; rfl) rfl (by rfl) (fun X => by go_simp) ?_
      simp only [Act.put, List.setIfInBounds_toArray, List.set_cons_succ, List.set_cons_zero]
      refine Rd.seqK_float (.int .u64 (x : Int)) (by simp only [List.getElem?_toArray, List.getElem?_cons_succ, List.getElem?_cons_zero]; rfl) rfl rfl (by rfl) (fun X hX => by have h1 := hX.1; go_simp) ?_
      simp only [Act.put, List.setIfInBounds_toArray, List.set_cons_succ, List.set_cons_zero]
      refine Rd.seqK_plain (.int .u64 (m : Int)) (by simp only [List.getElem?_toArray, List.getElem?_cons_succ, List.getElem?_cons_zero]; rfl) rfl (by rfl) (fun X => by go_simp) ?_
      simp only [Act.put, List.setIfInBounds_toArray, List.set_cons_succ, List.set_cons_zero]
      refine Rd.seqK_plain (.slice (some ⟨g, i, none⟩) la.length c0) (by simp only [List.getElem?_toArray, List.getElem?_cons_succ, List.getElem?_cons_zero]; rfl) rfl (by rfl) (fun X => by go_simp) ?_
      simp only [Act.put, List.setIfInBounds_toArray, List.set_cons_succ, List.set_cons_zero]
      refine Rd.seqK_plain (.int .i64 (k : Int)) (by simp only [List.getElem?_toArray, List.getElem?_cons_succ, List.getElem?_cons_zero]; rfl) rfl (by rfl) (fun X => by go_simp) ?_
      simp only [Act.put, List.setIfInBounds_toArray, List.set_cons_succ, List.set_cons_zero]
      refine Rd.seqK_plain (.pointer (some ⟨g, i + k, none⟩)) (by simp only [List.getElem?_toArray, List.getElem?_cons_succ, List.getElem?_cons_zero]; rfl) rfl (by rfl) (fun X => by go_simp) ?_
      simp only [Act.put, List.setIfInBounds_toArray, List.set_cons_succ, List.set_cons_zero]
      refine Rd.seqK_float (.int .u64 (z : Int)) (by simp only [List.getElem?_toArray, List.getElem?_cons_succ, List.getElem?_cons_zero]; rfl) rfl rfl (by rfl) (fun X hX => by have h1 := hX.2; go_simp) ?_
      simp only [Act.put, List.setIfInBounds_toArray, List.set_cons_succ, List.set_cons_zero]
      refine Rd.seqK_plain (.int .u64 (cy : Int)) (by simp only [List.getElem?_toArray, List.getElem?_cons_succ, List.getElem?_cons_zero]; rfl) rfl (by rfl) (fun X => by go_simp) ?_
      simp only [Act.put, List.setIfInBounds_toArray, List.set_cons_succ, List.set_cons_zero]
      refine Rd.seqK_move (by simp only [List.getElem?_toArray, List.getElem?_cons_succ, List.getElem?_cons_zero]; rfl) rfl rfl (by rfl) (fun K hK => ?_)
      go_simp
      refine (timesAdd_is x m z cy lo hi W1 hx hm hz hcy HLO.out HHI.out).mono ?_
      rintro e W2 ⟨rfl, rfl⟩
      refine hK _ _ (fun _ => ⟨c1, c2⟩) ?_
      clear hK K
      refine Rd.seqK_plain (.tuple #[.int .u64 (lo : Int), .int .u64 (hi : Int)]) (by simp only [List.getElem?_toArray, List.getElem?_cons_succ, List.getElem?_cons_zero]; rfl) rfl (by rfl) (fun X => by go_simp) ?_
      simp only [Act.put, List.setIfInBounds_toArray, List.set_cons_succ, List.set_cons_zero]
      refine Rd.seqK_plain (.int .u64 (lo : Int)) (by simp only [List.getElem?_toArray, List.getElem?_cons_succ, List.getElem?_cons_zero]; rfl) rfl (by rfl) (fun X => by go_simp) ?_
      simp only [Act.put, List.setIfInBounds_toArray, List.set_cons_succ, List.set_cons_zero]
      refine Rd.seqK_plain (.int .u64 (hi : Int)) (by simp only [List.getElem?_toArray, List.getElem?_cons_succ, List.getElem?_cons_zero]; rfl) rfl (by rfl) (fun X => by go_simp) ?_
      simp only [Act.put, List.setIfInBounds_toArray, List.set_cons_succ, List.set_cons_zero]
      refine Rd.seqK_plain (.pointer (some ⟨g, i + k, none⟩)) (by simp only [List.getElem?_toArray, List.getElem?_cons_succ, List.getElem?_cons_zero]; rfl) rfl (by rfl) (fun X => by go_simp) ?_
      simp only [Act.put, List.setIfInBounds_toArray, List.set_cons_succ, List.set_cons_zero]
      refine Rd.seqK_move (by simp only [List.getElem?_toArray, List.getElem?_cons_succ, List.getElem?_cons_zero]; rfl) rfl rfl (by rfl) (fun K hK => ?_)
      go_simp
      have hfz := hO1.frozen (i + k)
      go_simp
      refine hK _ _ (fun h => absurd h (by omega)) ?_
      clear hK K
      refine Rd.seqK_move (by simp only [List.getElem?_toArray, List.getElem?_cons_succ, List.getElem?_cons_zero]; rfl) rfl rfl (by rfl) (fun K hK => ?_)
      go_simp
      refine hK _ _ (fun h => absurd h (by omega)) ?_
      refine Rd.seqK_end ?_
      have hO2 := hO1.set (i + k) lo
      have hF2 : Fr (· = g) w (W1.setCell ⟨g, i + k, none⟩ (.int .u64 (lo : Int))) := hF1.setCell (.inr rfl) _
      generalize W1.setCell ⟨g, i + k, none⟩ (.int .u64 (lo : Int)) = W3 at hO2 hF2 ⊢
      go_wp2_with fail
      go_round
      case rel => exact ⟨k + 1, hi, _, by omega, rfl, by go_num, hO2, HI2.out, hF2⟩
      case measure => simp [intOf]; omega
    · have hkl : k = la.length := by omega
      have HI2 : Hid (MulI 18446744073709551616 la o out m cy i la.length) := Lib.hid (by rw [← hkl]; exact HI.out)
      clear HI
      go_wp2_with fail
      go_ret
      exact ⟨cy, out, rfl, hO, HI2.out, hF⟩
end Go.Proofs.YtphllajedkpcbaaGreatDoor
