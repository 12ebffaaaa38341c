/-
  Contracts of nat.scaled, nat.guess, nat.subTimes, nat.addBack, nat.divStep. Conditions: the part that is divided is a piece of a block that may be written, one limb longer than the divisor, which lies elsewhere; not more than a hundred thousand limbs. Contracts of nat.divStep and nat.scaled. Conditions: the part that is divided is a piece of a block that may be written, one limb longer than the divisor, which lies elsewhere, and below 2^64 times it; not more than a hundred thousand limbs. Contract of nat.scaled: limbs times a limb, in new memory. Condition: not more than a hundred thousand limbs.
-/
import Derived.Test.YtphllajedkpcbaaGreatDoorNh
import Derived.Test.YtphllajedkpcbaaGreatDoorNc
import Derived.Test.YtphllajedkpcbaaGreatDoorDig
import Derived.Test.YtphllajedkpcbaaGreatDoorRd
namespace Go.Proofs.YtphllajedkpcbaaGreatDoor
open Go.RowKit Go.Dig Go.Shelf Go.Proofs

theorem Own64.sub_cell {w : World} {base g N cap : Nat} {pre s post : List Nat} (h : Own64 w base g N cap (pre ++ s ++ post)) {j : Nat} (hj : j < s.length) : w.cell? ⟨g, pre.length + j, none⟩ = some (.int .u64 (s.getD j 0 : Nat)) := by
  have hl := h.len
  simp only [List.length_append] at hl
  rw [h.cell (j := pre.length + j) (by omega), app_getD pre s post hj]

/-! ### guess -/
set_option maxRecDepth 100000 in
set_option maxHeartbeats 4000000 in
theorem guess_any (base g N cap c0 cap2 : Nat) (ad2 : Option Addr) (pre s post dl : List Nat) (w : World) (hO : Own64 w base g N cap (pre ++ s ++ post)) (hD : RowU w (.slice ad2 dl.length cap2) dl)
    (ss : SmallU s) (sd : SmallU dl) (hl : s.length = dl.length + 1) (hn : 1 ≤ dl.length) (hnl : dl.length ≤ 100000) (hlt : V s < 18446744073709551616 * V dl) :
    Calls Tryz.prog 114 #[.slice (some ⟨g, pre.length, none⟩) s.length c0, .slice ad2 dl.length cap2] w fun e w' => ∃ t : Nat, e = .returned (.int .u64 (t : Int)) ∧ t < 18446744073709551616 ∧ V s / V dl ≤ t ∧ Below w.heap.size w w' := by
  have c1 : w.cell? ⟨g, pre.length + dl.length, none⟩ = some (.int .u64 (s.getD dl.length 0 : Nat)) := hO.sub_cell (by omega)
  have c2 : w.cell? ⟨g, pre.length + (dl.length - 1), none⟩ = some (.int .u64 (s.getD (dl.length - 1) 0 : Nat)) := hO.sub_cell (by omega)
  obtain ⟨b2, o2, rfl, hlb, c3⟩ := hD.cell (j := dl.length - 1) (by omega)
  have hlg := hO.lt.2
  have hdp : 0 < V dl := by apply Nat.pos_of_ne_zero; intro e; rw [e] at hlt; omega
  have HT := Lib.hid (fun h => guess_top (B := 18446744073709551616) (by omega) ss hl hn h)
  have hx := ss.getD (by omega) dl.length
  have hz := ss.getD (by omega) (dl.length - 1)
  have hy := sd.getD (by omega) (dl.length - 1)
  have HMAX : Hid (V s / V dl ≤ 18446744073709551615) := Lib.hid (by
    have : V s / V dl < 18446744073709551616 := by rw [Nat.div_lt_iff_lt_mul hdp]; exact hlt
    omega)
  have hdcap : dl.length ≤ cap2 := by obtain ⟨_, _, e, h1, _⟩ := hD; cases e; exact h1
  generalize V s / V dl = qq at HMAX HT ⊢
  generalize s.getD dl.length 0 = x at c1 hx HT
  generalize s.getD (dl.length - 1) 0 = z at c2 hz HT
  generalize dl.getD (dl.length - 1) 0 = y at c3 hy HT
  clear hO hD ss sd hlt hdp
  by_cases hge : y ≤ x
  · go_enter Tryz.func114, Tryz.ntmps114
    go_wp2_with fail
    go_region
    go_wp2_with fail
    go_ret
    exact ⟨18446744073709551615, rfl, by omega, HMAX.out, (Below.refl _ _).drew⟩
  · have hy0 : 0 < y := by omega
    have HQ : Hid (qq ≤ (z + 18446744073709551616 * x) / y) := Lib.hid (HT.out hy0)
    have HQL : Hid ((z + 18446744073709551616 * x) / y < 18446744073709551616) := Lib.hid (digit_lt hz (by omega))
    have H62 := Lib.hid (fun (W : World) => Div64_any x z y W (by omega) hy hz)
    generalize (z + 18446744073709551616 * x) / y = q at HQ H62 HQL
    generalize (z + 18446744073709551616 * x) % y = r at H62
    clear HT
    go_enter Tryz.func114, Tryz.ntmps114
    go_wp2_with fail
    go_region
    have hB1 : Below w.heap.size w w.drew := (Below.refl _ _).drew
    replace c1 : w.drew.cell? ⟨g, pre.length + dl.length, none⟩ = some (.int .u64 (x : Int)) := c1
    replace c2 : w.drew.cell? ⟨g, pre.length + (dl.length - 1), none⟩ = some (.int .u64 (z : Int)) := c2
    replace c3 : w.drew.cell? ⟨b2, o2 + (dl.length - 1), none⟩ = some (.int .u64 (y : Int)) := c3
    replace hlg : g < w.drew.heap.size := hlg
    replace hlb : b2 < w.drew.heap.size := hlb
    generalize w.drew = W0 at c1 c2 c3 hlg hlb hB1 ⊢
    go_wp2_with fail
    refine Rd.regionK (fun X => X.cell? ⟨g, pre.length + dl.length, none⟩ = some (.int .u64 (x : Int)) ∧ X.cell? ⟨g, pre.length + (dl.length - 1), none⟩ = some (.int .u64 (z : Int)) ∧ X.cell? ⟨b2, o2 + (dl.length - 1), none⟩ = some (.int .u64 (y : Int))) 19 [0, 1, 2, 4, 5, 6, 7, 9, 10, 11, 12, 15, 16, 17, 18] [3, 8, 13] [0, 1, 2, 3, 4, 5, 6, 7, 8, 9, 10, 11, 12, 13, 14, 15, 16, 17, 18, 19] (by kernel_rfl) (by kernel_rfl) (by kernel_rfl) (by kernel_rfl) rfl ⟨c1, c2, c3⟩ ?_
    replace hB1 : Below w.heap.size w W0.drew := hB1.drew
    replace c1 : W0.drew.cell? ⟨g, pre.length + dl.length, none⟩ = some (.int .u64 (x : Int)) := c1
    replace c2 : W0.drew.cell? ⟨g, pre.length + (dl.length - 1), none⟩ = some (.int .u64 (z : Int)) := c2
    replace c3 : W0.drew.cell? ⟨b2, o2 + (dl.length - 1), none⟩ = some (.int .u64 (y : Int)) := c3
    replace hlg : g < W0.drew.heap.size := hlg
    replace hlb : b2 < W0.drew.heap.size := hlb
    generalize W0.drew = W1 at c1 c2 c3 hlg hlb hB1 ⊢
    refine Rd.seqK_plain (.slice (some ⟨g, pre.length, none⟩) s.length c0) (by simp only [List.getElem?_toArray, List.getElem?_cons_zero]; rfl) rfl (by rfl) (fun X => by go_simp) ?_
    simp only [Act.put, List.setIfInBounds_toArray, List.set_cons_succ, List.set_cons_zero]
    refine Rd.seqK_plain (.int .i64 (dl.length : Int)) (by simp only [List.getElem?_toArray, List.getElem?_cons_succ, List.getElem?_cons_zero]; rfl) rfl (by rfl) (fun X => by go_simp) ?_
    simp only [Act.put, List.setIfInBounds_toArray, List.set_cons_succ, List.set_cons_zero]
    refine Rd.seqK_plain (.pointer (some ⟨g, pre.length + dl.length, none⟩)) (by simp only [List.getElem?_toArray, List.getElem?_cons_succ, List.getElem?_cons_zero]; rfl) rfl (by rfl) (fun X => by go_simp; omega) ?_
    simp only [Act.put, List.setIfInBounds_toArray, List.set_cons_succ, List.set_cons_zero]
    refine Rd.seqK_float (.int .u64 (x : Int)) (by simp only [List.getElem?_toArray, List.getElem?_cons_succ, List.getElem?_cons_zero]; rfl) rfl rfl (by rfl) (fun X hX => by have h1 := hX.1; go_simp) ?_
    simp only [Act.put, List.setIfInBounds_toArray, List.set_cons_succ, List.set_cons_zero]
    refine Rd.seqK_plain (.slice (some ⟨g, pre.length, none⟩) s.length c0) (by simp only [List.getElem?_toArray, List.getElem?_cons_succ, List.getElem?_cons_zero]; rfl) rfl (by rfl) (fun X => by go_simp) ?_
    simp only [Act.put, List.setIfInBounds_toArray, List.set_cons_succ, List.set_cons_zero]
    refine Rd.seqK_plain (.int .i64 (dl.length : Int)) (by simp only [List.getElem?_toArray, List.getElem?_cons_succ, List.getElem?_cons_zero]; rfl) rfl (by rfl) (fun X => by go_simp) ?_
    simp only [Act.put, List.setIfInBounds_toArray, List.set_cons_succ, List.set_cons_zero]
    refine Rd.seqK_plain (.int .i64 ((dl.length : Int) - 1)) (by simp only [List.getElem?_toArray, List.getElem?_cons_succ, List.getElem?_cons_zero]; rfl) rfl (by rfl) (fun X => by go_simp; exact IntWalk.i64_in _ (by omega)) ?_
    simp only [Act.put, List.setIfInBounds_toArray, List.set_cons_succ, List.set_cons_zero]
    refine Rd.seqK_plain (.pointer (some ⟨g, pre.length + (dl.length - 1), none⟩)) (by simp only [List.getElem?_toArray, List.getElem?_cons_succ, List.getElem?_cons_zero]; rfl) rfl (by rfl) (fun X => by go_simp; intro h; exfalso; omega) ?_
    simp only [Act.put, List.setIfInBounds_toArray, List.set_cons_succ, List.set_cons_zero]
    refine Rd.seqK_float (.int .u64 (z : Int)) (by simp only [List.getElem?_toArray, List.getElem?_cons_succ, List.getElem?_cons_zero]; rfl) rfl rfl (by rfl) (fun X hX => by have h1 := hX.2.1; go_simp) ?_
    simp only [Act.put, List.setIfInBounds_toArray, List.set_cons_succ, List.set_cons_zero]
    refine Rd.seqK_plain (.slice (some ⟨b2, o2, none⟩) dl.length cap2) (by simp only [List.getElem?_toArray, List.getElem?_cons_succ, List.getElem?_cons_zero]; rfl) rfl (by rfl) (fun X => by go_simp) ?_
    simp only [Act.put, List.setIfInBounds_toArray, List.set_cons_succ, List.set_cons_zero]
    refine Rd.seqK_plain (.int .i64 (dl.length : Int)) (by simp only [List.getElem?_toArray, List.getElem?_cons_succ, List.getElem?_cons_zero]; rfl) rfl (by rfl) (fun X => by go_simp) ?_
    simp only [Act.put, List.setIfInBounds_toArray, List.set_cons_succ, List.set_cons_zero]
    refine Rd.seqK_plain (.int .i64 ((dl.length : Int) - 1)) (by simp only [List.getElem?_toArray, List.getElem?_cons_succ, List.getElem?_cons_zero]; rfl) rfl (by rfl) (fun X => by go_simp; exact IntWalk.i64_in _ (by omega)) ?_
    simp only [Act.put, List.setIfInBounds_toArray, List.set_cons_succ, List.set_cons_zero]
    refine Rd.seqK_plain (.pointer (some ⟨b2, o2 + (dl.length - 1), none⟩)) (by simp only [List.getElem?_toArray, List.getElem?_cons_succ, List.getElem?_cons_zero]; rfl) rfl (by rfl) (fun X => by go_simp; intro h; exfalso; omega) ?_
    simp only [Act.put, List.setIfInBounds_toArray, List.set_cons_succ, List.set_cons_zero]
    refine Rd.seqK_float (.int .u64 (y : Int)) (by simp only [List.getElem?_toArray, List.getElem?_cons_succ, List.getElem?_cons_zero]; rfl) rfl rfl (by rfl) (fun X hX => by have h1 := hX.2.2; go_simp) ?_
    simp only [Act.put, List.setIfInBounds_toArray, List.set_cons_succ, List.set_cons_zero]
    refine Rd.seqK_move (by simp only [List.getElem?_toArray, List.getElem?_cons_succ, List.getElem?_cons_zero]; rfl) rfl rfl (by rfl) (fun K hK => ?_)
    go_simp
    refine (H62.out W1).mono ?_
    rintro e W2 ⟨rfl, hb2w⟩
    refine hK _ _ (fun _ => ⟨(hb2w.cell (p := ⟨g, pre.length + dl.length, none⟩) hlg).trans c1, (hb2w.cell (p := ⟨g, pre.length + (dl.length - 1), none⟩) hlg).trans c2, (hb2w.cell (p := ⟨b2, o2 + (dl.length - 1), none⟩) hlb).trans c3⟩) ?_
    clear hK K
    refine Rd.seqK_plain (.tuple #[.int .u64 (q : Int), .int .u64 (r : Int)]) (by simp only [List.getElem?_toArray, List.getElem?_cons_succ, List.getElem?_cons_zero]; rfl) rfl (by rfl) (fun X => by go_simp) ?_
    simp only [Act.put, List.setIfInBounds_toArray, List.set_cons_succ, List.set_cons_zero]
    refine Rd.seqK_plain (.int .u64 (q : Int)) (by simp only [List.getElem?_toArray, List.getElem?_cons_succ, List.getElem?_cons_zero]; rfl) rfl (by rfl) (fun X => by go_simp) ?_
    simp only [Act.put, List.setIfInBounds_toArray, List.set_cons_succ, List.set_cons_zero]
    refine Rd.seqK_plain (.int .u64 (r : Int)) (by simp only [List.getElem?_toArray, List.getElem?_cons_succ, List.getElem?_cons_zero]; rfl) rfl (by rfl) (fun X => by go_simp) ?_
    simp only [Act.put, List.setIfInBounds_toArray, List.set_cons_succ, List.set_cons_zero]
    refine Rd.seqK_plain (.int .u64 (q : Int)) (by simp only [List.getElem?_toArray, List.getElem?_cons_succ, List.getElem?_cons_zero]; rfl) rfl (by rfl) (fun X => by go_simp) ?_
    simp only [Act.put, List.setIfInBounds_toArray, List.set_cons_succ, List.set_cons_zero]
    refine Rd.seqK_move (by simp only [List.getElem?_toArray, List.getElem?_cons_succ, List.getElem?_cons_zero]; rfl) rfl rfl (by rfl) (fun K hK => ?_)
    go_simp
    refine hK _ _ (fun h => absurd h (by omega)) ?_
    refine Rd.seqK_end ?_
    go_wp2_with fail
    go_ret
    exact ⟨q, rfl, HQL.out, HQ.out, hB1.trans (hb2w.mono hB1.size)⟩

/-! ### subTimes -/
set_option maxRecDepth 100000 in
set_option maxHeartbeats 4000000 in
theorem subTimes_any (base g N cap c0 cap2 : Nat) (ad2 : Option Addr) (pre s post dl : List Nat) (t : Nat) (w : World) (hO : Own64 w base g N cap (pre ++ s ++ post)) (hD : RowU w (.slice ad2 dl.length cap2) dl) (hne : ∀ b off, ad2 = some ⟨b, off, none⟩ → b ≠ g)
    (ss : SmallU s) (sd : SmallU dl) (hl : s.length = dl.length + 1) (ht : t < 18446744073709551616) (hnl : dl.length ≤ 100000) :
    Calls Tryz.prog 115 #[.slice (some ⟨g, pre.length, none⟩) s.length c0, .slice ad2 dl.length cap2, .int .u64 (t : Int)] w fun e w' => ∃ (s' : List Nat) (bo : Nat), e = .returned (.int .u64 (bo : Int)) ∧ Own64 w' base g N cap (pre ++ s' ++ post) ∧ SmallU s' ∧ s'.length = s.length ∧ bo ≤ 1 ∧
      V s' + t * V dl = V s + 18446744073709551616 ^ s.length * bo ∧ Fr (· = g) w w' := by
  have HO := Lib.hid hO
  have R2 := Lib.hid hD
  have HS := Lib.hid (And.intro ss sd)
  have HNE := Lib.hid hne
  have HL := Lib.hid hl
  have hl1 : dl.length < s.length := by omega
  clear hO hD ss sd hne hl
  go_enter Tryz.func115, Tryz.ntmps115
  go_wp2_with fail
  go_loopw [8, 9, 15] (fun c b i wr => ∃ (j cy bo : Nat) (s' : List Nat), j ≤ dl.length ∧ c = .int .u64 (cy : Int) ∧ b = .int .u64 (bo : Int) ∧ i = .int .i64 (j : Int) ∧ Own64 wr base g N cap (pre ++ s' ++ post) ∧ s'.length = s.length ∧ Hid (SubTI 18446744073709551616 t dl s s' cy bo j) ∧ Fr (· = g) w wr) (fun _ _ i _ => dl.length - (intOf i).toNat)
  case atStart => exact ⟨0, 0, 0, s, by omega, rfl, rfl, rfl, HO.out, rfl, Lib.hid (SubTI.zero (by omega) HS.out.1), Fr.refl _ _⟩
  case round =>
    obtain ⟨j, cy, bo, s', hj, rfl, rfl, rfl, hO, hsl, HI, hF⟩ := hrel
    have hcy := HI.out.car
    have hbo := HI.out.low
    by_cases hlt : j < dl.length
    · obtain ⟨b2, o2, rfl, hb2, c2⟩ := R2.out.cell hlt
      have hbg := HNE.out b2 o2 rfl
      have hjs : j < s.length := by omega
      replace c2 : wr.cell? ⟨b2, o2 + j, none⟩ = some (.int .u64 (dl.getD j 0 : Nat)) := (hF.cell (p := ⟨b2, o2 + j, none⟩) hb2 hbg).trans c2
      have c1 : wr.cell? ⟨g, pre.length + j, none⟩ = some (.int .u64 (s'.getD j 0 : Nat)) := hO.sub_cell (by omega)
      rw [HI.out.rest j (Nat.le_refl _)] at c1
      have hy := HS.out.2.getD (by omega) j
      have hx := HS.out.1.getD (by omega) j
      have HST := Lib.hid (fun (lo hi r b' : Nat) h1 h2 h3 h4 => HI.out.step (lo := lo) (hi := hi) (r := r) (b' := b') (by omega) HS.out.1 HS.out.2 ht (by omega) h1 h2 h3 h4)
      generalize dl.getD j 0 = y at c2 hy HST
      generalize s.getD j 0 = x at c1 hx HST
      obtain ⟨lo, hlo⟩ : ∃ lo, lo = (cy + y * t + 0) % 18446744073709551616 := ⟨_, rfl⟩
      obtain ⟨hi, hhi⟩ : ∃ hi, hi = (cy + y * t + 0) / 18446744073709551616 := ⟨_, rfl⟩
      obtain ⟨r, hr⟩ : ∃ r, (x + 18446744073709551616 - lo - bo) % 18446744073709551616 = r := ⟨_, rfl⟩
      obtain ⟨b', hb'⟩ : ∃ b', (if x < lo + bo then 1 else 0) = b' := ⟨_, rfl⟩
      have HI2 := Lib.hid (Lib.hid (HST.out lo hi r b' hlo hhi hr.symm hb'.symm))
      have H61 := Lib.hid (timesAdd_is y t cy 0 lo hi wr hy ht hcy (by omega) hlo hhi)
      have hsub := Tryz.sub64 x lo bo r b' hbo hr hb'
      have hfz := hO.frozen (pre.length + j)
      have hO2 := hO.set (pre.length + j) r
      rw [app_set pre s' post r (by omega)] at hO2
      have HO2 := Lib.hid hO2
      clear hO2 HST HI hlo hhi hr hb'
      go_wp2_with fail
      refine H61.out.mono ?_
      rintro e w2 ⟨rfl, rfl⟩
      go_wp2_with fail
      exact ⟨⟨j + 1, hi, b', s'.set j r, by omega, rfl, rfl, by go_num, HO2.out, by rw [List.length_set]; exact hsl, HI2.out, hF.setCell (.inr rfl) _⟩, by simp [intOf]; omega⟩
    · have hjn : j = dl.length := by omega
      subst hjn
      have c1 : wr.cell? ⟨g, pre.length + dl.length, none⟩ = some (.int .u64 (s'.getD dl.length 0 : Nat)) := hO.sub_cell (by omega)
      rw [HI.out.rest dl.length (Nat.le_refl _)] at c1
      have hx := HS.out.1.getD (by omega) dl.length
      have HST := Lib.hid (fun (r b' : Nat) h3 h4 => HI.out.done (r := r) (b' := b') (by omega) HS.out.1 HL.out h3 h4)
      generalize s.getD dl.length 0 = x at c1 hx HST
      obtain ⟨r, hr⟩ : ∃ r, (x + 18446744073709551616 - cy - bo) % 18446744073709551616 = r := ⟨_, rfl⟩
      obtain ⟨b', hb'⟩ : ∃ b', (if x < cy + bo then 1 else 0) = b' := ⟨_, rfl⟩
      have HI2 := Lib.hid (HST.out r b' hr.symm hb'.symm)
      have hsub := Tryz.sub64 x cy bo r b' hbo hr hb'
      have hfz := hO.frozen (pre.length + dl.length)
      have hO2 := hO.set (pre.length + dl.length) r
      rw [app_set pre s' post r (by omega)] at hO2
      have HO2 := Lib.hid hO2
      clear hO2 HST HI hr hb'
      go_wp2_with fail
      go_ret
      obtain ⟨i1, i2, i3, i4⟩ := HI2.out
      exact ⟨s'.set dl.length r, b', rfl, HO2.out, i1, i2, i3, i4, hF.setCell (.inr rfl) _⟩

/-! ### addBack -/
set_option maxRecDepth 100000 in
set_option maxHeartbeats 4000000 in
theorem addBack_any (base g N cap c0 cap2 : Nat) (ad2 : Option Addr) (pre s post dl : List Nat) (w : World) (hO : Own64 w base g N cap (pre ++ s ++ post)) (hD : RowU w (.slice ad2 dl.length cap2) dl) (hne : ∀ b off, ad2 = some ⟨b, off, none⟩ → b ≠ g)
    (ss : SmallU s) (sd : SmallU dl) (hl : s.length = dl.length + 1) (hnl : dl.length ≤ 100000) :
    Calls Tryz.prog 116 #[.slice (some ⟨g, pre.length, none⟩) s.length c0, .slice ad2 dl.length cap2] w fun e w' => ∃ (s' : List Nat) (c : Nat), e = .returned (.int .u64 (c : Int)) ∧ Own64 w' base g N cap (pre ++ s' ++ post) ∧ SmallU s' ∧ s'.length = s.length ∧ c ≤ 1 ∧
      V s' + 18446744073709551616 ^ s.length * c = V s + V dl ∧ Fr (· = g) w w' := by
  have HO := Lib.hid hO
  have R2 := Lib.hid hD
  have HS := Lib.hid (And.intro ss sd)
  have HNE := Lib.hid hne
  have HL := Lib.hid hl
  have hl1 : dl.length < s.length := by omega
  clear hO hD ss sd hne hl
  go_enter Tryz.func116, Tryz.ntmps116
  go_wp2_with fail
  go_loopw [6, 11] (fun c i wr => ∃ (j cy : Nat) (s' : List Nat), j ≤ dl.length ∧ c = .int .u64 (cy : Int) ∧ i = .int .i64 (j : Int) ∧ Own64 wr base g N cap (pre ++ s' ++ post) ∧ s'.length = s.length ∧ Hid (AddBI 18446744073709551616 dl s s' cy j) ∧ Fr (· = g) w wr) (fun _ i _ => dl.length - (intOf i).toNat)
  case atStart => exact ⟨0, 0, s, by omega, rfl, rfl, HO.out, rfl, Lib.hid (AddBI.zero HS.out.1), Fr.refl _ _⟩
  case round =>
    obtain ⟨j, cy, s', hj, rfl, rfl, hO, hsl, HI, hF⟩ := hrel
    have hcy := HI.out.low
    by_cases hlt : j < dl.length
    · obtain ⟨b2, o2, rfl, hb2, d2⟩ := R2.out.cell hlt
      have hbg := HNE.out b2 o2 rfl
      have hjs : j < s.length := by omega
      replace d2 : wr.drew.cell? ⟨b2, o2 + j, none⟩ = some (.int .u64 (dl.getD j 0 : Nat)) := (hF.cell (p := ⟨b2, o2 + j, none⟩) hb2 hbg).trans d2
      have d1 : wr.drew.cell? ⟨g, pre.length + j, none⟩ = some (.int .u64 (s'.getD j 0 : Nat)) := hO.sub_cell (by omega)
      rw [HI.out.rest j (Nat.le_refl _)] at d1
      have HST := Lib.hid (fun (r c' : Nat) h1 h2 => HI.out.step (r := r) (c' := c') (by omega) HS.out.1 HS.out.2 (by omega) h1 h2)
      generalize dl.getD j 0 = y at d2 HST
      generalize s.getD j 0 = x at d1 HST
      obtain ⟨r, hr⟩ : ∃ r, (x + y + cy) % 18446744073709551616 = r := ⟨_, rfl⟩
      obtain ⟨c2, hc2⟩ : ∃ c2, (x + y + cy) / 18446744073709551616 = c2 := ⟨_, rfl⟩
      have HI2 := Lib.hid (Lib.hid (HST.out r c2 hr.symm hc2.symm))
      have hadd := Tryz.add64 x y cy r c2 hcy hr hc2
      have hO2 := hO.set (pre.length + j) r
      rw [app_set pre s' post r (by omega)] at hO2
      have HO2 : Hid (Own64 (wr.drew.setCell ⟨g, pre.length + j, none⟩ (.int .u64 (r : Int))) base g N cap (pre ++ s'.set j r ++ post)) := Lib.hid hO2
      have hO1 : Own64 wr.drew base g N cap (pre ++ s' ++ post) := hO
      have hF1 : Fr (· = g) w wr.drew := hF.drew
      clear hO2 HST HI hr hc2 hO hF
      go_wp2_with fail
      refine Rd.regionK (fun X => X.cell? ⟨g, pre.length + j, none⟩ = some (.int .u64 (x : Int)) ∧ X.cell? ⟨b2, o2 + j, none⟩ = some (.int .u64 (y : Int))) 16 [0, 1, 2, 3, 4, 6, 7, 8, 10, 12, 13, 14, 15] [5, 9] [0, 1, 2, 3, 4, 5, 6, 7, 8, 9, 10, 11, 12, 13, 14, 15, 16, 17] (by kernel_rfl) (by kernel_rfl) (by kernel_rfl) (by kernel_rfl) rfl ⟨d1, d2⟩ ?_
      generalize wr.drew = W1 at d1 d2 hO1 hF1 HO2 ⊢
      refine Rd.seqK_plain (.slice (some ⟨g, pre.length, none⟩) s.length c0) (by simp only [List.getElem?_toArray, List.getElem?_cons_zero]; rfl) rfl (by rfl) (fun X => by go_simp) ?_
      simp only [Act.put, List.setIfInBounds_toArray, List.set_cons_succ, List.set_cons_zero]
      refine Rd.seqK_plain (.int .i64 (j : Int)) (by simp only [List.getElem?_toArray, List.getElem?_cons_succ, List.getElem?_cons_zero]; rfl) rfl (by rfl) (fun X => by go_simp) ?_
      simp only [Act.put, List.setIfInBounds_toArray, List.set_cons_succ, List.set_cons_zero]
      refine Rd.seqK_plain (.slice (some ⟨g, pre.length, none⟩) s.length c0) (by simp only [List.getElem?_toArray, List.getElem?_cons_succ, List.getElem?_cons_zero]; rfl) rfl (by rfl) (fun X => by go_simp) ?_
      simp only [Act.put, List.setIfInBounds_toArray, List.set_cons_succ, List.set_cons_zero]
      refine Rd.seqK_plain (.int .i64 (j : Int)) (by simp only [List.getElem?_toArray, List.getElem?_cons_succ, List.getElem?_cons_zero]; rfl) rfl (by rfl) (fun X => by go_simp) ?_
      simp only [Act.put, List.setIfInBounds_toArray, List.set_cons_succ, List.set_cons_zero]
      refine Rd.seqK_plain (.pointer (some ⟨g, pre.length + j, none⟩)) (by simp only [List.getElem?_toArray, List.getElem?_cons_succ, List.getElem?_cons_zero]; rfl) rfl (by rfl) (fun X => by go_simp) ?_
      simp only [Act.put, List.setIfInBounds_toArray, List.set_cons_succ, List.set_cons_zero]
      refine Rd.seqK_float (.int .u64 (x : Int)) (by simp only [List.getElem?_toArray, List.getElem?_cons_succ, List.getElem?_cons_zero]; rfl) rfl rfl (by rfl) (fun X hX => by have h1 := hX.1; go_simp) ?_
      simp only [Act.put, List.setIfInBounds_toArray, List.set_cons_succ, List.set_cons_zero]
      refine Rd.seqK_plain (.slice (some ⟨b2, o2, none⟩) dl.length cap2) (by simp only [List.getElem?_toArray, List.getElem?_cons_succ, List.getElem?_cons_zero]; rfl) rfl (by rfl) (fun X => by go_simp) ?_
      simp only [Act.put, List.setIfInBounds_toArray, List.set_cons_succ, List.set_cons_zero]
      refine Rd.seqK_plain (.int .i64 (j : Int)) (by simp only [List.getElem?_toArray, List.getElem?_cons_succ, List.getElem?_cons_zero]; rfl) rfl (by rfl) (fun X => by go_simp) ?_
      simp only [Act.put, List.setIfInBounds_toArray, List.set_cons_succ, List.set_cons_zero]
      refine Rd.seqK_plain (.pointer (some ⟨b2, o2 + j, none⟩)) (by simp only [List.getElem?_toArray, List.getElem?_cons_succ, List.getElem?_cons_zero]; rfl) rfl (by rfl) (fun X => by go_simp) ?_
      simp only [Act.put, List.setIfInBounds_toArray, List.set_cons_succ, List.set_cons_zero]
      refine Rd.seqK_float (.int .u64 (y : Int)) (by simp only [List.getElem?_toArray, List.getElem?_cons_succ, List.getElem?_cons_zero]; rfl) rfl rfl (by rfl) (fun X hX => by have h1 := hX.2; go_simp) ?_
      simp only [Act.put, List.setIfInBounds_toArray, List.set_cons_succ, List.set_cons_zero]
      refine Rd.seqK_plain (.int .u64 (cy : Int)) (by simp only [List.getElem?_toArray, List.getElem?_cons_succ, List.getElem?_cons_zero]; rfl) rfl (by rfl) (fun X => by go_simp) ?_
      simp only [Act.put, List.setIfInBounds_toArray, List.set_cons_succ, List.set_cons_zero]
      refine Rd.seqK_move (by simp only [List.getElem?_toArray, List.getElem?_cons_succ, List.getElem?_cons_zero]; rfl) rfl rfl (by rfl) (fun K hK => ?_)
      go_simp
      refine hK _ _ (fun _ => ⟨d1, d2⟩) ?_
      clear hK K
      refine Rd.seqK_plain (.tuple #[.int .u64 (r : Int), .int .u64 (c2 : Int)]) (by simp only [List.getElem?_toArray, List.getElem?_cons_succ, List.getElem?_cons_zero]; rfl) rfl (by rfl) (fun X => by go_simp) ?_
      simp only [Act.put, List.setIfInBounds_toArray, List.set_cons_succ, List.set_cons_zero]
      refine Rd.seqK_plain (.int .u64 (r : Int)) (by simp only [List.getElem?_toArray, List.getElem?_cons_succ, List.getElem?_cons_zero]; rfl) rfl (by rfl) (fun X => by go_simp) ?_
      simp only [Act.put, List.setIfInBounds_toArray, List.set_cons_succ, List.set_cons_zero]
      refine Rd.seqK_plain (.int .u64 (c2 : Int)) (by simp only [List.getElem?_toArray, List.getElem?_cons_succ, List.getElem?_cons_zero]; rfl) rfl (by rfl) (fun X => by go_simp) ?_
      simp only [Act.put, List.setIfInBounds_toArray, List.set_cons_succ, List.set_cons_zero]
      refine Rd.seqK_plain (.pointer (some ⟨g, pre.length + j, none⟩)) (by simp only [List.getElem?_toArray, List.getElem?_cons_succ, List.getElem?_cons_zero]; rfl) rfl (by rfl) (fun X => by go_simp) ?_
      simp only [Act.put, List.setIfInBounds_toArray, List.set_cons_succ, List.set_cons_zero]
      refine Rd.seqK_move (by simp only [List.getElem?_toArray, List.getElem?_cons_succ, List.getElem?_cons_zero]; rfl) rfl rfl (by rfl) (fun K hK => ?_)
      go_simp
      have hfz := hO1.frozen (pre.length + j)
      go_simp
      refine hK _ _ (fun h => absurd h (by omega)) ?_
      clear hK K
      refine Rd.seqK_move (by simp only [List.getElem?_toArray, List.getElem?_cons_succ, List.getElem?_cons_zero]; rfl) rfl rfl (by rfl) (fun K hK => ?_)
      go_simp
      refine hK _ _ (fun h => absurd h (by omega)) ?_
      refine Rd.seqK_end ?_
      have hF2 : Fr (· = g) w (W1.setCell ⟨g, pre.length + j, none⟩ (.int .u64 (r : Int))) := hF1.setCell (.inr rfl) _
      have hO3 := HO2.out
      clear HO2
      generalize W1.setCell ⟨g, pre.length + j, none⟩ (.int .u64 (r : Int)) = W3 at hO3 hF2 ⊢
      go_wp2_with fail
      go_round
      case rel => exact ⟨j + 1, c2, s'.set j r, by omega, rfl, by go_num, hO3, by rw [List.length_set]; exact hsl, HI2.out, hF2⟩
      case measure => simp [intOf]; omega
    · have hjn : j = dl.length := by omega
      subst hjn
      have c1 : wr.cell? ⟨g, pre.length + dl.length, none⟩ = some (.int .u64 (s'.getD dl.length 0 : Nat)) := hO.sub_cell (by omega)
      rw [HI.out.rest dl.length (Nat.le_refl _)] at c1
      have HST := Lib.hid (fun (r c' : Nat) h3 h4 => HI.out.done (r := r) (c' := c') (by omega) HS.out.1 HL.out h3 h4)
      generalize s.getD dl.length 0 = x at c1 HST
      obtain ⟨r, hr⟩ : ∃ r, (x + 0 + cy) % 18446744073709551616 = r := ⟨_, rfl⟩
      obtain ⟨c2, hc2⟩ : ∃ c2, (x + 0 + cy) / 18446744073709551616 = c2 := ⟨_, rfl⟩
      have HI2 := Lib.hid (HST.out r c2 hr.symm hc2.symm)
      have hadd : ∀ w, (callFunc 65 #[.int .u64 (x : Int), .int .u64 0, .int .u64 (cy : Int)]).run Tryz.prog w = .ok (.value (.tuple #[.int .u64 (r : Int), .int .u64 (c2 : Int)])) w := fun w => Tryz.add64 x 0 cy r c2 hcy hr hc2 w
      have hfz := hO.frozen (pre.length + dl.length)
      have hO2 := hO.set (pre.length + dl.length) r
      rw [app_set pre s' post r (by omega)] at hO2
      have HO2 := Lib.hid hO2
      clear hO2 HST HI hr hc2
      go_wp2_with fail
      go_ret
      obtain ⟨i1, i2, i3, i4⟩ := HI2.out
      exact ⟨s'.set dl.length r, c2, rfl, HO2.out, i1, i2, i3, i4, hF.setCell (.inr rfl) _⟩
end Go.Proofs.YtphllajedkpcbaaGreatDoor

namespace Go.Proofs.YtphllajedkpcbaaGreatDoor
open Go.RowKit Go.Dig Go.Shelf Go.Proofs

theorem FixI.pos {M vs vd t vp : Nat} (h : FixI M vs vd t vp 1) : 0 < t := by
  apply Nat.pos_of_ne_zero
  rintro rfl
  have h1 := h.eq
  have h2 := h.lt
  rw [Nat.zero_mul] at h1
  omega
set_option maxRecDepth 100000 in
set_option maxHeartbeats 4000000 in
theorem divStep_any (base g N cap c0 cap2 : Nat) (ad2 : Option Addr) (pre s post dl : List Nat) (w : World) (hO : Own64 w base g N cap (pre ++ s ++ post)) (hD : RowU w (.slice ad2 dl.length cap2) dl) (hne : ∀ b off, ad2 = some ⟨b, off, none⟩ → b ≠ g)
    (ss : SmallU s) (sd : SmallU dl) (hl : s.length = dl.length + 1) (hn : 1 ≤ dl.length) (hnl : dl.length ≤ 100000) (hlt : V s < 18446744073709551616 * V dl) :
    Calls Tryz.prog 98 #[.slice (some ⟨g, pre.length, none⟩) s.length c0, .slice ad2 dl.length cap2] w fun e w' => ∃ (s' : List Nat) (q : Nat), e = .returned (.int .u64 (q : Int)) ∧ q = V s / V dl ∧ V s' = V s % V dl ∧ Own64 w' base g N cap (pre ++ s' ++ post) ∧ SmallU s' ∧ s'.length = s.length ∧ Fr (· = g) w w' := by
  have H72 := Lib.hid (guess_any base g N cap c0 cap2 ad2 pre s post dl w hO hD ss sd hl hn hnl hlt)
  have HO := Lib.hid hO
  have R2 := Lib.hid hD
  have HS := Lib.hid (And.intro ss sd)
  have HNE := Lib.hid hne
  have HL := Lib.hid hl
  have hdp : 0 < V dl := by apply Nat.pos_of_ne_zero; intro e; rw [e] at hlt; omega
  have HDP := Lib.hid hdp
  clear hO hD ss sd hne hl hlt hdp
  go_enter Tryz.func98, Tryz.ntmps98
  go_wp2_with fail
  refine H72.out.mono ?_
  rintro e w1 ⟨t0, rfl, ht0, hge, hb1⟩
  have HGE := Lib.hid hge
  clear hge H72
  have hO1 : Own64 w1 base g N cap (pre ++ s ++ post) := (Fr.of_below (G := fun _ => False) hb1).owns HO.out (fun h => h)
  have H73 := Lib.hid (subTimes_any base g N cap c0 cap2 ad2 pre s post dl t0 w1 hO1 (R2.out.below hb1) HNE.out HS.out.1 HS.out.2 HL.out ht0 hnl)
  clear hO1
  go_wp2_with fail
  refine H73.out.mono ?_
  rintro e w2 ⟨s1, b1, rfl, hO2, hs1, hsl1, hbo1, heq1, hF2⟩
  have HF2 : Fr (· = g) w w2 := (Fr.of_below (G := (· = g)) hb1).trans hF2 (fun _ _ h => h)
  have HI0 : Hid (FixI (18446744073709551616 ^ s.length) (V s) (V dl) t0 (V s1) b1) := Lib.hid ⟨hbo1, HGE.out, heq1, by have := val_lt (B := 18446744073709551616) (by omega) s1 hs1; rw [hsl1] at this; exact this⟩
  clear H73 heq1 hF2 hb1 HGE HO
  go_wp2_with fail
  go_loopw [5, 6] (fun a b wr => ∃ (t bo : Nat) (s' : List Nat), t < 18446744073709551616 ∧ bo ≤ 1 ∧ a = .int .u64 (t : Int) ∧ b = .int .u64 (bo : Int) ∧ Own64 wr base g N cap (pre ++ s' ++ post) ∧ SmallU s' ∧ s'.length = s.length ∧ Hid (FixI (18446744073709551616 ^ s.length) (V s) (V dl) t (V s') bo) ∧ Fr (· = g) w wr) (fun a _ _ => (intOf a).toNat)
  case atStart => exact ⟨t0, b1, s1, ht0, hbo1, rfl, rfl, hO2, hs1, hsl1, HI0, HF2⟩
  case round =>
    clear hO2 hs1 hsl1 HI0 HF2 hbo1 ht0
    obtain ⟨t, bo, s', ht, hbo, rfl, rfl, hO, hss, hsl, HI, hF⟩ := hrel
    by_cases h0 : bo = 0
    · subst h0
      have HD := Lib.hid (HI.out.done HDP.out)
      clear HI
      go_wp2_with fail
      go_ret
      exact ⟨s', t, rfl, HD.out.1, HD.out.2, hO, hss, hsl, hF⟩
    · have h1 : bo = 1 := by omega
      subst h1
      have htp := FixI.pos HI.out
      have R3 : RowU wr (.slice ad2 dl.length cap2) dl := hF.lim R2.out (fun b off e _ => HNE.out b off e)
      have H74 := addBack_any base g N cap c0 cap2 ad2 pre s' post dl wr hO R3 HNE.out hss HS.out.2 (by rw [hsl]; exact HL.out) hnl
      rw [hsl] at H74
      have H74h := Lib.hid H74
      clear H74 R3
      go_wp2_with fail
      refine H74h.out.mono ?_
      rintro e w3 ⟨s2, c, rfl, hO3, hs3, hsl3, hc3, heq3, hF3⟩
      have HL3 := HI.out.less rfl HDP.out hc3 heq3 (by have := val_lt (B := 18446744073709551616) (by omega) s2 hs3; rw [hsl3] at this; exact this)
      have HI3 := Lib.hid (Lib.hid HL3.2.2)
      have hc1 : c ≤ 1 := hc3
      clear HL3 heq3 HI H74h
      have hF4 : Fr (· = g) w w3 := hF.trans hF3 (fun _ _ h => h)
      clear hF hF3
      go_wp2_with fail
      go_round
      case rel => exact ⟨t - 1, 1 - c, s2, by omega, by omega, by go_num, by go_num, hO3, hs3, hsl3, HI3.out, hF4⟩
      case measure => simp [intOf]; omega
end Go.Proofs.YtphllajedkpcbaaGreatDoor

namespace Go.Proofs.YtphllajedkpcbaaGreatDoor
open Go.RowKit Go.Dig Go.Shelf Go.Proofs

set_option maxRecDepth 100000 in
set_option maxHeartbeats 4000000 in
theorem scaled_any (v : Value) (la : List Nat) (m : Nat) (w : World) (h : RowU w v la) (s : SmallU la) (hm : m < 18446744073709551616) (hl : la.length ≤ 100000) :
    Calls Tryz.prog 97 #[v, .int .u64 (m : Int)] w fun e w' => ∃ (g : Nat) (o : List Nat), e = .returned (.slice (some ⟨g, 0, none⟩) (la.length + 1) (la.length + 1)) ∧ Own64 w' w.heap.size g (la.length + 1) (la.length + 1) o ∧ SmallU o ∧ V o = m * V la ∧ Below w.heap.size w w' := by
  obtain ⟨i0, hi, hz0, hz1, hz2⟩ := info_parts Tryz.info56
  have hne1 : ∀ b off k c, v = .slice (some ⟨b, off, none⟩) k c → la ≠ [] → b ≠ w.heap.size := by
    intro b off k c e hla
    obtain ⟨ad, cp, e2, _, h3⟩ := h
    obtain ⟨b', off', e3, h4, _⟩ := h3 hla
    rw [e2, e3] at e
    cases e
    omega
  have R1 := Lib.hid h
  obtain ⟨ad1, cap1, rfl, hc1, -⟩ := h
  have HS := Lib.hid s
  have HNE := Lib.hid hne1
  clear s hne1
  obtain ⟨nn, hnn⟩ : ∃ nn, nn = la.length + 1 := ⟨_, rfl⟩
  rw [← hnn]
  have hnl : la.length < nn := by omega
  have hnl2 : nn ≤ 100001 := by omega
  have HNN := Lib.hid hnn
  clear hnn
  go_enter Tryz.func97, Tryz.ntmps97
  go_wp2_with (at_make; refine wpList_make_full w rfl _ _ 27 rfl w.heap.size 56 i0 (.int .u64 0) 1 Tryz.underlying27 hi hz0 hz1 .i64 .i64 _ _ nn rfl rfl (by have := HNN.out; omega) (by have := HNN.out; omega) (by rw [hz2]; omega) (by unfold maxLen; omega) (Nat.le_refl _) ?_; intro w1 hown hgrow)
  rw [made_zerosU] at hown
  have hb1 : Below w.heap.size w w1 := (Below.refl _ w).grown hgrow (Nat.le_refl _) (fun j ej => by cases ej)
  have H48 := Lib.hid (addTimes_any w.heap.size w.heap.size nn nn 0 nn (List.replicate nn 0) la (.slice ad1 la.length cap1) m w1 hown (R1.out.below hb1) HNE.out (Small.zeros (by omega) _) HS.out hm (by omega) (by omega))
  clear hown hgrow
  go_wp2_with fail
  refine H48.out.mono ?_
  rintro e w2 ⟨cy, out, rfl, hO, HM, hF⟩
  have hB2 : Below w.heap.size w w2 := hb1.trans (hF.below hb1.size (fun k e => by omega))
  have hz9 : (List.replicate nn 0).getD (0 + la.length) 0 = 0 := by simp [List.getD, List.getElem?_replicate]; split <;> rfl
  have hd := HM.done (by simp; omega) hz9
  rw [HM.rest _ (Nat.le_refl _), hz9, Nat.zero_add, Nat.zero_add] at hd
  have HD := Lib.hid hd
  clear hd hz9 HM
  have hfz := hO.frozen la.length
  have hcz := hO.cell (j := la.length) (by omega)
  have HO3 := Lib.hid (hO.set la.length cy)
  go_wp2_with fail
  go_ret
  refine ⟨w.heap.size, out.set la.length cy, rfl, HO3.out, HD.out.1, ?_, hB2.setCell (p := ⟨w.heap.size, la.length, none⟩) (Nat.le_refl _) _⟩
  have e := HD.out.2.1
  rw [val_zeros, Nat.pow_zero, Nat.one_mul, Nat.zero_add] at e
  exact e
end Go.Proofs.YtphllajedkpcbaaGreatDoor
