/-
  Contracts of nat.scaled, nat.guess, nat.subTimes, nat.addBack, nat.divStep. Conditions: the part that is divided is a piece of a block that may be written, one limb longer than the divisor, which lies elsewhere; not more than a hundred thousand limbs.
-/
import Derived.Test.YtnfoblmfjldheaaDoorNh
import Derived.Test.YtnfoblmfjldheaaDoorNc
import Derived.Test.YtnfoblmfjldheaaDoorDvl
namespace Go.Proofs.YtnfoblmfjldheaaDoor
open Go.RowKit Go.Dig Go.Shelf Go.Proofs

theorem Own64.sub_cell {w : World} {base g N cap : Nat} {pre s post : List Nat} (h : Own64 w base g N cap (pre ++ s ++ post)) {j : Nat} (hj : j < s.length) : w.cell? ⟨g, pre.length + j, none⟩ = some (.int .u64 (s.getD j 0 : Nat)) := by
  have hl := h.len
  simp only [List.length_append] at hl
  rw [h.cell (j := pre.length + j) (by omega), app_getD pre s post hj]

/-! ### guess -/
set_option maxRecDepth 100000 in
set_option maxHeartbeats 4000000 in
theorem guess_any (base g N cap c0 cap2 : Nat) (ad2 : Option Addr) (pre s post dl : List Nat) (w : World) (hO : Own64 w base g N cap (pre ++ s ++ post)) (hD : RowU w (.slice ad2 dl.length cap2) dl)
    (ss : SmallU s) (sd : SmallU dl) (hl : s.length = dl.length + 1) (hn : 1 ≤ dl.length) (hnl : dl.length ≤ 100000) (hlt : V s < 18446744073709551616 * V dl) :
    Calls Tryd.prog 97 #[.slice (some ⟨g, pre.length, none⟩) s.length c0, .slice ad2 dl.length cap2] w fun e w' => ∃ t : Nat, e = .returned (.int .u64 (t : Int)) ∧ t < 18446744073709551616 ∧ V s / V dl ≤ t ∧ Below w.heap.size w w' := by
  have c1 : w.cell? ⟨g, pre.length + dl.length, none⟩ = some (.int .u64 (s.getD dl.length 0 : Nat)) := hO.sub_cell (by omega)
  have c2 : w.cell? ⟨g, pre.length + (dl.length - 1), none⟩ = some (.int .u64 (s.getD (dl.length - 1) 0 : Nat)) := hO.sub_cell (by omega)
  obtain ⟨b2, o2, rfl, hlb, c3⟩ := hD.cell (j := dl.length - 1) (by omega)
  have hlg := hO.lt.2
  have hdp : 0 < V dl := by apply Nat.pos_of_ne_zero; intro e; rw [e] at hlt; omega
  have HT := Lib.hid (fun h => guess_top (B := 18446744073709551616) (by omega) ss hl hn h)
  have hx := ss.getD (by omega) dl.length
  have hz := ss.getD (by omega) (dl.length - 1)
  have hy := sd.getD (by omega) (dl.length - 1)
  have HMAX : Hid (V s / V dl ≤ 18446744073709551615) := Lib.hid (by
    have : V s / V dl < 18446744073709551616 := by rw [Nat.div_lt_iff_lt_mul hdp]; exact hlt
    omega)
  have hdcap : dl.length ≤ cap2 := by obtain ⟨_, _, e, h1, _⟩ := hD; cases e; exact h1
  generalize V s / V dl = qq at HMAX HT ⊢
  generalize s.getD dl.length 0 = x at c1 hx HT
  generalize s.getD (dl.length - 1) 0 = z at c2 hz HT
  generalize dl.getD (dl.length - 1) 0 = y at c3 hy HT
  clear hO hD ss sd hlt hdp
  by_cases hge : y ≤ x
  · go_enter Tryd.func97, Tryd.ntmps97
    go_wp2_with fail
    go_region
    go_wp2_with fail
    go_ret
    exact ⟨18446744073709551615, rfl, by omega, HMAX.out, (Below.refl _ _).drew⟩
  · have hy0 : 0 < y := by omega
    have HQ : Hid (qq ≤ (z + 18446744073709551616 * x) / y) := Lib.hid (HT.out hy0)
    have HQL : Hid ((z + 18446744073709551616 * x) / y < 18446744073709551616) := Lib.hid (digit_lt hz (by omega))
    have H62 := Lib.hid (fun (W : World) => Div64_any x z y W (by omega) hy hz)
    generalize (z + 18446744073709551616 * x) / y = q at HQ H62 HQL
    generalize (z + 18446744073709551616 * x) % y = r at H62
    clear HT
    go_enter Tryd.func97, Tryd.ntmps97
    go_wp2_with fail
    go_region
    have hB1 : Below w.heap.size w w.drew := (Below.refl _ _).drew
    replace c1 : w.drew.cell? ⟨g, pre.length + dl.length, none⟩ = some (.int .u64 (x : Int)) := c1
    replace c2 : w.drew.cell? ⟨g, pre.length + (dl.length - 1), none⟩ = some (.int .u64 (z : Int)) := c2
    replace c3 : w.drew.cell? ⟨b2, o2 + (dl.length - 1), none⟩ = some (.int .u64 (y : Int)) := c3
    replace hlg : g < w.drew.heap.size := hlg
    replace hlb : b2 < w.drew.heap.size := hlb
    generalize w.drew = W0 at c1 c2 c3 hlg hlb hB1 ⊢
    go_wp2_with fail
    refine Rd.regionK (fun X => X.cell? ⟨g, pre.length + dl.length, none⟩ = some (.int .u64 (x : Int)) ∧ X.cell? ⟨g, pre.length + (dl.length - 1), none⟩ = some (.int .u64 (z : Int)) ∧ X.cell? ⟨b2, o2 + (dl.length - 1), none⟩ = some (.int .u64 (y : Int))) 19 [0, 1, 2, 4, 5, 6, 7, 9, 10, 11, 12, 15, 16, 17, 18] [3, 8, 13] [0, 1, 2, 3, 4, 5, 6, 7, 8, 9, 10, 11, 12, 13, 14, 15, 16, 17, 18, 19] (by kernel_rfl) (by kernel_rfl) (by kernel_rfl) (by kernel_rfl) rfl ⟨c1, c2, c3⟩ ?_
    replace hB1 : Below w.heap.size w W0.drew := hB1.drew
    replace c1 : W0.drew.cell? ⟨g, pre.length + dl.length, none⟩ = some (.int .u64 (x : Int)) := c1
    replace c2 : W0.drew.cell? ⟨g, pre.length + (dl.length - 1), none⟩ = some (.int .u64 (z : Int)) := c2
    replace c3 : W0.drew.cell? ⟨b2, o2 + (dl.length - 1), none⟩ = some (.int .u64 (y : Int)) := c3
    replace hlg : g < W0.drew.heap.size := hlg
    replace hlb : b2 < W0.drew.heap.size := hlb
    generalize W0.drew = W1 at c1 c2 c3 hlg hlb hB1 ⊢
    refine Rd.seqK_plain (.slice (some ⟨g, pre.length, none⟩) s.length c0) (by simp only [List.getElem?_toArray, List.getElem?_cons_zero]; rfl) rfl (by rfl) (fun X => by go_simp) ?_
    simp only [Act.put, List.setIfInBounds_toArray, List.set_cons_succ, List.set_cons_zero]
    refine Rd.seqK_plain (.int .i64 (dl.length : Int)) (by simp only [List.getElem?_toArray, List.getElem?_cons_succ, List.getElem?_cons_zero]; rfl) rfl (by rfl) (fun X => by go_simp) ?_
    simp only [Act.put, List.setIfInBounds_toArray, List.set_cons_succ, List.set_cons_zero]
    refine Rd.seqK_plain (.pointer (some ⟨g, pre.length + dl.length, none⟩)) (by simp only [List.getElem?_toArray, List.getElem?_cons_succ, List.getElem?_cons_zero]; rfl) rfl (by rfl) (fun X => by go_simp; omega) ?_
    simp only [Act.put, List.setIfInBounds_toArray, List.set_cons_succ, List.set_cons_zero]
    refine Rd.seqK_float (.int .u64 (x : Int)) (by simp only [List.getElem?_toArray, List.getElem?_cons_succ, List.getElem?_cons_zero]; rfl) rfl rfl (by rfl) (fun X hX => by have h1 := hX.1; go_simp) ?_
    simp only [Act.put, List.setIfInBounds_toArray, List.set_cons_succ, List.set_cons_zero]
    refine Rd.seqK_plain (.slice (some ⟨g, pre.length, none⟩) s.length c0) (by simp only [List.getElem?_toArray, List.getElem?_cons_succ, List.getElem?_cons_zero]; rfl) rfl (by rfl) (fun X => by go_simp) ?_
    simp only [Act.put, List.setIfInBounds_toArray, List.set_cons_succ, List.set_cons_zero]
    refine Rd.seqK_plain (.int .i64 (dl.length : Int)) (by simp only [List.getElem?_toArray, List.getElem?_cons_succ, List.getElem?_cons_zero]; rfl) rfl (by rfl) (fun X => by go_simp) ?_
    simp only [Act.put, List.setIfInBounds_toArray, List.set_cons_succ, List.set_cons_zero]
    refine Rd.seqK_plain (.int .i64 ((dl.length : Int) - 1)) (by simp only [List.getElem?_toArray, List.getElem?_cons_succ, List.getElem?_cons_zero]; rfl) rfl (by rfl) (fun X => by go_simp; exact IntWalk.i64_in _ (by omega)) ?_
    simp only [Act.put, List.setIfInBounds_toArray, List.set_cons_succ, List.set_cons_zero]
    refine Rd.seqK_plain (.pointer (some ⟨g, pre.length + (dl.length - 1), none⟩)) (by simp only [List.getElem?_toArray, List.getElem?_cons_succ, List.getElem?_cons_zero]; rfl) rfl (by rfl) (fun X => by go_simp; intro h; exfalso; omega) ?_
    simp only [Act.put, List.setIfInBounds_toArray, List.set_cons_succ, List.set_cons_zero]
    refine Rd.seqK_float (.int .u64 (z : Int)) (by simp only [List.getElem?_toArray, List.getElem?_cons_succ, List.getElem?_cons_zero]; rfl) rfl rfl (by rfl) (fun X hX => by have h1 := hX.2.1; go_simp) ?_
    simp only [Act.put, List.setIfInBounds_toArray, List.set_cons_succ, List.set_cons_zero]
    refine Rd.seqK_plain (.slice (some ⟨b2, o2, none⟩) dl.length cap2) (by simp only [List.getElem?_toArray, List.getElem?_cons_succ, List.getElem?_cons_zero]; rfl) rfl (by rfl) (fun X => by go_simp) ?_
    simp only [Act.put, List.setIfInBounds_toArray, List.set_cons_succ, List.set_cons_zero]
    refine Rd.seqK_plain (.int .i64 (dl.length : Int)) (by simp only [List.getElem?_toArray, List.getElem?_cons_succ, List.getElem?_cons_zero]; rfl) rfl (by rfl) (fun X => by go_simp) ?_
    simp only [Act.put, List.setIfInBounds_toArray, List.set_cons_succ, List.set_cons_zero]
    refine Rd.seqK_plain (.int .i64 ((dl.length : Int) - 1)) (by simp only [List.getElem?_toArray, List.getElem?_cons_succ, List.getElem?_cons_zero]; rfl) rfl (by rfl) (fun X => by go_simp; exact IntWalk.i64_in _ (by omega)) ?_
    simp only [Act.put, List.setIfInBounds_toArray, List.set_cons_succ, List.set_cons_zero]
    refine Rd.seqK_plain (.pointer (some ⟨b2, o2 + (dl.length - 1), none⟩)) (by simp only [List.getElem?_toArray, List.getElem?_cons_succ, List.getElem?_cons_zero]; rfl) rfl (by rfl) (fun X => by go_simp; intro h; exfalso; omega) ?_
    simp only [Act.put, List.setIfInBounds_toArray, List.set_cons_succ, List.set_cons_zero]
    refine Rd.seqK_float (.int .u64 (y : Int)) (by simp only [List.getElem?_toArray, List.getElem?_cons_succ, List.getElem?_cons_zero]; rfl) rfl rfl (by rfl) (fun X hX => by have h1 := hX.2.2; go_simp) ?_
    simp only [Act.put, List.setIfInBounds_toArray, List.set_cons_succ, List.set_cons_zero]
    refine Rd.seqK_move (by simp only [List.getElem?_toArray, List.getElem?_cons_succ, List.getElem?_cons_zero]; rfl) rfl rfl (by rfl) (fun K hK => ?_)
    go_simp
    refine (H62.out W1).mono ?_
    rintro e W2 ⟨rfl, hb2w⟩
    refine hK _ _ (fun _ => ⟨(hb2w.cell (p := ⟨g, pre.length + dl.length, none⟩) hlg).trans c1, (hb2w.cell (p := ⟨g, pre.length + (dl.length - 1), none⟩) hlg).trans c2, (hb2w.cell (p := ⟨b2, o2 + (dl.length - 1), none⟩) hlb).trans c3⟩) ?_
    clear hK K
    refine Rd.seqK_plain (.tuple #[.int .u64 (q : Int), .int .u64 (r : Int)]) (by simp only [List.getElem?_toArray, List.getElem?_cons_succ, List.getElem?_cons_zero]; rfl) rfl (by rfl) (fun X => by go_simp) ?_
    simp only [Act.put, List.setIfInBounds_toArray, List.set_cons_succ, List.set_cons_zero]
    refine Rd.seqK_plain (.int .u64 (q : Int)) (by simp only [List.getElem?_toArray, List.getElem?_cons_succ, List.getElem?_cons_zero]; rfl) rfl (by rfl) (fun X => by go_simp) ?_
    simp only [Act.put, List.setIfInBounds_toArray, List.set_cons_succ, List.set_cons_zero]
    refine Rd.seqK_plain (.int .u64 (r : Int)) (by simp only [List.getElem?_toArray, List.getElem?_cons_succ, List.getElem?_cons_zero]; rfl) rfl (by rfl) (fun X => by go_simp) ?_
    simp only [Act.put, List.setIfInBounds_toArray, List.set_cons_succ, List.set_cons_zero]
    refine Rd.seqK_plain (.int .u64 (q : Int)) (by simp only [List.getElem?_toArray, List.getElem?_cons_succ, List.getElem?_cons_zero]; rfl) rfl (by rfl) (fun X => by go_simp) ?_
    simp only [Act.put, List.setIfInBounds_toArray, List.set_cons_succ, List.set_cons_zero]
    refine Rd.seqK_move (by simp only [List.getElem?_toArray, List.getElem?_cons_succ, List.getElem?_cons_zero]; rfl) rfl rfl (by rfl) (fun K hK => ?_)
    go_simp
    refine hK _ _ (fun h => absurd h (by omega)) ?_
    refine Rd.seqK_end ?_
    go_wp2_with fail
    go_ret
    exact ⟨q, rfl, HQL.out, HQ.out, hB1.trans (hb2w.mono hB1.size)⟩

/-! ### subTimes -/
set_option maxRecDepth 100000 in
set_option maxHeartbeats 4000000 in
theorem subTimes_any (base g N cap c0 cap2 : Nat) (ad2 : Option Addr) (pre s post dl : List Nat) (t : Nat) (w : World) (hO : Own64 w base g N cap (pre ++ s ++ post)) (hD : RowU w (.slice ad2 dl.length cap2) dl) (hne : ∀ b off, ad2 = some ⟨b, off, none⟩ → b ≠ g)
    (ss : SmallU s) (sd : SmallU dl) (hl : s.length = dl.length + 1) (ht : t < 18446744073709551616) (hnl : dl.length ≤ 100000) :
    Calls Tryd.prog 98 #[.slice (some ⟨g, pre.length, none⟩) s.length c0, .slice ad2 dl.length cap2, .int .u64 (t : Int)] w fun e w' => ∃ (s' : List Nat) (bo : Nat), e = .returned (.int .u64 (bo : Int)) ∧ Own64 w' base g N cap (pre ++ s' ++ post) ∧ SmallU s' ∧ s'.length = s.length ∧ bo ≤ 1 ∧
      V s' + t * V dl = V s + 18446744073709551616 ^ s.length * bo ∧ Fr (· = g) w w' := by
  have HO := Lib.hid hO
  have R2 := Lib.hid hD
  have HS := Lib.hid (And.intro ss sd)
  have HNE := Lib.hid hne
  have HL := Lib.hid hl
  have hl1 : dl.length < s.length := by omega
  clear hO hD ss sd hne hl
  go_enter Tryd.func98, Tryd.ntmps98
  go_wp2_with fail
  go_loopw [8, 9, 15] (fun c b i wr => ∃ (j cy bo : Nat) (s' : List Nat), j ≤ dl.length ∧ c = .int .u64 (cy : Int) ∧ b = .int .u64 (bo : Int) ∧ i = .int .i64 (j : Int) ∧ Own64 wr base g N cap (pre ++ s' ++ post) ∧ s'.length = s.length ∧ Hid (SubTI 18446744073709551616 t dl s s' cy bo j) ∧ Fr (· = g) w wr) (fun _ _ i _ => dl.length - (intOf i).toNat)
  case atStart => exact ⟨0, 0, 0, s, by omega, rfl, rfl, rfl, HO.out, rfl, Lib.hid (SubTI.zero (by omega) HS.out.1), Fr.refl _ _⟩
  case round =>
    obtain ⟨j, cy, bo, s', hj, rfl, rfl, rfl, hO, hsl, HI, hF⟩ := hrel
    have hcy := HI.out.car
    have hbo := HI.out.low
    by_cases hlt : j < dl.length
    · obtain ⟨b2, o2, rfl, hb2, c2⟩ := R2.out.cell hlt
      have hbg := HNE.out b2 o2 rfl
      have hjs : j < s.length := by omega
      replace c2 : wr.cell? ⟨b2, o2 + j, none⟩ = some (.int .u64 (dl.getD j 0 : Nat)) := (hF.cell (p := ⟨b2, o2 + j, none⟩) hb2 hbg).trans c2
      have c1 : wr.cell? ⟨g, pre.length + j, none⟩ = some (.int .u64 (s'.getD j 0 : Nat)) := hO.sub_cell (by omega)
      rw [HI.out.rest j (Nat.le_refl _)] at c1
      have hy := HS.out.2.getD (by omega) j
      have hx := HS.out.1.getD (by omega) j
      have HST := Lib.hid (fun (lo hi r b' : Nat) h1 h2 h3 h4 => HI.out.step (lo := lo) (hi := hi) (r := r) (b' := b') (by omega) HS.out.1 HS.out.2 ht (by omega) h1 h2 h3 h4)
      generalize dl.getD j 0 = y at c2 hy HST
      generalize s.getD j 0 = x at c1 hx HST
      obtain ⟨lo, hlo⟩ : ∃ lo, lo = (cy + y * t + 0) % 18446744073709551616 := ⟨_, rfl⟩
      obtain ⟨hi, hhi⟩ : ∃ hi, hi = (cy + y * t + 0) / 18446744073709551616 := ⟨_, rfl⟩
      obtain ⟨r, hr⟩ : ∃ r, (x + 18446744073709551616 - lo - bo) % 18446744073709551616 = r := ⟨_, rfl⟩
      obtain ⟨b', hb'⟩ : ∃ b', (if x < lo + bo then 1 else 0) = b' := ⟨_, rfl⟩
      have HI2 := Lib.hid (Lib.hid (HST.out lo hi r b' hlo hhi hr.symm hb'.symm))
      have H61 := Lib.hid (timesAdd_is y t cy 0 lo hi wr hy ht hcy (by omega) hlo hhi)
      have hsub := Tryd.sub64 x lo bo r b' hbo hr hb'
      have hfz := hO.frozen (pre.length + j)
      have hO2 := hO.set (pre.length + j) r
      rw [app_set pre s' post r (by omega)] at hO2
      have HO2 := Lib.hid hO2
      clear hO2 HST HI hlo hhi hr hb'
      go_wp2_with fail
      refine H61.out.mono ?_
      rintro e w2 ⟨rfl, rfl⟩
      go_wp2_with fail
      exact ⟨⟨j + 1, hi, b', s'.set j r, by omega, rfl, rfl, by go_num, HO2.out, by rw [List.length_set]; exact hsl, HI2.out, hF.setCell (.inr rfl) _⟩, by simp [intOf]; omega⟩
    · have hjn : j = dl.length := by omega
      subst hjn
      have c1 : wr.cell? ⟨g, pre.length + dl.length, none⟩ = some (.int .u64 (s'.getD dl.length 0 : Nat)) := hO.sub_cell (by omega)
      rw [HI.out.rest dl.length (Nat.le_refl _)] at c1
      have hx := HS.out.1.getD (by omega) dl.length
      have HST := Lib.hid (fun (r b' : Nat) h3 h4 => HI.out.done (r := r) (b' := b') (by omega) HS.out.1 HL.out h3 h4)
      generalize s.getD dl.length 0 = x at c1 hx HST
      obtain ⟨r, hr⟩ : ∃ r, (x + 18446744073709551616 - cy - bo) % 18446744073709551616 = r := ⟨_, rfl⟩
      obtain ⟨b', hb'⟩ : ∃ b', (if x < cy + bo then 1 else 0) = b' := ⟨_, rfl⟩
      have HI2 := Lib.hid (HST.out r b' hr.symm hb'.symm)
      have hsub := Tryd.sub64 x cy bo r b' hbo hr hb'
      have hfz := hO.frozen (pre.length + dl.length)
      have hO2 := hO.set (pre.length + dl.length) r
      rw [app_set pre s' post r (by omega)] at hO2
      have HO2 := Lib.hid hO2
      clear hO2 HST HI hr hb'
      go_wp2_with fail
      go_ret
      obtain ⟨i1, i2, i3, i4⟩ := HI2.out
      exact ⟨s'.set dl.length r, b', rfl, HO2.out, i1, i2, i3, i4, hF.setCell (.inr rfl) _⟩

/-! ### addBack -/
set_option maxRecDepth 100000 in
set_option maxHeartbeats 4000000 in
theorem addBack_any (base g N cap c0 cap2 : Nat) (ad2 : Option Addr) (pre s post dl : List Nat) (w : World) (hO : Own64 w base g N cap (pre ++ s ++ post)) (hD : RowU w (.slice ad2 dl.length cap2) dl) (hne : ∀ b off, ad2 = some ⟨b, off, none⟩ → b ≠ g)
    (ss : SmallU s) (sd : SmallU dl) (hl : s.length = dl.length + 1) (hnl : dl.length ≤ 100000) :
    Calls Tryd.prog 99 #[.slice (some ⟨g, pre.length, none⟩) s.length c0, .slice ad2 dl.length cap2] w fun e w' => ∃ (s' : List Nat) (c : Nat), e = .returned (.int .u64 (c : Int)) ∧ Own64 w' base g N cap (pre ++ s' ++ post) ∧ SmallU s' ∧ s'.length = s.length ∧ c ≤ 1 ∧
      V s' + 18446744073709551616 ^ s.length * c = V s + V dl ∧ Fr (· = g) w w' := by
  have HO := Lib.hid hO
  have R2 := Lib.hid hD
  have HS := Lib.hid (And.intro ss sd)
  have HNE := Lib.hid hne
  have HL := Lib.hid hl
  have hl1 : dl.length < s.length := by omega
  clear hO hD ss sd hne hl
  go_enter Tryd.func99, Tryd.ntmps99
  go_wp2_with fail
  go_loopw [6, 11] (fun c i wr => ∃ (j cy : Nat) (s' : List Nat), j ≤ dl.length ∧ c = .int .u64 (cy : Int) ∧ i = .int .i64 (j : Int) ∧ Own64 wr base g N cap (pre ++ s' ++ post) ∧ s'.length = s.length ∧ Hid (AddBI 18446744073709551616 dl s s' cy j) ∧ Fr (· = g) w wr) (fun _ i _ => dl.length - (intOf i).toNat)
  case atStart => exact ⟨0, 0, s, by omega, rfl, rfl, HO.out, rfl, Lib.hid (AddBI.zero HS.out.1), Fr.refl _ _⟩
  case round =>
    obtain ⟨j, cy, s', hj, rfl, rfl, hO, hsl, HI, hF⟩ := hrel
    have hcy := HI.out.low
    by_cases hlt : j < dl.length
    · obtain ⟨b2, o2, rfl, hb2, d2⟩ := R2.out.cell hlt
      have hbg := HNE.out b2 o2 rfl
      have hjs : j < s.length := by omega
      replace d2 : wr.drew.cell? ⟨b2, o2 + j, none⟩ = some (.int .u64 (dl.getD j 0 : Nat)) := (hF.cell (p := ⟨b2, o2 + j, none⟩) hb2 hbg).trans d2
      have d1 : wr.drew.cell? ⟨g, pre.length + j, none⟩ = some (.int .u64 (s'.getD j 0 : Nat)) := hO.sub_cell (by omega)
      rw [HI.out.rest j (Nat.le_refl _)] at d1
      have HST := Lib.hid (fun (r c' : Nat) h1 h2 => HI.out.step (r := r) (c' := c') (by omega) HS.out.1 HS.out.2 (by omega) h1 h2)
      generalize dl.getD j 0 = y at d2 HST
      generalize s.getD j 0 = x at d1 HST
      obtain ⟨r, hr⟩ : ∃ r, (x + y + cy) % 18446744073709551616 = r := ⟨_, rfl⟩
      obtain ⟨c2, hc2⟩ : ∃ c2, (x + y + cy) / 18446744073709551616 = c2 := ⟨_, rfl⟩
      have HI2 := Lib.hid (Lib.hid (HST.out r c2 hr.symm hc2.symm))
      have hadd := Tryd.add64 x y cy r c2 hcy hr hc2
      have hO2 := hO.set (pre.length + j) r
      rw [app_set pre s' post r (by omega)] at hO2
      have HO2 : Hid (Own64 (wr.drew.setCell ⟨g, pre.length + j, none⟩ (.int .u64 (r : Int))) base g N cap (pre ++ s'.set j r ++ post)) := Lib.hid hO2
      have hO1 : Own64 wr.drew base g N cap (pre ++ s' ++ post) := hO
      have hF1 : Fr (· = g) w wr.drew := hF.drew
      clear hO2 HST HI hr hc2 hO hF
      go_wp2_with fail
      refine Rd.regionK (fun X => X.cell? ⟨g, pre.length + j, none⟩ = some (.int .u64 (x : Int)) ∧ X.cell? ⟨b2, o2 + j, none⟩ = some (.int .u64 (y : Int))) 16 [0, 1, 2, 3, 4, 6, 7, 8, 10, 12, 13, 14, 15] [5, 9] [0, 1, 2, 3, 4, 5, 6, 7, 8, 9, 10, 11, 12, 13, 14, 15, 16, 17] (by kernel_rfl) (by kernel_rfl) (by kernel_rfl) (by kernel_rfl) rfl ⟨d1, d2⟩ ?_
      generalize wr.drew = W1 at d1 d2 hO1 hF1 HO2 ⊢
      refine Rd.seqK_plain (.slice (some ⟨g, pre.length, none⟩) s.length c0) (by simp only [List.getElem?_toArray, List.getElem?_cons_zero]; rfl) rfl (by rfl) (fun X => by go_simp) ?_
      simp only [Act.put, List.setIfInBounds_toArray, List.set_cons_succ, List.set_cons_zero]
      refine Rd.seqK_plain (.int .i64 (j : Int)) (by simp only [List.getElem?_toArray, List.getElem?_cons_succ, List.getElem?_cons_zero]; rfl) rfl (by rfl) (fun X => by go_simp) ?_
      simp only [Act.put, List.setIfInBounds_toArray, List.set_cons_succ, List.set_cons_zero]
      refine Rd.seqK_plain (.slice (some ⟨g, pre.length, none⟩) s.length c0) (by simp only [List.getElem?_toArray, List.getElem?_cons_succ, List.getElem?_cons_zero]; rfl) rfl (by rfl) (fun X => by go_simp) ?_
      simp only [Act.put, List.setIfInBounds_toArray, List.set_cons_succ, List.set_cons_zero]
      refine Rd.seqK_plain (.int .i64 (j : Int)) (by simp only [List.getElem?_toArray, List.getElem?_cons_succ, List.getElem?_cons_zero]; rfl) rfl (by rfl) (fun X => by go_simp) ?_
      simp only [Act.put, List.setIfInBounds_toArray, List.set_cons_succ, List.set_cons_zero]
      refine Rd.seqK_plain (.pointer (some ⟨g, pre.length + j, none⟩)) (by simp only [List.getElem?_toArray, List.getElem?_cons_succ, List.getElem?_cons_zero]; rfl) rfl (by rfl) (fun X => by go_simp) ?_
      simp only [Act.put, List.setIfInBounds_toArray, List.set_cons_succ, List.set_cons_zero]
      refine Rd.seqK_float (.int .u64 (x : Int)) (by simp only [List.getElem?_toArray, List.getElem?_cons_succ, List.getElem?_cons_zero]; rfl) rfl rfl (by rfl) (fun X hX => by have h1 := hX.1; go_simp) ?_
      simp only [Act.put, List.setIfInBounds_toArray, List.set_cons_succ, List.set_cons_zero]
      refine Rd.seqK_plain (.slice (some ⟨b2, o2, none⟩) dl.length cap2) (by simp only [List.getElem?_toArray, List.getElem?_cons_succ, List.getElem?_cons_zero]; rfl) rfl (by rfl) (fun X => by go_simp) ?_
      simp only [Act.put, List.setIfInBounds_toArray, List.set_cons_succ, List.set_cons_zero]
      refine Rd.seqK_plain (.int .i64 (j : Int)) (by simp only [List.getElem?_toArray, List.getElem?_cons_succ, List.getElem?_cons_zero]; rfl) rfl (by rfl) (fun X => by go_simp) ?_
      simp only [Act.put, List.setIfInBounds_toArray, List.set_cons_succ, List.set_cons_zero]
      refine Rd.seqK_plain (.pointer (some ⟨b2, o2 + j, none⟩)) (by simp only [List.getElem?_toArray, List.getElem?_cons_succ, List.getElem?_cons_zero]; rfl) rfl (by rfl) (fun X => by go_simp) ?_
      simp only [Act.put, List.setIfInBounds_toArray, List.set_cons_succ, List.set_cons_zero]
      refine Rd.seqK_float (.int .u64 (y : Int)) (by simp only [List.getElem?_toArray, List.getElem?_cons_succ, List.getElem?_cons_zero]; rfl) rfl rfl (by rfl) (fun X hX => by have h1 := hX.2; go_simp) ?_
      simp only [Act.put, List.setIfInBounds_toArray, List.set_cons_succ, List.set_cons_zero]
      refine Rd.seqK_plain (.int .u64 (cy : Int)) (by simp only [List.getElem?_toArray, List.getElem?_cons_succ, List.getElem?_cons_zero]; rfl) rfl (by rfl) (fun X => by go_simp) ?_
      simp only [Act.put, List.setIfInBounds_toArray, List.set_cons_succ, List.set_cons_zero]
      refine Rd.seqK_move (by simp only [List.getElem?_toArray, List.getElem?_cons_succ, List.getElem?_cons_zero]; rfl) rfl rfl (by rfl) (fun K hK => ?_)
      go_simp
      refine hK _ _ (fun _ => ⟨d1, d2⟩) ?_
      clear hK K
      refine Rd.seqK_plain (.tuple #[.int .u64 (r : Int), .int .u64 (c2 : Int)]) (by simp only [List.getElem?_toArray, List.getElem?_cons_succ, List.getElem?_cons_zero]; rfl) rfl (by rfl) (fun X => by go_simp) ?_
      simp only [Act.put, List.setIfInBounds_toArray, List.set_cons_succ, List.set_cons_zero]
      refine Rd.seqK_plain (.int .u64 (r : Int)) (by simp only [List.getElem?_toArray, List.getElem?_cons_succ, List.getElem?_cons_zero]; rfl) rfl (by rfl) (fun X => by go_simp) ?_
      simp only [Act.put, List.setIfInBounds_toArray, List.set_cons_succ, List.set_cons_zero]
      refine Rd.seqK_plain (.int .u64 (c2 : Int)) (by simp only [List.getElem?_toArray, List.getElem?_cons_succ, List.getElem?_cons_zero]; rfl) rfl (by rfl) (fun X => by go_simp) ?_
      simp only [Act.put, List.setIfInBounds_toArray, List.set_cons_succ, List.set_cons_zero]
      refine Rd.seqK_plain (.pointer (some ⟨g, pre.length + j, none⟩)) (by simp only [List.getElem?_toArray, List.getElem?_cons_succ, List.getElem?_cons_zero]; rfl) rfl (by rfl) (fun X => by go_simp) ?_
      simp only [Act.put, List.setIfInBounds_toArray, List.set_cons_succ, List.set_cons_zero]
      refine Rd.seqK_move (by simp only [List.getElem?_toArray, List.getElem?_cons_succ, List.getElem?_cons_zero]; rfl) rfl rfl (by rfl) (fun K hK => ?_)
      go_simp
      have hfz := hO1.frozen (pre.length + j)
      go_simp
      refine hK _ _ (fun h => absurd h (by omega)) ?_
      clear hK K
      refine Rd.seqK_move (by simp only [List.getElem?_toArray, List.getElem?_cons_succ, List.getElem?_cons_zero]; rfl) rfl rfl (by rfl) (fun K hK => ?_)
      go_simp
      refine hK _ _ (fun h => absurd h (by omega)) ?_
      refine Rd.seqK_end ?_
      have hF2 : Fr (· = g) w (W1.setCell ⟨g, pre.length + j, none⟩ (.int .u64 (r : Int))) := hF1.setCell (.inr rfl) _
      have hO3 := HO2.out
      clear HO2
      generalize W1.setCell ⟨g, pre.length + j, none⟩ (.int .u64 (r : Int)) = W3 at hO3 hF2 ⊢
      go_wp2_with fail
      go_round
      case rel => exact ⟨j + 1, c2, s'.set j r, by omega, rfl, by go_num, hO3, by rw [List.length_set]; exact hsl, HI2.out, hF2⟩
      case measure => simp [intOf]; omega
    · have hjn : j = dl.length := by omega
      subst hjn
      have c1 : wr.cell? ⟨g, pre.length + dl.length, none⟩ = some (.int .u64 (s'.getD dl.length 0 : Nat)) := hO.sub_cell (by omega)
      rw [HI.out.rest dl.length (Nat.le_refl _)] at c1
      have HST := Lib.hid (fun (r c' : Nat) h3 h4 => HI.out.done (r := r) (c' := c') (by omega) HS.out.1 HL.out h3 h4)
      generalize s.getD dl.length 0 = x at c1 HST
      obtain ⟨r, hr⟩ : ∃ r, (x + 0 + cy) % 18446744073709551616 = r := ⟨_, rfl⟩
      obtain ⟨c2, hc2⟩ : ∃ c2, (x + 0 + cy) / 18446744073709551616 = c2 := ⟨_, rfl⟩
      have HI2 := Lib.hid (HST.out r c2 hr.symm hc2.symm)
      have hadd : ∀ w, (callFunc 75 #[.int .u64 (x : Int), .int .u64 0, .int .u64 (cy : Int)]).run Tryd.prog w = .ok (.value (.tuple #[.int .u64 (r : Int), .int .u64 (c2 : Int)])) w := fun w => Tryd.add64 x 0 cy r c2 hcy hr hc2 w
      have hfz := hO.frozen (pre.length + dl.length)
      have hO2 := hO.set (pre.length + dl.length) r
      rw [app_set pre s' post r (by omega)] at hO2
      have HO2 := Lib.hid hO2
      clear hO2 HST HI hr hc2
      go_wp2_with fail
      go_ret
      obtain ⟨i1, i2, i3, i4⟩ := HI2.out
      exact ⟨s'.set dl.length r, c2, rfl, HO2.out, i1, i2, i3, i4, hF.setCell (.inr rfl) _⟩
end Go.Proofs.YtnfoblmfjldheaaDoor
