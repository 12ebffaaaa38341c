/-
  Contracts of nat.divStep and nat.scaled. Conditions: the part that is divided is a piece of a block that may be written, one limb longer than the divisor, which lies elsewhere, and below 2^64 times it; not more than a hundred thousand limbs.
-/
import Derived.Test.YtnfoblmfjldheaaDoorNi
namespace Go.Proofs.YtnfoblmfjldheaaDoor
open Go.RowKit Go.Dig Go.Shelf Go.Proofs

theorem FixI.pos {M vs vd t vp : Nat} (h : FixI M vs vd t vp 1) : 0 < t := by
  apply Nat.pos_of_ne_zero
  rintro rfl
  have h1 := h.eq
  have h2 := h.lt
  rw [Nat.zero_mul] at h1
  omega
set_option maxRecDepth 100000 in
set_option maxHeartbeats 4000000 in
theorem divStep_any (base g N cap c0 cap2 : Nat) (ad2 : Option Addr) (pre s post dl : List Nat) (w : World) (hO : Own64 w base g N cap (pre ++ s ++ post)) (hD : RowU w (.slice ad2 dl.length cap2) dl) (hne : ∀ b off, ad2 = some ⟨b, off, none⟩ → b ≠ g)
    (ss : SmallU s) (sd : SmallU dl) (hl : s.length = dl.length + 1) (hn : 1 ≤ dl.length) (hnl : dl.length ≤ 100000) (hlt : V s < 18446744073709551616 * V dl) :
    Calls Tryd.prog 87 #[.slice (some ⟨g, pre.length, none⟩) s.length c0, .slice ad2 dl.length cap2] w fun e w' => ∃ (s' : List Nat) (q : Nat), e = .returned (.int .u64 (q : Int)) ∧ q = V s / V dl ∧ V s' = V s % V dl ∧ Own64 w' base g N cap (pre ++ s' ++ post) ∧ SmallU s' ∧ s'.length = s.length ∧ Fr (· = g) w w' := by
  have H72 := Lib.hid (guess_any base g N cap c0 cap2 ad2 pre s post dl w hO hD ss sd hl hn hnl hlt)
  have HO := Lib.hid hO
  have R2 := Lib.hid hD
  have HS := Lib.hid (And.intro ss sd)
  have HNE := Lib.hid hne
  have HL := Lib.hid hl
  have hdp : 0 < V dl := by apply Nat.pos_of_ne_zero; intro e; rw [e] at hlt; omega
  have HDP := Lib.hid hdp
  clear hO hD ss sd hne hl hlt hdp
  go_enter Tryd.func87, Tryd.ntmps87
  go_wp2_with fail
  refine H72.out.mono ?_
  rintro e w1 ⟨t0, rfl, ht0, hge, hb1⟩
  have HGE := Lib.hid hge
  clear hge H72
  have hO1 : Own64 w1 base g N cap (pre ++ s ++ post) := (Fr.of_below (G := fun _ => False) hb1).owns HO.out (fun h => h)
  have H73 := Lib.hid (subTimes_any base g N cap c0 cap2 ad2 pre s post dl t0 w1 hO1 (R2.out.below hb1) HNE.out HS.out.1 HS.out.2 HL.out ht0 hnl)
  clear hO1
  go_wp2_with fail
  refine H73.out.mono ?_
  rintro e w2 ⟨s1, b1, rfl, hO2, hs1, hsl1, hbo1, heq1, hF2⟩
  have HF2 : Fr (· = g) w w2 := (Fr.of_below (G := (· = g)) hb1).trans hF2 (fun _ _ h => h)
  have HI0 : Hid (FixI (18446744073709551616 ^ s.length) (V s) (V dl) t0 (V s1) b1) := Lib.hid ⟨hbo1, HGE.out, heq1, by have := val_lt (B := 18446744073709551616) (by omega) s1 hs1; rw [hsl1] at this; exact this⟩
  clear H73 heq1 hF2 hb1 HGE HO
  go_wp2_with fail
  go_loopw [5, 6] (fun a b wr => ∃ (t bo : Nat) (s' : List Nat), t < 18446744073709551616 ∧ bo ≤ 1 ∧ a = .int .u64 (t : Int) ∧ b = .int .u64 (bo : Int) ∧ Own64 wr base g N cap (pre ++ s' ++ post) ∧ SmallU s' ∧ s'.length = s.length ∧ Hid (FixI (18446744073709551616 ^ s.length) (V s) (V dl) t (V s') bo) ∧ Fr (· = g) w wr) (fun a _ _ => (intOf a).toNat)
  case atStart => exact ⟨t0, b1, s1, ht0, hbo1, rfl, rfl, hO2, hs1, hsl1, HI0, HF2⟩
  case round =>
    clear hO2 hs1 hsl1 HI0 HF2 hbo1 ht0
    obtain ⟨t, bo, s', ht, hbo, rfl, rfl, hO, hss, hsl, HI, hF⟩ := hrel
    by_cases h0 : bo = 0
    · subst h0
      have HD := Lib.hid (HI.out.done HDP.out)
      clear HI
      go_wp2_with fail
      go_ret
      exact ⟨s', t, rfl, HD.out.1, HD.out.2, hO, hss, hsl, hF⟩
    · have h1 : bo = 1 := by omega
      subst h1
      have htp := FixI.pos HI.out
      have R3 : RowU wr (.slice ad2 dl.length cap2) dl := hF.lim R2.out (fun b off e _ => HNE.out b off e)
      have H74 := addBack_any base g N cap c0 cap2 ad2 pre s' post dl wr hO R3 HNE.out hss HS.out.2 (by rw [hsl]; exact HL.out) hnl
      rw [hsl] at H74
      have H74h := Lib.hid H74
      clear H74 R3
      go_wp2_with fail
      refine H74h.out.mono ?_
      rintro e w3 ⟨s2, c, rfl, hO3, hs3, hsl3, hc3, heq3, hF3⟩
      have HL3 := HI.out.less rfl HDP.out hc3 heq3 (by have := val_lt (B := 18446744073709551616) (by omega) s2 hs3; rw [hsl3] at this; exact this)
      have HI3 := Lib.hid (Lib.hid HL3.2.2)
      have hc1 : c ≤ 1 := hc3
      clear HL3 heq3 HI H74h
      have hF4 : Fr (· = g) w w3 := hF.trans hF3 (fun _ _ h => h)
      clear hF hF3
      go_wp2_with fail
      go_round
      case rel => exact ⟨t - 1, 1 - c, s2, by omega, by omega, by go_num, by go_num, hO3, hs3, hsl3, HI3.out, hF4⟩
      case measure => simp [intOf]; omega
end Go.Proofs.YtnfoblmfjldheaaDoor
