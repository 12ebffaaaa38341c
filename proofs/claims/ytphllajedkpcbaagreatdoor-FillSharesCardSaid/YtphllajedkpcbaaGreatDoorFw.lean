/-
  The document's check of what is shared, of weights and caps, is the program's. Condition: at most a hundred weights and caps.
-/
import Derived.Test.YtphllajedkpcbaaGreatDoorFv
namespace Go.Proofs.YtphllajedkpcbaaGreatDoor
open Go.RowKit Go.Dig Go.Shelf Go.Proofs Go.Rq

theorem any_take {φ : Int → Bool} {l : List Int} {k : Nat} (h : k < l.length) (hn : (l.take k).any φ = false) : (l.take (k + 1)).any φ = φ (l.getD k 0) := by
  rw [List.take_add_one, List.any_append, hn]
  simp [List.getD_eq_getElem?_getD, List.getElem?_eq_getElem h]
theorem any_of_at {φ : Int → Bool} {l : List Int} {k : Nat} (h : k < l.length) (hp : φ (l.getD k 0) = true) : l.any φ = true :=
  List.any_eq_true.2 ⟨_, getD_mem h, hp⟩
theorem sum_take {l : List Int} {k : Nat} (h : k < l.length) : (l.take (k + 1)).sum = (l.take k).sum + l.getD k 0 := by
  rw [List.take_add_one, List.sum_append]
  simp [List.getD_eq_getElem?_getD, List.getElem?_eq_getElem h]
set_option maxRecDepth 100000 in
set_option maxHeartbeats 4000000 in
theorem wrong_len (p q a b : Sl) (x : Rat) (ws cs : List Int) (w : World) (_hx : RK w p q x) (ha : RI w a ws) (hc : RI w b cs) (hne : ws.length ≠ cs.length) :
    Calls Tryz.prog 28 #[.agg #[.slice p.a p.n p.c, .slice q.a q.n q.c], .slice a.a a.n a.c, .slice b.a b.n b.c] w fun e w' => e = .returned (.int .i64 17) ∧ Below w.heap.size w w' := by
  have ea := ha.len
  have ec := hc.len
  have hne2 : ((a.n : Int) == (b.n : Int)) = false := by rw [ea, ec]; simp; omega
  have hne3 : ¬ a.n = b.n := by omega
  clear ha hc _hx
  go_enter Tryz.func28, Tryz.ntmps28
  go_wp2_with fail
  go_ret
  exact ⟨rfl, (Below.refl _ _).alloc (Nat.le_refl _) _⟩

set_option maxRecDepth 100000 in
set_option maxHeartbeats 4000000 in
theorem wrong_full (p q a b : Sl) (x : Rat) (ws cs : List Int) (w : World) (_hx : RK w p q x) (ha : RI w a ws) (hc : RI w b cs) (he : cs.length = ws.length) (hf : 32 < ws.length) :
    Calls Tryz.prog 28 #[.agg #[.slice p.a p.n p.c, .slice q.a q.n q.c], .slice a.a a.n a.c, .slice b.a b.n b.c] w fun e w' => e = .returned (.int .i64 6) ∧ Below w.heap.size w w' := by
  have ea := ha.len
  have ec := hc.len
  have en : b.n = a.n := by omega
  rw [en]
  have h32 : (32 : Int) < (a.n : Int) := by omega
  clear ha hc _hx ea ec en
  go_enter Tryz.func28, Tryz.ntmps28
  go_wp2_with fail
  go_ret
  exact ⟨rfl, (Below.refl _ _).alloc (Nat.le_refl _) _⟩

set_option maxRecDepth 100000 in
set_option maxHeartbeats 4000000 in
theorem wrong_rest (p q a b : Sl) (x : Rat) (ws cs : List Int) (w : World) (hx : RK w p q x) (ha : RI w a ws) (hc : RI w b cs) (he : cs.length = ws.length) (hf : ws.length ≤ 32) :
    Calls Tryz.prog 28 #[.agg #[.slice p.a p.n p.c, .slice q.a q.n q.c], .slice a.a a.n a.c, .slice b.a b.n b.c] w fun e w' => e = .returned (.int .i64 (errOf x ws cs)) ∧ Below w.heap.size w w' := by
  obtain ⟨aa, an, al⟩ := a
  obtain ⟨ba, bn, bl⟩ := b
  have ea := ha.len
  have ec := hc.len
  dsimp only at ea ec
  rw [he] at ec
  subst ea ec
  dsimp only
  have h32 : ¬ (32 : Int) < (ws.length : Int) := by omega
  go_enter Tryz.func28, Tryz.ntmps28
  have hb : Below w.heap.size w (w.alloc (.cells #[.slice p.a p.n p.c, .slice q.a q.n q.c] 32)) := ((Below.refl _ _).alloc (Nat.le_refl _) _)
  replace hx := hx.below hb
  replace ha := ha.below hb
  replace hc := hc.below hb
  have hB := hb
  have P1 : Pair (w.alloc (.cells #[.slice p.a p.n p.c, .slice q.a q.n q.c] 32)) (w.heap.size) 32 (.slice p.a p.n p.c) (.slice q.a q.n q.c) := by
    have h := Pair.new w 32 (.slice p.a p.n p.c) (.slice q.a q.n q.c)
    simpa only [World.size_alloc] using h
  clear hb
  have c0P1 := P1.c0
  have c1P1 := P1.c1
  go_wp2_with fail
  clear c0P1 c1P1
  refine (?_ : ∀ (z0 z4 z5 z8 z9 z10 z11 z12 z13 z14 z15 z16 z17 z18 z21 z22 z23 z24 z25 z26 z27 z28 z29 z30 z31 z32 z33 z34 z35 z36 z37 z38 z39 z40 z41 z42 z43 z44 z45 z46 z47 z48 z49 z50 z51 z52 z53 z54 z55 z56 z57 z58 z59 z60 z61 z62 z63 z64 : Value), Code.wp _ _ _ { tmps := List.toArray (z0 :: .slice aa ws.length al :: .slice ba ws.length bl :: .pointer (some ⟨w.heap.size, 0, none⟩) :: z4 :: z5 :: .int .i64 0 :: .int .i64 0 :: z8 :: z9 :: z10 :: z11 :: z12 :: z13 :: z14 :: z15 :: z16 :: z17 :: z18 :: .int .i64 (ws.length : Int) :: .int .i64 0 :: z21 :: z22 :: z23 :: z24 :: z25 :: z26 :: z27 :: z28 :: z29 :: z30 :: z31 :: z32 :: z33 :: z34 :: z35 :: z36 :: z37 :: z38 :: z39 :: z40 :: z41 :: z42 :: z43 :: z44 :: z45 :: z46 :: z47 :: z48 :: z49 :: z50 :: z51 :: z52 :: z53 :: z54 :: z55 :: z56 :: z57 :: z58 :: z59 :: z60 :: z61 :: z62 :: z63 :: z64 :: []), defers := [] } _) _ _ _ _ _ _ _ _ _ _ _ _ _ _ _ _ _ _ _ _ _ _ _ _ _ _ _ _ _ _ _ _ _ _ _ _ _ _ _ _ _ _ _ _ _ _ _ _ _ _ _ _ _ _ _ _ _ _
  intro z0 z4 z5 z8 z9 z10 z11 z12 z13 z14 z15 z16 z17 z18 z21 z22 z23 z24 z25 z26 z27 z28 z29 z30 z31 z32 z33 z34 z35 z36 z37 z38 z39 z40 z41 z42 z43 z44 z45 z46 z47 z48 z49 z50 z51 z52 z53 z54 z55 z56 z57 z58 z59 z60 z61 z62 z63 z64
  go_loopw [20] (fun i wr => ∃ k : Nat, k ≤ ws.length ∧ i = .int .i64 (k : Int) ∧ Hid ((ws.take k).any noW = false) ∧ Hid (Pair wr (w.heap.size) 32 (.slice p.a p.n p.c) (.slice q.a q.n q.c)) ∧ Hid (RK wr p q x) ∧ Hid (RI wr ⟨aa, ws.length, al⟩ ws) ∧ Hid (RI wr ⟨ba, ws.length, bl⟩ cs) ∧ Hid (Below w.heap.size w wr)) (fun mi _ => ws.length - (intOf mi).toNat)
  case atStart => exact ⟨0, Nat.zero_le _, rfl, Lib.hid (by simp), Lib.hid P1, Lib.hid hx, Lib.hid ha, Lib.hid hc, Lib.hid hB⟩
  case round =>
    clear P1 hx ha hc hB
    obtain ⟨k, hk, rfl, HNW, HPL, Hhx, Hha, Hhc, HBB⟩ := hrel
    have PL := HPL.out
    have hx := Hhx.out
    have ha := Hha.out
    have hc := Hhc.out
    have hB := HBB.out
    clear HPL Hhx Hha Hhc HBB
    by_cases hlt : k < ws.length
    · skip
      obtain ⟨b2, o2, ea, _, hcell⟩ := ha.open (by intro e; rw [e] at hlt; simp at hlt)
      dsimp only at ea
      subst ea
      have c1 := hcell k hlt
      clear hcell
      have HAT := Lib.hid (any_take (φ := noW) hlt HNW.out)
      have HOF := Lib.hid (fun h => any_of_at (φ := noW) hlt h)
      generalize ws.getD k 0 = z at c1 HAT HOF
      by_cases h1 : z < 1
      · skip
        have HR : Hid (errOf x ws cs = 13) := Lib.hid (by unfold errOf; rw [if_neg (by omega), if_neg (by omega), if_pos (HOF.out (by simp [noW]; omega))])
        clear PL hx ha hc
        go_wp2_with fail
        go_ret
        exact ⟨by rw [HR.out]; rfl, hB⟩
      · skip
        by_cases h2 : 10000 < z
        · skip
          have HR : Hid (errOf x ws cs = 13) := Lib.hid (by unfold errOf; rw [if_neg (by omega), if_neg (by omega), if_pos (HOF.out (by simp [noW]; omega))])
          clear PL hx ha hc
          go_wp2_with fail
          go_ret
          exact ⟨by rw [HR.out]; rfl, hB⟩
        · skip
          have HN2 : Hid ((ws.take (k + 1)).any noW = false) := Lib.hid (by rw [HAT.out]; simp [noW]; omega)
          go_wp2_with fail
          go_round
          case rel => exact ⟨k + 1, by omega, by go_num, HN2, Lib.hid PL, Lib.hid hx, Lib.hid ha, Lib.hid hc, Lib.hid hB⟩
          case measure => simp [intOf]; omega
    · skip
      have HNA : Hid (ws.any noW = false) := Lib.hid (by have h := HNW.out; rw [List.take_of_length_le (by omega)] at h; exact h)
      clear HNW
      go_wp2_with fail
      refine (?_ : ∀ (z0 z4 z5 z8 z9 z10 z11 z12 z13 z14 z15 z16 z17 z18 z19 z20 z21 z22 z23 z24 z25 z26 z27 z28 z29 z30 z31 z32 z33 z34 z35 z36 z39 z40 z41 z42 z43 z44 z45 z46 z47 z48 z49 z50 z51 z52 z53 z54 z55 z56 z57 z58 z59 z60 z61 z62 z63 z64 : Value), Code.wp _ _ _ { tmps := List.toArray (z0 :: .slice aa ws.length al :: .slice ba ws.length bl :: .pointer (some ⟨w.heap.size, 0, none⟩) :: z4 :: z5 :: u6 :: .int .i64 0 :: z8 :: z9 :: z10 :: z11 :: z12 :: z13 :: z14 :: z15 :: z16 :: z17 :: z18 :: z19 :: z20 :: z21 :: z22 :: z23 :: z24 :: z25 :: z26 :: z27 :: z28 :: z29 :: z30 :: z31 :: z32 :: z33 :: z34 :: z35 :: z36 :: .int .i64 (ws.length : Int) :: .int .i64 0 :: z39 :: z40 :: z41 :: z42 :: z43 :: z44 :: z45 :: z46 :: z47 :: z48 :: z49 :: z50 :: z51 :: z52 :: z53 :: z54 :: z55 :: z56 :: z57 :: z58 :: z59 :: z60 :: z61 :: z62 :: z63 :: z64 :: []), defers := [] } _) _ _ _ _ _ _ _ _ _ _ _ _ _ _ _ _ _ _ _ _ _ _ _ _ _ _ _ _ _ _ _ _ _ _ _ _ _ _ _ _ _ _ _ _ _ _ _ _ _ _ _ _ _ _ _ _ _ _
      intro z0 z4 z5 z8 z9 z10 z11 z12 z13 z14 z15 z16 z17 z18 z19 z20 z21 z22 z23 z24 z25 z26 z27 z28 z29 z30 z31 z32 z33 z34 z35 z36 z39 z40 z41 z42 z43 z44 z45 z46 z47 z48 z49 z50 z51 z52 z53 z54 z55 z56 z57 z58 z59 z60 z61 z62 z63 z64
      go_loopw [7, 38] (fun o i wr => ∃ k : Nat, k ≤ ws.length ∧ i = .int .i64 (k : Int) ∧ o = .int .i64 (cs.take k).sum ∧ 0 ≤ (cs.take k).sum ∧ (cs.take k).sum ≤ 64 * (k : Int) ∧ Hid ((cs.take k).any noC = false) ∧ Hid (Pair wr (w.heap.size) 32 (.slice p.a p.n p.c) (.slice q.a q.n q.c)) ∧ Hid (RK wr p q x) ∧ Hid (RI wr ⟨aa, ws.length, al⟩ ws) ∧ Hid (RI wr ⟨ba, ws.length, bl⟩ cs) ∧ Hid (Below w.heap.size w wr)) (fun _ mi _ => ws.length - (intOf mi).toNat)
      case atStart => exact ⟨0, Nat.zero_le _, rfl, by simp, by simp, by simp, Lib.hid (by simp), Lib.hid PL, Lib.hid hx, Lib.hid ha, Lib.hid hc, Lib.hid hB⟩
      case round =>
        clear hlt hk
        clear PL hx ha hc hB
        obtain ⟨k, hk, rfl, rfl, hs0, hs1, HNC, HPL, Hhx, Hha, Hhc, HBB⟩ := hrel
        have PL := HPL.out
        have hx := Hhx.out
        have ha := Hha.out
        have hc := Hhc.out
        have hB := HBB.out
        clear HPL Hhx Hha Hhc HBB
        by_cases hlt : k < ws.length
        · skip
          have hlc : k < cs.length := by omega
          obtain ⟨b2, o2, ec, _, hcell⟩ := hc.open (by intro e; rw [e] at hlc; simp at hlc)
          dsimp only at ec
          subst ec
          have c1 := hcell k hlc
          clear hcell
          have HAT := Lib.hid (any_take (φ := noC) hlc HNC.out)
          have HOF := Lib.hid (fun h => any_of_at (φ := noC) hlc h)
          have HSM := Lib.hid (sum_take hlc)
          generalize cs.getD k 0 = z at c1 HAT HOF HSM
          generalize hsm : (cs.take k).sum = sm at hs0 hs1 HSM ⊢
          by_cases h1 : z < 0
          · skip
            have HR : Hid (errOf x ws cs = 14) := Lib.hid (by unfold errOf; rw [if_neg (by omega), if_neg (by omega), if_neg (by rw [HNA.out]; simp), if_pos (HOF.out (by simp [noC]; omega))])
            clear PL hx ha hc hsm
            go_wp2_with fail
            go_ret
            exact ⟨by rw [HR.out]; rfl, hB⟩
          · skip
            by_cases h2 : 64 < z
            · skip
              have HR : Hid (errOf x ws cs = 14) := Lib.hid (by unfold errOf; rw [if_neg (by omega), if_neg (by omega), if_neg (by rw [HNA.out]; simp), if_pos (HOF.out (by simp [noC]; omega))])
              clear PL hx ha hc hsm
              go_wp2_with fail
              go_ret
              exact ⟨by rw [HR.out]; rfl, hB⟩
            · skip
              have HN2 : Hid ((cs.take (k + 1)).any noC = false) := Lib.hid (by rw [HAT.out]; simp [noC]; omega)
              have HSS := Lib.hid HSM.out
              clear hsm
              go_wp2_with fail
              go_round
              case rel => exact ⟨k + 1, by omega, by go_num, by rw [HSS.out], by rw [HSS.out]; omega, by rw [HSS.out]; omega, HN2, Lib.hid PL, Lib.hid hx, Lib.hid ha, Lib.hid hc, Lib.hid hB⟩
              case measure => simp [intOf]; omega
        · skip
          have ek : k = ws.length := by omega
          have HCA : Hid (cs.any noC = false) := Lib.hid (by have h := HNC.out; rw [List.take_of_length_le (by omega)] at h; exact h)
          have hsm : cs.sum = (cs.take k).sum := by rw [List.take_of_length_le (by omega)]
          rw [← hsm] at hs0 hs1 ⊢
          obtain ⟨sm, hsn⟩ : ∃ n : Nat, cs.sum = (n : Int) := ⟨cs.sum.toNat, by omega⟩
          rw [hsn] at hs0 hs1 ⊢
          have hsm2 : sm ≤ 1000000 := by omega
          have HSN := Lib.hid hsn
          clear hsm hsn HNC
          have HER : Hid (errOf x ws cs = if (sm : Rat) < x then 14 else 0) := Lib.hid (by unfold errOf; rw [if_neg (by omega), if_neg (by omega), if_neg (by rw [HNA.out]; simp), if_neg (by rw [HCA.out]; simp), HSN.out, Int.toNat_natCast])
          go_wp2_with fail
          refine (?_ : ∀ (z0 z1 z2 z4 z5 z8 z9 z10 z11 z12 z13 z14 z15 z16 z17 z18 z19 z20 z21 z22 z23 z24 z25 z26 z27 z28 z29 z30 z31 z32 z33 z34 z35 z36 z37 z38 z39 z40 z41 z42 z43 z44 z45 z46 z47 z48 z49 z50 z51 z52 z53 z54 z55 z56 z57 z58 z59 z60 z61 z62 z63 z64 : Value), Code.wp _ _ _ { tmps := List.toArray (z0 :: z1 :: z2 :: .pointer (some ⟨w.heap.size, 0, none⟩) :: z4 :: z5 :: u6 :: .int .i64 (sm : Int) :: z8 :: z9 :: z10 :: z11 :: z12 :: z13 :: z14 :: z15 :: z16 :: z17 :: z18 :: z19 :: z20 :: z21 :: z22 :: z23 :: z24 :: z25 :: z26 :: z27 :: z28 :: z29 :: z30 :: z31 :: z32 :: z33 :: z34 :: z35 :: z36 :: z37 :: z38 :: z39 :: z40 :: z41 :: z42 :: z43 :: z44 :: z45 :: z46 :: z47 :: z48 :: z49 :: z50 :: z51 :: z52 :: z53 :: z54 :: z55 :: z56 :: z57 :: z58 :: z59 :: z60 :: z61 :: z62 :: z63 :: z64 :: []), defers := [] } _) _ _ _ _ _ _ _ _ _ _ _ _ _ _ _ _ _ _ _ _ _ _ _ _ _ _ _ _ _ _ _ _ _ _ _ _ _ _ _ _ _ _ _ _ _ _ _ _ _ _ _ _ _ _ _ _ _ _ _ _ _ _
          intro z0 z1 z2 z4 z5 z8 z9 z10 z11 z12 z13 z14 z15 z16 z17 z18 z19 z20 z21 z22 z23 z24 z25 z26 z27 z28 z29 z30 z31 z32 z33 z34 z35 z36 z37 z38 z39 z40 z41 z42 z43 z44 z45 z46 z47 z48 z49 z50 z51 z52 z53 z54 z55 z56 z57 z58 z59 z60 z61 z62 z63 z64
          have c0PL := PL.c0
          have c1PL := PL.c1
          go_wp2_with fail
          clear c0PL c1PL
          have hb : Below wr.heap.size wr wr.drew := (Below.refl _ _).drew
          replace PL := PL.below hb
          replace hx := hx.below hb
          replace hB := hB.trans (hb.mono hB.size)
          clear hb
          refine Rd.regionT (fun X => Pair X (w.heap.size) 32 (.slice p.a p.n p.c) (.slice q.a q.n q.c)) [0, 1, 4] (.one 0 (.one 1 (.one 2 (.one 3 (.one 4 .done))))) (fun ac W => ∃ (T : Bool) (y60 y61 y62 y63 : Value), ac = { tmps := List.toArray (z0 :: z1 :: z2 :: .pointer (some ⟨w.heap.size, 0, none⟩) :: z4 :: z5 :: u6 :: .int .i64 (sm : Int) :: z8 :: z9 :: z10 :: z11 :: z12 :: z13 :: z14 :: z15 :: z16 :: z17 :: z18 :: z19 :: z20 :: z21 :: z22 :: z23 :: z24 :: z25 :: z26 :: z27 :: z28 :: z29 :: z30 :: z31 :: z32 :: z33 :: z34 :: z35 :: z36 :: z37 :: z38 :: z39 :: z40 :: z41 :: z42 :: z43 :: z44 :: z45 :: z46 :: z47 :: z48 :: z49 :: z50 :: z51 :: z52 :: z53 :: z54 :: z55 :: z56 :: z57 :: z58 :: z59 :: y60 :: y61 :: y62 :: y63 :: .bool T :: []), defers := [] } ∧ T = decide ((sm : Rat) < x) ∧ Below w.heap.size w W) (by kernel_rfl) (by kernel_rfl) (by kernel_rfl) PL ?tree ?next
          case tree =>
            generalize wr.drew = w2 at PL hx hB ⊢
            refine Rd.tr_float (.agg #[.slice p.a p.n p.c, .slice q.a q.n q.c]) (by simp only [List.getElem?_toArray, List.getElem?_cons_zero]; rfl) rfl (by rfl) (fun X hX => by have h0 := hX.c0; have h1 := hX.c1; go_simp) ?_
            simp only [Act.put, List.setIfInBounds_toArray, List.set_cons_succ, List.set_cons_zero]
            refine Rd.tr_float (.int .i64 (sm : Int)) (by simp only [List.getElem?_toArray, List.getElem?_cons_succ, List.getElem?_cons_zero]; rfl) rfl (by rfl) (fun X _ => by go_simp) ?_
            simp only [Act.put, List.setIfInBounds_toArray, List.set_cons_succ, List.set_cons_zero]
            refine Rd.tr_move (by simp only [List.getElem?_toArray, List.getElem?_cons_succ, List.getElem?_cons_zero]; rfl) rfl (by rfl) (fun K hK => ?_)
            have H5 := Lib.hid (Kint (sm) (by omega) w2)
            go_simp
            refine H5.out.mono ?_
            rintro e w6 ⟨x3, y4, rfl, rx3, hb⟩
            clear H5
            replace PL := PL.below hb
            replace hx := hx.below hb
            replace hB := hB.trans (hb.mono hB.size)
            clear hb
            refine hK _ _ PL ?_
            clear hK K
            refine Rd.tr_move (by simp only [List.getElem?_toArray, List.getElem?_cons_succ, List.getElem?_cons_zero]; rfl) rfl (by rfl) (fun K hK => ?_)
            have H7 := Lib.hid (Kcmp p q x3 y4 (x) (((sm : Nat) : Rat)) w6 hx rx3)
            go_simp
            refine H7.out.mono ?_
            rintro e w8 ⟨rfl, hb⟩
            clear H7
            replace PL := PL.below hb
            replace hx := hx.below hb
            replace rx3 := rx3.below hb
            replace hB := hB.trans (hb.mono hB.size)
            clear hb
            refine hK _ _ PL ?_
            clear hK K
            refine Rd.tr_float (.bool (decide (0 < (cmpQ (x) (((sm : Nat) : Rat)))))) (by simp only [List.getElem?_toArray, List.getElem?_cons_succ, List.getElem?_cons_zero]; rfl) rfl (by rfl) (fun X _ => by go_simp) ?_
            simp only [Act.put, List.setIfInBounds_toArray, List.set_cons_succ, List.set_cons_zero]
            exact Rd.tr_end (⟨_, _, _, _, _, rfl, (by simp only [cmpQ_gt]), hB⟩)
          case next =>
            rintro a10 W9 ⟨T, y60, y61, y62, y63, rfl, hT, hB⟩
            by_cases h5 : (sm : Rat) < x
            · skip
              rw [decide_eq_true h5] at hT
              subst hT
              have HR : Hid (errOf x ws cs = 14) := Lib.hid (by rw [HER.out, if_pos h5])
              clear h5
              go_wp2_with fail
              go_ret
              exact ⟨by rw [HR.out]; rfl, hB⟩
            · skip
              rw [decide_eq_false h5] at hT
              subst hT
              have HR : Hid (errOf x ws cs = 0) := Lib.hid (by rw [HER.out, if_neg h5])
              clear h5
              go_wp2_with fail
              go_ret
              exact ⟨by rw [HR.out]; rfl, hB⟩

theorem Wrong_any (p q a b : Sl) (x : Rat) (ws cs : List Int) (w : World) (hx : RK w p q x) (ha : RI w a ws) (hc : RI w b cs) :
    Calls Tryz.prog 28 #[.agg #[.slice p.a p.n p.c, .slice q.a q.n q.c], .slice a.a a.n a.c, .slice b.a b.n b.c] w fun e w' => e = .returned (.int .i64 (errOf x ws cs)) ∧ Below w.heap.size w w' := by
  by_cases h1 : ws.length ≠ cs.length
  · have h : errOf x ws cs = 17 := by unfold errOf; rw [if_pos h1]
    rw [h]
    exact wrong_len p q a b x ws cs w hx ha hc h1
  · by_cases h2 : 32 < ws.length
    · have h : errOf x ws cs = 6 := by unfold errOf; rw [if_neg h1, if_pos h2]
      rw [h]
      exact wrong_full p q a b x ws cs w hx ha hc (by omega) h2
    · exact wrong_rest p q a b x ws cs w hx ha hc (by omega) (by omega)
end Go.Proofs.YtphllajedkpcbaaGreatDoor
