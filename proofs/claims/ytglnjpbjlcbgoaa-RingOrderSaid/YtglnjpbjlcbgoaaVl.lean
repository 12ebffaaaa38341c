/-
  The document's put, Push, Behind, Drop, New. Condition: no node is in two places.
-/
import Derived.Test.YtglnjpbjlcbgoaaVk
namespace Go.Proofs.Ytglnjpbjlcbgoaa
open Go.RowKit

theorem RowO.lit (w : World) (B x : Nat) (hB : B ≤ w.heap.size) : RowO (w.alloc (.cells #[.int .i64 (x : Int)] 3)) B (.slice (some ⟨w.heap.size, 0, none⟩) 1 1) [x] := World.ownsRow_lit w #[.int .i64 (x : Int)] 1 hB (by unfold maxLen; omega) rfl
set_option maxRecDepth 100000 in
set_option maxHeartbeats 4000000 in
theorem rput_any (B N : Nat) (dv : Value) (ls : List (List Nat)) (k i x : Nat) (w : World) (h : Doc w B dv ls) (hB0 : B ≤ w.heap.size) (ok : OkL N ls) (hk : k < ls.length) (hi : i ≤ (row ls k).length) :
    Calls Try.prog 38 #[.agg #[.int .i64 (N : Int), dv], .int .i64 (k : Int), .int .i64 (i : Int), .int .i64 (x : Int)] w fun e w' => (∃ v', e = .returned v' ∧ RV w' B N v' (insL ls k i x)) ∧ Below w.heap.size w w' := by
  have hx0 := (IsT.new w (N : Int) dv).alloc (.cells #[.int .i64 0, .slice none 0 0] 30)
  have hZ0 : IsT ((w.alloc (.cells #[.int .i64 (N : Int), dv] 30)).alloc (.cells #[.int .i64 0, .slice none 0 0] 30)) (w.heap.size + 1) 0 (.slice none 0 0) := by
    have := IsT.new (w.alloc (.cells #[.int .i64 (N : Int), dv] 30)) 0 (.slice none 0 0)
    simpa using this
  have hb : Below w.heap.size w ((w.alloc (.cells #[.int .i64 (N : Int), dv] 30)).alloc (.cells #[.int .i64 0, .slice none 0 0] 30)) := ((Below.refl _ w).alloc (Nat.le_refl _) _).alloc (by simp) _
  have hsz : ((w.alloc (.cells #[.int .i64 (N : Int), dv] 30)).alloc (.cells #[.int .i64 0, .slice none 0 0] 30)).heap.size = w.heap.size + 2 := by simp
  have HD := Lib.hid (h.below hb)
  have hm := ok.m64
  have hl64 := ok.len64 k
  obtain ⟨ad, cd, rfl⟩ := h.sl
  obtain ⟨bd, ao, co, rfl, hbd, hcd, hlc, hcm, hro⟩ := HD.out.at hk
  have HI : Hid (insL ls k i x = ls.set k ((row ls k).take i ++ ([x] ++ (row ls k).drop i))) := Lib.hid rfl
  have HRO := Lib.hid hro
  clear h ok hro
  generalize row ls k = L at *
  have hx1 := hx0.c1
  have HS1 := Lib.hid (head_src HRO.out hi)
  have HS2 := Lib.hid (tail_src HRO.out hi)
  have HF := Lib.hid (RowO.form HRO.out hi)
  generalize hvt : Value.slice (if co = i then ao else ao.map fun p => p.add i) (L.length - i) (co - i) = VT at HS2
  have HV : Hid (VT = .slice (if co = i then ao else ao.map fun p => p.add i) (L.length - i) (co - i)) := Lib.hid hvt.symm
  clear hvt
  go_enter Try.func38, Try.ntmps38
  go_wp2_with (first | (refine wpList_alloc30 rfl rfl ?_))
  generalize ((w.alloc (.cells #[.int .i64 (N : Int), .slice (some ⟨bd, 0, none⟩) ls.length cd] 30)).alloc (.cells #[.int .i64 0, .slice none 0 0] 30)) = w3 at *
  have s3 := Same.drew w3
  have hx := hx0.sm s3
  have hZ := hZ0.sm s3
  replace hb := hb.trans (s3.below _)
  have hs4 : w.heap.size + 2 ≤ w3.drew.heap.size := by rw [s3.size, hsz]; exact Nat.le_refl _
  have HD4 := Lib.hid (HD.out.sm s3)
  have HS14 := Lib.hid (HS1.out.below (s3.below _))
  have HS24 := Lib.hid (HS2.out.below (s3.below _))
  refine Rd.regionT (fun X => IsT X w.heap.size (N : Int) (.slice (some ⟨bd, 0, none⟩) ls.length cd)) [0, 1, 3, 4, 5, 7, 10, 11, 12] ((.one 0 (.one 1 (.one 3 (.one 4 (.one 5 (.one 7 (.one 10 (.one 11 (.one 12 (.two 2 (.two 6 (.one 8 (.one 9 (.one 13 (.one 14 (.one 15 .done))))) 8 (.one 6 (.one 9 (.one 13 (.one 14 (.one 15 .done)))))) 8 (.one 2 (.one 6 (.one 9 (.one 13 (.one 14 (.one 15 .done))))))))))))))))) _ (by kernel_rfl) (by kernel_rfl) (by kernel_rfl) hx ?_ (fun _ _ h => h)
  clear hx0 hZ0 HD HS1 HS2 hcd hx1 HRO s3 hsz
  generalize w3.drew = w4 at *
  have HD := HD4
  have HS1 := HS14
  have HS2 := HS24
  clear HD4 HS14 HS24
  have hB := Below.refl w4.heap.size w4
  refine Rd.tr_float (.agg #[.int .i64 (N : Int), .slice (some ⟨bd, 0, none⟩) ls.length cd]) (by simp only [List.getElem?_toArray, List.getElem?_cons_zero]; rfl) rfl (by rfl) (fun X hX => run_load30 rfl rfl hX) ?_
  simp only [Act.put, List.setIfInBounds_toArray, List.set_cons_succ, List.set_cons_zero]
  refine Rd.tr_float (.int .i64 (k : Int)) (by simp only [List.getElem?_toArray, List.getElem?_cons_succ, List.getElem?_cons_zero]; rfl) rfl (by rfl) (fun X _ => by go_simp) ?_
  simp only [Act.put, List.setIfInBounds_toArray, List.set_cons_succ, List.set_cons_zero]
  refine Rd.tr_float (.slice ao L.length co) (by simp only [List.getElem?_toArray, List.getElem?_cons_succ, List.getElem?_cons_zero]; rfl) rfl (by rfl) (fun X _ => by go_simp) ?_
  simp only [Act.put, List.setIfInBounds_toArray, List.set_cons_succ, List.set_cons_zero]
  refine Rd.tr_float (.int .i64 (i : Int)) (by simp only [List.getElem?_toArray, List.getElem?_cons_succ, List.getElem?_cons_zero]; rfl) rfl (by rfl) (fun X _ => by go_simp) ?_
  simp only [Act.put, List.setIfInBounds_toArray, List.set_cons_succ, List.set_cons_zero]
  refine Rd.tr_float (.slice ao i co) (by simp only [List.getElem?_toArray, List.getElem?_cons_succ, List.getElem?_cons_zero]; rfl) rfl (by rfl) (fun X _ => by rcases HF.out with ⟨rfl, rfl, h1, rfl⟩ | ⟨⟨g, rfl⟩, h1, h2, h3⟩ <;> go_simp) ?_
  simp only [Act.put, List.setIfInBounds_toArray, List.set_cons_succ, List.set_cons_zero]
  refine Rd.tr_float (.int .i64 (x : Int)) (by simp only [List.getElem?_toArray, List.getElem?_cons_succ, List.getElem?_cons_zero]; rfl) rfl (by rfl) (fun X _ => by go_simp) ?_
  simp only [Act.put, List.setIfInBounds_toArray, List.set_cons_succ, List.set_cons_zero]
  refine Rd.tr_float (.slice ao L.length co) (by simp only [List.getElem?_toArray, List.getElem?_cons_succ, List.getElem?_cons_zero]; rfl) rfl (by rfl) (fun X _ => by go_simp) ?_
  simp only [Act.put, List.setIfInBounds_toArray, List.set_cons_succ, List.set_cons_zero]
  refine Rd.tr_float (.int .i64 (i : Int)) (by simp only [List.getElem?_toArray, List.getElem?_cons_succ, List.getElem?_cons_zero]; rfl) rfl (by rfl) (fun X _ => by go_simp) ?_
  simp only [Act.put, List.setIfInBounds_toArray, List.set_cons_succ, List.set_cons_zero]
  refine Rd.tr_float (VT) (by simp only [List.getElem?_toArray, List.getElem?_cons_succ, List.getElem?_cons_zero]; rfl) rfl (by rfl) (fun X _ => by rw [HV.out]; rcases HF.out with ⟨rfl, rfl, h1, rfl⟩ | ⟨⟨g, rfl⟩, h1, h2, h3⟩; (go_simp); (by_cases hcj : co = i <;> go_simp)) ?_
  simp only [Act.put, List.setIfInBounds_toArray, List.set_cons_succ, List.set_cons_zero]
  refine Rd.tr_two (by simp only [List.getElem?_toArray, List.getElem?_cons_succ, List.getElem?_cons_zero]; rfl) (by rfl) (by simp only [List.getElem?_toArray, List.getElem?_cons_succ, List.getElem?_cons_zero]; rfl) (by rfl) (fun K hK => ?_) (fun K hK => ?_)
  · go_simp
    have hE := RowV.empty w4 w4.heap.size 3 hB.size
    have hbn : Below w4.heap.size w4 (w4.alloc (.cells #[] 3)) := (Below.refl _ _).alloc (Nat.le_refl _) _
    have hltz1 : w4.heap.size < (w4.alloc (.cells #[] 3)).heap.size := by simp
    replace hB := hB.trans (hbn.mono hB.size)
    clear hbn
    generalize w4.alloc (.cells #[] 3) = z1 at *
    refine hK _ _ (hx.below hB (by omega)) ?_
    clear hK K
    refine Rd.tr_two (by simp only [List.getElem?_toArray, List.getElem?_cons_succ, List.getElem?_cons_zero]; rfl) (by rfl) (by simp only [List.getElem?_toArray, List.getElem?_cons_succ, List.getElem?_cons_zero]; rfl) (by rfl) (fun K hK => ?_) (fun K hK => ?_)
    · refine wp_appendI _ _ rfl w4.heap.size _ _ [] (L.take i) rfl rfl hB.size hE (HS1.out.below hB) (by simp; omega) ?_
      intro v6 z2 h6 gr
      rw [List.nil_append] at h6
      have hbn := grown_below hE hB.size gr
      clear gr
      replace hB := hB.trans hbn
      clear hbn
      refine hK _ _ (hx.below hB (by omega)) ?_
      clear hK K
      refine Rd.tr_move (by simp only [List.getElem?_toArray, List.getElem?_cons_succ, List.getElem?_cons_zero]; rfl) rfl (by rfl) (fun K hK => ?_)
      go_simp
      have hO := RowO.lit z2 w4.heap.size x hB.size
      have hbn : Below z2.heap.size z2 (z2.alloc (.cells #[.int .i64 (x : Int)] 3)) := (Below.refl _ _).alloc (Nat.le_refl _) _
      have hltz3 : z2.heap.size < (z2.alloc (.cells #[.int .i64 (x : Int)] 3)).heap.size := by simp
      replace h6 := h6.below hbn
      replace hB := hB.trans (hbn.mono hB.size)
      clear hbn
      generalize z2.alloc (.cells #[.int .i64 (x : Int)] 3) = z3 at *
      refine hK _ _ (hx.below hB (by omega)) ?_
      clear hK K
      refine Rd.tr_move (by simp only [List.getElem?_toArray, List.getElem?_cons_succ, List.getElem?_cons_zero]; rfl) rfl (by rfl) (fun K hK => ?_)
      refine wp_appendI _ _ rfl w4.heap.size _ _ (L.take i) [x] rfl rfl hB.size h6 hO.src (by simp; omega) ?_
      intro v9 z4 h9 gr
      have hbn := grown_below h6 hB.size gr
      clear gr
      replace hB := hB.trans hbn
      clear hbn
      refine hK _ _ (hx.below hB (by omega)) ?_
      clear hK K
      refine Rd.tr_move (by simp only [List.getElem?_toArray, List.getElem?_cons_succ, List.getElem?_cons_zero]; rfl) rfl (by rfl) (fun K hK => ?_)
      refine wp_appendI _ _ rfl w4.heap.size _ _ (L.take i ++ [x]) (L.drop i) rfl rfl hB.size h9 (HS2.out.below hB) (by simp; omega) ?_
      intro v13 z5 h13 gr
      have hbn := grown_below h9 hB.size gr
      clear gr
      replace hB := hB.trans hbn
      clear hbn
      refine hK _ _ (hx.below hB (by omega)) ?_
      clear hK K
      refine Rd.tr_move (by simp only [List.getElem?_toArray, List.getElem?_cons_succ, List.getElem?_cons_zero]; rfl) rfl (by rfl) (fun K hK => ?_)
      go_simp
      rw [List.append_assoc] at h13
      refine (with_any B N _ v13 ls k (L.take i ++ ([x] ++ L.drop i)) z5 (HD.out.below hB) (by have := hB.size; omega) (h13.mono (by omega)) hk hm).mono ?_
      rintro e z6 ⟨⟨v', rfl, dv', rfl, hd⟩, hb9⟩
      replace hB := hB.trans (hb9.mono hB.size)
      refine hK _ _ (hx.below hB (by omega)) ?_
      clear hK K
      refine Rd.tr_move (by simp only [List.getElem?_toArray, List.getElem?_cons_succ, List.getElem?_cons_zero]; rfl) rfl (by rfl) (fun K hK => ?_)
      refine wp_store30 _ _ rfl (w.heap.size + 1) _ dv' _ _ rfl rfl (hZ.below hB (by omega)) hd.one ?_
      intro z7 hZ9 t9
      refine hK _ _ ((hx.below hB (by omega)).turn t9 (by omega)) ?_
      clear hK K
      refine Rd.tr_end ?_
      go_wp2_with fail
      refine bodyPost_ret (results_c rfl _ z7 (w.heap.size + 1) _ _ rfl hZ9) rfl ?_
      refine ⟨⟨_, rfl, dv', rfl, ?_⟩, ?_⟩
      · rw [HI.out]; exact hd.turn t9 (hZ.below hB (by omega)) (by decide) (by decide)
      · exact (hb.trans (hB.mono (by omega))).trans (t9.below (by omega))
    · go_simp
      have hO := RowO.lit z1 w4.heap.size x hB.size
      have hbn : Below z1.heap.size z1 (z1.alloc (.cells #[.int .i64 (x : Int)] 3)) := (Below.refl _ _).alloc (Nat.le_refl _) _
      have hltz8 : z1.heap.size < (z1.alloc (.cells #[.int .i64 (x : Int)] 3)).heap.size := by simp
      replace hE := hE.below hbn
      replace hB := hB.trans (hbn.mono hB.size)
      clear hbn
      generalize z1.alloc (.cells #[.int .i64 (x : Int)] 3) = z8 at *
      refine hK _ _ (hx.below hB (by omega)) ?_
      clear hK K
      refine Rd.tr_move (by simp only [List.getElem?_toArray, List.getElem?_cons_succ, List.getElem?_cons_zero]; rfl) rfl (by rfl) (fun K hK => ?_)
      refine wp_appendI _ _ rfl w4.heap.size _ _ [] (L.take i) rfl rfl hB.size hE (HS1.out.below hB) (by simp; omega) ?_
      intro v6 z9 h6 gr
      rw [List.nil_append] at h6
      have hbn := grown_below hE hB.size gr
      replace hO := hO.grown gr (by intro q e; have e2 := Option.some.inj e; intro e3; have e4 := Option.some.inj e3; (try dsimp only at e2 e4); omega)
      clear gr
      replace hB := hB.trans hbn
      clear hbn
      refine hK _ _ (hx.below hB (by omega)) ?_
      clear hK K
      refine Rd.tr_move (by simp only [List.getElem?_toArray, List.getElem?_cons_succ, List.getElem?_cons_zero]; rfl) rfl (by rfl) (fun K hK => ?_)
      refine wp_appendI _ _ rfl w4.heap.size _ _ (L.take i) [x] rfl rfl hB.size h6 hO.src (by simp; omega) ?_
      intro v9 z10 h9 gr
      have hbn := grown_below h6 hB.size gr
      clear gr
      replace hB := hB.trans hbn
      clear hbn
      refine hK _ _ (hx.below hB (by omega)) ?_
      clear hK K
      refine Rd.tr_move (by simp only [List.getElem?_toArray, List.getElem?_cons_succ, List.getElem?_cons_zero]; rfl) rfl (by rfl) (fun K hK => ?_)
      refine wp_appendI _ _ rfl w4.heap.size _ _ (L.take i ++ [x]) (L.drop i) rfl rfl hB.size h9 (HS2.out.below hB) (by simp; omega) ?_
      intro v13 z11 h13 gr
      have hbn := grown_below h9 hB.size gr
      clear gr
      replace hB := hB.trans hbn
      clear hbn
      refine hK _ _ (hx.below hB (by omega)) ?_
      clear hK K
      refine Rd.tr_move (by simp only [List.getElem?_toArray, List.getElem?_cons_succ, List.getElem?_cons_zero]; rfl) rfl (by rfl) (fun K hK => ?_)
      go_simp
      rw [List.append_assoc] at h13
      refine (with_any B N _ v13 ls k (L.take i ++ ([x] ++ L.drop i)) z11 (HD.out.below hB) (by have := hB.size; omega) (h13.mono (by omega)) hk hm).mono ?_
      rintro e z12 ⟨⟨v', rfl, dv', rfl, hd⟩, hb9⟩
      replace hB := hB.trans (hb9.mono hB.size)
      refine hK _ _ (hx.below hB (by omega)) ?_
      clear hK K
      refine Rd.tr_move (by simp only [List.getElem?_toArray, List.getElem?_cons_succ, List.getElem?_cons_zero]; rfl) rfl (by rfl) (fun K hK => ?_)
      refine wp_store30 _ _ rfl (w.heap.size + 1) _ dv' _ _ rfl rfl (hZ.below hB (by omega)) hd.one ?_
      intro z13 hZ9 t9
      refine hK _ _ ((hx.below hB (by omega)).turn t9 (by omega)) ?_
      clear hK K
      refine Rd.tr_end ?_
      go_wp2_with fail
      refine bodyPost_ret (results_c rfl _ z13 (w.heap.size + 1) _ _ rfl hZ9) rfl ?_
      refine ⟨⟨_, rfl, dv', rfl, ?_⟩, ?_⟩
      · rw [HI.out]; exact hd.turn t9 (hZ.below hB (by omega)) (by decide) (by decide)
      · exact (hb.trans (hB.mono (by omega))).trans (t9.below (by omega))
  · go_simp
    have hO := RowO.lit w4 w4.heap.size x hB.size
    have hbn : Below w4.heap.size w4 (w4.alloc (.cells #[.int .i64 (x : Int)] 3)) := (Below.refl _ _).alloc (Nat.le_refl _) _
    have hltz14 : w4.heap.size < (w4.alloc (.cells #[.int .i64 (x : Int)] 3)).heap.size := by simp
    replace hB := hB.trans (hbn.mono hB.size)
    clear hbn
    generalize w4.alloc (.cells #[.int .i64 (x : Int)] 3) = z14 at *
    refine hK _ _ (hx.below hB (by omega)) ?_
    clear hK K
    refine Rd.tr_move (by simp only [List.getElem?_toArray, List.getElem?_cons_succ, List.getElem?_cons_zero]; rfl) rfl (by rfl) (fun K hK => ?_)
    go_simp
    have hE := RowV.empty z14 w4.heap.size 3 hB.size
    have hbn : Below z14.heap.size z14 (z14.alloc (.cells #[] 3)) := (Below.refl _ _).alloc (Nat.le_refl _) _
    have hltz15 : z14.heap.size < (z14.alloc (.cells #[] 3)).heap.size := by simp
    replace hO := hO.below hbn
    replace hB := hB.trans (hbn.mono hB.size)
    clear hbn
    generalize z14.alloc (.cells #[] 3) = z15 at *
    refine hK _ _ (hx.below hB (by omega)) ?_
    clear hK K
    refine Rd.tr_move (by simp only [List.getElem?_toArray, List.getElem?_cons_succ, List.getElem?_cons_zero]; rfl) rfl (by rfl) (fun K hK => ?_)
    refine wp_appendI _ _ rfl w4.heap.size _ _ [] (L.take i) rfl rfl hB.size hE (HS1.out.below hB) (by simp; omega) ?_
    intro v6 z16 h6 gr
    rw [List.nil_append] at h6
    have hbn := grown_below hE hB.size gr
    replace hO := hO.grown gr (by intro q e; have e2 := Option.some.inj e; intro e3; have e4 := Option.some.inj e3; (try dsimp only at e2 e4); omega)
    clear gr
    replace hB := hB.trans hbn
    clear hbn
    refine hK _ _ (hx.below hB (by omega)) ?_
    clear hK K
    refine Rd.tr_move (by simp only [List.getElem?_toArray, List.getElem?_cons_succ, List.getElem?_cons_zero]; rfl) rfl (by rfl) (fun K hK => ?_)
    refine wp_appendI _ _ rfl w4.heap.size _ _ (L.take i) [x] rfl rfl hB.size h6 hO.src (by simp; omega) ?_
    intro v9 z17 h9 gr
    have hbn := grown_below h6 hB.size gr
    clear gr
    replace hB := hB.trans hbn
    clear hbn
    refine hK _ _ (hx.below hB (by omega)) ?_
    clear hK K
    refine Rd.tr_move (by simp only [List.getElem?_toArray, List.getElem?_cons_succ, List.getElem?_cons_zero]; rfl) rfl (by rfl) (fun K hK => ?_)
    refine wp_appendI _ _ rfl w4.heap.size _ _ (L.take i ++ [x]) (L.drop i) rfl rfl hB.size h9 (HS2.out.below hB) (by simp; omega) ?_
    intro v13 z18 h13 gr
    have hbn := grown_below h9 hB.size gr
    clear gr
    replace hB := hB.trans hbn
    clear hbn
    refine hK _ _ (hx.below hB (by omega)) ?_
    clear hK K
    refine Rd.tr_move (by simp only [List.getElem?_toArray, List.getElem?_cons_succ, List.getElem?_cons_zero]; rfl) rfl (by rfl) (fun K hK => ?_)
    go_simp
    rw [List.append_assoc] at h13
    refine (with_any B N _ v13 ls k (L.take i ++ ([x] ++ L.drop i)) z18 (HD.out.below hB) (by have := hB.size; omega) (h13.mono (by omega)) hk hm).mono ?_
    rintro e z19 ⟨⟨v', rfl, dv', rfl, hd⟩, hb9⟩
    replace hB := hB.trans (hb9.mono hB.size)
    refine hK _ _ (hx.below hB (by omega)) ?_
    clear hK K
    refine Rd.tr_move (by simp only [List.getElem?_toArray, List.getElem?_cons_succ, List.getElem?_cons_zero]; rfl) rfl (by rfl) (fun K hK => ?_)
    refine wp_store30 _ _ rfl (w.heap.size + 1) _ dv' _ _ rfl rfl (hZ.below hB (by omega)) hd.one ?_
    intro z20 hZ9 t9
    refine hK _ _ ((hx.below hB (by omega)).turn t9 (by omega)) ?_
    clear hK K
    refine Rd.tr_end ?_
    go_wp2_with fail
    refine bodyPost_ret (results_c rfl _ z20 (w.heap.size + 1) _ _ rfl hZ9) rfl ?_
    refine ⟨⟨_, rfl, dv', rfl, ?_⟩, ?_⟩
    · rw [HI.out]; exact hd.turn t9 (hZ.below hB (by omega)) (by decide) (by decide)
    · exact (hb.trans (hB.mono (by omega))).trans (t9.below (by omega))
end Go.Proofs.Ytglnjpbjlcbgoaa
