/-
  Contracts of the forest's fan, Active and levels. Condition: the forest is one.
-/
import Derived.Test.YthndfhkkaichiaaXf
namespace Go.Proofs.Ythndfhkkaichiaa
open Go.RowKit Go.Maps

theorem sum_perm {a b : List Int} (h : a.Perm b) : a.sum = b.sum := by
  induction h with
  | nil => rfl
  | cons x _ ih => simp only [List.sum_cons, ih]
  | swap x y l => simp only [List.sum_cons]; omega
  | trans _ _ h1 h2 => exact h1.trans h2
def aw1 (L : List Gr) (t y : Int) : Int := if belowB L y t = true then (gr L y).aw else 0
def sumA (L : List Gr) (t : Int) (vs : List Int) : Int := (vs.map (aw1 L t)).sum
/-- how many are awake below a group. -/
def actI (L : List Gr) (t : Int) : Int := sumA L t (idsG L)
theorem sumA_cons (L : List Gr) (t y : Int) (vs : List Int) : sumA L t (y :: vs) = aw1 L t y + sumA L t vs := by simp [sumA]
theorem aw1_bound {L : List Gr} {m k : Int} (ok : Ok L m k) (t y : Int) (hy : has L y = true) : 0 ≤ aw1 L t y ∧ aw1 L t y ≤ 1000 := by
  have h1 := ok.num _ (gr_mem hy)
  have h2 := ok.k1
  unfold aw1
  split <;> omega
theorem sumA_bound {L : List Gr} {m k : Int} (ok : Ok L m k) (t : Int) : ∀ (vs : List Int), (∀ y ∈ vs, has L y = true) → 0 ≤ sumA L t vs ∧ sumA L t vs ≤ 1000 * vs.length
  | [], _ => by simp [sumA]
  | y :: vs, h => by
    have h1 := aw1_bound ok t y (h y (by simp))
    have h2 := sumA_bound ok t vs (fun z hz => h z (by simp [hz]))
    rw [sumA_cons, List.length_cons]
    omega
theorem sumA_all {L : List Gr} {m k : Int} (ok : Ok L m k) {vs : List Int} (h : vs.Nodup) (ha : ∀ x, x ∈ vs ↔ has L x = true) (t : Int) : sumA L t vs = actI L t := sum_perm ((all_perm ok h ha).map _)
/-- the deepest of some below x. -/
structure Lv (L : List Gr) (x : Int) (vs : List Int) (v : Int) : Prop where
  up : ∀ y ∈ vs, belowB L y x = true → dep L y - dep L x + 1 ≤ v
  at' : v = 0 ∨ ∃ y ∈ vs, belowB L y x = true ∧ v = dep L y - dep L x + 1
  v0 : 0 ≤ v
theorem Lv.no {L : List Gr} {x y v : Int} {vs : List Int} (h : Lv L x vs v) (hb : belowB L y x = false) : Lv L x (y :: vs) v :=
  ⟨fun z hz hzb => by
    rcases List.mem_cons.1 hz with rfl | hz
    · rw [hb] at hzb; cases hzb
    · exact h.up z hz hzb, by
    rcases h.at' with e | ⟨z, hz, e⟩
    · exact .inl e
    · exact .inr ⟨z, List.mem_cons_of_mem _ hz, e⟩, h.v0⟩
theorem Lv.more {L : List Gr} {x y v : Int} {vs : List Int} (h : Lv L x vs v) (hb : belowB L y x = true) (hv : v < dep L y - dep L x + 1) : Lv L x (y :: vs) (dep L y - dep L x + 1) :=
  ⟨fun z hz hzb => by
    rcases List.mem_cons.1 hz with rfl | hz
    · exact Int.le_refl _
    · have := h.up z hz hzb; omega, .inr ⟨y, by simp, hb, rfl⟩, by have := h.v0; omega⟩
theorem Lv.less {L : List Gr} {x y v : Int} {vs : List Int} (h : Lv L x vs v) (hv : dep L y - dep L x + 1 ≤ v) : Lv L x (y :: vs) v :=
  ⟨fun z hz hzb => by
    rcases List.mem_cons.1 hz with rfl | hz
    · exact hv
    · exact h.up z hz hzb, by
    rcases h.at' with e | ⟨z, hz, e⟩
    · exact .inl e
    · exact .inr ⟨z, List.mem_cons_of_mem _ hz, e⟩, h.v0⟩
theorem Lv.le8 {L : List Gr} {m k x v : Int} {vs : List Int} (ok : Ok L m k) (h : Lv L x vs v) : v ≤ 9 := by
  rcases h.at' with e | ⟨z, _, _, e⟩
  · omega
  · have := ok.dep8 z; have := ok.dep8 x; omega
/-- would a group be too deep? -/
theorem Lv.deep {L : List Gr} {m k x v p : Int} {vs : List Int} (ok : Ok L m k) (h : Lv L x vs v) (ha : ∀ x, x ∈ vs ↔ has L x = true) : decide (8 < dep L p + v) = deepB L x p := by
  unfold deepB
  rw [Bool.eq_iff_iff, decide_eq_true_iff, List.any_eq_true]
  constructor
  · intro hv
    rcases h.at' with e | ⟨z, hz, hb, e⟩
    · have := ok.dep8 p; omega
    · have hz' := (ha z).1 hz
      refine ⟨gr L z, gr_mem hz', ?_⟩
      rw [gr_id hz', Bool.and_eq_true, decide_eq_true_iff]
      exact ⟨hb, by omega⟩
  · rintro ⟨g, hg, hb⟩
    rw [Bool.and_eq_true, decide_eq_true_iff] at hb
    have := h.up g.id ((ha _).2 (has_mem hg)) hb.1
    omega
section
variable (fp B : Nat) (L : List Gr) (l : List Int) (m k : Int)
set_option maxRecDepth 100000 in
set_option maxHeartbeats 4000000 in
theorem fan_any (x : Int) (w : World) (h : IsF w B fp L l m k) (hx : I64 x) (hh : has L x = true) :
    Calls Try.prog 42 #[.pointer (some ⟨fp, 0, none⟩), .int .i64 x] w fun e w' => e = .returned (.int .i64 (fanI L x)) ∧ Below w.heap.size w w' := by
  have HH := Lib.hid h
  obtain ⟨tp, tg, mp, bl, hf, _⟩ := h.fo
  have hne : ¬ x = -1 := by have := h.ok.id hh; omega
  have hn := kids_len L x
  have hn2 := h.ok.n64
  have hme := h.ok.num _ (gr_mem hh)
  have hk := h.ok.k1
  have HF := Lib.hid hf
  have HX : Hid (∀ X, Below w.heap.size w X → X.cell? ⟨bl x, 2, none⟩ = some (.int .i64 (gr L x).me)) := Lib.hid fun X hX => ((hf.below hX).grp x hh).c2
  have HC : Hid (∀ W, Below w.heap.size w W → Calls Try.prog 19 #[.pointer (some ⟨fp, 0, none⟩), .int .i64 x] W fun e w' => (∃ a c, e = .returned (.slice a (kids L x).length c)) ∧ Below w.heap.size w w') := Lib.hid fun W hW => by
    refine (Children_any fp B L l m k x W (h.below hW) hne).mono ?_
    rintro e w' ⟨⟨a, c, rfl, _⟩, hb⟩
    exact ⟨⟨a, c, rfl⟩, Below.stay hW hb⟩
  unfold fanI
  clear h hf
  generalize (kids L x).length = n at *
  obtain ⟨hm1, hm2, hm3, _⟩ := hme
  generalize (gr L x).me = me at *
  have hlo : 0 ≤ me := by omega
  have hhi : me ≤ 1000 := by omega
  have HW : Hid (IntKind.i64.wrap ((n : Int) + me) = (n : Int) + me) := Lib.hid (IntWalk.i64_in _ (by omega))
  clear hm1 hm2 hm3 hk hne
  go_enter Try.func42, Try.ntmps42
  go_wp2_with fail
  have hq : Below w.heap.size w w.drew := (Same.drew w).below _
  refine Rd.region (fun X => Below w.heap.size w X) 15 [0, 1, 4, 5, 6, 7, 8, 9, 10, 11, 12, 3, 13, 14] [0, 1, 4, 5, 6, 7, 8, 9, 10, 11, 12, 2, 3, 13, 14] (by kernel_rfl) (by kernel_rfl) (by kernel_rfl) (by kernel_rfl) rfl hq ?_
  refine Rd.seq_float (.pointer (some ⟨fp, 0, none⟩)) (by simp only [List.getElem?_toArray, List.getElem?_cons_zero]; rfl) rfl (by rfl) (fun X _ => by go_simp) ?_
  simp only [Act.put, List.setIfInBounds_toArray, List.set_cons_succ, List.set_cons_zero]
  refine Rd.seq_float (.int .i64 x) (by simp only [List.getElem?_toArray, List.getElem?_cons_succ, List.getElem?_cons_zero]; rfl) rfl (by rfl) (fun X _ => by go_simp) ?_
  simp only [Act.put, List.setIfInBounds_toArray, List.set_cons_succ, List.set_cons_zero]
  refine Rd.seq_float (.pointer (some ⟨fp, 0, none⟩)) (by simp only [List.getElem?_toArray, List.getElem?_cons_succ, List.getElem?_cons_zero]; rfl) rfl (by rfl) (fun X _ => by go_simp) ?_
  simp only [Act.put, List.setIfInBounds_toArray, List.set_cons_succ, List.set_cons_zero]
  refine Rd.seq_float (.pointer (some ⟨fp, 0, none⟩)) (by simp only [List.getElem?_toArray, List.getElem?_cons_succ, List.getElem?_cons_zero]; rfl) rfl (by rfl) (fun X _ => by go_simp) ?_
  simp only [Act.put, List.setIfInBounds_toArray, List.set_cons_succ, List.set_cons_zero]
  refine Rd.seq_float (.pointer (some ⟨fp, 1, none⟩)) (by simp only [List.getElem?_toArray, List.getElem?_cons_succ, List.getElem?_cons_zero]; rfl) rfl (by rfl) (fun X _ => by go_simp) ?_
  simp only [Act.put, List.setIfInBounds_toArray, List.set_cons_succ, List.set_cons_zero]
  refine Rd.seq_float (.map (some mp)) (by simp only [List.getElem?_toArray, List.getElem?_cons_succ, List.getElem?_cons_zero]; rfl) rfl (by rfl) (fun X hX => by have hf := HF.out.below hX; have e1 := hf.c1; have e2 := hf.lookY hx hh; have e3 := HX.out X hX; clear hX hf; go_simp) ?_
  simp only [Act.put, List.setIfInBounds_toArray, List.set_cons_succ, List.set_cons_zero]
  refine Rd.seq_float (.int .i64 x) (by simp only [List.getElem?_toArray, List.getElem?_cons_succ, List.getElem?_cons_zero]; rfl) rfl (by rfl) (fun X _ => by go_simp) ?_
  simp only [Act.put, List.setIfInBounds_toArray, List.set_cons_succ, List.set_cons_zero]
  refine Rd.seq_float (.pointer (some ⟨bl x, 0, none⟩)) (by simp only [List.getElem?_toArray, List.getElem?_cons_succ, List.getElem?_cons_zero]; rfl) rfl (by rfl) (fun X hX => by have hf := HF.out.below hX; have e1 := hf.c1; have e2 := hf.lookY hx hh; have e3 := HX.out X hX; clear hX hf; go_simp) ?_
  simp only [Act.put, List.setIfInBounds_toArray, List.set_cons_succ, List.set_cons_zero]
  refine Rd.seq_float (.pointer (some ⟨bl x, 0, none⟩)) (by simp only [List.getElem?_toArray, List.getElem?_cons_succ, List.getElem?_cons_zero]; rfl) rfl (by rfl) (fun X _ => by go_simp) ?_
  simp only [Act.put, List.setIfInBounds_toArray, List.set_cons_succ, List.set_cons_zero]
  refine Rd.seq_float (.pointer (some ⟨bl x, 2, none⟩)) (by simp only [List.getElem?_toArray, List.getElem?_cons_succ, List.getElem?_cons_zero]; rfl) rfl (by rfl) (fun X _ => by go_simp) ?_
  simp only [Act.put, List.setIfInBounds_toArray, List.set_cons_succ, List.set_cons_zero]
  refine Rd.seq_float (.int .i64 me) (by simp only [List.getElem?_toArray, List.getElem?_cons_succ, List.getElem?_cons_zero]; rfl) rfl (by rfl) (fun X hX => by have hf := HF.out.below hX; have e1 := hf.c1; have e2 := hf.lookY hx hh; have e3 := HX.out X hX; clear hX hf; go_simp) ?_
  simp only [Act.put, List.setIfInBounds_toArray, List.set_cons_succ, List.set_cons_zero]
  refine Rd.seq_move (by simp only [List.getElem?_toArray, List.getElem?_cons_succ, List.getElem?_cons_zero]; rfl) rfl (by rfl) (fun K hK => ?_)
  go_simp
  refine (HC.out _ hq).mono ?_
  rintro e w3 ⟨⟨a, c, rfl⟩, hb3⟩
  refine hK _ _ (fun _ => hb3) ?_
  clear hK K
  refine Rd.seq_float (.int .i64 (n : Int)) (by simp only [List.getElem?_toArray, List.getElem?_cons_succ, List.getElem?_cons_zero]; rfl) rfl (by rfl) (fun X _ => by go_simp) ?_
  simp only [Act.put, List.setIfInBounds_toArray, List.set_cons_succ, List.set_cons_zero]
  refine Rd.seq_float (.int .i64 ((n : Int) + me)) (by simp only [List.getElem?_toArray, List.getElem?_cons_succ, List.getElem?_cons_zero]; rfl) rfl (by rfl) (fun X _ => by go_simp; exact HW.out) ?_
  simp only [Act.put, List.setIfInBounds_toArray, List.set_cons_succ, List.set_cons_zero]
  refine Rd.seq_float (.int .i64 ((n : Int) + me)) (by simp only [List.getElem?_toArray, List.getElem?_cons_succ, List.getElem?_cons_zero]; rfl) rfl (by rfl) (fun X _ => by go_simp) ?_
  simp only [Act.put, List.setIfInBounds_toArray, List.set_cons_succ, List.set_cons_zero]
  refine Rd.seq_end ?_
  go_wp2_with fail
  go_ret
  exact ⟨rfl, hb3⟩
set_option maxRecDepth 100000 in
set_option maxHeartbeats 4000000 in
theorem Active_any (x : Int) (w : World) (h : IsF w B fp L l m k) :
    Calls Try.prog 21 #[.pointer (some ⟨fp, 0, none⟩), .int .i64 x] w fun e w' => e = .returned (.int .i64 (actI L x)) ∧ Below w.heap.size w w' := by
  obtain ⟨tp, tg, mp, bl, hf, _⟩ := h.fo
  have OK := Lib.hid h.ok
  have n64 := h.ok.n64
  have h1 := hf.c1
  obtain ⟨n, _, hm⟩ := hf.mpp
  have HF := Lib.hid hf
  have HB0 : Hid (∀ (y : Int) (W : World), I64 y → Below w.heap.size w W → Calls Try.prog 17 #[.pointer (some ⟨fp, 0, none⟩), .int .i64 y, .int .i64 x] W fun e w' => e = .returned (.bool (belowB L y x)) ∧ Below W.heap.size W w') := Lib.hid fun y W hy hW => Below_any fp B L l m k y x W (h.below hW) hy
  clear h hf
  go_enter Try.func21, Try.ntmps21
  go_wp2_with (first | (at_range; refine wpList_rangeG rfl _ rfl rfl hm ?_; intro w0 cnt hr hb0))
  go_frame
  have HR : Hid (∀ W : World, Below w.heap.size w W → Fo W fp tp tg mp bl L l m) := Lib.hid fun W hW => HF.out.below hW
  clear hm
  go_loopw [5] (fun v wr => ∃ (s : Int) (vs : List Int) (cnt : Nat), v = .int .i64 s ∧ Hid (s = sumA L x vs) ∧ Rg wr mp w.heap.size n (gOf L bl) vs cnt ∧ Hid (Some1 L vs) ∧ Below w.heap.size w wr) (fun _ wr => wr.rangeLeft mp w.heap.size)
  case atStart => exact ⟨0, [], cnt, rfl, Lib.hid rfl, hr, Lib.hid ⟨List.nodup_nil, fun x hx => by simp at hx⟩, hb0⟩
  case round =>
    clear hr hb0
    obtain ⟨s, vs, cnt', rfl, HS, hr, HV, hb⟩ := hrel
    go_wp2_with (first | (at_next; refine wpList_nextG rfl _ rfl rfl hr ?_ ?_))
    · intro hall
      have HP := Lib.hid (sumA_all OK.out HV.out.1 (fun y => (hall y).trans gOf_some) x)
      clear HV hall
      go_wp2_with fail
      go_ret
      rw [← HP.out, ← HS.out]
      exact ⟨rfl, hb⟩
    · intro y cb w1 cnt1 hy hG hnot hr1 hlt hg1 hen
      obtain ⟨hh, rfl⟩ := gOf_eq hG
      have hrw : w.heap.size ≤ wr.heap.size := hb.size
      have hb1 : Below w.heap.size w w1 := hb.grown hg1 hrw (fun j e => by cases e; exact Nat.le_refl _)
      have HX : Hid (∀ W : World, Below w.heap.size w W → W.cell? ⟨bl y, 3, none⟩ = some (.int .i64 (gr L y).aw)) := Lib.hid fun W hW => ((HR.out W hW).grp y hh).c3
      have HV1 : Hid (Some1 L (y :: vs)) := Lib.hid ⟨List.nodup_cons.2 ⟨hnot, HV.out.1⟩, fun z hz => by
        rcases List.mem_cons.1 hz with rfl | hz
        · exact hh
        · exact HV.out.2 z hz⟩
      have hM : Hid (∀ W : World, Rg W mp w.heap.size n (gOf L bl) (y :: vs) cnt1 → W.rangeLeft mp w.heap.size < wr.rangeLeft mp w.heap.size) := Lib.hid fun W hW => by rw [hW.left, hr.left]; exact hlt
      have hlv := Some1.len OK.out HV1.out
      have HC := Lib.hid (HB0.out y w1 hy hb1)
      have HE := sumA_cons L x y vs
      have hs := sumA_bound OK.out x vs HV.out.2
      have hs2 := aw1_bound OK.out x y hh
      have hl2 : (vs.length : Int) ≤ 64 := by simp only [List.length_cons] at hlv; omega
      rw [← HS.out] at HE hs
      unfold aw1 at HE hs2
      clear hr hb hg1 hnot HV hG hh HS
      cases hbe : belowB L y x with
      | true =>
        rw [hbe] at HC HE hs2
        simp only [if_true] at HE hs2
        generalize (gr L y).aw = aw at *
        have HE2 : Hid (s + aw = sumA L x (y :: vs)) := Lib.hid (by rw [HE]; omega)
        clear HE hbe hlv
        have hs3 : 0 ≤ s := hs.1
        have hs4 : s ≤ 64000 := by omega
        clear hs hl2
        go_wp2_with (first | (go_at_call 17; refine HC.out.mono ?_; rintro e w2 ⟨rfl, hb2⟩; have hb3 := Below.stay hb1 hb2; have hX2 := HX.out w2 hb3; have hr2 := hr1.below hb2))
        exact ⟨⟨s + aw, y :: vs, cnt1, rfl, HE2, hr2, HV1, hb3⟩, hM.out _ hr2⟩
      | false =>
        rw [hbe] at HC HE
        have HE2 : Hid (s = sumA L x (y :: vs)) := Lib.hid (by rw [HE]; simp)
        clear HE hbe hlv
        go_wp2_with (first | (go_at_call 17; refine HC.out.mono ?_; rintro e w2 ⟨rfl, hb2⟩; have hb3 := Below.stay hb1 hb2; have hr2 := hr1.below hb2))
        exact ⟨⟨s, y :: vs, cnt1, rfl, HE2, hr2, HV1, hb3⟩, hM.out _ hr2⟩
set_option maxRecDepth 100000 in
set_option maxHeartbeats 4000000 in
theorem levels_any (x : Int) (w : World) (h : IsF w B fp L l m k) (hx : I64 x) :
    Calls Try.prog 44 #[.pointer (some ⟨fp, 0, none⟩), .int .i64 x] w fun e w' => (∃ (v : Int) (vs : List Int), e = .returned (.int .i64 v) ∧ Lv L x vs v ∧ (∀ y, y ∈ vs ↔ has L y = true)) ∧ Below w.heap.size w w' := by
  obtain ⟨tp, tg, mp, bl, hf, _⟩ := h.fo
  have OK := Lib.hid h.ok
  have n64 := h.ok.n64
  have h1 := hf.c1
  obtain ⟨n, _, hm⟩ := hf.mpp
  have HF := Lib.hid hf
  have HB0 : Hid (∀ (y : Int) (W : World), I64 y → Below w.heap.size w W → Calls Try.prog 17 #[.pointer (some ⟨fp, 0, none⟩), .int .i64 y, .int .i64 x] W fun e w' => e = .returned (.bool (belowB L y x)) ∧ Below W.heap.size W w') := Lib.hid fun y W hy hW => Below_any fp B L l m k y x W (h.below hW) hy
  have HD0 : Hid (∀ (y : Int) (W : World), I64 y → Below w.heap.size w W → Calls Try.prog 41 #[.pointer (some ⟨fp, 0, none⟩), .int .i64 y] W fun e w' => e = .returned (.int .i64 (dep L y)) ∧ Below W.heap.size W w') := Lib.hid fun y W hy hW => depth_any fp B L l m k y W (h.below hW) hy
  clear h hf
  go_enter Try.func44, Try.ntmps44
  go_wp2_with (first | (at_range; refine wpList_rangeG rfl _ rfl rfl hm ?_; intro w0 cnt hr hb0))
  go_frame
  have HR : Hid (∀ W : World, Below w.heap.size w W → Fo W fp tp tg mp bl L l m) := Lib.hid fun W hW => HF.out.below hW
  clear hm
  go_loopw [5] (fun v wr => ∃ (s : Int) (vs : List Int) (cnt : Nat), v = .int .i64 s ∧ Hid (Lv L x vs s) ∧ Rg wr mp w.heap.size n (gOf L bl) vs cnt ∧ Hid (Some1 L vs) ∧ Below w.heap.size w wr) (fun _ wr => wr.rangeLeft mp w.heap.size)
  case atStart => exact ⟨0, [], cnt, rfl, Lib.hid ⟨fun y hy => by simp at hy, .inl rfl, Int.le_refl _⟩, hr, Lib.hid ⟨List.nodup_nil, fun x hx => by simp at hx⟩, hb0⟩
  case round =>
    clear hr hb0
    obtain ⟨s, vs, cnt', rfl, HS, hr, HV, hb⟩ := hrel
    go_wp2_with (first | (at_next; refine wpList_nextG rfl _ rfl rfl hr ?_ ?_))
    · intro hall
      have HP := Lib.hid hall
      clear HV hall
      go_wp2_with fail
      go_ret
      exact ⟨⟨s, vs, rfl, HS.out, fun y => (HP.out y).trans gOf_some⟩, hb⟩
    · intro y cb w1 cnt1 hy hG hnot hr1 hlt hg1 hen
      obtain ⟨hh, rfl⟩ := gOf_eq hG
      have hrw : w.heap.size ≤ wr.heap.size := hb.size
      have hb1 : Below w.heap.size w w1 := hb.grown hg1 hrw (fun j e => by cases e; exact Nat.le_refl _)
      have HX : Hid (∀ W : World, Below w.heap.size w W → W.cell? ⟨bl y, 3, none⟩ = some (.int .i64 (gr L y).aw)) := Lib.hid fun W hW => ((HR.out W hW).grp y hh).c3
      have HV1 : Hid (Some1 L (y :: vs)) := Lib.hid ⟨List.nodup_cons.2 ⟨hnot, HV.out.1⟩, fun z hz => by
        rcases List.mem_cons.1 hz with rfl | hz
        · exact hh
        · exact HV.out.2 z hz⟩
      have hM : Hid (∀ W : World, Rg W mp w.heap.size n (gOf L bl) (y :: vs) cnt1 → W.rangeLeft mp w.heap.size < wr.rangeLeft mp w.heap.size) := Lib.hid fun W hW => by rw [hW.left, hr.left]; exact hlt
      have hlv := Some1.len OK.out HV1.out
      have HC := Lib.hid (HB0.out y w1 hy hb1)
      have hs := HS.out.v0
      have hs8 := HS.out.le8 OK.out
      have hdx := OK.out.dep8 x
      have hdy := OK.out.dep8 y
      clear hr hb hg1 hnot HV hG hh
      have HDy : Hid (∀ W : World, Below w.heap.size w W → Calls Try.prog 41 #[.pointer (some ⟨fp, 0, none⟩), .int .i64 y] W fun e w' => e = .returned (.int .i64 (dep L y)) ∧ Below W.heap.size W w') := Lib.hid fun W hW => HD0.out y W hy hW
      have HDx : Hid (∀ W : World, Below w.heap.size w W → Calls Try.prog 41 #[.pointer (some ⟨fp, 0, none⟩), .int .i64 x] W fun e w' => e = .returned (.int .i64 (dep L x)) ∧ Below W.heap.size W w') := Lib.hid fun W hW => HD0.out x W hx hW
      clear HD0
      cases hbe : belowB L y x with
      | true =>
        rw [hbe] at HC
        by_cases hv : s < dep L y - dep L x + 1
        · have HE2 : Hid (Lv L x (y :: vs) (dep L y - dep L x + 1)) := Lib.hid (HS.out.more hbe hv)
          clear hbe hlv HS
          generalize dep L y = dy at *
          generalize dep L x = dx at *
          have hmx : max s (dy - dx + 1) = dy - dx + 1 := by omega
          go_wp2_with (first | (go_at_call 17; refine HC.out.mono ?_; rintro e w2 ⟨rfl, hb2⟩; have hb3 := Below.stay hb1 hb2; have hr2 := hr1.below hb2; have HD1 := Lib.hid (HDy.out w2 hb3)) | (go_at_call 41; refine HD1.out.mono ?_; rintro e w3 ⟨rfl, hb4⟩; have hb5 := Below.stay hb3 hb4; have hr3 := hr2.below hb4; clear HD1; have HD2 := Lib.hid (HDx.out w3 hb5)) | (go_at_call 41; refine HD2.out.mono ?_; rintro e w4 ⟨rfl, hb6⟩; have hb7 := Below.stay hb5 hb6; have hr4 := hr3.below hb6))
          exact ⟨⟨dy - dx + 1, y :: vs, cnt1, rfl, HE2, hr4, HV1, hb7⟩, hM.out _ hr4⟩
        · have HE2 : Hid (Lv L x (y :: vs) s) := Lib.hid (HS.out.less (by omega))
          clear hbe hlv HS
          generalize dep L y = dy at *
          generalize dep L x = dx at *
          have hmx : max s (dy - dx + 1) = s := by omega
          go_wp2_with (first | (go_at_call 17; refine HC.out.mono ?_; rintro e w2 ⟨rfl, hb2⟩; have hb3 := Below.stay hb1 hb2; have hr2 := hr1.below hb2; have HD1 := Lib.hid (HDy.out w2 hb3)) | (go_at_call 41; refine HD1.out.mono ?_; rintro e w3 ⟨rfl, hb4⟩; have hb5 := Below.stay hb3 hb4; have hr3 := hr2.below hb4; clear HD1; have HD2 := Lib.hid (HDx.out w3 hb5)) | (go_at_call 41; refine HD2.out.mono ?_; rintro e w4 ⟨rfl, hb6⟩; have hb7 := Below.stay hb5 hb6; have hr4 := hr3.below hb6))
          exact ⟨⟨s, y :: vs, cnt1, rfl, HE2, hr4, HV1, hb7⟩, hM.out _ hr4⟩
      | false =>
        rw [hbe] at HC
        have HE2 : Hid (Lv L x (y :: vs) s) := Lib.hid (HS.out.no hbe)
        clear hbe hlv HS
        go_wp2_with (first | (go_at_call 17; refine HC.out.mono ?_; rintro e w2 ⟨rfl, hb2⟩; have hb3 := Below.stay hb1 hb2; have hr2 := hr1.below hb2))
        exact ⟨⟨s, y :: vs, cnt1, rfl, HE2, hr2, HV1, hb3⟩, hM.out _ hr2⟩
end
end Go.Proofs.Ythndfhkkaichiaa
