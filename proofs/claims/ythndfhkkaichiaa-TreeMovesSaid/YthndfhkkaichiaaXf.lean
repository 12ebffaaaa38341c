/-
  Contracts of the forest's Children and fan. Condition: the forest is one.
-/
import Derived.Test.YthndfhkkaichiaaXe
import Derived.Test.YthndfhkkaichiaaUh
namespace Go.Proofs.Ythndfhkkaichiaa
open Go.RowKit Go.Maps

theorem kids_eq {L : List Gr} {m k : Int} (ok : Ok L m k) (x : Int) : kids L x = (idsG L).filter fun y => (gr L y).pa == x := by
  unfold kids idsG
  rw [List.filter_map]
  congr 1
  apply List.filter_congr
  intro g hg
  simp only [Function.comp]
  rw [gr_of ok.rise hg]
theorem kids_rise {L : List Gr} {m k : Int} (ok : Ok L m k) (x : Int) : (kids L x).Pairwise (· < ·) := by
  rw [kids_eq ok]
  exact ok.rise.filter _
theorem kids_len (L : List Gr) (x : Int) : (kids L x).length ≤ L.length := by
  unfold kids
  rw [List.length_map]
  exact List.length_filter_le _ _
/-- those of some that have x as parent. -/
def coll (L : List Gr) (x : Int) (vs : List Int) : List Int := (vs.filter fun y => (gr L y).pa == x).reverse
theorem coll_yes {L : List Gr} {x y : Int} {vs : List Int} (h : (gr L y).pa = x) : coll L x (y :: vs) = coll L x vs ++ [y] := by
  unfold coll
  rw [List.filter_cons_of_pos (by simp [h]), List.reverse_cons]
theorem coll_no {L : List Gr} {x y : Int} {vs : List Int} (h : ¬ (gr L y).pa = x) : coll L x (y :: vs) = coll L x vs := by
  unfold coll
  rw [List.filter_cons_of_neg (by simp [h])]
theorem coll_len (L : List Gr) (x : Int) (vs : List Int) : (coll L x vs).length ≤ vs.length := by
  unfold coll
  rw [List.length_reverse]
  exact List.length_filter_le _ _
/-- some of the ids, none twice. -/
def Some1 (L : List Gr) (vs : List Int) : Prop := vs.Nodup ∧ ∀ x ∈ vs, has L x = true
theorem Some1.len {L : List Gr} {m k : Int} (ok : Ok L m k) {vs : List Int} (h : Some1 L vs) : vs.length ≤ L.length := by
  have h1 : vs.Perm ((idsG L).filter fun x => decide (x ∈ vs)) := (List.perm_ext_iff_of_nodup h.1 ((nodup_rise ok.rise).filter _)).2 fun x => by
    rw [List.mem_filter, ← has_ids]
    simp only [decide_eq_true_eq]
    exact ⟨fun hx => ⟨h.2 x hx, hx⟩, fun hx => hx.2⟩
  rw [h1.length_eq]
  refine Nat.le_trans (List.length_filter_le _ _) ?_
  simp [idsG]
theorem all_perm {L : List Gr} {m k : Int} (ok : Ok L m k) {vs : List Int} (h : vs.Nodup) (ha : ∀ x, x ∈ vs ↔ has L x = true) : vs.Perm (idsG L) :=
  (List.perm_ext_iff_of_nodup h (nodup_rise ok.rise)).2 fun x => by rw [ha, has_ids]
theorem coll_all {L : List Gr} {m k : Int} (ok : Ok L m k) {vs : List Int} (h : vs.Nodup) (ha : ∀ x, x ∈ vs ↔ has L x = true) (x : Int) : (coll L x vs).Perm (kids L x) := by
  rw [kids_eq ok]
  exact (List.reverse_perm _).trans ((all_perm ok h ha).filter _)
theorem sorted_eq {a b : List Int} (h : a.Perm b) (hb : b.Pairwise (· < ·)) : (a.mergeSort fun x y => decide (x ≤ y)) = b := by
  refine rising_unique ((List.mergeSort_perm _ _).trans h) ?_ (hb.imp fun h => by omega)
  have := List.pairwise_mergeSort (le := fun x y : Int => decide (x ≤ y)) (fun a b c h1 h2 => by simp at *; omega) (fun a b => by simp; omega) a
  exact this.imp fun h => by simpa using h
theorem gOf_some {L : List Gr} {bl : Int → Nat} {x : Int} : (gOf L bl x).isSome = true ↔ has L x = true := by
  unfold gOf
  split <;> simp_all
theorem gOf_eq {L : List Gr} {bl : Int → Nat} {x : Int} {c : Nat} (h : gOf L bl x = some c) : has L x = true ∧ c = bl x := by
  unfold gOf at h
  split at h
  · rename_i hh; cases h; exact ⟨hh, rfl⟩
  · cases h
section
variable (fp B : Nat) (L : List Gr) (l : List Int) (m k : Int)
set_option maxRecDepth 100000 in
set_option maxHeartbeats 4000000 in
theorem Children_none (w : World) : Calls Try.prog 19 #[.pointer (some ⟨fp, 0, none⟩), .int .i64 (-1)] w fun e w' => e = .returned (.slice none 0 0) ∧ w = w' := by
  go_enter Try.func19, Try.ntmps19
  go_wp2_with fail
  go_ret
  exact ⟨rfl, rfl⟩
set_option maxRecDepth 100000 in
set_option maxHeartbeats 4000000 in
theorem Children_any (x : Int) (w : World) (h : IsF w B fp L l m k) (hx : ¬ x = -1) :
    Calls Try.prog 19 #[.pointer (some ⟨fp, 0, none⟩), .int .i64 x] w fun e w' => (∃ a c, e = .returned (.slice a (kids L x).length c) ∧ RowO w' w.heap.size (.slice a (kids L x).length c) (kids L x)) ∧ Below w.heap.size w w' := by
  obtain ⟨tp, tg, mp, bl, hf, _⟩ := h.fo
  have OK := Lib.hid h.ok
  have n64 := h.ok.n64
  clear h
  have h1 := hf.c1
  obtain ⟨n, _, hm⟩ := hf.mpp
  have HF := Lib.hid hf
  have hx2 := beq_ff hx
  clear hf
  go_enter Try.func19, Try.ntmps19
  go_wp2_with (first | (at_range; refine wpList_rangeG rfl _ rfl rfl hm ?_; intro w0 cnt hr hb0))
  go_frame
  generalize hrr : w.heap.size = r at *
  have HR := Lib.hid hrr
  have HFr : Hid (∀ W, Below r w W → Fo W fp tp tg mp bl L l m) := Lib.hid fun W hW => HF.out.below (by rw [hrr]; exact hW)
  clear hrr hm
  go_loopw [5] (fun v wr => ∃ (a : Option Addr) (c : Nat) (vs : List Int) (cnt : Nat), v = .slice a (coll L x vs).length c ∧ Rg wr mp r n (gOf L bl) vs cnt ∧ Hid (Some1 L vs) ∧ RowO wr r (.slice a (coll L x vs).length c) (coll L x vs) ∧ Below r w wr) (fun _ wr => wr.rangeLeft mp r)
  case atStart => exact ⟨none, 0, [], cnt, rfl, hr, Lib.hid ⟨List.nodup_nil, fun x hx => by simp at hx⟩, RowO.nil _ _, hb0⟩
  case round =>
    clear hr hb0
    obtain ⟨a, c, vs, cnt', rfl, hr, HV, hro, hb⟩ := hrel
    go_wp2_with (first | (at_next; refine wpList_nextG rfl _ rfl rfl hr ?_ ?_))
    · intro hall
      have HP := Lib.hid (coll_all OK.out HV.out.1 (fun y => (hall y).trans gOf_some) x)
      have HK := Lib.hid (kids_rise OK.out x)
      have hlc := coll_len L x vs
      have hlv := Some1.len OK.out HV.out
      have HB := Lib.hid hb
      clear HV hall
      generalize coll L x vs = cl at *
      by_cases h0 : cl = []
      · subst h0
        have e0 : kids L x = [] := List.length_eq_zero_iff.1 (by rw [← HP.out.length_eq]; rfl)
        go_wp2_with (first | (go_at_call 47; refine (Sort_nil _ _ _).mono ?_; rintro e w2 ⟨rfl, rfl⟩))
        go_ret
        rw [e0]
        rw [HR.out]
        exact ⟨⟨a, c, rfl, hro⟩, HB.out⟩
      · obtain ⟨b, rfl, hbr, hbw, _⟩ := hro.at (j := 0) (List.length_pos_iff.2 h0)
        have HL := Lib.hid (show cl.length < 4611686018427387904 by omega)
        have HH := Lib.hid hro.holds
        go_wp2_with fail
        refine (Try.slices_Sort_int b 0 c cl wr HH.out hbw HL.out).mono ?_
        rintro e w2 ⟨rfl, q, os, rfl⟩
        rw [sorted_eq HP.out HK.out]
        have hg := grownBy_sortedI (w := wr) (g := b) (n := q) (os := os) (kids L x).toArray
        have hb2 : Below r w _ := hb.grown hg (Nat.le_trans (Nat.le_of_eq HR.out.symm) (HR.out ▸ hb.size)) (fun j e => by cases e; exact hbr)
        have hr2 : RowO (Sort.grow (Sort.putRow (Value.int .i64) (Sort.ahead wr q) b 0 (kids L x).toArray) os) r (.slice (some ⟨b, 0, none⟩) cl.length c) (kids L x) := by
          rcases hro.2 with ⟨h0, _⟩ | ⟨g', cap, cur, e, hbg, hg, h3, h4, h5, htake⟩
          · cases h0
          · cases e
            have e1 := HP.out.length_eq
            unfold RowO
            rw [e1]
            exact ownsRow_sortedI rfl hbr hg (e1 ▸ h3) h4 h5
        generalize Sort.grow (Sort.putRow (Value.int .i64) (Sort.ahead wr q) b 0 (kids L x).toArray) os = w3 at *
        go_wp2_with fail
        go_ret
        rw [HR.out, ← HP.out.length_eq]
        exact ⟨⟨some ⟨b, 0, none⟩, c, rfl, hr2⟩, hb2⟩
    · intro y cb w1 cnt1 hy hG hnot hr1 hlt hg1 hen
      obtain ⟨hh, rfl⟩ := gOf_eq hG
      have hrw : r ≤ wr.heap.size := by have := hr.lt; omega
      have hb1 : Below r w w1 := hb.grown hg1 hrw (fun j e => by cases e; exact Nat.le_refl _)
      have hf1 := HFr.out _ hb1
      have hX := (hf1.grp y hh).c0
      have hro1 : RowO w1 r (.slice a (coll L x vs).length c) (coll L x vs) := hro.same fun b cur hbc _ => hg1.block b (Array.getElem?_eq_some_iff.1 hbc).1 (fun e => by
        cases e
        obtain ⟨D, left, hq, _⟩ := hr
        obtain ⟨es, clock, since, seen, c0, _, _, _, _, e3, _⟩ := hq
        rw [e3] at hbc
        cases hbc)
      have HV1 : Hid (Some1 L (y :: vs)) := Lib.hid ⟨List.nodup_cons.2 ⟨hnot, HV.out.1⟩, fun z hz => by
        rcases List.mem_cons.1 hz with rfl | hz
        · exact hh
        · exact HV.out.2 z hz⟩
      have hM : Hid (∀ W : World, Rg W mp r n (gOf L bl) (y :: vs) cnt1 → W.rangeLeft mp r < wr.rangeLeft mp r) := Lib.hid fun W hW => by rw [hW.left, hr.left]; exact hlt
      have hlc := coll_len L x vs
      have hlv := Some1.len OK.out HV.out
      clear hr hro hb hg1 hnot HV hG hf1
      by_cases hp : (gr L y).pa = x
      · have e2 := coll_yes (vs := vs) hp
        rw [hp] at hX
        have HE := Lib.hid e2
        clear hp e2 hh
        generalize coll L x vs = cl at *
        have hA := OneAt.new w1 y
        have hba : Below r w (w1.alloc (.cells #[.int .i64 y] 3)) := hb1.alloc (by have := hr1.lt; omega) _
        have hroa : RowO (w1.alloc (.cells #[.int .i64 y] 3)) r (.slice a cl.length c) cl := hro1.alloc _
        go_wp2_with (first | (refine wpList_append rfl _ _ rfl r (.slice a cl.length c) _ cl [y] rfl rfl (by have := hr1.lt; simp; omega) hroa hA.src (by simp; omega) ?_; intro v' w2 hro2 hg2; have hb2 := hba.trans (grown_below hroa (by have := hr1.lt; simp; omega) hg2); have hr2 := hr1.below ((Below.refl _ w1).alloc (Nat.le_refl _) (.cells #[.int .i64 y] 3)); have hr3 := hr2.grownX hroa hg2))
        obtain ⟨a', c', rfl⟩ := hro2.sl
        exact ⟨⟨a', c', y :: vs, cnt1, by rw [HE.out], hr3, HV1, by rw [HE.out]; exact hro2, hb2⟩, hM.out _ hr3⟩
      · have HE := Lib.hid (coll_no (vs := vs) hp)
        have hp2 := beq_ff hp
        clear hp hh
        generalize coll L x vs = cl at *
        generalize (gr L y).pa = p at *
        go_wp2_with fail
        exact ⟨⟨a, c, y :: vs, cnt1, by rw [HE.out], hr1, HV1, by rw [HE.out]; exact hro1, hb1⟩, hM.out _ hr1⟩
end
end Go.Proofs.Ythndfhkkaichiaa
