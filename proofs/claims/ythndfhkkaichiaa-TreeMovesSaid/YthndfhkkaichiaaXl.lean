/-
  Contracts of the forest's New, put, Root, Add, Drop, Ids. Condition: the forest is one.
-/
import Derived.Test.YthndfhkkaichiaaXk
namespace Go.Proofs.Ythndfhkkaichiaa
open Go.RowKit Go.Maps

/-- the next id, and the last one given behind an act that answers c. -/
def nextI (c m : Int) : Int := if c = 0 then m + 1 else 0
def lastI (c m : Int) : Int := if c = 0 then m + 1 else m
section
variable {w w' : World} {B fp tp tg mp : Nat} {bl : Int → Nat} {L : List Gr} {l l' : List Int} {m k : Int}
theorem tab_eq_wr (h : Only tp tg w w') (ht : IsTab w tp tg l m) (hp : B ≤ tp) (hg : B ≤ tg) : Wr [77, 83, 3] B w w' := by
  refine ⟨h.os, h.tape, h.output, h.size, fun k hk hs => h.block k hs (by omega) (by omega), fun k c t z hc hts => h.block k (Array.getElem?_eq_some_iff.1 hc).1 ?_ ?_⟩
  · rintro rfl
    rw [ht.ptr] at hc
    injection hc with h1
    injection h1 with _ h2 _
    subst h2
    exact hts (by decide)
  · rintro rfl
    rw [ht.row] at hc
    injection hc with h1
    injection h1 with _ h2 _
    subst h2
    exact hts (by decide)
theorem map_wr {ts : List Nat} {n : Nat} {G : Int → Option Nat} (hg : w.grownBy w' (some mp)) (hm : Mp w mp n G) (hB : B ≤ mp) : Wr ts B w w' := by
  refine ⟨hg.os, hg.tape, hg.output, hg.size, fun k hk hs => hg.block k hs (fun e => by cases e; omega), fun k c t z hc _ => hg.block k (Array.getElem?_eq_some_iff.1 hc).1 (fun e => ?_)⟩
  cases e
  obtain ⟨es, clock, h1⟩ := hm.isMap
  rw [h1] at hc
  cases hc
theorem ne_cells {a b : Nat} {ca cb : Array Value} {ta tb : Nat} {za zb : Nat × Nat} (ha : w.heap[a]? = some (.cells ca ta za)) (hb : w.heap[b]? = some (.cells cb tb zb)) (ht : ta ≠ tb) : a ≠ b := by
  rintro rfl
  rw [ha] at hb
  injection hb with h1
  injection h1 with _ h2 _
  exact ht h2
theorem ne_map {a : Nat} {ca : Array Value} {ta : Nat} {za : Nat × Nat} {n : Nat} {G : Int → Option Nat} (ha : w.heap[a]? = some (.cells ca ta za)) (hm : Mp w mp n G) : a ≠ mp := by
  rintro rfl
  obtain ⟨es, clock, h1⟩ := hm.isMap
  rw [h1] at ha
  cases ha
/-- the forest, its table turned. -/
theorem Fo.tabs (h : Fo w fp tp tg mp bl L l m) (ho : Only tp tg w w') (ht : IsTab w' tp tg l' m) : Fo w' fp tp tg mp bl L l' m where
  ptr := (ho.block fp h.ltf (ne_cells h.ptr h.tab.ptr (by decide)) (ne_cells h.ptr h.tab.row (by decide))).trans h.ptr
  tab := ht
  mpp := by
    obtain ⟨n, hn, hm⟩ := h.mpp
    exact ⟨n, hn, hm.same (ho.block mp hm.lt (fun e => ne_map h.tab.ptr hm e.symm) (fun e => ne_map h.tab.row hm e.symm))⟩
  grp := fun x hx => (ho.block _ (h.grp x hx).lt (ne_cells (h.grp x hx) h.tab.ptr (by decide)) (ne_cells (h.grp x hx) h.tab.row (by decide))).trans (h.grp x hx)
  inj := h.inj
/-- one more: a block, the table, the map have turned. -/
theorem Fo.more {w1 w2 w3 : World} {p wt : Int} {n : Nat} (ok : Ok L m k) (h : Fo w fp tp tg mp bl L l m) (h1 : w1 = w.alloc (.cells #[.int .i64 p, .int .i64 wt, .int .i64 0, .int .i64 0] 77)) (ho : Only tp tg w1 w2) (ht : IsTab w2 tp tg l' (m + 1)) (hn : (n : Int) ≤ m)
    (hm : Mp w3 mp (n + 1) (fun y => if y = m + 1 then some w.heap.size else gOf L bl y)) (hg : w2.grownBy w3 (some mp)) : Fo w3 fp tp tg mp (fun y => if y = m + 1 then w.heap.size else bl y) (addG L m p wt) l' (m + 1) := by
  have hs1 : w1.heap.size = w.heap.size + 1 := by rw [h1]; simp
  have hb1 : Below w.heap.size w w1 := by rw [h1]; exact (Below.refl _ w).alloc (Nat.le_refl _) _
  have h' := h.below hb1
  obtain ⟨n0, _, hm0⟩ := h'.mpp
  have hnew : w1.heap[w.heap.size]? = some (.cells #[.int .i64 p, .int .i64 wt, .int .i64 0, .int .i64 0] 77 (0, 0)) := by rw [h1]; exact heap_alloc_new w _
  have keep : ∀ (b : Nat) (c : Array Value) (t : Nat), w1.heap[b]? = some (Obj.cells c t (0, 0)) → t ≠ 83 → t ≠ 3 → w3.heap[b]? = some (Obj.cells c t (0, 0)) := fun b c t hb h83 h3 => by
    have hlt := (Array.getElem?_eq_some_iff.1 hb).1
    rw [hg.block b (Nat.lt_of_lt_of_le hlt ho.size) (fun e => by cases e; exact ne_map hb hm0 rfl), ho.block b hlt (ne_cells hb h'.tab.ptr h83) (ne_cells hb h'.tab.row h3)]
    exact hb
  refine ⟨keep _ _ _ h'.ptr (by decide) (by decide), ?_, ⟨n + 1, by omega, ?_⟩, fun x hx => ?_, fun x y hx hy e => ?_⟩
  · refine ht.same (hg.block tp ht.ltp (fun e => ?_)) (hg.block tg ht.ltg (fun e => ?_))
    · cases e
      exact ne_map h'.tab.ptr hm0 rfl
    · cases e
      exact ne_map h'.tab.row hm0 rfl
  · have e : (fun y => if y = m + 1 then some w.heap.size else gOf L bl y) = gOf (addG L m p wt) (fun y => if y = m + 1 then w.heap.size else bl y) := by
      funext y
      unfold gOf
      rw [addG_has]
      by_cases e : y = m + 1 <;> simp [e]
    rwa [← e]
  · by_cases e : x = m + 1
    · subst e
      rw [addG_new ok]
      simp only [if_true]
      exact keep _ _ _ hnew (by decide) (by decide)
    · rw [addG_has, decide_eq_false e, Bool.or_false] at hx
      rw [addG_old ok hx, if_neg e]
      exact keep _ _ _ (h'.grp x hx) (by decide) (by decide)
  · rw [addG_has] at hx hy
    have lt : ∀ z, has L z = true → bl z < w.heap.size := fun z hz => (h.grp z hz).lt
    by_cases e1 : x = m + 1 <;> by_cases e2 : y = m + 1
    · rw [e1, e2]
    · rw [decide_eq_false e2, Bool.or_false] at hy
      rw [if_pos e1, if_neg e2] at e
      have := lt y hy
      omega
    · rw [decide_eq_false e1, Bool.or_false] at hx
      rw [if_neg e1, if_pos e2] at e
      have := lt x hx
      omega
    · rw [decide_eq_false e1, Bool.or_false] at hx
      rw [decide_eq_false e2, Bool.or_false] at hy
      rw [if_neg e1, if_neg e2] at e
      exact h.inj x y hx hy e
/-- one less: the map has turned, then the table. -/
theorem Fo.less {x : Int} {n : Nat} (ok : Ok L m k) (h : Fo w fp tp tg mp bl L l m) (hx : has L x = true) (hn : (n : Int) ≤ m) (hm0 : Mp w mp n (gOf L bl)) (hm : Mp w' mp n (fun y => if y = x then none else gOf L bl y)) (hg : w.grownBy w' (some mp)) : Fo w' fp tp tg mp bl (delG L x) l m := by
  have keep : ∀ (b : Nat) (c : Array Value) (t : Nat), w.heap[b]? = some (Obj.cells c t (0, 0)) → w'.heap[b]? = some (Obj.cells c t (0, 0)) := fun b c t hb => by
    rw [hg.block b (Array.getElem?_eq_some_iff.1 hb).1 (fun e => by cases e; exact ne_map hb hm0 rfl)]
    exact hb
  refine ⟨keep _ _ _ h.ptr, h.tab.same ((keep _ _ _ h.tab.ptr).trans h.tab.ptr.symm) ((keep _ _ _ h.tab.row).trans h.tab.row.symm), ⟨n, hn, ?_⟩, fun y hy => ?_, fun y z hy hz e => ?_⟩
  · have e : (fun y => if y = x then none else gOf L bl y) = gOf (delG L x) bl := by
      funext y
      unfold gOf
      rw [del_has ok hx]
      by_cases e : y = x <;> simp [e]
    rwa [← e]
  · rw [del_gr ok hx hy]
    rw [del_has ok hx, Bool.and_eq_true] at hy
    exact keep _ _ _ (h.grp y hy.1)
  · rw [del_has ok hx, Bool.and_eq_true] at hy hz
    exact h.inj y z hy.1 hz.1 e
theorem add_rest {l : List Int} {m : Int} (hb : addB l m = true) : addI l m = m + 1 ∧ addE l m = 0 ∧ addM l m = m + 1 ∧ (addL l m).length = l.length := by
  simp [addI, addE, addM, addL, hb]
theorem add_full {l : List Int} {m : Int} (hb : addB l m = false) : addI l m = 0 ∧ addE l m = 6 ∧ addM l m = m ∧ addL l m = l := by
  simp [addI, addE, addM, addL, hb]
end
section
variable (fp B : Nat) (L : List Gr) (l : List Int) (m k : Int)
set_option maxRecDepth 100000 in
set_option maxHeartbeats 4000000 in
theorem put_no (p wt : Int) (w : World) (h : IsF w B fp L l m k) (hk : k < 1000) (hl : L.length = l.length) :
    Calls Try.prog 39 #[.pointer (some ⟨fp, 0, none⟩), .agg #[.int .i64 p, .int .i64 wt, .int .i64 0, .int .i64 0]] w fun e w' => e = .returned (.tuple #[.int .i64 0, .int .i64 6]) ∧ IsF w' B fp L l m (k + 1) ∧ Wr [77, 83, 3] B w w' := by
  obtain ⟨tp, tg, mp, bl, hf, hB⟩ := h.fo
  have hb1 : Below w.heap.size w (w.alloc (.cells #[.int .i64 p, .int .i64 wt, .int .i64 0, .int .i64 0] 77)) := (Below.refl _ w).alloc (Nat.le_refl _) _
  have hf1 := hf.below hb1
  have h1 := hf1.c0
  have hfree : addB l m = false := by rw [(slots_free h.ok h.ids).1, hl]; simp
  obtain ⟨e1, e2, e3, e4⟩ := add_full hfree
  have HA := Lib.hid (Add_any tp tg l m _ hf1.tab h.tok)
  have HE := Lib.hid (show addI l m = 0 ∧ addE l m = 6 ∧ addM l m = m ∧ addL l m = l from ⟨e1, e2, e3, e4⟩)
  have HF : Hid (∀ w2, IsTab w2 tp tg l m → Only tp tg (w.alloc (.cells #[.int .i64 p, .int .i64 wt, .int .i64 0, .int .i64 0] 77)) w2 → IsF w2 B fp L l m (k + 1) ∧ Wr [77, 83, 3] B w w2) := Lib.hid fun w2 ht ho =>
    ⟨⟨⟨tp, tg, mp, bl, hf1.tabs ho ht, hB⟩, h.tok, h.ids, h.ok.later hk⟩, (Wr.of_below hb1).trans (tab_eq_wr ho hf1.tab hB.1 hB.2.1)⟩
  clear h hf hB hb1 hf1 hfree e1 e2 e3 e4 hl hk
  go_enter Try.func39, Try.ntmps39
  go_wp2_with (go_at_call 55; refine HA.out.mono ?_; rw [HE.out.1, HE.out.2.1, HE.out.2.2.1, HE.out.2.2.2]; rintro e w2 ⟨rfl, ht, ho⟩)
  go_ret2
  exact ⟨rfl, HF.out _ ht ho⟩
set_option maxRecDepth 100000 in
set_option maxHeartbeats 4000000 in
theorem put_yes (p wt : Int) (w : World) (h : IsF w B fp L l m k) (hk : k < 1000) (hBw : B ≤ w.heap.size) (hl : ¬ L.length = l.length) (hp : p = -1 ∨ has L p = true ∧ dep L p ≠ 8) (hw : 1 ≤ wt ∧ wt ≤ 10000) :
    Calls Try.prog 39 #[.pointer (some ⟨fp, 0, none⟩), .agg #[.int .i64 p, .int .i64 wt, .int .i64 0, .int .i64 0]] w fun e w' => e = .returned (.tuple #[.int .i64 (m + 1), .int .i64 0]) ∧ (∃ l', l'.length = l.length ∧ IsF w' B fp (addG L m p wt) l' (m + 1) (k + 1)) ∧ Wr [77, 83, 3] B w w' := by
  obtain ⟨tp, tg, mp, bl, hf, hB⟩ := h.fo
  have hb1 : Below w.heap.size w (w.alloc (.cells #[.int .i64 p, .int .i64 wt, .int .i64 0, .int .i64 0] 77)) := (Below.refl _ w).alloc (Nat.le_refl _) _
  have hf1 := hf.below hb1
  have h1 := hf1.c0
  have hfree : addB l m = true := by rw [(slots_free h.ok h.ids).1]; simpa using hl
  have hlen : L.length < 64 := by have := (slots_free h.ok h.ids).2; have := h.tok.n64; omega
  obtain ⟨e1, e2, e3, e4⟩ := add_rest hfree
  obtain ⟨n, hn, hm0⟩ := hf1.mpp
  have HA := Lib.hid (Add_any tp tg l m _ hf1.tab h.tok)
  have HE := Lib.hid (show addI l m = m + 1 ∧ addE l m = 0 ∧ addM l m = m + 1 from ⟨e1, e2, e3⟩)
  have hmi : I64 (m + 1) := by have := h.ok.m0; have := h.ok.mle; have := h.ok.k1; unfold I64; omega
  have hnM : n < maxLen := by have := h.ok.mle; have := h.ok.k1; unfold maxLen; omega
  have HF : Hid (∀ w2 w3, IsTab w2 tp tg (addL l m) (m + 1) → Only tp tg (w.alloc (.cells #[.int .i64 p, .int .i64 wt, .int .i64 0, .int .i64 0] 77)) w2 → Mp w3 mp (n + 1) (fun y => if y = m + 1 then some w.heap.size else gOf L bl y) → w2.grownBy w3 (some mp) →
      (∃ l', l'.length = l.length ∧ IsF w3 B fp (addG L m p wt) l' (m + 1) (k + 1)) ∧ Wr [77, 83, 3] B w w3) := Lib.hid fun w2 w3 ht ho hm hg => by
    have hm2 := hm0.same (ho.block mp hm0.lt (fun e => ne_map hf1.tab.ptr hm0 e.symm) (fun e => ne_map hf1.tab.row hm0 e.symm))
    have tok' := h.tok.add
    rw [e3] at tok'
    refine ⟨⟨addL l m, e4, ⟨tp, tg, mp, _, hf.more h.ok rfl ho ht hn hm hg, hB.1, hB.2.1, hB.2.2.1, fun x hx => ?_⟩, tok', slots_add h.ok h.tok h.ids hfree, h.ok.addG hk hlen hp hw⟩, ((Wr.of_below hb1).trans (tab_eq_wr ho hf1.tab hB.1 hB.2.1)).trans (map_wr hg hm2 hB.2.2.1)⟩
    by_cases e : x = m + 1
    · rw [if_pos e]; exact hBw
    · rw [if_neg e]
      rw [addG_has, decide_eq_false e, Bool.or_false] at hx
      exact hB.2.2.2 x hx
  have HM : Hid (∀ w2, Only tp tg (w.alloc (.cells #[.int .i64 p, .int .i64 wt, .int .i64 0, .int .i64 0] 77)) w2 → IsTab w2 tp tg (addL l m) (m + 1) → Mp w2 mp n (gOf L bl) ∧ w2.cell? ⟨fp, 1, none⟩ = some (.map (some mp))) := Lib.hid fun w2 ho _ => by
    refine ⟨hm0.same (ho.block mp hm0.lt (fun e => ne_map hf1.tab.ptr hm0 e.symm) (fun e => ne_map hf1.tab.row hm0 e.symm)), ?_⟩
    have := (ho.block fp hf1.ltf (ne_cells hf1.ptr hf1.tab.ptr (by decide)) (ne_cells hf1.ptr hf1.tab.row (by decide))).trans hf1.ptr
    rw [cell_of_row w2 fp 1 _ 62 (0, 0) this]; rfl
  clear h hf hB hb1 hf1 hfree e1 e2 e3 e4 hl hk hm0 hn hp hw hlen
  go_enter Try.func39, Try.ntmps39
  go_wp2_with (first | (go_at_call 55; refine HA.out.mono ?_; rw [HE.out.1, HE.out.2.1, HE.out.2.2]; rintro e w2 ⟨rfl, ht, ho⟩; obtain ⟨hm2, hc1⟩ := HM.out w2 ho ht) | (at_mapUpdate; refine wpList_putG rfl _ _ _ rfl rfl hm2 hnM rfl hmi rfl ?_; intro w3 hm3 hg3))
  go_ret2
  exact ⟨rfl, HF.out _ _ ht ho hm3 hg3⟩
theorem put_any (p wt : Int) (w : World) (h : IsF w B fp L l m k) (hk : k < 1000) (hBw : B ≤ w.heap.size) (hp : p = -1 ∨ has L p = true ∧ dep L p ≠ 8) (hw : 1 ≤ wt ∧ wt ≤ 10000) :
    Calls Try.prog 39 #[.pointer (some ⟨fp, 0, none⟩), .agg #[.int .i64 p, .int .i64 wt, .int .i64 0, .int .i64 0]] w fun e w' => e = .returned (.tuple #[.int .i64 (nextI (rootC L l.length) m), .int .i64 (rootC L l.length)]) ∧ (∃ l', l'.length = l.length ∧ IsF w' B fp (if rootC L l.length = 0 then addG L m p wt else L) l' (lastI (rootC L l.length) m) (k + 1)) ∧ Wr [77, 83, 3] B w w' := by
  unfold rootC nextI lastI
  by_cases hl : L.length = l.length
  · simp only [hl, if_true]
    refine (put_no fp B L l m k p wt w h hk hl).mono ?_
    rintro e w' ⟨rfl, hF, hW⟩
    exact ⟨rfl, ⟨l, rfl, hF⟩, hW⟩
  · simp only [hl, if_false, if_true]
    exact put_yes fp B L l m k p wt w h hk hBw hl hp hw
set_option maxRecDepth 100000 in
set_option maxHeartbeats 4000000 in
theorem Root_any (w : World) (h : IsF w B fp L l m k) (hk : k < 1000) (hBw : B ≤ w.heap.size) :
    Calls Try.prog 13 #[.pointer (some ⟨fp, 0, none⟩)] w fun e w' => e = .returned (.tuple #[.int .i64 (nextI (rootC L l.length) m), .int .i64 (rootC L l.length)]) ∧ (∃ l', l'.length = l.length ∧ IsF w' B fp (rootN L l.length m) l' (lastI (rootC L l.length) m) (k + 1)) ∧ Wr [77, 83, 3] B w w' := by
  have HP := Lib.hid (put_any fp B L l m k (-1) 1 w h hk hBw (.inl rfl) (by omega))
  unfold rootN
  clear h hk hBw
  generalize nextI (rootC L l.length) m = ni at *
  generalize (if rootC L l.length = 0 then addG L m (-1) 1 else L) = L2 at *
  generalize lastI (rootC L l.length) m = mm at *
  generalize rootC L l.length = c at *
  go_enter Try.func13, Try.ntmps13
  go_wp2_with (go_at_call 39; refine HP.out.mono ?_; rintro e w2 ⟨rfl, hF, hW⟩)
  go_ret2
  exact ⟨rfl, hF, hW⟩
set_option maxRecDepth 100000 in
set_option maxHeartbeats 4000000 in
theorem AddF_no (p wt : Int) (w : World) (h : IsF w B fp L l m k) (hp : I64 p) (hk : k < 1000) (hh : has L p = false)  :
    Calls Try.prog 14 #[.pointer (some ⟨fp, 0, none⟩), .int .i64 p, .int .i64 wt] w fun e w' => e = .returned (.tuple #[.int .i64 (nextI (addC L l.length p wt) m), .int .i64 (addC L l.length p wt)]) ∧ (∃ l', l'.length = l.length ∧ IsF w' B fp (addN L l.length m p wt) l' (lastI (addC L l.length p wt) m) (k + 1)) ∧ Wr [77, 83, 3] B w w' := by
  have hc : addC L l.length p wt = 4 := by unfold addC; rw [if_pos hh]
  have HC := Lib.hid hc
  have HN : Hid (addN L l.length m p wt = L) := Lib.hid (by unfold addN; rw [hc]; rfl)
  obtain ⟨tp, tg, mp, bl, hf, hB⟩ := h.fo
  have h1 := hf.c1
  have HL := hf.lookN hp hh
  have HH := Lib.hid hh
  have HF := Lib.hid h
  have HK := Lib.hid hk
  have HR := Lib.hid h.rdr
  have hb0 := Below.refl w.heap.size w
  clear h hf hB hk hh hc
  go_enter Try.func14, Try.ntmps14
  go_wp2_with fail
  go_ret2
  rw [HC.out, HN.out]
  exact ⟨rfl, ⟨l, rfl, (HF.out.below (Below.refl _ _)).later HK.out⟩, Wr.of_below (Below.refl _ _)⟩
set_option maxRecDepth 100000 in
set_option maxHeartbeats 4000000 in
theorem AddF_bad (p wt : Int) (w : World) (h : IsF w B fp L l m k) (hp : I64 p) (hk : k < 1000) (hh : has L p = true) (hw : ¬ (1 ≤ wt ∧ wt ≤ 10000)) :
    Calls Try.prog 14 #[.pointer (some ⟨fp, 0, none⟩), .int .i64 p, .int .i64 wt] w fun e w' => e = .returned (.tuple #[.int .i64 (nextI (addC L l.length p wt) m), .int .i64 (addC L l.length p wt)]) ∧ (∃ l', l'.length = l.length ∧ IsF w' B fp (addN L l.length m p wt) l' (lastI (addC L l.length p wt) m) (k + 1)) ∧ Wr [77, 83, 3] B w w' := by
  have hc : addC L l.length p wt = 13 := by unfold addC; rw [if_neg (by rw [hh]; decide), if_pos hw]
  have HC := Lib.hid hc
  have HN : Hid (addN L l.length m p wt = L) := Lib.hid (by unfold addN; rw [hc]; rfl)
  obtain ⟨tp, tg, mp, bl, hf, hB⟩ := h.fo
  have h1 := hf.c1
  have HL := hf.lookY hp hh
  have HH := Lib.hid hh
  have HF := Lib.hid h
  have HK := Lib.hid hk
  have HR := Lib.hid h.rdr
  have hb0 := Below.refl w.heap.size w
  have HW : Hid (decide (1 ≤ wt ∧ wt ≤ 10000) = false) := Lib.hid (decide_eq_false hw)
  clear hw
  clear h hf hB hk hh hc
  go_enter Try.func14, Try.ntmps14
  go_wp2_with (go_at_call 40; refine (isWeight_any _ _).mono ?_; rw [HW.out]; rintro e wj ⟨rfl, rfl⟩)
  go_ret2
  rw [HC.out, HN.out]
  exact ⟨rfl, ⟨l, rfl, (HF.out.below (Below.refl _ _)).later HK.out⟩, Wr.of_below (Below.refl _ _)⟩
set_option maxRecDepth 100000 in
set_option maxHeartbeats 4000000 in
theorem AddF_deep (p wt : Int) (w : World) (h : IsF w B fp L l m k) (hp : I64 p) (hk : k < 1000) (hh : has L p = true) (hw : 1 ≤ wt ∧ wt ≤ 10000) (hd : dep L p = 8) :
    Calls Try.prog 14 #[.pointer (some ⟨fp, 0, none⟩), .int .i64 p, .int .i64 wt] w fun e w' => e = .returned (.tuple #[.int .i64 (nextI (addC L l.length p wt) m), .int .i64 (addC L l.length p wt)]) ∧ (∃ l', l'.length = l.length ∧ IsF w' B fp (addN L l.length m p wt) l' (lastI (addC L l.length p wt) m) (k + 1)) ∧ Wr [77, 83, 3] B w w' := by
  have hc : addC L l.length p wt = 7 := by unfold addC; rw [if_neg (by rw [hh]; decide), if_neg (fun e => e hw), if_pos hd]
  have HC := Lib.hid hc
  have HN : Hid (addN L l.length m p wt = L) := Lib.hid (by unfold addN; rw [hc]; rfl)
  obtain ⟨tp, tg, mp, bl, hf, hB⟩ := h.fo
  have h1 := hf.c1
  have HL := hf.lookY hp hh
  have HH := Lib.hid hh
  have HF := Lib.hid h
  have HK := Lib.hid hk
  have HR := Lib.hid h.rdr
  have hb0 := Below.refl w.heap.size w
  have HW : Hid (decide (1 ≤ wt ∧ wt ≤ 10000) = true) := Lib.hid (decide_eq_true hw)
  clear hw
  have hd2 := beq_tt hd
  clear hd
  clear h hf hB hk hh hc
  go_enter Try.func14, Try.ntmps14
  go_wp2_with (first | (go_at_call 40; refine (isWeight_any _ _).mono ?_; rw [HW.out]; rintro e wj ⟨rfl, rfl⟩) | (go_at_call 41; refine (HR.out.depth _ _ (by assumption) (by assumption)).mono ?_; rintro e wi ⟨rfl, hbi⟩))
  go_ret2
  rw [HC.out, HN.out]
  exact ⟨rfl, ⟨l, rfl, (HF.out.below (hbi)).later HK.out⟩, Wr.of_below (hbi)⟩
set_option maxRecDepth 100000 in
set_option maxHeartbeats 4000000 in
theorem AddF_wide (p wt : Int) (w : World) (h : IsF w B fp L l m k) (hp : I64 p) (hk : k < 1000) (hh : has L p = true) (hw : 1 ≤ wt ∧ wt ≤ 10000) (hd : ¬ dep L p = 8) (hf32 : fanI L p = 32) :
    Calls Try.prog 14 #[.pointer (some ⟨fp, 0, none⟩), .int .i64 p, .int .i64 wt] w fun e w' => e = .returned (.tuple #[.int .i64 (nextI (addC L l.length p wt) m), .int .i64 (addC L l.length p wt)]) ∧ (∃ l', l'.length = l.length ∧ IsF w' B fp (addN L l.length m p wt) l' (lastI (addC L l.length p wt) m) (k + 1)) ∧ Wr [77, 83, 3] B w w' := by
  have hc : addC L l.length p wt = 6 := by unfold addC; rw [if_neg (by rw [hh]; decide), if_neg (fun e => e hw), if_neg hd, if_pos (.inl hf32)]
  have HC := Lib.hid hc
  have HN : Hid (addN L l.length m p wt = L) := Lib.hid (by unfold addN; rw [hc]; rfl)
  obtain ⟨tp, tg, mp, bl, hf, hB⟩ := h.fo
  have h1 := hf.c1
  have HL := hf.lookY hp hh
  have HH := Lib.hid hh
  have HF := Lib.hid h
  have HK := Lib.hid hk
  have HR := Lib.hid h.rdr
  have hb0 := Below.refl w.heap.size w
  have HW : Hid (decide (1 ≤ wt ∧ wt ≤ 10000) = true) := Lib.hid (decide_eq_true hw)
  clear hw
  have hd2 := beq_ff hd
  have hf2 := beq_tt hf32
  clear hd hf32
  clear h hf hB hk hh hc
  go_enter Try.func14, Try.ntmps14
  go_wp2_with (first | (go_at_call 40; refine (isWeight_any _ _).mono ?_; rw [HW.out]; rintro e wj ⟨rfl, rfl⟩) | (go_at_call 41; refine (HR.out.depth _ _ (by assumption) (by assumption)).mono ?_; rintro e wi ⟨rfl, hbi⟩) | (go_at_call 42; refine (HR.out.fan _ _ (by assumption) HH.out (by assumption)).mono ?_; rintro e wi ⟨rfl, hbi⟩))
  go_ret2
  rw [HC.out, HN.out]
  exact ⟨rfl, ⟨l, rfl, (HF.out.below (hbi)).later HK.out⟩, Wr.of_below (hbi)⟩
set_option maxRecDepth 100000 in
set_option maxHeartbeats 4000000 in
theorem AddF_put (p wt : Int) (w : World) (h : IsF w B fp L l m k) (hp : I64 p) (hk : k < 1000) (hBw : B ≤ w.heap.size) (hh : has L p = true) (hw : 1 ≤ wt ∧ wt ≤ 10000) (hd : ¬ dep L p = 8) (hf32 : ¬ fanI L p = 32) :
    Calls Try.prog 14 #[.pointer (some ⟨fp, 0, none⟩), .int .i64 p, .int .i64 wt] w fun e w' => e = .returned (.tuple #[.int .i64 (nextI (addC L l.length p wt) m), .int .i64 (addC L l.length p wt)]) ∧ (∃ l', l'.length = l.length ∧ IsF w' B fp (addN L l.length m p wt) l' (lastI (addC L l.length p wt) m) (k + 1)) ∧ Wr [77, 83, 3] B w w' := by
  have hc : addC L l.length p wt = rootC L l.length := by unfold addC rootC; rw [if_neg (by rw [hh]; decide), if_neg (fun e => e hw), if_neg hd]; by_cases hl : L.length = l.length <;> simp [hf32, hl]
  have HC := Lib.hid hc
  obtain ⟨tp, tg, mp, bl, hf, hB⟩ := h.fo
  have h1 := hf.c1
  have HL := hf.lookY hp hh
  have HH := Lib.hid hh
  have HR := Lib.hid h.rdr
  have hb0 := Below.refl w.heap.size w
  have HW : Hid (decide (1 ≤ wt ∧ wt ≤ 10000) = true) := Lib.hid (decide_eq_true hw)
  have HP : Hid (∀ W : World, Below w.heap.size w W → Calls Try.prog 39 #[.pointer (some ⟨fp, 0, none⟩), .agg #[.int .i64 p, .int .i64 wt, .int .i64 0, .int .i64 0]] W fun e w' => e = .returned (.tuple #[.int .i64 (nextI (rootC L l.length) m), .int .i64 (rootC L l.length)]) ∧ (∃ l', l'.length = l.length ∧ IsF w' B fp (if rootC L l.length = 0 then addG L m p wt else L) l' (lastI (rootC L l.length) m) (k + 1)) ∧ Wr [77, 83, 3] B w w') := Lib.hid fun W hW => by
    refine (put_any fp B L l m k p wt W (h.below hW) hk (Nat.le_trans hBw hW.size) (.inr ⟨hh, hd⟩) hw).mono ?_
    rintro e w' ⟨rfl, hF, hWr⟩
    exact ⟨rfl, hF, (Wr.of_below hW).trans hWr⟩
  have hd2 := beq_ff hd
  have hf2 := beq_ff hf32
  unfold addN
  rw [hc]
  clear h hf hB hk hh hc hd hf32 hw hBw HC
  generalize nextI (rootC L l.length) m = ni at *
  generalize (if rootC L l.length = 0 then addG L m p wt else L) = L2 at *
  generalize lastI (rootC L l.length) m = mm at *
  generalize rootC L l.length = c at *
  go_enter Try.func14, Try.ntmps14
  go_wp2_with (first | (go_at_call 40; refine (isWeight_any _ _).mono ?_; rw [HW.out]; rintro e wj ⟨rfl, rfl⟩) | (go_at_call 41; refine (HR.out.depth _ _ (by assumption) (by assumption)).mono ?_; rintro e wi ⟨rfl, hbi⟩) | (go_at_call 42; refine (HR.out.fan _ _ (by assumption) HH.out (by assumption)).mono ?_; rintro e wi ⟨rfl, hbi⟩) | (go_at_call 39; refine (HP.out _ (by assumption)).mono ?_; rintro e wz ⟨rfl, hF, hW⟩))
  go_ret2
  exact ⟨rfl, hF, hW⟩
theorem AddF_any (p wt : Int) (w : World) (h : IsF w B fp L l m k) (hp : I64 p) (hk : k < 1000) (hBw : B ≤ w.heap.size) :
    Calls Try.prog 14 #[.pointer (some ⟨fp, 0, none⟩), .int .i64 p, .int .i64 wt] w fun e w' => e = .returned (.tuple #[.int .i64 (nextI (addC L l.length p wt) m), .int .i64 (addC L l.length p wt)]) ∧ (∃ l', l'.length = l.length ∧ IsF w' B fp (addN L l.length m p wt) l' (lastI (addC L l.length p wt) m) (k + 1)) ∧ Wr [77, 83, 3] B w w' := by
  cases hh : has L p with
  | false => exact AddF_no fp B L l m k p wt w h hp hk hh
  | true =>
  by_cases hw : 1 ≤ wt ∧ wt ≤ 10000
  case neg => exact AddF_bad fp B L l m k p wt w h hp hk hh hw
  by_cases hd : dep L p = 8
  · exact AddF_deep fp B L l m k p wt w h hp hk hh hw hd
  by_cases hf : fanI L p = 32
  · exact AddF_wide fp B L l m k p wt w h hp hk hh hw hd hf
  · exact AddF_put fp B L l m k p wt w h hp hk hBw hh hw hd hf
set_option maxRecDepth 100000 in
set_option maxHeartbeats 4000000 in
theorem DropF_no (x : Int) (w : World) (h : IsF w B fp L l m k) (hx : I64 x) (hk : k < 1000) (hh : has L x = false)  :
    Calls Try.prog 25 #[.pointer (some ⟨fp, 0, none⟩), .int .i64 x] w fun e w' => e = .returned (.int .i64 (dropC L x)) ∧ (∃ l', l'.length = l.length ∧ IsF w' B fp (dropN L x) l' m (k + 1)) ∧ Wr [77, 83, 3] B w w' := by
  have hc : dropC L x = 4 := by unfold dropC; rw [if_pos hh]
  have HC := Lib.hid hc
  have HN : Hid (dropN L x = L) := Lib.hid (by unfold dropN; rw [hc]; rfl)
  obtain ⟨tp, tg, mp, bl, hf, hB⟩ := h.fo
  have h1 := hf.c1
  have HL := hf.lookN hx hh
  have HH := Lib.hid hh
  have HF := Lib.hid h
  have HK := Lib.hid hk
  have HR := Lib.hid h.rdr
  have hb0 := Below.refl w.heap.size w
  clear h hf hB hk hh hc
  go_enter Try.func25, Try.ntmps25
  go_wp2_with fail
  go_ret
  rw [HC.out, HN.out]
  exact ⟨rfl, ⟨l, rfl, (HF.out.below (Below.refl _ _)).later HK.out⟩, Wr.of_below (Below.refl _ _)⟩
set_option maxRecDepth 100000 in
set_option maxHeartbeats 4000000 in
theorem DropF_root (x : Int) (w : World) (h : IsF w B fp L l m k) (hx : I64 x) (hk : k < 1000) (hh : has L x = true) (hp : (gr L x).pa = -1) :
    Calls Try.prog 25 #[.pointer (some ⟨fp, 0, none⟩), .int .i64 x] w fun e w' => e = .returned (.int .i64 (dropC L x)) ∧ (∃ l', l'.length = l.length ∧ IsF w' B fp (dropN L x) l' m (k + 1)) ∧ Wr [77, 83, 3] B w w' := by
  have hc : dropC L x = 15 := by unfold dropC; rw [if_neg (by rw [hh]; decide), if_pos (by omega)]
  have HC := Lib.hid hc
  have HN : Hid (dropN L x = L) := Lib.hid (by unfold dropN; rw [hc]; rfl)
  obtain ⟨tp, tg, mp, bl, hf, hB⟩ := h.fo
  have h1 := hf.c1
  have HL := hf.lookY hx hh
  have HH := Lib.hid hh
  have HF := Lib.hid h
  have HK := Lib.hid hk
  have HR := Lib.hid h.rdr
  have hb0 := Below.refl w.heap.size w
  have q0 := (hf.grp x hh).c0
  rw [hp] at q0
  clear hp
  clear h hf hB hk hh hc
  go_enter Try.func25, Try.ntmps25
  go_wp2_with fail
  go_ret
  rw [HC.out, HN.out]
  exact ⟨rfl, ⟨l, rfl, (HF.out.below (Below.refl _ _)).later HK.out⟩, Wr.of_below (Below.refl _ _)⟩
set_option maxRecDepth 100000 in
set_option maxHeartbeats 4000000 in
theorem DropF_busy (x : Int) (w : World) (h : IsF w B fp L l m k) (hx : I64 x) (hk : k < 1000) (hh : has L x = true) (hp : 0 ≤ (gr L x).pa) (hfa : 0 < fanI L x) :
    Calls Try.prog 25 #[.pointer (some ⟨fp, 0, none⟩), .int .i64 x] w fun e w' => e = .returned (.int .i64 (dropC L x)) ∧ (∃ l', l'.length = l.length ∧ IsF w' B fp (dropN L x) l' m (k + 1)) ∧ Wr [77, 83, 3] B w w' := by
  have hc : dropC L x = 11 := by unfold dropC; rw [if_neg (by rw [hh]; decide), if_neg (by omega), if_pos hfa]
  have HC := Lib.hid hc
  have HN : Hid (dropN L x = L) := Lib.hid (by unfold dropN; rw [hc]; rfl)
  obtain ⟨tp, tg, mp, bl, hf, hB⟩ := h.fo
  have h1 := hf.c1
  have HL := hf.lookY hx hh
  have HH := Lib.hid hh
  have HF := Lib.hid h
  have HK := Lib.hid hk
  have HR := Lib.hid h.rdr
  have hb0 := Below.refl w.heap.size w
  have q0 := (hf.grp x hh).c0
  have hpa2 := beq_ff (show ¬ (gr L x).pa = -1 by omega)
  clear hp
  generalize (gr L x).pa = pa at *
  clear h hf hB hk hh
  go_enter Try.func25, Try.ntmps25
  go_wp2_with (go_at_call 42; refine (HR.out.fan _ _ (by assumption) HH.out (by assumption)).mono ?_; rintro e wi ⟨rfl, hbi⟩)
  go_ret
  rw [HC.out, HN.out]
  exact ⟨rfl, ⟨l, rfl, (HF.out.below (hbi)).later HK.out⟩, Wr.of_below (hbi)⟩
set_option maxRecDepth 100000 in
set_option maxHeartbeats 4000000 in
theorem DropF_yes (x : Int) (w : World) (h : IsF w B fp L l m k) (hx : I64 x) (hk : k < 1000) (hh : has L x = true) (hp : 0 ≤ (gr L x).pa) (hfa : ¬ 0 < fanI L x) :
    Calls Try.prog 25 #[.pointer (some ⟨fp, 0, none⟩), .int .i64 x] w fun e w' => e = .returned (.int .i64 (dropC L x)) ∧ (∃ l', l'.length = l.length ∧ IsF w' B fp (dropN L x) l' m (k + 1)) ∧ Wr [77, 83, 3] B w w' := by
  have hc : dropC L x = 0 := by unfold dropC; rw [if_neg (by rw [hh]; decide), if_neg (by omega), if_neg hfa]
  have HC := Lib.hid hc
  have HN : Hid (dropN L x = delG L x) := Lib.hid (by unfold dropN; rw [hc]; rfl)
  obtain ⟨tp, tg, mp, bl, hf, hB⟩ := h.fo
  have h1 := hf.c1
  have HL := hf.lookY hx hh
  have HH := Lib.hid hh
  have HR := Lib.hid h.rdr
  have HG := Lib.hid hf
  have hb0 := Below.refl w.heap.size w
  have hE : hasE l x = 0 := by unfold hasE; rw [slots_has h.ids, hh]; rfl
  have HE := Lib.hid hE
  have HM : Hid (∀ W : World, Below w.heap.size w W → (∃ n : Nat, (n : Int) ≤ m ∧ Mp W mp n (gOf L bl)) ∧ W.cell? ⟨fp, 1, none⟩ = some (.map (some mp))) := Lib.hid fun W hW => ⟨(hf.below hW).mpp, (hf.below hW).c1⟩
  have HD : Hid (∀ (W w2 : World) (n : Nat), Below w.heap.size w W → (n : Int) ≤ m → Mp W mp n (gOf L bl) → Mp w2 mp n (fun y => if y = x then none else gOf L bl y) → W.grownBy w2 (some mp) → w2.cell? ⟨fp, 0, none⟩ = some (.pointer (some ⟨tp, 0, none⟩)) ∧
      Calls Try.prog 52 #[.pointer (some ⟨tp, 0, none⟩), .int .i64 x] w2 fun e w' => e = .returned (.int .i64 0) ∧ (∃ l', l'.length = l.length ∧ IsF w' B fp (delG L x) l' m (k + 1)) ∧ Wr [77, 83, 3] B w w') := Lib.hid fun W w2 n hW hn hm hm2 hg => by
    have hfW := hf.below hW
    have hf2 := hfW.less h.ok hh hn hm hm2 hg
    refine ⟨hf2.c0, (Drop_any tp tg l m x w2 hf2.tab h.tok.n64).mono ?_⟩
    rintro e w' ⟨rfl, ht, ho⟩
    rw [hE]
    refine ⟨rfl, ⟨dropL l x, by unfold dropL; split <;> simp, ⟨tp, tg, mp, bl, hf2.tabs ho ht, hB.1, hB.2.1, hB.2.2.1, fun y hy => ?_⟩, h.tok.drop x, slots_del h.ok h.tok h.ids hh, h.ok.del hk hh hfa⟩, ((Wr.of_below hW).trans (map_wr hg hm hB.2.2.1)).trans (tab_eq_wr ho hf2.tab hB.1 hB.2.1)⟩
    rw [del_has h.ok hh, Bool.and_eq_true] at hy
    exact hB.2.2.2 y hy.1
  have q0 := (hf.grp x hh).c0
  have hpa2 := beq_ff (show ¬ (gr L x).pa = -1 by omega)
  have hfz : fanI L x ≤ 0 := by omega
  clear h hf hB hk hh hc hE hp hfa
  generalize (gr L x).pa = pa at *
  go_enter Try.func25, Try.ntmps25
  go_wp2_with (first | (go_at_call 42; refine (HR.out.fan _ _ (by assumption) HH.out (by assumption)).mono ?_; rintro e wi ⟨rfl, hbi⟩; obtain ⟨⟨n, hn, hm⟩, hc1⟩ := HM.out wi hbi) | (at_delete; refine wpList_delG rfl _ _ rfl rfl hm rfl hx ?_; intro w2 hm2 hg2; obtain ⟨hc0, hD⟩ := HD.out wi w2 n hbi hn hm hm2 hg2; have HD2 := Lib.hid hD; clear hD) | (go_at_call 52; refine HD2.out.mono ?_; rintro e w3 ⟨rfl, hF, hW⟩))
  go_ret
  rw [HC.out, HN.out]
  exact ⟨rfl, hF, hW⟩
theorem DropF_any (x : Int) (w : World) (h : IsF w B fp L l m k) (hx : I64 x) (hk : k < 1000) :
    Calls Try.prog 25 #[.pointer (some ⟨fp, 0, none⟩), .int .i64 x] w fun e w' => e = .returned (.int .i64 (dropC L x)) ∧ (∃ l', l'.length = l.length ∧ IsF w' B fp (dropN L x) l' m (k + 1)) ∧ Wr [77, 83, 3] B w w' := by
  cases hh : has L x with
  | false => exact DropF_no fp B L l m k x w h hx hk hh
  | true =>
  rcases h.ok.pa hh with hp | hp
  · exact DropF_root fp B L l m k x w h hx hk hh hp
  have hp2 : 0 ≤ (gr L x).pa := by have := h.ok.id hp; omega
  by_cases hf : 0 < fanI L x
  · exact DropF_busy fp B L l m k x w h hx hk hh hp2 hf
  · exact DropF_yes fp B L l m k x w h hx hk hh hp2 hf
set_option maxRecDepth 100000 in
set_option maxHeartbeats 4000000 in
theorem IdsF_any (w : World) (h : IsF w B fp L l m k) :
    Calls Try.prog 20 #[.pointer (some ⟨fp, 0, none⟩)] w fun e w' => (∃ a c, e = .returned (.slice a (idsG L).length c) ∧ RowO w' w.heap.size (.slice a (idsG L).length c) (idsG L)) ∧ Below w.heap.size w w' := by
  obtain ⟨tp, tg, mp, bl, hf, hB⟩ := h.fo
  have h1 := hf.c0
  have HI := Lib.hid (Ids_any tp tg l m w hf.tab h.tok.n1 h.tok.n64)
  rw [h.ids] at HI
  clear h hf hB
  generalize idsG L = ids at *
  go_enter Try.func20, Try.ntmps20
  go_wp2_with (go_at_call 48; refine HI.out.mono ?_; rintro e w1 ⟨⟨a, c, rfl, hro⟩, hb⟩)
  go_ret
  exact ⟨⟨a, c, rfl, hro⟩, hb⟩
end
set_option maxRecDepth 100000 in
set_option maxHeartbeats 4000000 in
theorem NewF_no (r : Int) (w : World) (hr : ¬ (1 ≤ r ∧ r ≤ 64)) :
    Calls Try.prog 9 #[.int .i64 r] w fun e w' => e = .returned (.tuple #[.pointer none, .int .i64 14]) ∧ w = w' := by
  have HN := Lib.hid (New_no r w hr)
  clear hr
  go_enter Try.func9, Try.ntmps9
  go_wp2_with (go_at_call 22; refine HN.out.mono ?_; rintro e w1 ⟨rfl, rfl⟩)
  go_ret2
  exact ⟨rfl, rfl⟩
set_option maxRecDepth 100000 in
set_option maxHeartbeats 4000000 in
theorem NewF_yes (n : Nat) (w : World) (h1 : 1 ≤ n) (h2 : n ≤ 64) :
    Calls Try.prog 9 #[.int .i64 (n : Int)] w fun e w' => (∃ fp l, e = .returned (.tuple #[.pointer (some ⟨fp, 0, none⟩), .int .i64 0]) ∧ l.length = n ∧ IsF w' w.heap.size fp [] l 0 0) ∧ Below w.heap.size w w' := by
  have HN := Lib.hid (New_yes n w h1 h2)
  have h4 : ¬ 64 < (n : Int) := by omega
  have HT := Lib.hid (TabOk.new h1 h2)
  have hmm := @run_makeMap Try.prog
  clear h1 h2
  go_enter Try.func9, Try.ntmps9
  go_wp2_with (go_at_call 22; refine HN.out.mono ?_; rintro e w1 ⟨⟨tp, tg, rfl, ht, hp, hg⟩, hb⟩)
  go_ret2
  have hs1 := hb.size
  have hb1 : Below w1.heap.size w1 (w1.alloc (.map #[] 0)) := (Below.refl _ w1).alloc (Nat.le_refl _) _
  have hb2 : Below w1.heap.size w1 ((w1.alloc (.map #[] 0)).alloc (.cells #[.pointer (some ⟨tp, 0, none⟩), .map (some w1.heap.size)] 62)) := hb1.alloc (by simp) _
  have hm := Mp.made w1
  have hm2 := hm.same (heap_alloc_old (w1.alloc (.map #[] 0)) (.cells #[.pointer (some ⟨tp, 0, none⟩), .map (some w1.heap.size)] 62) hm.lt)
  have hF := heap_alloc_new (w1.alloc (.map #[] 0)) (.cells #[.pointer (some ⟨tp, 0, none⟩), .map (some w1.heap.size)] 62)
  refine ⟨⟨(w1.alloc (.map #[] 0)).heap.size, List.replicate n 0, by simp, by simp, ⟨⟨tp, tg, w1.heap.size, fun _ => 0, ⟨hF, ht.belowS hb2, ⟨0, by omega, ?_⟩, fun x hx => ?_, fun x y hx => ?_⟩, hp, hg, hs1, fun x hx => ?_⟩, HT.out, ?_, ?_⟩⟩, Below.stay hb hb2⟩
  · have e : gOf [] (fun _ => 0) = fun _ => none := by funext x; simp [gOf, has, pos]
    rw [e]
    exact hm2
  · simp [has, pos] at hx
  · simp [has, pos] at hx
  · simp [has, pos] at hx
  · refine List.eq_nil_iff_forall_not_mem.2 fun x hx => ?_
    have := mem_ids.1 hx
    rw [List.mem_replicate] at this
    exact this.2 this.1.2
  · refine ⟨by simp [idsG], fun g hg => by simp at hg, fun g hg => by simp at hg, by omega, by omega, by omega, fun g hg => by simp at hg, fun g hg => by simp at hg, fun x => ?_, by simp⟩
    rw [pth_no (by simp [has, pos])]
    simp
end Go.Proofs.Ythndfhkkaichiaa
