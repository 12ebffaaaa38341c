/-
  Contracts of the forest's SetWeight, Join, Leave, Wake, Sleep. Condition: the forest is one.
-/
import Derived.Test.YthndfhkkaichiaaXg
import Derived.Test.YthndfhkkaichiaaXh
namespace Go.Proofs.Ythndfhkkaichiaa
open Go.RowKit Go.Maps

/-- what is asked of a forest, in whatever world since. -/
structure Rdr (w : World) (fp : Nat) (L : List Gr) : Prop where
  below : ∀ (y t : Int) (W : World), I64 y → Below w.heap.size w W → Calls Try.prog 17 #[.pointer (some ⟨fp, 0, none⟩), .int .i64 y, .int .i64 t] W fun e w' => e = .returned (.bool (belowB L y t)) ∧ Below w.heap.size w w'
  depth : ∀ (y : Int) (W : World), I64 y → Below w.heap.size w W → Calls Try.prog 41 #[.pointer (some ⟨fp, 0, none⟩), .int .i64 y] W fun e w' => e = .returned (.int .i64 (dep L y)) ∧ Below w.heap.size w w'
  root : ∀ (y : Int) (W : World), I64 y → has L y = true → Below w.heap.size w W → Calls Try.prog 43 #[.pointer (some ⟨fp, 0, none⟩), .int .i64 y] W fun e w' => e = .returned (.int .i64 (topI L y)) ∧ Below w.heap.size w w'
  fan : ∀ (y : Int) (W : World), I64 y → has L y = true → Below w.heap.size w W → Calls Try.prog 42 #[.pointer (some ⟨fp, 0, none⟩), .int .i64 y] W fun e w' => e = .returned (.int .i64 (fanI L y)) ∧ Below w.heap.size w w'
  levels : ∀ (y : Int) (W : World), I64 y → Below w.heap.size w W → Calls Try.prog 44 #[.pointer (some ⟨fp, 0, none⟩), .int .i64 y] W fun e w' => (∃ (v : Int), e = .returned (.int .i64 v) ∧ 0 ≤ v ∧ v ≤ 9 ∧ ∀ p, decide (8 < dep L p + v) = deepB L y p) ∧ Below w.heap.size w w'
section
variable {w w' : World} {B fp : Nat} {L : List Gr} {l : List Int} {m k : Int}
theorem IsF.rdr (h : IsF w B fp L l m k) : Rdr w fp L where
  below := fun y t W hy hW => (Below_any fp B L l m k y t W (h.below hW) hy).mono (by rintro e w' ⟨rfl, hb⟩; exact ⟨rfl, Below.stay hW hb⟩)
  depth := fun y W hy hW => (depth_any fp B L l m k y W (h.below hW) hy).mono (by rintro e w' ⟨rfl, hb⟩; exact ⟨rfl, Below.stay hW hb⟩)
  root := fun y W hy hh hW => (root_any fp B L l m k y W (h.below hW) hy hh).mono (by rintro e w' ⟨rfl, hb⟩; exact ⟨rfl, Below.stay hW hb⟩)
  fan := fun y W hy hh hW => (fan_any fp B L l m k y W (h.below hW) hy hh).mono (by rintro e w' ⟨rfl, hb⟩; exact ⟨rfl, Below.stay hW hb⟩)
  levels := fun y W hy hW => (levels_any fp B L l m k y W (h.below hW) hy).mono (by
    rintro e w' ⟨⟨v, vs, rfl, hv, ha⟩, hb⟩
    exact ⟨⟨v, rfl, hv.v0, hv.le8 h.ok, fun p => hv.deep h.ok ha⟩, Below.stay hW hb⟩)
theorem IsF.later (h : IsF w B fp L l m k) (hk : k < 1000) : IsF w B fp L l m (k + 1) := ⟨h.fo, h.tok, h.ids, h.ok.later hk⟩
theorem IsF.turned {tp tg mp : Nat} {bl : Int → Nat} {L' : List Gr} {k' : Int} (h : IsF w B fp L l m k) (hf : Fo w' fp tp tg mp bl L' l m) (hB : B ≤ tp ∧ B ≤ tg ∧ B ≤ mp ∧ ∀ x, has L x = true → B ≤ bl x) (hi : idsG L' = idsG L) (ok : Ok L' m k') : IsF w' B fp L' l m k' :=
  ⟨⟨tp, tg, mp, bl, hf, hB.1, hB.2.1, hB.2.2.1, fun x hx => hB.2.2.2 x (by rw [← has_of_ids hi]; exact hx)⟩, h.tok, by rw [h.ids, hi], ok⟩
/-- a group's block turns behind some asking. -/
theorem IsF.act {tp tg mp : Nat} {bl : Int → Nat} {k' x : Int} {w1 : World} {i : Nat} {v : Value} {g : Gr} (h : IsF w B fp L l m k) (hf : Fo w fp tp tg mp bl L l m) (hB : B ≤ tp ∧ B ≤ tg ∧ B ≤ mp ∧ ∀ x, has L x = true → B ≤ bl x)
    (hb : Below w.heap.size w w1) (hx : has L x = true) (hg : g.id = x) (hs : IsX (w1.setCell ⟨bl x, i, none⟩ v) (bl x) g) (ok : Ok (setG L x g) m k') : IsF (w1.setCell ⟨bl x, i, none⟩ v) B fp (setG L x g) l m k' ∧ Wr [77] B w (w1.setCell ⟨bl x, i, none⟩ v) := by
  have hf1 := hf.below hb
  exact ⟨h.turned (hf1.put hx hg hs) hB (setG_ids hg) ok, (Wr.of_below hb).trans (Wr.setCell (hf1.grp x hx) (by simp) (hB.2.2.2 x hx) v)⟩
end
section
variable (fp B : Nat) (L : List Gr) (l : List Int) (m k : Int)
set_option maxRecDepth 100000 in
set_option maxHeartbeats 4000000 in
theorem SetWeight_no (x wt : Int) (w : World) (h : IsF w B fp L l m k) (hx : I64 x) (hk : k < 1000) (hh : has L x = false) :
    Calls Try.prog 28 #[.pointer (some ⟨fp, 0, none⟩), .int .i64 x, .int .i64 wt] w fun e w' => e = .returned (.int .i64 (weightC L x wt)) ∧ IsF w' B fp (weightN L x wt) l m (k + 1) ∧ Wr [77] B w w' := by
  have hc : weightC L x wt = 4 := by unfold weightC; simp [hh]
  have HC := Lib.hid hc
  have HN : Hid (weightN L x wt = L) := Lib.hid (by unfold weightN; rw [hc]; rfl)
  obtain ⟨tp, tg, mp, bl, hf, hB⟩ := h.fo
  have h1 := hf.c1
  have HL := hf.lookN hx hh
  have HF := Lib.hid h
  have HG := Lib.hid hf
  have HK := Lib.hid hk
  have HB := Lib.hid hB
  clear h hf hB hk hh hc
  go_enter Try.func28, Try.ntmps28
  go_wp2_with fail
  go_ret
  rw [HC.out, HN.out]
  exact ⟨rfl, HF.out.later HK.out, Wr.refl _⟩
set_option maxRecDepth 100000 in
set_option maxHeartbeats 4000000 in
theorem SetWeight_root (x wt : Int) (w : World) (h : IsF w B fp L l m k) (hx : I64 x) (hk : k < 1000) (hh : has L x = true) (hp : (gr L x).pa = -1) :
    Calls Try.prog 28 #[.pointer (some ⟨fp, 0, none⟩), .int .i64 x, .int .i64 wt] w fun e w' => e = .returned (.int .i64 (weightC L x wt)) ∧ IsF w' B fp (weightN L x wt) l m (k + 1) ∧ Wr [77] B w w' := by
  have hc : weightC L x wt = 15 := by unfold weightC; simp [hh, hp]
  have HC := Lib.hid hc
  have HN : Hid (weightN L x wt = L) := Lib.hid (by unfold weightN; rw [hc]; rfl)
  obtain ⟨tp, tg, mp, bl, hf, hB⟩ := h.fo
  have h1 := hf.c1
  have HL := hf.lookY hx hh
  have HF := Lib.hid h
  have HG := Lib.hid hf
  have HK := Lib.hid hk
  have HB := Lib.hid hB
  have q0 := (hf.grp x hh).c0
  rw [hp] at q0
  clear h hf hB hk hh hc hp
  go_enter Try.func28, Try.ntmps28
  go_wp2_with fail
  go_ret
  rw [HC.out, HN.out]
  exact ⟨rfl, HF.out.later HK.out, Wr.refl _⟩
set_option maxRecDepth 100000 in
set_option maxHeartbeats 4000000 in
theorem SetWeight_bad (x wt : Int) (w : World) (h : IsF w B fp L l m k) (hx : I64 x) (hk : k < 1000) (hh : has L x = true) (hp : 0 ≤ (gr L x).pa) (hw : ¬ (1 ≤ wt ∧ wt ≤ 10000)) :
    Calls Try.prog 28 #[.pointer (some ⟨fp, 0, none⟩), .int .i64 x, .int .i64 wt] w fun e w' => e = .returned (.int .i64 (weightC L x wt)) ∧ IsF w' B fp (weightN L x wt) l m (k + 1) ∧ Wr [77] B w w' := by
  have hc : weightC L x wt = 13 := by unfold weightC; rw [if_neg (by rw [hh]; decide), if_neg (by omega), if_pos hw]
  have HC := Lib.hid hc
  have HN : Hid (weightN L x wt = L) := Lib.hid (by unfold weightN; rw [hc]; rfl)
  obtain ⟨tp, tg, mp, bl, hf, hB⟩ := h.fo
  have h1 := hf.c1
  have HL := hf.lookY hx hh
  have HF := Lib.hid h
  have HG := Lib.hid hf
  have HK := Lib.hid hk
  have HB := Lib.hid hB
  have q0 := (hf.grp x hh).c0
  have hp2 := beq_ff (show ¬ (gr L x).pa = -1 by omega)
  have HW : Hid (decide (1 ≤ wt ∧ wt ≤ 10000) = false) := Lib.hid (decide_eq_false hw)
  clear h hf hB hk hh hc hp hw
  generalize (gr L x).pa = pa at *
  go_enter Try.func28, Try.ntmps28
  go_wp2_with (go_at_call 40; refine (isWeight_any _ _).mono ?_; rw [HW.out]; rintro e w1 ⟨rfl, rfl⟩)
  go_ret
  rw [HC.out, HN.out]
  exact ⟨rfl, HF.out.later HK.out, Wr.refl _⟩
set_option maxRecDepth 100000 in
set_option maxHeartbeats 4000000 in
theorem SetWeight_yes (x wt : Int) (w : World) (h : IsF w B fp L l m k) (hx : I64 x) (hk : k < 1000) (hh : has L x = true) (hp : 0 ≤ (gr L x).pa) (hw : 1 ≤ wt ∧ wt ≤ 10000) :
    Calls Try.prog 28 #[.pointer (some ⟨fp, 0, none⟩), .int .i64 x, .int .i64 wt] w fun e w' => e = .returned (.int .i64 (weightC L x wt)) ∧ IsF w' B fp (weightN L x wt) l m (k + 1) ∧ Wr [77] B w w' := by
  have hc : weightC L x wt = 0 := by unfold weightC; rw [if_neg (by rw [hh]; decide), if_neg (by omega), if_neg (by omega)]
  have HC := Lib.hid hc
  have HN : Hid (weightN L x wt = weightG L x wt) := Lib.hid (by unfold weightN; rw [hc]; rfl)
  obtain ⟨tp, tg, mp, bl, hf, hB⟩ := h.fo
  have h1 := hf.c1
  have HL := hf.lookY hx hh
  have HF := Lib.hid h
  have HG := Lib.hid hf
  have HK := Lib.hid hk
  have HB := Lib.hid hB
  have q0 := (hf.grp x hh).c0
  have q1 := (hf.grp x hh).c1
  have f1 := (hf.grp x hh).fz 1
  have hp2 := beq_ff (show ¬ (gr L x).pa = -1 by omega)
  have HW : Hid (decide (1 ≤ wt ∧ wt ≤ 10000) = true) := Lib.hid (decide_eq_true hw)
  have HOK : Ok (weightG L x wt) m (k + 1) := by have := h.ok.weight (x := x) (wt := wt) hk; rwa [HN.out] at this
  have HS : IsX (w.setCell ⟨bl x, 1, none⟩ (.int .i64 wt)) (bl x) ⟨x, (gr L x).pa, wt, (gr L x).me, (gr L x).aw⟩ := (hf.grp x hh).set1 wt
  have HA := Lib.hid (h.act hf hB (Below.refl _ _) hh rfl HS HOK)
  clear h hf hB hk hh hc hp hw HOK HS
  unfold weightG at HN
  generalize (gr L x).pa = pa at *
  generalize (gr L x).wt = wt0 at *
  go_enter Try.func28, Try.ntmps28
  go_wp2_with (go_at_call 40; refine (isWeight_any _ _).mono ?_; rw [HW.out]; rintro e w1 ⟨rfl, rfl⟩)
  go_ret
  rw [HC.out, HN.out]
  refine ⟨rfl, ?_⟩
  exact HA.out
theorem SetWeight_any (x wt : Int) (w : World) (h : IsF w B fp L l m k) (hx : I64 x) (hk : k < 1000) :
    Calls Try.prog 28 #[.pointer (some ⟨fp, 0, none⟩), .int .i64 x, .int .i64 wt] w fun e w' => e = .returned (.int .i64 (weightC L x wt)) ∧ IsF w' B fp (weightN L x wt) l m (k + 1) ∧ Wr [77] B w w' := by
  cases hh : has L x with
  | false => exact SetWeight_no fp B L l m k x wt w h hx hk hh
  | true =>
    rcases h.ok.pa hh with hp | hp
    · exact SetWeight_root fp B L l m k x wt w h hx hk hh hp
    · have := h.ok.id hp
      by_cases hw : 1 ≤ wt ∧ wt ≤ 10000
      · exact SetWeight_yes fp B L l m k x wt w h hx hk hh (by omega) hw
      · exact SetWeight_bad fp B L l m k x wt w h hx hk hh (by omega) hw
set_option maxRecDepth 100000 in
set_option maxHeartbeats 4000000 in
theorem Join_no (x : Int) (w : World) (h : IsF w B fp L l m k) (hx : I64 x) (hk : k < 1000) (hh : has L x = false) :
    Calls Try.prog 18 #[.pointer (some ⟨fp, 0, none⟩), .int .i64 x] w fun e w' => e = .returned (.int .i64 (countC L x 1 0)) ∧ IsF w' B fp (countN L x 1 0) l m (k + 1) ∧ Wr [77] B w w' := by
  have hc : countC L x 1 0 = 4 := by unfold countC; simp [hh]
  have HC := Lib.hid hc
  have HN : Hid (countN L x 1 0 = L) := Lib.hid (by unfold countN; rw [hc]; rfl)
  obtain ⟨tp, tg, mp, bl, hf, hB⟩ := h.fo
  have h1 := hf.c1
  have HL := hf.lookN hx hh
  have HF := Lib.hid h
  have HG := Lib.hid hf
  have HK := Lib.hid hk
  have HB := Lib.hid hB
  clear h hf hB hk hh hc
  go_enter Try.func18, Try.ntmps18
  go_wp2_with fail
  go_ret
  rw [HC.out, HN.out]
  exact ⟨rfl, HF.out.later HK.out, Wr.refl _⟩
set_option maxRecDepth 100000 in
set_option maxHeartbeats 4000000 in
theorem Join_full (x : Int) (w : World) (h : IsF w B fp L l m k) (hx : I64 x) (hk : k < 1000) (hh : has L x = true) (hf32 : fanI L x = 32) :
    Calls Try.prog 18 #[.pointer (some ⟨fp, 0, none⟩), .int .i64 x] w fun e w' => e = .returned (.int .i64 (countC L x 1 0)) ∧ IsF w' B fp (countN L x 1 0) l m (k + 1) ∧ Wr [77] B w w' := by
  have hc : countC L x 1 0 = 6 := by unfold countC; rw [if_neg (by rw [hh]; decide), if_pos ⟨by decide, hf32⟩]
  have HC := Lib.hid hc
  have HN : Hid (countN L x 1 0 = L) := Lib.hid (by unfold countN; rw [hc]; rfl)
  obtain ⟨tp, tg, mp, bl, hf, hB⟩ := h.fo
  have h1 := hf.c1
  have HL := hf.lookY hx hh
  have HF := Lib.hid h
  have HG := Lib.hid hf
  have HK := Lib.hid hk
  have HB := Lib.hid hB
  have HR := Lib.hid h.rdr
  have HH := Lib.hid hh
  have HFA := Lib.hid hf32
  have hb0 := Below.refl w.heap.size w
  clear h hf hB hk hh hc hf32
  go_enter Try.func18, Try.ntmps18
  go_wp2_with (go_at_call 42; refine (HR.out.fan _ _ (by assumption) HH.out (by assumption)).mono ?_; rw [HFA.out]; rintro e wi ⟨rfl, hbi⟩)
  go_ret
  rw [HC.out, HN.out]
  exact ⟨rfl, (HF.out.below hbi).later HK.out, Wr.of_below hbi⟩
set_option maxRecDepth 100000 in
set_option maxHeartbeats 4000000 in
theorem Join_yes (x : Int) (w : World) (h : IsF w B fp L l m k) (hx : I64 x) (hk : k < 1000) (hh : has L x = true) (hf32 : ¬ fanI L x = 32) :
    Calls Try.prog 18 #[.pointer (some ⟨fp, 0, none⟩), .int .i64 x] w fun e w' => e = .returned (.int .i64 (countC L x 1 0)) ∧ IsF w' B fp (countN L x 1 0) l m (k + 1) ∧ Wr [77] B w w' := by
  have hc : countC L x 1 0 = 0 := by unfold countC; have := h.ok.num _ (gr_mem hh); rw [if_neg (by rw [hh]; decide), if_neg (fun e => hf32 e.2), if_neg (by omega)]
  have HC := Lib.hid hc
  have HN : Hid (countN L x 1 0 = countG L x 1 0) := Lib.hid (by unfold countN; rw [hc]; rfl)
  obtain ⟨tp, tg, mp, bl, hf, hB⟩ := h.fo
  have h1 := hf.c1
  have HL := hf.lookY hx hh
  have HF := Lib.hid h
  have HG := Lib.hid hf
  have HK := Lib.hid hk
  have HB := Lib.hid hB
  have hnum := h.ok.num _ (gr_mem hh)
  have hkk := h.ok.k1
  have HR := Lib.hid h.rdr
  have HH := Lib.hid hh
  have hb0 := Below.refl w.heap.size w
  have HOK : Ok (countG L x 1 0) m (k + 1) := by have := h.ok.count (x := x) (me := 1) (aw := 0) hk (by omega); rwa [HN.out] at this
  have HA : Hid (∀ W : World, Below w.heap.size w W → IsF (W.setCell ⟨bl x, 2, none⟩ (.int .i64 ((gr L x).me + 1))) B fp (countG L x 1 0) l m (k + 1) ∧ Wr [77] B w (W.setCell ⟨bl x, 2, none⟩ (.int .i64 ((gr L x).me + 1)))) := Lib.hid fun W hW => by
    refine h.act hf hB hW hh rfl ?_ HOK
    have := ((hf.below hW).grp x hh).set2 ((gr L x).me + 1)
    unfold IsX cellsX at this ⊢
    simpa [Int.sub_eq_add_neg] using this
  have HQ : Hid (∀ W : World, Below w.heap.size w W → W.cell? ⟨bl x, 2, none⟩ = some (.int .i64 (gr L x).me)) := Lib.hid fun W hW => ((hf.below hW).grp x hh).c2
  have hff := beq_ff hf32
  generalize hme : (gr L x).me = me at *
  obtain ⟨n1, n2, n3, _⟩ := hnum
  have n4 : 0 ≤ me := by omega
  have n5 : me ≤ 1000 := by omega
  clear n1 n2 n3 hkk hf32 hme
  clear h hf hB hk hh hc HOK
  go_enter Try.func18, Try.ntmps18
  go_wp2_with (go_at_call 42; refine (HR.out.fan _ _ (by assumption) HH.out (by assumption)).mono ?_; rintro e wi ⟨rfl, hbi⟩; have hgi := HG.out.below hbi; have q2 := HQ.out wi hbi; have f2 := (hgi.grp x HH.out).fz 2)
  go_ret
  rw [HC.out, HN.out]
  exact ⟨rfl, HA.out _ (by assumption)⟩
theorem Join_any (x : Int) (w : World) (h : IsF w B fp L l m k) (hx : I64 x) (hk : k < 1000) :
    Calls Try.prog 18 #[.pointer (some ⟨fp, 0, none⟩), .int .i64 x] w fun e w' => e = .returned (.int .i64 (countC L x 1 0)) ∧ IsF w' B fp (countN L x 1 0) l m (k + 1) ∧ Wr [77] B w w' := by
  cases hh : has L x with
  | false => exact Join_no fp B L l m k x w h hx hk hh
  | true =>
    by_cases hf : fanI L x = 32
    · exact Join_full fp B L l m k x w h hx hk hh hf
    · exact Join_yes fp B L l m k x w h hx hk hh hf
set_option maxRecDepth 100000 in
set_option maxHeartbeats 4000000 in
theorem Leave_no (x : Int) (w : World) (h : IsF w B fp L l m k) (hx : I64 x) (hk : k < 1000) (hh : has L x = false) :
    Calls Try.prog 31 #[.pointer (some ⟨fp, 0, none⟩), .int .i64 x] w fun e w' => e = .returned (.int .i64 (countC L x (-1) 0)) ∧ IsF w' B fp (countN L x (-1) 0) l m (k + 1) ∧ Wr [77] B w w' := by
  have hc : countC L x (-1) 0 = 4 := by unfold countC; simp [hh]
  have HC := Lib.hid hc
  have HN : Hid (countN L x (-1) 0 = L) := Lib.hid (by unfold countN; rw [hc]; rfl)
  obtain ⟨tp, tg, mp, bl, hf, hB⟩ := h.fo
  have h1 := hf.c1
  have HL := hf.lookN hx hh
  have HF := Lib.hid h
  have HG := Lib.hid hf
  have HK := Lib.hid hk
  have HB := Lib.hid hB
  clear h hf hB hk hh hc
  go_enter Try.func31, Try.ntmps31
  go_wp2_with fail
  go_ret
  rw [HC.out, HN.out]
  exact ⟨rfl, HF.out.later HK.out, Wr.refl _⟩
set_option maxRecDepth 100000 in
set_option maxHeartbeats 4000000 in
theorem Leave_same (x : Int) (w : World) (h : IsF w B fp L l m k) (hx : I64 x) (hk : k < 1000) (hh : has L x = true) (he : (gr L x).aw = (gr L x).me) :
    Calls Try.prog 31 #[.pointer (some ⟨fp, 0, none⟩), .int .i64 x] w fun e w' => e = .returned (.int .i64 (countC L x (-1) 0)) ∧ IsF w' B fp (countN L x (-1) 0) l m (k + 1) ∧ Wr [77] B w w' := by
  have hc : countC L x (-1) 0 = 10 := by unfold countC; rw [if_neg (by rw [hh]; decide), if_neg (fun e => absurd e.1 (by decide)), if_pos (by omega)]
  have HC := Lib.hid hc
  have HN : Hid (countN L x (-1) 0 = L) := Lib.hid (by unfold countN; rw [hc]; rfl)
  obtain ⟨tp, tg, mp, bl, hf, hB⟩ := h.fo
  have h1 := hf.c1
  have HL := hf.lookY hx hh
  have HF := Lib.hid h
  have HG := Lib.hid hf
  have HK := Lib.hid hk
  have HB := Lib.hid hB
  have q2 := (hf.grp x hh).c2
  have q3 := (hf.grp x hh).c3
  rw [he] at q3
  have f2 := (hf.grp x hh).fz 2
  have f3 := (hf.grp x hh).fz 3
  have hee : ((gr L x).me == (gr L x).me) = true := by simp
  generalize (gr L x).me = me at *
  clear h hf hB hk hh hc he
  go_enter Try.func31, Try.ntmps31
  go_wp2_with fail
  have hbi : Below w.heap.size w w.drew := (Same.drew w).below _
  have q2 : w.drew.cell? ⟨bl x, 2, none⟩ = some (.int .i64 me) := q2
  have q3 : w.drew.cell? ⟨bl x, 3, none⟩ = some (.int .i64 me) := q3
  have f2 : w.drew.frozen? ⟨bl x, 2, none⟩ = false := f2
  have f3 : w.drew.frozen? ⟨bl x, 3, none⟩ = false := f3
  refine Rd.region (fun X => X.cell? ⟨bl x, 3, none⟩ = some (.int .i64 me) ∧ X.cell? ⟨bl x, 2, none⟩ = some (.int .i64 me)) 10 [0, 1, 2, 3, 4, 5, 6, 7, 8, 9] [0, 1, 2, 3, 4, 5, 6, 7, 8, 9] (by kernel_rfl) (by kernel_rfl) (by kernel_rfl) (by kernel_rfl) rfl ⟨q3, q2⟩ ?_
  generalize w.drew = w3 at *
  refine Rd.seq_float (.pointer (some ⟨bl x, 0, none⟩)) (by simp only [List.getElem?_toArray, List.getElem?_cons_zero]; rfl) rfl (by rfl) (fun X _ => by go_simp) ?_
  simp only [Act.put, List.setIfInBounds_toArray, List.set_cons_succ, List.set_cons_zero]
  refine Rd.seq_float (.pointer (some ⟨bl x, 0, none⟩)) (by simp only [List.getElem?_toArray, List.getElem?_cons_succ, List.getElem?_cons_zero]; rfl) rfl (by rfl) (fun X _ => by go_simp) ?_
  simp only [Act.put, List.setIfInBounds_toArray, List.set_cons_succ, List.set_cons_zero]
  refine Rd.seq_float (.pointer (some ⟨bl x, 3, none⟩)) (by simp only [List.getElem?_toArray, List.getElem?_cons_succ, List.getElem?_cons_zero]; rfl) rfl (by rfl) (fun X _ => by go_simp) ?_
  simp only [Act.put, List.setIfInBounds_toArray, List.set_cons_succ, List.set_cons_zero]
  refine Rd.seq_float (.int .i64 me) (by simp only [List.getElem?_toArray, List.getElem?_cons_succ, List.getElem?_cons_zero]; rfl) rfl (by rfl) (fun X hX => by obtain ⟨e3, e2⟩ := hX; go_simp) ?_
  simp only [Act.put, List.setIfInBounds_toArray, List.set_cons_succ, List.set_cons_zero]
  refine Rd.seq_float (.pointer (some ⟨bl x, 0, none⟩)) (by simp only [List.getElem?_toArray, List.getElem?_cons_succ, List.getElem?_cons_zero]; rfl) rfl (by rfl) (fun X _ => by go_simp) ?_
  simp only [Act.put, List.setIfInBounds_toArray, List.set_cons_succ, List.set_cons_zero]
  refine Rd.seq_float (.pointer (some ⟨bl x, 0, none⟩)) (by simp only [List.getElem?_toArray, List.getElem?_cons_succ, List.getElem?_cons_zero]; rfl) rfl (by rfl) (fun X _ => by go_simp) ?_
  simp only [Act.put, List.setIfInBounds_toArray, List.set_cons_succ, List.set_cons_zero]
  refine Rd.seq_float (.pointer (some ⟨bl x, 2, none⟩)) (by simp only [List.getElem?_toArray, List.getElem?_cons_succ, List.getElem?_cons_zero]; rfl) rfl (by rfl) (fun X _ => by go_simp) ?_
  simp only [Act.put, List.setIfInBounds_toArray, List.set_cons_succ, List.set_cons_zero]
  refine Rd.seq_float (.int .i64 me) (by simp only [List.getElem?_toArray, List.getElem?_cons_succ, List.getElem?_cons_zero]; rfl) rfl (by rfl) (fun X hX => by obtain ⟨e3, e2⟩ := hX; go_simp) ?_
  simp only [Act.put, List.setIfInBounds_toArray, List.set_cons_succ, List.set_cons_zero]
  refine Rd.seq_float (.bool true) (by simp only [List.getElem?_toArray, List.getElem?_cons_succ, List.getElem?_cons_zero]; rfl) rfl (by rfl) (fun X _ => by go_simp) ?_
  simp only [Act.put, List.setIfInBounds_toArray, List.set_cons_succ, List.set_cons_zero]
  refine Rd.seq_float (.bool true) (by simp only [List.getElem?_toArray, List.getElem?_cons_succ, List.getElem?_cons_zero]; rfl) rfl (by rfl) (fun X _ => by go_simp) ?_
  simp only [Act.put, List.setIfInBounds_toArray, List.set_cons_succ, List.set_cons_zero]
  refine Rd.seq_end ?_
  go_wp2_with fail
  go_ret
  rw [HC.out, HN.out]
  exact ⟨rfl, (HF.out.below hbi).later HK.out, Wr.of_below hbi⟩
set_option maxRecDepth 100000 in
set_option maxHeartbeats 4000000 in
theorem Leave_yes (x : Int) (w : World) (h : IsF w B fp L l m k) (hx : I64 x) (hk : k < 1000) (hh : has L x = true) (hne : ¬ (gr L x).aw = (gr L x).me) :
    Calls Try.prog 31 #[.pointer (some ⟨fp, 0, none⟩), .int .i64 x] w fun e w' => e = .returned (.int .i64 (countC L x (-1) 0)) ∧ IsF w' B fp (countN L x (-1) 0) l m (k + 1) ∧ Wr [77] B w w' := by
  have hc : countC L x (-1) 0 = 0 := by unfold countC; have := h.ok.num _ (gr_mem hh); rw [if_neg (by rw [hh]; decide), if_neg (fun e => absurd e.1 (by decide)), if_neg (by omega)]
  have HC := Lib.hid hc
  have HN : Hid (countN L x (-1) 0 = countG L x (-1) 0) := Lib.hid (by unfold countN; rw [hc]; rfl)
  obtain ⟨tp, tg, mp, bl, hf, hB⟩ := h.fo
  have h1 := hf.c1
  have HL := hf.lookY hx hh
  have HF := Lib.hid h
  have HG := Lib.hid hf
  have HK := Lib.hid hk
  have HB := Lib.hid hB
  have hnum := h.ok.num _ (gr_mem hh)
  have hkk := h.ok.k1
  have HR := Lib.hid h.rdr
  have HH := Lib.hid hh
  have hb0 := Below.refl w.heap.size w
  have HOK : Ok (countG L x (-1) 0) m (k + 1) := by have := h.ok.count (x := x) (me := (-1)) (aw := 0) hk (by omega); rwa [HN.out] at this
  have HA : Hid (∀ W : World, Below w.heap.size w W → IsF (W.setCell ⟨bl x, 2, none⟩ (.int .i64 ((gr L x).me - 1))) B fp (countG L x (-1) 0) l m (k + 1) ∧ Wr [77] B w (W.setCell ⟨bl x, 2, none⟩ (.int .i64 ((gr L x).me - 1)))) := Lib.hid fun W hW => by
    refine h.act hf hB hW hh rfl ?_ HOK
    have := ((hf.below hW).grp x hh).set2 ((gr L x).me - 1)
    unfold IsX cellsX at this ⊢
    simpa [Int.sub_eq_add_neg] using this
  have q2 := (hf.grp x hh).c2
  have q3 := (hf.grp x hh).c3
  have f2 := (hf.grp x hh).fz 2
  have f3 := (hf.grp x hh).fz 3
  have hne2 : ((gr L x).aw == (gr L x).me) = false := beq_ff (by omega)
  generalize (gr L x).me = me at *
  generalize (gr L x).aw = aw at *
  obtain ⟨n1, n2, n3, _⟩ := hnum
  have n4 : 0 ≤ me := by omega
  have n5 : me ≤ 1000 := by omega
  have n6 : aw ≤ 1000 := by omega
  clear n3 hkk hne
  clear h hf hB hk hh hc HOK
  go_enter Try.func31, Try.ntmps31
  go_wp2_with fail
  have hbi : Below w.heap.size w w.drew := (Same.drew w).below _
  have q2 : w.drew.cell? ⟨bl x, 2, none⟩ = some (.int .i64 me) := q2
  have q3 : w.drew.cell? ⟨bl x, 3, none⟩ = some (.int .i64 aw) := q3
  have f2 : w.drew.frozen? ⟨bl x, 2, none⟩ = false := f2
  have f3 : w.drew.frozen? ⟨bl x, 3, none⟩ = false := f3
  refine Rd.region (fun X => X.cell? ⟨bl x, 3, none⟩ = some (.int .i64 aw) ∧ X.cell? ⟨bl x, 2, none⟩ = some (.int .i64 me)) 10 [0, 1, 2, 3, 4, 5, 6, 7, 8, 9] [0, 1, 2, 3, 4, 5, 6, 7, 8, 9] (by kernel_rfl) (by kernel_rfl) (by kernel_rfl) (by kernel_rfl) rfl ⟨q3, q2⟩ ?_
  generalize w.drew = w3 at *
  refine Rd.seq_float (.pointer (some ⟨bl x, 0, none⟩)) (by simp only [List.getElem?_toArray, List.getElem?_cons_zero]; rfl) rfl (by rfl) (fun X _ => by go_simp) ?_
  simp only [Act.put, List.setIfInBounds_toArray, List.set_cons_succ, List.set_cons_zero]
  refine Rd.seq_float (.pointer (some ⟨bl x, 0, none⟩)) (by simp only [List.getElem?_toArray, List.getElem?_cons_succ, List.getElem?_cons_zero]; rfl) rfl (by rfl) (fun X _ => by go_simp) ?_
  simp only [Act.put, List.setIfInBounds_toArray, List.set_cons_succ, List.set_cons_zero]
  refine Rd.seq_float (.pointer (some ⟨bl x, 3, none⟩)) (by simp only [List.getElem?_toArray, List.getElem?_cons_succ, List.getElem?_cons_zero]; rfl) rfl (by rfl) (fun X _ => by go_simp) ?_
  simp only [Act.put, List.setIfInBounds_toArray, List.set_cons_succ, List.set_cons_zero]
  refine Rd.seq_float (.int .i64 aw) (by simp only [List.getElem?_toArray, List.getElem?_cons_succ, List.getElem?_cons_zero]; rfl) rfl (by rfl) (fun X hX => by obtain ⟨e3, e2⟩ := hX; go_simp) ?_
  simp only [Act.put, List.setIfInBounds_toArray, List.set_cons_succ, List.set_cons_zero]
  refine Rd.seq_float (.pointer (some ⟨bl x, 0, none⟩)) (by simp only [List.getElem?_toArray, List.getElem?_cons_succ, List.getElem?_cons_zero]; rfl) rfl (by rfl) (fun X _ => by go_simp) ?_
  simp only [Act.put, List.setIfInBounds_toArray, List.set_cons_succ, List.set_cons_zero]
  refine Rd.seq_float (.pointer (some ⟨bl x, 0, none⟩)) (by simp only [List.getElem?_toArray, List.getElem?_cons_succ, List.getElem?_cons_zero]; rfl) rfl (by rfl) (fun X _ => by go_simp) ?_
  simp only [Act.put, List.setIfInBounds_toArray, List.set_cons_succ, List.set_cons_zero]
  refine Rd.seq_float (.pointer (some ⟨bl x, 2, none⟩)) (by simp only [List.getElem?_toArray, List.getElem?_cons_succ, List.getElem?_cons_zero]; rfl) rfl (by rfl) (fun X _ => by go_simp) ?_
  simp only [Act.put, List.setIfInBounds_toArray, List.set_cons_succ, List.set_cons_zero]
  refine Rd.seq_float (.int .i64 me) (by simp only [List.getElem?_toArray, List.getElem?_cons_succ, List.getElem?_cons_zero]; rfl) rfl (by rfl) (fun X hX => by obtain ⟨e3, e2⟩ := hX; go_simp) ?_
  simp only [Act.put, List.setIfInBounds_toArray, List.set_cons_succ, List.set_cons_zero]
  refine Rd.seq_float (.bool false) (by simp only [List.getElem?_toArray, List.getElem?_cons_succ, List.getElem?_cons_zero]; rfl) rfl (by rfl) (fun X _ => by go_simp) ?_
  simp only [Act.put, List.setIfInBounds_toArray, List.set_cons_succ, List.set_cons_zero]
  refine Rd.seq_float (.bool false) (by simp only [List.getElem?_toArray, List.getElem?_cons_succ, List.getElem?_cons_zero]; rfl) rfl (by rfl) (fun X _ => by go_simp) ?_
  simp only [Act.put, List.setIfInBounds_toArray, List.set_cons_succ, List.set_cons_zero]
  refine Rd.seq_end ?_
  go_wp2_with fail
  go_ret
  rw [HC.out, HN.out]
  exact ⟨rfl, HA.out _ (by assumption)⟩
theorem Leave_any (x : Int) (w : World) (h : IsF w B fp L l m k) (hx : I64 x) (hk : k < 1000) :
    Calls Try.prog 31 #[.pointer (some ⟨fp, 0, none⟩), .int .i64 x] w fun e w' => e = .returned (.int .i64 (countC L x (-1) 0)) ∧ IsF w' B fp (countN L x (-1) 0) l m (k + 1) ∧ Wr [77] B w w' := by
  cases hh : has L x with
  | false => exact Leave_no fp B L l m k x w h hx hk hh
  | true =>
    by_cases hf : (gr L x).aw = (gr L x).me
    · exact Leave_same fp B L l m k x w h hx hk hh hf
    · exact Leave_yes fp B L l m k x w h hx hk hh hf
set_option maxRecDepth 100000 in
set_option maxHeartbeats 4000000 in
theorem Wake_no (x : Int) (w : World) (h : IsF w B fp L l m k) (hx : I64 x) (hk : k < 1000) (hh : has L x = false) :
    Calls Try.prog 32 #[.pointer (some ⟨fp, 0, none⟩), .int .i64 x] w fun e w' => e = .returned (.int .i64 (countC L x 0 1)) ∧ IsF w' B fp (countN L x 0 1) l m (k + 1) ∧ Wr [77] B w w' := by
  have hc : countC L x 0 1 = 4 := by unfold countC; simp [hh]
  have HC := Lib.hid hc
  have HN : Hid (countN L x 0 1 = L) := Lib.hid (by unfold countN; rw [hc]; rfl)
  obtain ⟨tp, tg, mp, bl, hf, hB⟩ := h.fo
  have h1 := hf.c1
  have HL := hf.lookN hx hh
  have HF := Lib.hid h
  have HG := Lib.hid hf
  have HK := Lib.hid hk
  have HB := Lib.hid hB
  clear h hf hB hk hh hc
  go_enter Try.func32, Try.ntmps32
  go_wp2_with fail
  go_ret
  rw [HC.out, HN.out]
  exact ⟨rfl, HF.out.later HK.out, Wr.refl _⟩
set_option maxRecDepth 100000 in
set_option maxHeartbeats 4000000 in
theorem Wake_same (x : Int) (w : World) (h : IsF w B fp L l m k) (hx : I64 x) (hk : k < 1000) (hh : has L x = true) (he : (gr L x).aw = (gr L x).me) :
    Calls Try.prog 32 #[.pointer (some ⟨fp, 0, none⟩), .int .i64 x] w fun e w' => e = .returned (.int .i64 (countC L x 0 1)) ∧ IsF w' B fp (countN L x 0 1) l m (k + 1) ∧ Wr [77] B w w' := by
  have hc : countC L x 0 1 = 10 := by unfold countC; rw [if_neg (by rw [hh]; decide), if_neg (fun e => absurd e.1 (by decide)), if_pos (by omega)]
  have HC := Lib.hid hc
  have HN : Hid (countN L x 0 1 = L) := Lib.hid (by unfold countN; rw [hc]; rfl)
  obtain ⟨tp, tg, mp, bl, hf, hB⟩ := h.fo
  have h1 := hf.c1
  have HL := hf.lookY hx hh
  have HF := Lib.hid h
  have HG := Lib.hid hf
  have HK := Lib.hid hk
  have HB := Lib.hid hB
  have q2 := (hf.grp x hh).c2
  have q3 := (hf.grp x hh).c3
  rw [he] at q3
  have f2 := (hf.grp x hh).fz 2
  have f3 := (hf.grp x hh).fz 3
  have hee : ((gr L x).me == (gr L x).me) = true := by simp
  generalize (gr L x).me = me at *
  clear h hf hB hk hh hc he
  go_enter Try.func32, Try.ntmps32
  go_wp2_with fail
  have hbi : Below w.heap.size w w.drew := (Same.drew w).below _
  have q2 : w.drew.cell? ⟨bl x, 2, none⟩ = some (.int .i64 me) := q2
  have q3 : w.drew.cell? ⟨bl x, 3, none⟩ = some (.int .i64 me) := q3
  have f2 : w.drew.frozen? ⟨bl x, 2, none⟩ = false := f2
  have f3 : w.drew.frozen? ⟨bl x, 3, none⟩ = false := f3
  refine Rd.region (fun X => X.cell? ⟨bl x, 3, none⟩ = some (.int .i64 me) ∧ X.cell? ⟨bl x, 2, none⟩ = some (.int .i64 me)) 10 [0, 1, 2, 3, 4, 5, 6, 7, 8, 9] [0, 1, 2, 3, 4, 5, 6, 7, 8, 9] (by kernel_rfl) (by kernel_rfl) (by kernel_rfl) (by kernel_rfl) rfl ⟨q3, q2⟩ ?_
  generalize w.drew = w3 at *
  refine Rd.seq_float (.pointer (some ⟨bl x, 0, none⟩)) (by simp only [List.getElem?_toArray, List.getElem?_cons_zero]; rfl) rfl (by rfl) (fun X _ => by go_simp) ?_
  simp only [Act.put, List.setIfInBounds_toArray, List.set_cons_succ, List.set_cons_zero]
  refine Rd.seq_float (.pointer (some ⟨bl x, 0, none⟩)) (by simp only [List.getElem?_toArray, List.getElem?_cons_succ, List.getElem?_cons_zero]; rfl) rfl (by rfl) (fun X _ => by go_simp) ?_
  simp only [Act.put, List.setIfInBounds_toArray, List.set_cons_succ, List.set_cons_zero]
  refine Rd.seq_float (.pointer (some ⟨bl x, 3, none⟩)) (by simp only [List.getElem?_toArray, List.getElem?_cons_succ, List.getElem?_cons_zero]; rfl) rfl (by rfl) (fun X _ => by go_simp) ?_
  simp only [Act.put, List.setIfInBounds_toArray, List.set_cons_succ, List.set_cons_zero]
  refine Rd.seq_float (.int .i64 me) (by simp only [List.getElem?_toArray, List.getElem?_cons_succ, List.getElem?_cons_zero]; rfl) rfl (by rfl) (fun X hX => by obtain ⟨e3, e2⟩ := hX; go_simp) ?_
  simp only [Act.put, List.setIfInBounds_toArray, List.set_cons_succ, List.set_cons_zero]
  refine Rd.seq_float (.pointer (some ⟨bl x, 0, none⟩)) (by simp only [List.getElem?_toArray, List.getElem?_cons_succ, List.getElem?_cons_zero]; rfl) rfl (by rfl) (fun X _ => by go_simp) ?_
  simp only [Act.put, List.setIfInBounds_toArray, List.set_cons_succ, List.set_cons_zero]
  refine Rd.seq_float (.pointer (some ⟨bl x, 0, none⟩)) (by simp only [List.getElem?_toArray, List.getElem?_cons_succ, List.getElem?_cons_zero]; rfl) rfl (by rfl) (fun X _ => by go_simp) ?_
  simp only [Act.put, List.setIfInBounds_toArray, List.set_cons_succ, List.set_cons_zero]
  refine Rd.seq_float (.pointer (some ⟨bl x, 2, none⟩)) (by simp only [List.getElem?_toArray, List.getElem?_cons_succ, List.getElem?_cons_zero]; rfl) rfl (by rfl) (fun X _ => by go_simp) ?_
  simp only [Act.put, List.setIfInBounds_toArray, List.set_cons_succ, List.set_cons_zero]
  refine Rd.seq_float (.int .i64 me) (by simp only [List.getElem?_toArray, List.getElem?_cons_succ, List.getElem?_cons_zero]; rfl) rfl (by rfl) (fun X hX => by obtain ⟨e3, e2⟩ := hX; go_simp) ?_
  simp only [Act.put, List.setIfInBounds_toArray, List.set_cons_succ, List.set_cons_zero]
  refine Rd.seq_float (.bool true) (by simp only [List.getElem?_toArray, List.getElem?_cons_succ, List.getElem?_cons_zero]; rfl) rfl (by rfl) (fun X _ => by go_simp) ?_
  simp only [Act.put, List.setIfInBounds_toArray, List.set_cons_succ, List.set_cons_zero]
  refine Rd.seq_float (.bool true) (by simp only [List.getElem?_toArray, List.getElem?_cons_succ, List.getElem?_cons_zero]; rfl) rfl (by rfl) (fun X _ => by go_simp) ?_
  simp only [Act.put, List.setIfInBounds_toArray, List.set_cons_succ, List.set_cons_zero]
  refine Rd.seq_end ?_
  go_wp2_with fail
  go_ret
  rw [HC.out, HN.out]
  exact ⟨rfl, (HF.out.below hbi).later HK.out, Wr.of_below hbi⟩
set_option maxRecDepth 100000 in
set_option maxHeartbeats 4000000 in
theorem Wake_yes (x : Int) (w : World) (h : IsF w B fp L l m k) (hx : I64 x) (hk : k < 1000) (hh : has L x = true) (hne : ¬ (gr L x).aw = (gr L x).me) :
    Calls Try.prog 32 #[.pointer (some ⟨fp, 0, none⟩), .int .i64 x] w fun e w' => e = .returned (.int .i64 (countC L x 0 1)) ∧ IsF w' B fp (countN L x 0 1) l m (k + 1) ∧ Wr [77] B w w' := by
  have hc : countC L x 0 1 = 0 := by unfold countC; have := h.ok.num _ (gr_mem hh); rw [if_neg (by rw [hh]; decide), if_neg (fun e => absurd e.1 (by decide)), if_neg (by omega)]
  have HC := Lib.hid hc
  have HN : Hid (countN L x 0 1 = countG L x 0 1) := Lib.hid (by unfold countN; rw [hc]; rfl)
  obtain ⟨tp, tg, mp, bl, hf, hB⟩ := h.fo
  have h1 := hf.c1
  have HL := hf.lookY hx hh
  have HF := Lib.hid h
  have HG := Lib.hid hf
  have HK := Lib.hid hk
  have HB := Lib.hid hB
  have hnum := h.ok.num _ (gr_mem hh)
  have hkk := h.ok.k1
  have HR := Lib.hid h.rdr
  have HH := Lib.hid hh
  have hb0 := Below.refl w.heap.size w
  have HOK : Ok (countG L x 0 1) m (k + 1) := by have := h.ok.count (x := x) (me := 0) (aw := 1) hk (by omega); rwa [HN.out] at this
  have HA : Hid (∀ W : World, Below w.heap.size w W → IsF (W.setCell ⟨bl x, 3, none⟩ (.int .i64 ((gr L x).aw + 1))) B fp (countG L x 0 1) l m (k + 1) ∧ Wr [77] B w (W.setCell ⟨bl x, 3, none⟩ (.int .i64 ((gr L x).aw + 1)))) := Lib.hid fun W hW => by
    refine h.act hf hB hW hh rfl ?_ HOK
    have := ((hf.below hW).grp x hh).set3 ((gr L x).aw + 1)
    unfold IsX cellsX at this ⊢
    simpa [Int.sub_eq_add_neg] using this
  have q2 := (hf.grp x hh).c2
  have q3 := (hf.grp x hh).c3
  have f2 := (hf.grp x hh).fz 2
  have f3 := (hf.grp x hh).fz 3
  have hne2 : ((gr L x).aw == (gr L x).me) = false := beq_ff (by omega)
  generalize (gr L x).me = me at *
  generalize (gr L x).aw = aw at *
  obtain ⟨n1, n2, n3, _⟩ := hnum
  have n4 : 0 ≤ me := by omega
  have n5 : me ≤ 1000 := by omega
  have n6 : aw ≤ 1000 := by omega
  clear n3 hkk hne
  clear h hf hB hk hh hc HOK
  go_enter Try.func32, Try.ntmps32
  go_wp2_with fail
  have hbi : Below w.heap.size w w.drew := (Same.drew w).below _
  have q2 : w.drew.cell? ⟨bl x, 2, none⟩ = some (.int .i64 me) := q2
  have q3 : w.drew.cell? ⟨bl x, 3, none⟩ = some (.int .i64 aw) := q3
  have f2 : w.drew.frozen? ⟨bl x, 2, none⟩ = false := f2
  have f3 : w.drew.frozen? ⟨bl x, 3, none⟩ = false := f3
  refine Rd.region (fun X => X.cell? ⟨bl x, 3, none⟩ = some (.int .i64 aw) ∧ X.cell? ⟨bl x, 2, none⟩ = some (.int .i64 me)) 10 [0, 1, 2, 3, 4, 5, 6, 7, 8, 9] [0, 1, 2, 3, 4, 5, 6, 7, 8, 9] (by kernel_rfl) (by kernel_rfl) (by kernel_rfl) (by kernel_rfl) rfl ⟨q3, q2⟩ ?_
  generalize w.drew = w3 at *
  refine Rd.seq_float (.pointer (some ⟨bl x, 0, none⟩)) (by simp only [List.getElem?_toArray, List.getElem?_cons_zero]; rfl) rfl (by rfl) (fun X _ => by go_simp) ?_
  simp only [Act.put, List.setIfInBounds_toArray, List.set_cons_succ, List.set_cons_zero]
  refine Rd.seq_float (.pointer (some ⟨bl x, 0, none⟩)) (by simp only [List.getElem?_toArray, List.getElem?_cons_succ, List.getElem?_cons_zero]; rfl) rfl (by rfl) (fun X _ => by go_simp) ?_
  simp only [Act.put, List.setIfInBounds_toArray, List.set_cons_succ, List.set_cons_zero]
  refine Rd.seq_float (.pointer (some ⟨bl x, 3, none⟩)) (by simp only [List.getElem?_toArray, List.getElem?_cons_succ, List.getElem?_cons_zero]; rfl) rfl (by rfl) (fun X _ => by go_simp) ?_
  simp only [Act.put, List.setIfInBounds_toArray, List.set_cons_succ, List.set_cons_zero]
  refine Rd.seq_float (.int .i64 aw) (by simp only [List.getElem?_toArray, List.getElem?_cons_succ, List.getElem?_cons_zero]; rfl) rfl (by rfl) (fun X hX => by obtain ⟨e3, e2⟩ := hX; go_simp) ?_
  simp only [Act.put, List.setIfInBounds_toArray, List.set_cons_succ, List.set_cons_zero]
  refine Rd.seq_float (.pointer (some ⟨bl x, 0, none⟩)) (by simp only [List.getElem?_toArray, List.getElem?_cons_succ, List.getElem?_cons_zero]; rfl) rfl (by rfl) (fun X _ => by go_simp) ?_
  simp only [Act.put, List.setIfInBounds_toArray, List.set_cons_succ, List.set_cons_zero]
  refine Rd.seq_float (.pointer (some ⟨bl x, 0, none⟩)) (by simp only [List.getElem?_toArray, List.getElem?_cons_succ, List.getElem?_cons_zero]; rfl) rfl (by rfl) (fun X _ => by go_simp) ?_
  simp only [Act.put, List.setIfInBounds_toArray, List.set_cons_succ, List.set_cons_zero]
  refine Rd.seq_float (.pointer (some ⟨bl x, 2, none⟩)) (by simp only [List.getElem?_toArray, List.getElem?_cons_succ, List.getElem?_cons_zero]; rfl) rfl (by rfl) (fun X _ => by go_simp) ?_
  simp only [Act.put, List.setIfInBounds_toArray, List.set_cons_succ, List.set_cons_zero]
  refine Rd.seq_float (.int .i64 me) (by simp only [List.getElem?_toArray, List.getElem?_cons_succ, List.getElem?_cons_zero]; rfl) rfl (by rfl) (fun X hX => by obtain ⟨e3, e2⟩ := hX; go_simp) ?_
  simp only [Act.put, List.setIfInBounds_toArray, List.set_cons_succ, List.set_cons_zero]
  refine Rd.seq_float (.bool false) (by simp only [List.getElem?_toArray, List.getElem?_cons_succ, List.getElem?_cons_zero]; rfl) rfl (by rfl) (fun X _ => by go_simp) ?_
  simp only [Act.put, List.setIfInBounds_toArray, List.set_cons_succ, List.set_cons_zero]
  refine Rd.seq_float (.bool false) (by simp only [List.getElem?_toArray, List.getElem?_cons_succ, List.getElem?_cons_zero]; rfl) rfl (by rfl) (fun X _ => by go_simp) ?_
  simp only [Act.put, List.setIfInBounds_toArray, List.set_cons_succ, List.set_cons_zero]
  refine Rd.seq_end ?_
  go_wp2_with fail
  go_ret
  rw [HC.out, HN.out]
  exact ⟨rfl, HA.out _ (by assumption)⟩
theorem Wake_any (x : Int) (w : World) (h : IsF w B fp L l m k) (hx : I64 x) (hk : k < 1000) :
    Calls Try.prog 32 #[.pointer (some ⟨fp, 0, none⟩), .int .i64 x] w fun e w' => e = .returned (.int .i64 (countC L x 0 1)) ∧ IsF w' B fp (countN L x 0 1) l m (k + 1) ∧ Wr [77] B w w' := by
  cases hh : has L x with
  | false => exact Wake_no fp B L l m k x w h hx hk hh
  | true =>
    by_cases hf : (gr L x).aw = (gr L x).me
    · exact Wake_same fp B L l m k x w h hx hk hh hf
    · exact Wake_yes fp B L l m k x w h hx hk hh hf
set_option maxRecDepth 100000 in
set_option maxHeartbeats 4000000 in
theorem Sleep_no (x : Int) (w : World) (h : IsF w B fp L l m k) (hx : I64 x) (hk : k < 1000) (hh : has L x = false) :
    Calls Try.prog 33 #[.pointer (some ⟨fp, 0, none⟩), .int .i64 x] w fun e w' => e = .returned (.int .i64 (countC L x 0 (-1))) ∧ IsF w' B fp (countN L x 0 (-1)) l m (k + 1) ∧ Wr [77] B w w' := by
  have hc : countC L x 0 (-1) = 4 := by unfold countC; simp [hh]
  have HC := Lib.hid hc
  have HN : Hid (countN L x 0 (-1) = L) := Lib.hid (by unfold countN; rw [hc]; rfl)
  obtain ⟨tp, tg, mp, bl, hf, hB⟩ := h.fo
  have h1 := hf.c1
  have HL := hf.lookN hx hh
  have HF := Lib.hid h
  have HG := Lib.hid hf
  have HK := Lib.hid hk
  have HB := Lib.hid hB
  clear h hf hB hk hh hc
  go_enter Try.func33, Try.ntmps33
  go_wp2_with fail
  go_ret
  rw [HC.out, HN.out]
  exact ⟨rfl, HF.out.later HK.out, Wr.refl _⟩
set_option maxRecDepth 100000 in
set_option maxHeartbeats 4000000 in
theorem Sleep_none (x : Int) (w : World) (h : IsF w B fp L l m k) (hx : I64 x) (hk : k < 1000) (hh : has L x = true) (he : (gr L x).aw = 0) :
    Calls Try.prog 33 #[.pointer (some ⟨fp, 0, none⟩), .int .i64 x] w fun e w' => e = .returned (.int .i64 (countC L x 0 (-1))) ∧ IsF w' B fp (countN L x 0 (-1)) l m (k + 1) ∧ Wr [77] B w w' := by
  have hc : countC L x 0 (-1) = 10 := by unfold countC; rw [if_neg (by rw [hh]; decide), if_neg (fun e => absurd e.1 (by decide)), if_pos (by omega)]
  have HC := Lib.hid hc
  have HN : Hid (countN L x 0 (-1) = L) := Lib.hid (by unfold countN; rw [hc]; rfl)
  obtain ⟨tp, tg, mp, bl, hf, hB⟩ := h.fo
  have h1 := hf.c1
  have HL := hf.lookY hx hh
  have HF := Lib.hid h
  have HG := Lib.hid hf
  have HK := Lib.hid hk
  have HB := Lib.hid hB
  have q3 := (hf.grp x hh).c3
  rw [he] at q3
  clear h hf hB hk hh hc he
  go_enter Try.func33, Try.ntmps33
  go_wp2_with fail
  go_ret
  rw [HC.out, HN.out]
  exact ⟨rfl, HF.out.later HK.out, Wr.refl _⟩
set_option maxRecDepth 100000 in
set_option maxHeartbeats 4000000 in
theorem Sleep_yes (x : Int) (w : World) (h : IsF w B fp L l m k) (hx : I64 x) (hk : k < 1000) (hh : has L x = true) (hne : ¬ (gr L x).aw = 0) :
    Calls Try.prog 33 #[.pointer (some ⟨fp, 0, none⟩), .int .i64 x] w fun e w' => e = .returned (.int .i64 (countC L x 0 (-1))) ∧ IsF w' B fp (countN L x 0 (-1)) l m (k + 1) ∧ Wr [77] B w w' := by
  have hc : countC L x 0 (-1) = 0 := by unfold countC; have := h.ok.num _ (gr_mem hh); rw [if_neg (by rw [hh]; decide), if_neg (fun e => absurd e.1 (by decide)), if_neg (by omega)]
  have HC := Lib.hid hc
  have HN : Hid (countN L x 0 (-1) = countG L x 0 (-1)) := Lib.hid (by unfold countN; rw [hc]; rfl)
  obtain ⟨tp, tg, mp, bl, hf, hB⟩ := h.fo
  have h1 := hf.c1
  have HL := hf.lookY hx hh
  have HF := Lib.hid h
  have HG := Lib.hid hf
  have HK := Lib.hid hk
  have HB := Lib.hid hB
  have hnum := h.ok.num _ (gr_mem hh)
  have hkk := h.ok.k1
  have HR := Lib.hid h.rdr
  have HH := Lib.hid hh
  have hb0 := Below.refl w.heap.size w
  have HOK : Ok (countG L x 0 (-1)) m (k + 1) := by have := h.ok.count (x := x) (me := 0) (aw := (-1)) hk (by omega); rwa [HN.out] at this
  have HA : Hid (∀ W : World, Below w.heap.size w W → IsF (W.setCell ⟨bl x, 3, none⟩ (.int .i64 ((gr L x).aw - 1))) B fp (countG L x 0 (-1)) l m (k + 1) ∧ Wr [77] B w (W.setCell ⟨bl x, 3, none⟩ (.int .i64 ((gr L x).aw - 1)))) := Lib.hid fun W hW => by
    refine h.act hf hB hW hh rfl ?_ HOK
    have := ((hf.below hW).grp x hh).set3 ((gr L x).aw - 1)
    unfold IsX cellsX at this ⊢
    simpa [Int.sub_eq_add_neg] using this
  have q2 := (hf.grp x hh).c2
  have q3 := (hf.grp x hh).c3
  have f2 := (hf.grp x hh).fz 2
  have f3 := (hf.grp x hh).fz 3
  have hne2 : ((gr L x).aw == 0) = false := beq_ff (by omega)
  generalize (gr L x).me = me at *
  generalize (gr L x).aw = aw at *
  obtain ⟨n1, n2, n3, _⟩ := hnum
  have n4 : 0 ≤ me := by omega
  have n5 : me ≤ 1000 := by omega
  have n6 : aw ≤ 1000 := by omega
  clear n3 hkk hne
  clear h hf hB hk hh hc HOK
  go_enter Try.func33, Try.ntmps33
  go_wp2_with fail
  go_ret
  rw [HC.out, HN.out]
  exact ⟨rfl, HA.out _ (by assumption)⟩
theorem Sleep_any (x : Int) (w : World) (h : IsF w B fp L l m k) (hx : I64 x) (hk : k < 1000) :
    Calls Try.prog 33 #[.pointer (some ⟨fp, 0, none⟩), .int .i64 x] w fun e w' => e = .returned (.int .i64 (countC L x 0 (-1))) ∧ IsF w' B fp (countN L x 0 (-1)) l m (k + 1) ∧ Wr [77] B w w' := by
  cases hh : has L x with
  | false => exact Sleep_no fp B L l m k x w h hx hk hh
  | true =>
    by_cases hf : (gr L x).aw = 0
    · exact Sleep_none fp B L l m k x w h hx hk hh hf
    · exact Sleep_yes fp B L l m k x w h hx hk hh hf
end
end Go.Proofs.Ythndfhkkaichiaa
