/-
  The document's Move. Condition: the groups are a forest.
-/
import Derived.Test.YthndfhkkaichiaaXs
import Derived.Test.YthndfhkkaichiaaRe
namespace Go.Proofs.Ythndfhkkaichiaa
open Go.RowKit Go.Maps

/-- would this group be too deep? -/
def tooDeep (L : List Gr) (x p y : Int) : Bool := belowB L y x && decide (8 < dep L y - dep L x + dep L p + 1)
theorem deep_yes {L : List Gr} {x p : Int} (h : deepB L x p = true) (hn : ∀ j, j < L.length → tooDeep L x p (L.getD j g0).id = false) : False := by
  unfold deepB at h
  obtain ⟨g, hg, hb⟩ := List.any_eq_true.1 h
  obtain ⟨j, hj, rfl⟩ := mem_getDG hg
  have := hn j hj
  unfold tooDeep at this
  rw [hb] at this
  cases this
theorem deep_no {L : List Gr} {x p : Int} (h : deepB L x p = false) {j : Nat} (hj : j < L.length) : tooDeep L x p (L.getD j g0).id = false := by
  unfold deepB at h
  rw [List.any_eq_false] at h
  have := h _ (getD_memG hj)
  unfold tooDeep
  simpa using this
section
variable (r m : Int) (a : Option Addr) (c : Nat) (L : List Gr)
set_option maxRecDepth 100000 in
set_option maxHeartbeats 4000000 in
theorem rMove_noX (x p : Int) (m0 k : Int) (w : World) (h : RowG w (.slice a L.length c) L) (ok : Ok L m0 k) (hh : has L x = false) :
    Calls Try.prog 27 #[.agg (cellsF r m (.slice a L.length c)), .int .i64 x, .int .i64 p] w fun e w' => (∃ v, e = .returned (.tuple #[v, .int .i64 (moveC L x p)]) ∧ DocF w' v r m (moveN L x p)) ∧ Below w.heap.size w w' := by
  have hc : moveC L x p = 4 := by unfold moveC; rw [if_pos (.inl hh)]
  have HC := Lib.hid hc
  have HN : Hid (moveN L x p = L) := Lib.hid (by unfold moveN; rw [hc]; rfl)
  have hx0 : Blk ((w.alloc (.cells #[.int .i64 r, .int .i64 m, .slice a L.length c] 30)).alloc (.cells #[.int .i64 0, .int .i64 0, .slice none 0 0] 30)) w.heap.size 30 (cellsF r m (.slice a L.length c)) := (Blk.new w 30 _).alloc _
  have hZ0 : Blk ((w.alloc (.cells #[.int .i64 r, .int .i64 m, .slice a L.length c] 30)).alloc (.cells #[.int .i64 0, .int .i64 0, .slice none 0 0] 30)) (w.heap.size + 1) 30 (cellsF 0 0 (.slice none 0 0)) := by
    have := Blk.new (w.alloc (.cells #[.int .i64 r, .int .i64 m, .slice a L.length c] 30)) 30 (cellsF 0 0 (.slice none 0 0))
    have e : (w.alloc (.cells #[.int .i64 r, .int .i64 m, .slice a L.length c] 30)).heap.size = w.heap.size + 1 := by simp
    rw [e] at this
    exact this
  have hb : Below w.heap.size w ((w.alloc (.cells #[.int .i64 r, .int .i64 m, .slice a L.length c] 30)).alloc (.cells #[.int .i64 0, .int .i64 0, .slice none 0 0] 30)) := ((Below.refl _ w).alloc (Nat.le_refl _) _).alloc (by simp) _
  have hsz : w.heap.size + 2 ≤ ((w.alloc (.cells #[.int .i64 r, .int .i64 m, .slice a L.length c] 30)).alloc (.cells #[.int .i64 0, .int .i64 0, .slice none 0 0] 30)).heap.size := by simp
  have HR : Hid (Rdw ((w.alloc (.cells #[.int .i64 r, .int .i64 m, .slice a L.length c] 30)).alloc (.cells #[.int .i64 0, .int .i64 0, .slice none 0 0] 30)) r m a c L) := Lib.hid (Rdw.of h ok hb)
  have HXB : Hid (∀ X, Below ((w.alloc (.cells #[.int .i64 r, .int .i64 m, .slice a L.length c] 30)).alloc (.cells #[.int .i64 0, .int .i64 0, .slice none 0 0] 30)).heap.size ((w.alloc (.cells #[.int .i64 r, .int .i64 m, .slice a L.length c] 30)).alloc (.cells #[.int .i64 0, .int .i64 0, .slice none 0 0] 30)) X → Blk X w.heap.size 30 (cellsF r m (.slice a L.length c))) := Lib.hid fun X hX => hx0.below hX
  have HZB : Hid (∀ X, Below ((w.alloc (.cells #[.int .i64 r, .int .i64 m, .slice a L.length c] 30)).alloc (.cells #[.int .i64 0, .int .i64 0, .slice none 0 0] 30)).heap.size ((w.alloc (.cells #[.int .i64 r, .int .i64 m, .slice a L.length c] 30)).alloc (.cells #[.int .i64 0, .int .i64 0, .slice none 0 0] 30)) X → Blk X (w.heap.size + 1) 30 (cellsF 0 0 (.slice none 0 0))) := Lib.hid fun X hX => hZ0.below hX
  have HFin : Hid (∀ X, Below ((w.alloc (.cells #[.int .i64 r, .int .i64 m, .slice a L.length c] 30)).alloc (.cells #[.int .i64 0, .int .i64 0, .slice none 0 0] 30)).heap.size ((w.alloc (.cells #[.int .i64 r, .int .i64 m, .slice a L.length c] 30)).alloc (.cells #[.int .i64 0, .int .i64 0, .slice none 0 0] 30)) X → Below w.heap.size w X) := Lib.hid fun X hX => hb.trans (hX.mono (by omega))
  have HA : Hid (atG L x = -1) := Lib.hid (atG_no hh)
  clear hh
  clear hc h ok
  unfold cellsF
  go_enter Try.func27, Try.ntmps27
  go_wp2_with (first | (have hgd := hx0; refine wpList_alloc30 rfl rfl ?_; clear hgd; generalize ((w.alloc (.cells #[.int .i64 r, .int .i64 m, .slice a L.length c] 30)).alloc (.cells #[.int .i64 0, .int .i64 0, .slice none 0 0] 30)) = w3 at *; have hbi := Below.refl w3.heap.size w3; clear hx0 hZ0 hb) | (go_at_call 50; refine (HR.out.at' _ _ (by assumption)).mono ?_; rw [HA.out]; rintro e wi ⟨rfl, hbi⟩; have hX2 := HXB.out wi hbi; have f0 := cF0 hX2; have f1 := cF1 hX2; have f2 := cF2 hX2; clear hX2) | (refine wpList_load30 rfl _ rfl w.heap.size r m (.slice a L.length c) rfl (HXB.out _ (by assumption)) ?_) | (refine wpList_store30 rfl _ _ rfl (w.heap.size + 1) r m (.slice a L.length c) rfl rfl (HZB.out _ (by assumption)) rfl rfl ?_; intro wz hZ9 t9))
  refine bodyPost_ret (resultsF_ct rfl _ wz (w.heap.size + 1) r m (.slice a L.length c) _ rfl rfl hZ9) rfl ?_
  rw [HC.out, HN.out]
  exact ⟨⟨_, rfl, a, c, rfl, (HR.out.row _ hbi).turn t9 (HZB.out _ hbi) (by decide)⟩, (HFin.out _ hbi).trans (t9.below (by omega))⟩
set_option maxRecDepth 100000 in
set_option maxHeartbeats 4000000 in
theorem rMove_noP (x p : Int) (m0 k : Int) (w : World) (h : RowG w (.slice a L.length c) L) (ok : Ok L m0 k) (hh : has L x = true) (hq : has L p = false) :
    Calls Try.prog 27 #[.agg (cellsF r m (.slice a L.length c)), .int .i64 x, .int .i64 p] w fun e w' => (∃ v, e = .returned (.tuple #[v, .int .i64 (moveC L x p)]) ∧ DocF w' v r m (moveN L x p)) ∧ Below w.heap.size w w' := by
  have hc : moveC L x p = 4 := by unfold moveC; rw [if_pos (.inr hq)]
  have HC := Lib.hid hc
  have HN : Hid (moveN L x p = L) := Lib.hid (by unfold moveN; rw [hc]; rfl)
  have hx0 : Blk ((w.alloc (.cells #[.int .i64 r, .int .i64 m, .slice a L.length c] 30)).alloc (.cells #[.int .i64 0, .int .i64 0, .slice none 0 0] 30)) w.heap.size 30 (cellsF r m (.slice a L.length c)) := (Blk.new w 30 _).alloc _
  have hZ0 : Blk ((w.alloc (.cells #[.int .i64 r, .int .i64 m, .slice a L.length c] 30)).alloc (.cells #[.int .i64 0, .int .i64 0, .slice none 0 0] 30)) (w.heap.size + 1) 30 (cellsF 0 0 (.slice none 0 0)) := by
    have := Blk.new (w.alloc (.cells #[.int .i64 r, .int .i64 m, .slice a L.length c] 30)) 30 (cellsF 0 0 (.slice none 0 0))
    have e : (w.alloc (.cells #[.int .i64 r, .int .i64 m, .slice a L.length c] 30)).heap.size = w.heap.size + 1 := by simp
    rw [e] at this
    exact this
  have hb : Below w.heap.size w ((w.alloc (.cells #[.int .i64 r, .int .i64 m, .slice a L.length c] 30)).alloc (.cells #[.int .i64 0, .int .i64 0, .slice none 0 0] 30)) := ((Below.refl _ w).alloc (Nat.le_refl _) _).alloc (by simp) _
  have hsz : w.heap.size + 2 ≤ ((w.alloc (.cells #[.int .i64 r, .int .i64 m, .slice a L.length c] 30)).alloc (.cells #[.int .i64 0, .int .i64 0, .slice none 0 0] 30)).heap.size := by simp
  have HR : Hid (Rdw ((w.alloc (.cells #[.int .i64 r, .int .i64 m, .slice a L.length c] 30)).alloc (.cells #[.int .i64 0, .int .i64 0, .slice none 0 0] 30)) r m a c L) := Lib.hid (Rdw.of h ok hb)
  have HXB : Hid (∀ X, Below ((w.alloc (.cells #[.int .i64 r, .int .i64 m, .slice a L.length c] 30)).alloc (.cells #[.int .i64 0, .int .i64 0, .slice none 0 0] 30)).heap.size ((w.alloc (.cells #[.int .i64 r, .int .i64 m, .slice a L.length c] 30)).alloc (.cells #[.int .i64 0, .int .i64 0, .slice none 0 0] 30)) X → Blk X w.heap.size 30 (cellsF r m (.slice a L.length c))) := Lib.hid fun X hX => hx0.below hX
  have HZB : Hid (∀ X, Below ((w.alloc (.cells #[.int .i64 r, .int .i64 m, .slice a L.length c] 30)).alloc (.cells #[.int .i64 0, .int .i64 0, .slice none 0 0] 30)).heap.size ((w.alloc (.cells #[.int .i64 r, .int .i64 m, .slice a L.length c] 30)).alloc (.cells #[.int .i64 0, .int .i64 0, .slice none 0 0] 30)) X → Blk X (w.heap.size + 1) 30 (cellsF 0 0 (.slice none 0 0))) := Lib.hid fun X hX => hZ0.below hX
  have HFin : Hid (∀ X, Below ((w.alloc (.cells #[.int .i64 r, .int .i64 m, .slice a L.length c] 30)).alloc (.cells #[.int .i64 0, .int .i64 0, .slice none 0 0] 30)).heap.size ((w.alloc (.cells #[.int .i64 r, .int .i64 m, .slice a L.length c] 30)).alloc (.cells #[.int .i64 0, .int .i64 0, .slice none 0 0] 30)) X → Below w.heap.size w X) := Lib.hid fun X hX => hb.trans (hX.mono (by omega))
  have HA : Hid (atG L x = (pos L x : Int)) := Lib.hid (atG_yes hh)
  have HAP : Hid (atG L p = -1) := Lib.hid (atG_no hq)
  clear hh hq
  generalize pos L x = j at *
  clear hc h ok
  unfold cellsF
  go_enter Try.func27, Try.ntmps27
  go_wp2_with (first | (have hgd := hx0; refine wpList_alloc30 rfl rfl ?_; clear hgd; generalize ((w.alloc (.cells #[.int .i64 r, .int .i64 m, .slice a L.length c] 30)).alloc (.cells #[.int .i64 0, .int .i64 0, .slice none 0 0] 30)) = w3 at *; have hbi := Below.refl w3.heap.size w3; clear hx0 hZ0 hb) | (go_at_call 50; refine (HR.out.at' _ _ (by assumption)).mono ?_; rw [HA.out]; rintro e wi ⟨rfl, hbi⟩; have hX2 := HXB.out wi hbi; have f0 := cF0 hX2; have f1 := cF1 hX2; have f2 := cF2 hX2; clear hX2) | (go_at_call 50; refine (HR.out.at' _ _ (by assumption)).mono ?_; rw [HAP.out]; rintro e wi ⟨rfl, hbi⟩; have hX2 := HXB.out wi hbi; have f0 := cF0 hX2; have f1 := cF1 hX2; have f2 := cF2 hX2; clear hX2) | (refine wpList_load30 rfl _ rfl w.heap.size r m (.slice a L.length c) rfl (HXB.out _ (by assumption)) ?_) | (refine wpList_store30 rfl _ _ rfl (w.heap.size + 1) r m (.slice a L.length c) rfl rfl (HZB.out _ (by assumption)) rfl rfl ?_; intro wz hZ9 t9))
  refine bodyPost_ret (resultsF_ct rfl _ wz (w.heap.size + 1) r m (.slice a L.length c) _ rfl rfl hZ9) rfl ?_
  rw [HC.out, HN.out]
  exact ⟨⟨_, rfl, a, c, rfl, (HR.out.row _ hbi).turn t9 (HZB.out _ hbi) (by decide)⟩, (HFin.out _ hbi).trans (t9.below (by omega))⟩
set_option maxRecDepth 100000 in
set_option maxHeartbeats 4000000 in
theorem rMove_root (x p : Int) (m0 k : Int) (w : World) (h : RowG w (.slice a L.length c) L) (ok : Ok L m0 k) (hh : has L x = true) (hq : has L p = true) (hp : (gr L x).pa = -1) :
    Calls Try.prog 27 #[.agg (cellsF r m (.slice a L.length c)), .int .i64 x, .int .i64 p] w fun e w' => (∃ v, e = .returned (.tuple #[v, .int .i64 (moveC L x p)]) ∧ DocF w' v r m (moveN L x p)) ∧ Below w.heap.size w w' := by
  have hc : moveC L x p = 15 := by unfold moveC; rw [if_neg (by rw [hh, hq]; decide), if_pos (by omega)]
  have HC := Lib.hid hc
  have HN : Hid (moveN L x p = L) := Lib.hid (by unfold moveN; rw [hc]; rfl)
  have hx0 : Blk ((w.alloc (.cells #[.int .i64 r, .int .i64 m, .slice a L.length c] 30)).alloc (.cells #[.int .i64 0, .int .i64 0, .slice none 0 0] 30)) w.heap.size 30 (cellsF r m (.slice a L.length c)) := (Blk.new w 30 _).alloc _
  have hZ0 : Blk ((w.alloc (.cells #[.int .i64 r, .int .i64 m, .slice a L.length c] 30)).alloc (.cells #[.int .i64 0, .int .i64 0, .slice none 0 0] 30)) (w.heap.size + 1) 30 (cellsF 0 0 (.slice none 0 0)) := by
    have := Blk.new (w.alloc (.cells #[.int .i64 r, .int .i64 m, .slice a L.length c] 30)) 30 (cellsF 0 0 (.slice none 0 0))
    have e : (w.alloc (.cells #[.int .i64 r, .int .i64 m, .slice a L.length c] 30)).heap.size = w.heap.size + 1 := by simp
    rw [e] at this
    exact this
  have hb : Below w.heap.size w ((w.alloc (.cells #[.int .i64 r, .int .i64 m, .slice a L.length c] 30)).alloc (.cells #[.int .i64 0, .int .i64 0, .slice none 0 0] 30)) := ((Below.refl _ w).alloc (Nat.le_refl _) _).alloc (by simp) _
  have hsz : w.heap.size + 2 ≤ ((w.alloc (.cells #[.int .i64 r, .int .i64 m, .slice a L.length c] 30)).alloc (.cells #[.int .i64 0, .int .i64 0, .slice none 0 0] 30)).heap.size := by simp
  have HR : Hid (Rdw ((w.alloc (.cells #[.int .i64 r, .int .i64 m, .slice a L.length c] 30)).alloc (.cells #[.int .i64 0, .int .i64 0, .slice none 0 0] 30)) r m a c L) := Lib.hid (Rdw.of h ok hb)
  have HXB : Hid (∀ X, Below ((w.alloc (.cells #[.int .i64 r, .int .i64 m, .slice a L.length c] 30)).alloc (.cells #[.int .i64 0, .int .i64 0, .slice none 0 0] 30)).heap.size ((w.alloc (.cells #[.int .i64 r, .int .i64 m, .slice a L.length c] 30)).alloc (.cells #[.int .i64 0, .int .i64 0, .slice none 0 0] 30)) X → Blk X w.heap.size 30 (cellsF r m (.slice a L.length c))) := Lib.hid fun X hX => hx0.below hX
  have HZB : Hid (∀ X, Below ((w.alloc (.cells #[.int .i64 r, .int .i64 m, .slice a L.length c] 30)).alloc (.cells #[.int .i64 0, .int .i64 0, .slice none 0 0] 30)).heap.size ((w.alloc (.cells #[.int .i64 r, .int .i64 m, .slice a L.length c] 30)).alloc (.cells #[.int .i64 0, .int .i64 0, .slice none 0 0] 30)) X → Blk X (w.heap.size + 1) 30 (cellsF 0 0 (.slice none 0 0))) := Lib.hid fun X hX => hZ0.below hX
  have HFin : Hid (∀ X, Below ((w.alloc (.cells #[.int .i64 r, .int .i64 m, .slice a L.length c] 30)).alloc (.cells #[.int .i64 0, .int .i64 0, .slice none 0 0] 30)).heap.size ((w.alloc (.cells #[.int .i64 r, .int .i64 m, .slice a L.length c] 30)).alloc (.cells #[.int .i64 0, .int .i64 0, .slice none 0 0] 30)) X → Below w.heap.size w X) := Lib.hid fun X hX => hb.trans (hX.mono (by omega))
  have HA : Hid (atG L x = (pos L x : Int)) := Lib.hid (atG_yes hh)
  have HH := Lib.hid hh
  have hj := has_pos hh
  obtain ⟨b, rfl, hcl⟩ := h.at hj
  have HCL : Hid (∀ X, Below ((w.alloc (.cells #[.int .i64 r, .int .i64 m, .slice (some ⟨b, 0, none⟩) L.length c] 30)).alloc (.cells #[.int .i64 0, .int .i64 0, .slice none 0 0] 30)).heap.size ((w.alloc (.cells #[.int .i64 r, .int .i64 m, .slice (some ⟨b, 0, none⟩) L.length c] 30)).alloc (.cells #[.int .i64 0, .int .i64 0, .slice none 0 0] 30)) X → X.cell? ⟨b, pos L x * 5 + 1, none⟩ = some (.int .i64 (gr L x).pa) ∧ X.rangeAt b (pos L x * 5) (cellsE (gr L x)).toList) := Lib.hid fun X hX => ⟨((hcl.below hb).below hX).pa hj, ((hcl.below hb).below hX).range hj⟩
  have HQ := Lib.hid hq
  have HAP : Hid (atG L p = (pos L p : Int)) := Lib.hid (atG_yes hq)
  rw [hp] at HCL
  clear hh hp hq
  generalize pos L x = j at *
  generalize pos L p = jp at *
  clear hc h ok
  unfold cellsF
  go_enter Try.func27, Try.ntmps27
  go_wp2_with (first | (have hgd := hx0; refine wpList_alloc30 rfl rfl ?_; clear hgd; generalize ((w.alloc (.cells #[.int .i64 r, .int .i64 m, .slice (some ⟨b, 0, none⟩) L.length c] 30)).alloc (.cells #[.int .i64 0, .int .i64 0, .slice none 0 0] 30)) = w3 at *; have hbi := Below.refl w3.heap.size w3; clear hx0 hZ0 hb) | (go_at_call 50; refine (HR.out.at' _ _ (by assumption)).mono ?_; rw [HA.out]; rintro e wi ⟨rfl, hbi⟩; have hX2 := HXB.out wi hbi; have f0 := cF0 hX2; have f1 := cF1 hX2; have f2 := cF2 hX2; clear hX2; have g1 := (HCL.out wi hbi).1) | (go_at_call 50; refine (HR.out.at' _ _ (by assumption)).mono ?_; rw [HAP.out]; rintro e wi ⟨rfl, hbi⟩; have hX2 := HXB.out wi hbi; have f0 := cF0 hX2; have f1 := cF1 hX2; have f2 := cF2 hX2; clear hX2; have g1 := (HCL.out wi hbi).1) | (refine wpList_load30 rfl _ rfl w.heap.size r m (.slice (some ⟨b, 0, none⟩) L.length c) rfl (HXB.out _ (by assumption)) ?_) | (refine wpList_store30 rfl _ _ rfl (w.heap.size + 1) r m (.slice (some ⟨b, 0, none⟩) L.length c) rfl rfl (HZB.out _ (by assumption)) rfl rfl ?_; intro wz hZ9 t9))
  refine bodyPost_ret (resultsF_ct rfl _ wz (w.heap.size + 1) r m (.slice (some ⟨b, 0, none⟩) L.length c) _ rfl rfl hZ9) rfl ?_
  rw [HC.out, HN.out]
  exact ⟨⟨_, rfl, some ⟨b, 0, none⟩, c, rfl, (HR.out.row _ hbi).turn t9 (HZB.out _ hbi) (by decide)⟩, (HFin.out _ hbi).trans (t9.below (by omega))⟩
set_option maxRecDepth 100000 in
set_option maxHeartbeats 4000000 in
theorem rMove_domain (x p : Int) (m0 k : Int) (w : World) (h : RowG w (.slice a L.length c) L) (ok : Ok L m0 k) (hh : has L x = true) (hq : has L p = true) (hp : 0 ≤ (gr L x).pa) (ht : ¬ topI L x = topI L p) :
    Calls Try.prog 27 #[.agg (cellsF r m (.slice a L.length c)), .int .i64 x, .int .i64 p] w fun e w' => (∃ v, e = .returned (.tuple #[v, .int .i64 (moveC L x p)]) ∧ DocF w' v r m (moveN L x p)) ∧ Below w.heap.size w w' := by
  have hc : moveC L x p = 5 := by unfold moveC; rw [if_neg (by rw [hh, hq]; decide), if_neg (by omega), if_pos ht]
  have HC := Lib.hid hc
  have HN : Hid (moveN L x p = L) := Lib.hid (by unfold moveN; rw [hc]; rfl)
  have hx0 : Blk ((w.alloc (.cells #[.int .i64 r, .int .i64 m, .slice a L.length c] 30)).alloc (.cells #[.int .i64 0, .int .i64 0, .slice none 0 0] 30)) w.heap.size 30 (cellsF r m (.slice a L.length c)) := (Blk.new w 30 _).alloc _
  have hZ0 : Blk ((w.alloc (.cells #[.int .i64 r, .int .i64 m, .slice a L.length c] 30)).alloc (.cells #[.int .i64 0, .int .i64 0, .slice none 0 0] 30)) (w.heap.size + 1) 30 (cellsF 0 0 (.slice none 0 0)) := by
    have := Blk.new (w.alloc (.cells #[.int .i64 r, .int .i64 m, .slice a L.length c] 30)) 30 (cellsF 0 0 (.slice none 0 0))
    have e : (w.alloc (.cells #[.int .i64 r, .int .i64 m, .slice a L.length c] 30)).heap.size = w.heap.size + 1 := by simp
    rw [e] at this
    exact this
  have hb : Below w.heap.size w ((w.alloc (.cells #[.int .i64 r, .int .i64 m, .slice a L.length c] 30)).alloc (.cells #[.int .i64 0, .int .i64 0, .slice none 0 0] 30)) := ((Below.refl _ w).alloc (Nat.le_refl _) _).alloc (by simp) _
  have hsz : w.heap.size + 2 ≤ ((w.alloc (.cells #[.int .i64 r, .int .i64 m, .slice a L.length c] 30)).alloc (.cells #[.int .i64 0, .int .i64 0, .slice none 0 0] 30)).heap.size := by simp
  have HR : Hid (Rdw ((w.alloc (.cells #[.int .i64 r, .int .i64 m, .slice a L.length c] 30)).alloc (.cells #[.int .i64 0, .int .i64 0, .slice none 0 0] 30)) r m a c L) := Lib.hid (Rdw.of h ok hb)
  have HXB : Hid (∀ X, Below ((w.alloc (.cells #[.int .i64 r, .int .i64 m, .slice a L.length c] 30)).alloc (.cells #[.int .i64 0, .int .i64 0, .slice none 0 0] 30)).heap.size ((w.alloc (.cells #[.int .i64 r, .int .i64 m, .slice a L.length c] 30)).alloc (.cells #[.int .i64 0, .int .i64 0, .slice none 0 0] 30)) X → Blk X w.heap.size 30 (cellsF r m (.slice a L.length c))) := Lib.hid fun X hX => hx0.below hX
  have HZB : Hid (∀ X, Below ((w.alloc (.cells #[.int .i64 r, .int .i64 m, .slice a L.length c] 30)).alloc (.cells #[.int .i64 0, .int .i64 0, .slice none 0 0] 30)).heap.size ((w.alloc (.cells #[.int .i64 r, .int .i64 m, .slice a L.length c] 30)).alloc (.cells #[.int .i64 0, .int .i64 0, .slice none 0 0] 30)) X → Blk X (w.heap.size + 1) 30 (cellsF 0 0 (.slice none 0 0))) := Lib.hid fun X hX => hZ0.below hX
  have HFin : Hid (∀ X, Below ((w.alloc (.cells #[.int .i64 r, .int .i64 m, .slice a L.length c] 30)).alloc (.cells #[.int .i64 0, .int .i64 0, .slice none 0 0] 30)).heap.size ((w.alloc (.cells #[.int .i64 r, .int .i64 m, .slice a L.length c] 30)).alloc (.cells #[.int .i64 0, .int .i64 0, .slice none 0 0] 30)) X → Below w.heap.size w X) := Lib.hid fun X hX => hb.trans (hX.mono (by omega))
  have HA : Hid (atG L x = (pos L x : Int)) := Lib.hid (atG_yes hh)
  have HH := Lib.hid hh
  have hj := has_pos hh
  obtain ⟨b, rfl, hcl⟩ := h.at hj
  have HCL : Hid (∀ X, Below ((w.alloc (.cells #[.int .i64 r, .int .i64 m, .slice (some ⟨b, 0, none⟩) L.length c] 30)).alloc (.cells #[.int .i64 0, .int .i64 0, .slice none 0 0] 30)).heap.size ((w.alloc (.cells #[.int .i64 r, .int .i64 m, .slice (some ⟨b, 0, none⟩) L.length c] 30)).alloc (.cells #[.int .i64 0, .int .i64 0, .slice none 0 0] 30)) X → X.cell? ⟨b, pos L x * 5 + 1, none⟩ = some (.int .i64 (gr L x).pa) ∧ X.rangeAt b (pos L x * 5) (cellsE (gr L x)).toList) := Lib.hid fun X hX => ⟨((hcl.below hb).below hX).pa hj, ((hcl.below hb).below hX).range hj⟩
  have HQ := Lib.hid hq
  have HAP : Hid (atG L p = (pos L p : Int)) := Lib.hid (atG_yes hq)
  have hp0 : ¬ (gr L x).pa < 0 := by omega
  have ht2 := beq_ff ht
  have htn : (topI L x != topI L p) = true := by simpa using ht
  clear hh hq hp
  generalize (gr L x).pa = pa at *
  generalize pos L x = j at *
  generalize pos L p = jp at *
  clear hc h ok
  unfold cellsF
  go_enter Try.func27, Try.ntmps27
  go_wp2_with (first | (have hgd := hx0; refine wpList_alloc30 rfl rfl ?_; clear hgd; generalize ((w.alloc (.cells #[.int .i64 r, .int .i64 m, .slice (some ⟨b, 0, none⟩) L.length c] 30)).alloc (.cells #[.int .i64 0, .int .i64 0, .slice none 0 0] 30)) = w3 at *; have hbi := Below.refl w3.heap.size w3; clear hx0 hZ0 hb) | (go_at_call 50; refine (HR.out.at' _ _ (by assumption)).mono ?_; rw [HA.out]; rintro e wi ⟨rfl, hbi⟩; have hX2 := HXB.out wi hbi; have f0 := cF0 hX2; have f1 := cF1 hX2; have f2 := cF2 hX2; clear hX2; have g1 := (HCL.out wi hbi).1) | (go_at_call 50; refine (HR.out.at' _ _ (by assumption)).mono ?_; rw [HAP.out]; rintro e wi ⟨rfl, hbi⟩; have hX2 := HXB.out wi hbi; have f0 := cF0 hX2; have f1 := cF1 hX2; have f2 := cF2 hX2; clear hX2; have g1 := (HCL.out wi hbi).1) | (refine wpList_load30 rfl _ rfl w.heap.size r m (.slice (some ⟨b, 0, none⟩) L.length c) rfl (HXB.out _ (by assumption)) ?_) | (refine wpList_store30 rfl _ _ rfl (w.heap.size + 1) r m (.slice (some ⟨b, 0, none⟩) L.length c) rfl rfl (HZB.out _ (by assumption)) rfl rfl ?_; intro wz hZ9 t9))
  have hq6 : Below w3.heap.size w3 wi.drew := Below.drewS hbi
  clear f0 f1 f2 g1
  refine Rd.region (fun X => Below w3.heap.size w3 X) 8 [0, 1, 3, 4, 6, 7] [0, 1, 3, 4, 2, 5, 6, 7] (by kernel_rfl) (by kernel_rfl) (by kernel_rfl) (by kernel_rfl) rfl hq6 ?_
  refine Rd.seq_float (.agg #[.int .i64 r, .int .i64 m, .slice (some ⟨b, 0, none⟩) L.length c]) (by simp only [List.getElem?_toArray, List.getElem?_cons_zero]; rfl) rfl (by rfl) (fun X hX => run_load30 rfl rfl (HXB.out X hX)) ?_
  simp only [Act.put, List.setIfInBounds_toArray, List.set_cons_succ, List.set_cons_zero]
  refine Rd.seq_float (.int .i64 x) (by simp only [List.getElem?_toArray, List.getElem?_cons_succ, List.getElem?_cons_zero]; rfl) rfl (by rfl) (fun X _ => by go_simp) ?_
  simp only [Act.put, List.setIfInBounds_toArray, List.set_cons_succ, List.set_cons_zero]
  refine Rd.seq_float (.agg #[.int .i64 r, .int .i64 m, .slice (some ⟨b, 0, none⟩) L.length c]) (by simp only [List.getElem?_toArray, List.getElem?_cons_succ, List.getElem?_cons_zero]; rfl) rfl (by rfl) (fun X hX => run_load30 rfl rfl (HXB.out X hX)) ?_
  simp only [Act.put, List.setIfInBounds_toArray, List.set_cons_succ, List.set_cons_zero]
  refine Rd.seq_float (.int .i64 p) (by simp only [List.getElem?_toArray, List.getElem?_cons_succ, List.getElem?_cons_zero]; rfl) rfl (by rfl) (fun X _ => by go_simp) ?_
  simp only [Act.put, List.setIfInBounds_toArray, List.set_cons_succ, List.set_cons_zero]
  refine Rd.seq_move (by simp only [List.getElem?_toArray, List.getElem?_cons_succ, List.getElem?_cons_zero]; rfl) rfl (by rfl) (fun K hK => ?_)
  go_simp
  refine (HR.out.top _ _ HH.out hq6).mono ?_
  rintro e wi ⟨rfl, hbi⟩
  refine hK _ _ (fun _ => hbi) ?_
  clear hK K
  refine Rd.seq_move (by simp only [List.getElem?_toArray, List.getElem?_cons_succ, List.getElem?_cons_zero]; rfl) rfl (by rfl) (fun K hK => ?_)
  go_simp
  refine (HR.out.top _ _ HQ.out (by assumption)).mono ?_
  rintro e wi ⟨rfl, hbi⟩
  refine hK _ _ (fun _ => hbi) ?_
  clear hK K
  refine Rd.seq_float (.bool true) (by simp only [List.getElem?_toArray, List.getElem?_cons_succ, List.getElem?_cons_zero]; rfl) rfl (by rfl) (fun X _ => by go_simp) ?_
  simp only [Act.put, List.setIfInBounds_toArray, List.set_cons_succ, List.set_cons_zero]
  refine Rd.seq_float (.bool true) (by simp only [List.getElem?_toArray, List.getElem?_cons_succ, List.getElem?_cons_zero]; rfl) rfl (by rfl) (fun X _ => by go_simp) ?_
  simp only [Act.put, List.setIfInBounds_toArray, List.set_cons_succ, List.set_cons_zero]
  refine Rd.seq_end ?_
  go_wp2_with (first | (refine wpList_load30 rfl _ rfl w.heap.size r m (.slice (some ⟨b, 0, none⟩) L.length c) rfl (HXB.out _ (by assumption)) ?_) | (refine wpList_store30 rfl _ _ rfl (w.heap.size + 1) r m (.slice (some ⟨b, 0, none⟩) L.length c) rfl rfl (HZB.out _ (by assumption)) rfl rfl ?_; intro wz hZ9 t9))
  refine bodyPost_ret (resultsF_ct rfl _ wz (w.heap.size + 1) r m (.slice (some ⟨b, 0, none⟩) L.length c) _ rfl rfl hZ9) rfl ?_
  rw [HC.out, HN.out]
  exact ⟨⟨_, rfl, some ⟨b, 0, none⟩, c, rfl, (HR.out.row _ hbi).turn t9 (HZB.out _ hbi) (by decide)⟩, (HFin.out _ hbi).trans (t9.below (by omega))⟩
set_option maxRecDepth 100000 in
set_option maxHeartbeats 4000000 in
theorem rMove_loop (x p : Int) (m0 k : Int) (w : World) (h : RowG w (.slice a L.length c) L) (ok : Ok L m0 k) (hh : has L x = true) (hq : has L p = true) (hp : 0 ≤ (gr L x).pa) (ht : topI L x = topI L p) (hbe : belowB L p x = true) :
    Calls Try.prog 27 #[.agg (cellsF r m (.slice a L.length c)), .int .i64 x, .int .i64 p] w fun e w' => (∃ v, e = .returned (.tuple #[v, .int .i64 (moveC L x p)]) ∧ DocF w' v r m (moveN L x p)) ∧ Below w.heap.size w w' := by
  have hc : moveC L x p = 12 := by unfold moveC; rw [if_neg (by rw [hh, hq]; decide), if_neg (by omega), if_neg (fun e => e ht), if_pos hbe]
  have HC := Lib.hid hc
  have HN : Hid (moveN L x p = L) := Lib.hid (by unfold moveN; rw [hc]; rfl)
  have hx0 : Blk ((w.alloc (.cells #[.int .i64 r, .int .i64 m, .slice a L.length c] 30)).alloc (.cells #[.int .i64 0, .int .i64 0, .slice none 0 0] 30)) w.heap.size 30 (cellsF r m (.slice a L.length c)) := (Blk.new w 30 _).alloc _
  have hZ0 : Blk ((w.alloc (.cells #[.int .i64 r, .int .i64 m, .slice a L.length c] 30)).alloc (.cells #[.int .i64 0, .int .i64 0, .slice none 0 0] 30)) (w.heap.size + 1) 30 (cellsF 0 0 (.slice none 0 0)) := by
    have := Blk.new (w.alloc (.cells #[.int .i64 r, .int .i64 m, .slice a L.length c] 30)) 30 (cellsF 0 0 (.slice none 0 0))
    have e : (w.alloc (.cells #[.int .i64 r, .int .i64 m, .slice a L.length c] 30)).heap.size = w.heap.size + 1 := by simp
    rw [e] at this
    exact this
  have hb : Below w.heap.size w ((w.alloc (.cells #[.int .i64 r, .int .i64 m, .slice a L.length c] 30)).alloc (.cells #[.int .i64 0, .int .i64 0, .slice none 0 0] 30)) := ((Below.refl _ w).alloc (Nat.le_refl _) _).alloc (by simp) _
  have hsz : w.heap.size + 2 ≤ ((w.alloc (.cells #[.int .i64 r, .int .i64 m, .slice a L.length c] 30)).alloc (.cells #[.int .i64 0, .int .i64 0, .slice none 0 0] 30)).heap.size := by simp
  have HR : Hid (Rdw ((w.alloc (.cells #[.int .i64 r, .int .i64 m, .slice a L.length c] 30)).alloc (.cells #[.int .i64 0, .int .i64 0, .slice none 0 0] 30)) r m a c L) := Lib.hid (Rdw.of h ok hb)
  have HXB : Hid (∀ X, Below ((w.alloc (.cells #[.int .i64 r, .int .i64 m, .slice a L.length c] 30)).alloc (.cells #[.int .i64 0, .int .i64 0, .slice none 0 0] 30)).heap.size ((w.alloc (.cells #[.int .i64 r, .int .i64 m, .slice a L.length c] 30)).alloc (.cells #[.int .i64 0, .int .i64 0, .slice none 0 0] 30)) X → Blk X w.heap.size 30 (cellsF r m (.slice a L.length c))) := Lib.hid fun X hX => hx0.below hX
  have HZB : Hid (∀ X, Below ((w.alloc (.cells #[.int .i64 r, .int .i64 m, .slice a L.length c] 30)).alloc (.cells #[.int .i64 0, .int .i64 0, .slice none 0 0] 30)).heap.size ((w.alloc (.cells #[.int .i64 r, .int .i64 m, .slice a L.length c] 30)).alloc (.cells #[.int .i64 0, .int .i64 0, .slice none 0 0] 30)) X → Blk X (w.heap.size + 1) 30 (cellsF 0 0 (.slice none 0 0))) := Lib.hid fun X hX => hZ0.below hX
  have HFin : Hid (∀ X, Below ((w.alloc (.cells #[.int .i64 r, .int .i64 m, .slice a L.length c] 30)).alloc (.cells #[.int .i64 0, .int .i64 0, .slice none 0 0] 30)).heap.size ((w.alloc (.cells #[.int .i64 r, .int .i64 m, .slice a L.length c] 30)).alloc (.cells #[.int .i64 0, .int .i64 0, .slice none 0 0] 30)) X → Below w.heap.size w X) := Lib.hid fun X hX => hb.trans (hX.mono (by omega))
  have HA : Hid (atG L x = (pos L x : Int)) := Lib.hid (atG_yes hh)
  have HH := Lib.hid hh
  have hj := has_pos hh
  obtain ⟨b, rfl, hcl⟩ := h.at hj
  have HCL : Hid (∀ X, Below ((w.alloc (.cells #[.int .i64 r, .int .i64 m, .slice (some ⟨b, 0, none⟩) L.length c] 30)).alloc (.cells #[.int .i64 0, .int .i64 0, .slice none 0 0] 30)).heap.size ((w.alloc (.cells #[.int .i64 r, .int .i64 m, .slice (some ⟨b, 0, none⟩) L.length c] 30)).alloc (.cells #[.int .i64 0, .int .i64 0, .slice none 0 0] 30)) X → X.cell? ⟨b, pos L x * 5 + 1, none⟩ = some (.int .i64 (gr L x).pa) ∧ X.rangeAt b (pos L x * 5) (cellsE (gr L x)).toList) := Lib.hid fun X hX => ⟨((hcl.below hb).below hX).pa hj, ((hcl.below hb).below hX).range hj⟩
  have HQ := Lib.hid hq
  have HAP : Hid (atG L p = (pos L p : Int)) := Lib.hid (atG_yes hq)
  have hp0 : ¬ (gr L x).pa < 0 := by omega
  have htt : (topI L p == topI L p) = true := by simp
  have htn : (topI L p != topI L p) = false := by simp
  have HBE := Lib.hid hbe
  clear hbe
  clear hh hq hp
  generalize (gr L x).pa = pa at *
  generalize pos L x = j at *
  generalize pos L p = jp at *
  clear hc h ok
  unfold cellsF
  go_enter Try.func27, Try.ntmps27
  go_wp2_with (first | (have hgd := hx0; refine wpList_alloc30 rfl rfl ?_; clear hgd; generalize ((w.alloc (.cells #[.int .i64 r, .int .i64 m, .slice (some ⟨b, 0, none⟩) L.length c] 30)).alloc (.cells #[.int .i64 0, .int .i64 0, .slice none 0 0] 30)) = w3 at *; have hbi := Below.refl w3.heap.size w3; clear hx0 hZ0 hb) | (go_at_call 50; refine (HR.out.at' _ _ (by assumption)).mono ?_; rw [HA.out]; rintro e wi ⟨rfl, hbi⟩; have hX2 := HXB.out wi hbi; have f0 := cF0 hX2; have f1 := cF1 hX2; have f2 := cF2 hX2; clear hX2; have g1 := (HCL.out wi hbi).1) | (go_at_call 50; refine (HR.out.at' _ _ (by assumption)).mono ?_; rw [HAP.out]; rintro e wi ⟨rfl, hbi⟩; have hX2 := HXB.out wi hbi; have f0 := cF0 hX2; have f1 := cF1 hX2; have f2 := cF2 hX2; clear hX2; have g1 := (HCL.out wi hbi).1) | (refine wpList_load30 rfl _ rfl w.heap.size r m (.slice (some ⟨b, 0, none⟩) L.length c) rfl (HXB.out _ (by assumption)) ?_) | (refine wpList_store30 rfl _ _ rfl (w.heap.size + 1) r m (.slice (some ⟨b, 0, none⟩) L.length c) rfl rfl (HZB.out _ (by assumption)) rfl rfl ?_; intro wz hZ9 t9))
  have hq6 : Below w3.heap.size w3 wi.drew := Below.drewS hbi
  clear f0 f1 f2 g1
  refine Rd.region (fun X => Below w3.heap.size w3 X) 8 [0, 1, 3, 4, 6, 7] [0, 1, 3, 4, 2, 5, 6, 7] (by kernel_rfl) (by kernel_rfl) (by kernel_rfl) (by kernel_rfl) rfl hq6 ?_
  refine Rd.seq_float (.agg #[.int .i64 r, .int .i64 m, .slice (some ⟨b, 0, none⟩) L.length c]) (by simp only [List.getElem?_toArray, List.getElem?_cons_zero]; rfl) rfl (by rfl) (fun X hX => run_load30 rfl rfl (HXB.out X hX)) ?_
  simp only [Act.put, List.setIfInBounds_toArray, List.set_cons_succ, List.set_cons_zero]
  refine Rd.seq_float (.int .i64 x) (by simp only [List.getElem?_toArray, List.getElem?_cons_succ, List.getElem?_cons_zero]; rfl) rfl (by rfl) (fun X _ => by go_simp) ?_
  simp only [Act.put, List.setIfInBounds_toArray, List.set_cons_succ, List.set_cons_zero]
  refine Rd.seq_float (.agg #[.int .i64 r, .int .i64 m, .slice (some ⟨b, 0, none⟩) L.length c]) (by simp only [List.getElem?_toArray, List.getElem?_cons_succ, List.getElem?_cons_zero]; rfl) rfl (by rfl) (fun X hX => run_load30 rfl rfl (HXB.out X hX)) ?_
  simp only [Act.put, List.setIfInBounds_toArray, List.set_cons_succ, List.set_cons_zero]
  refine Rd.seq_float (.int .i64 p) (by simp only [List.getElem?_toArray, List.getElem?_cons_succ, List.getElem?_cons_zero]; rfl) rfl (by rfl) (fun X _ => by go_simp) ?_
  simp only [Act.put, List.setIfInBounds_toArray, List.set_cons_succ, List.set_cons_zero]
  refine Rd.seq_move (by simp only [List.getElem?_toArray, List.getElem?_cons_succ, List.getElem?_cons_zero]; rfl) rfl (by rfl) (fun K hK => ?_)
  go_simp
  refine (HR.out.top _ _ HH.out hq6).mono ?_
  rintro e wi ⟨rfl, hbi⟩
  refine hK _ _ (fun _ => hbi) ?_
  clear hK K
  refine Rd.seq_move (by simp only [List.getElem?_toArray, List.getElem?_cons_succ, List.getElem?_cons_zero]; rfl) rfl (by rfl) (fun K hK => ?_)
  go_simp
  refine (HR.out.top _ _ HQ.out (by assumption)).mono ?_
  rintro e wi ⟨rfl, hbi⟩
  refine hK _ _ (fun _ => hbi) ?_
  clear hK K
  refine Rd.seq_float (.bool false) (by simp only [List.getElem?_toArray, List.getElem?_cons_succ, List.getElem?_cons_zero]; rfl) rfl (by rfl) (fun X _ => by go_simp) ?_
  simp only [Act.put, List.setIfInBounds_toArray, List.set_cons_succ, List.set_cons_zero]
  refine Rd.seq_float (.bool false) (by simp only [List.getElem?_toArray, List.getElem?_cons_succ, List.getElem?_cons_zero]; rfl) rfl (by rfl) (fun X _ => by go_simp) ?_
  simp only [Act.put, List.setIfInBounds_toArray, List.set_cons_succ, List.set_cons_zero]
  refine Rd.seq_end ?_
  go_wp2_with (first | (refine wpList_load30 rfl _ rfl w.heap.size r m (.slice (some ⟨b, 0, none⟩) L.length c) rfl (HXB.out _ (by assumption)) ?_) | (go_at_call 53; refine (HR.out.bel _ _ _ HQ.out (by assumption)).mono ?_; rw [HBE.out]; rintro e wi ⟨rfl, hbi⟩) | (refine wpList_store30 rfl _ _ rfl (w.heap.size + 1) r m (.slice (some ⟨b, 0, none⟩) L.length c) rfl rfl (HZB.out _ (by assumption)) rfl rfl ?_; intro wz hZ9 t9))
  refine bodyPost_ret (resultsF_ct rfl _ wz (w.heap.size + 1) r m (.slice (some ⟨b, 0, none⟩) L.length c) _ rfl rfl hZ9) rfl ?_
  rw [HC.out, HN.out]
  exact ⟨⟨_, rfl, some ⟨b, 0, none⟩, c, rfl, (HR.out.row _ hbi).turn t9 (HZB.out _ hbi) (by decide)⟩, (HFin.out _ hbi).trans (t9.below (by omega))⟩
set_option maxRecDepth 100000 in
set_option maxHeartbeats 4000000 in
theorem rMove_deep (x p : Int) (m0 k : Int) (w : World) (h : RowG w (.slice a L.length c) L) (ok : Ok L m0 k) (hh : has L x = true) (hq : has L p = true) (hp : 0 ≤ (gr L x).pa) (ht : topI L x = topI L p) (hbe : belowB L p x = false) (hde : deepB L x p = true) :
    Calls Try.prog 27 #[.agg (cellsF r m (.slice a L.length c)), .int .i64 x, .int .i64 p] w fun e w' => (∃ v, e = .returned (.tuple #[v, .int .i64 (moveC L x p)]) ∧ DocF w' v r m (moveN L x p)) ∧ Below w.heap.size w w' := by
  have hc : moveC L x p = 7 := by unfold moveC; rw [if_neg (by rw [hh, hq]; decide), if_neg (by omega), if_neg (fun e => e ht), if_neg (by rw [hbe]; decide), if_pos hde]
  have HC := Lib.hid hc
  have HN : Hid (moveN L x p = L) := Lib.hid (by unfold moveN; rw [hc]; rfl)
  have hx0 : Blk ((w.alloc (.cells #[.int .i64 r, .int .i64 m, .slice a L.length c] 30)).alloc (.cells #[.int .i64 0, .int .i64 0, .slice none 0 0] 30)) w.heap.size 30 (cellsF r m (.slice a L.length c)) := (Blk.new w 30 _).alloc _
  have hZ0 : Blk ((w.alloc (.cells #[.int .i64 r, .int .i64 m, .slice a L.length c] 30)).alloc (.cells #[.int .i64 0, .int .i64 0, .slice none 0 0] 30)) (w.heap.size + 1) 30 (cellsF 0 0 (.slice none 0 0)) := by
    have := Blk.new (w.alloc (.cells #[.int .i64 r, .int .i64 m, .slice a L.length c] 30)) 30 (cellsF 0 0 (.slice none 0 0))
    have e : (w.alloc (.cells #[.int .i64 r, .int .i64 m, .slice a L.length c] 30)).heap.size = w.heap.size + 1 := by simp
    rw [e] at this
    exact this
  have hb : Below w.heap.size w ((w.alloc (.cells #[.int .i64 r, .int .i64 m, .slice a L.length c] 30)).alloc (.cells #[.int .i64 0, .int .i64 0, .slice none 0 0] 30)) := ((Below.refl _ w).alloc (Nat.le_refl _) _).alloc (by simp) _
  have hsz : w.heap.size + 2 ≤ ((w.alloc (.cells #[.int .i64 r, .int .i64 m, .slice a L.length c] 30)).alloc (.cells #[.int .i64 0, .int .i64 0, .slice none 0 0] 30)).heap.size := by simp
  have HR : Hid (Rdw ((w.alloc (.cells #[.int .i64 r, .int .i64 m, .slice a L.length c] 30)).alloc (.cells #[.int .i64 0, .int .i64 0, .slice none 0 0] 30)) r m a c L) := Lib.hid (Rdw.of h ok hb)
  have HXB : Hid (∀ X, Below ((w.alloc (.cells #[.int .i64 r, .int .i64 m, .slice a L.length c] 30)).alloc (.cells #[.int .i64 0, .int .i64 0, .slice none 0 0] 30)).heap.size ((w.alloc (.cells #[.int .i64 r, .int .i64 m, .slice a L.length c] 30)).alloc (.cells #[.int .i64 0, .int .i64 0, .slice none 0 0] 30)) X → Blk X w.heap.size 30 (cellsF r m (.slice a L.length c))) := Lib.hid fun X hX => hx0.below hX
  have HZB : Hid (∀ X, Below ((w.alloc (.cells #[.int .i64 r, .int .i64 m, .slice a L.length c] 30)).alloc (.cells #[.int .i64 0, .int .i64 0, .slice none 0 0] 30)).heap.size ((w.alloc (.cells #[.int .i64 r, .int .i64 m, .slice a L.length c] 30)).alloc (.cells #[.int .i64 0, .int .i64 0, .slice none 0 0] 30)) X → Blk X (w.heap.size + 1) 30 (cellsF 0 0 (.slice none 0 0))) := Lib.hid fun X hX => hZ0.below hX
  have HFin : Hid (∀ X, Below ((w.alloc (.cells #[.int .i64 r, .int .i64 m, .slice a L.length c] 30)).alloc (.cells #[.int .i64 0, .int .i64 0, .slice none 0 0] 30)).heap.size ((w.alloc (.cells #[.int .i64 r, .int .i64 m, .slice a L.length c] 30)).alloc (.cells #[.int .i64 0, .int .i64 0, .slice none 0 0] 30)) X → Below w.heap.size w X) := Lib.hid fun X hX => hb.trans (hX.mono (by omega))
  have HA : Hid (atG L x = (pos L x : Int)) := Lib.hid (atG_yes hh)
  have HH := Lib.hid hh
  have hj := has_pos hh
  obtain ⟨b, rfl, hcl⟩ := h.at hj
  have HCL : Hid (∀ X, Below ((w.alloc (.cells #[.int .i64 r, .int .i64 m, .slice (some ⟨b, 0, none⟩) L.length c] 30)).alloc (.cells #[.int .i64 0, .int .i64 0, .slice none 0 0] 30)).heap.size ((w.alloc (.cells #[.int .i64 r, .int .i64 m, .slice (some ⟨b, 0, none⟩) L.length c] 30)).alloc (.cells #[.int .i64 0, .int .i64 0, .slice none 0 0] 30)) X → X.cell? ⟨b, pos L x * 5 + 1, none⟩ = some (.int .i64 (gr L x).pa) ∧ X.rangeAt b (pos L x * 5) (cellsE (gr L x)).toList) := Lib.hid fun X hX => ⟨((hcl.below hb).below hX).pa hj, ((hcl.below hb).below hX).range hj⟩
  have HQ := Lib.hid hq
  have HAP : Hid (atG L p = (pos L p : Int)) := Lib.hid (atG_yes hq)
  have hp0 : ¬ (gr L x).pa < 0 := by omega
  have htt : (topI L p == topI L p) = true := by simp
  have htn : (topI L p != topI L p) = false := by simp
  have hn64 := ok.n64
  have HDD : Hid (∀ y X, has L y = true → Below ((w.alloc (.cells #[.int .i64 r, .int .i64 m, .slice (some ⟨b, 0, none⟩) L.length c] 30)).alloc (.cells #[.int .i64 0, .int .i64 0, .slice none 0 0] 30)).heap.size ((w.alloc (.cells #[.int .i64 r, .int .i64 m, .slice (some ⟨b, 0, none⟩) L.length c] 30)).alloc (.cells #[.int .i64 0, .int .i64 0, .slice none 0 0] 30)) X → Calls Try.prog 34 #[.agg #[.int .i64 r, .int .i64 m, .slice (some ⟨b, 0, none⟩) L.length c], .int .i64 y] X fun e w' => e = .returned (.int .i64 (dep L y)) ∧ Below ((w.alloc (.cells #[.int .i64 r, .int .i64 m, .slice (some ⟨b, 0, none⟩) L.length c] 30)).alloc (.cells #[.int .i64 0, .int .i64 0, .slice none 0 0] 30)).heap.size ((w.alloc (.cells #[.int .i64 r, .int .i64 m, .slice (some ⟨b, 0, none⟩) L.length c] 30)).alloc (.cells #[.int .i64 0, .int .i64 0, .slice none 0 0] 30)) w') := Lib.hid fun y X hy hX => HR.out.dep y X hy hX
  have HCC : Hid (∀ X, Below ((w.alloc (.cells #[.int .i64 r, .int .i64 m, .slice (some ⟨b, 0, none⟩) L.length c] 30)).alloc (.cells #[.int .i64 0, .int .i64 0, .slice none 0 0] 30)).heap.size ((w.alloc (.cells #[.int .i64 r, .int .i64 m, .slice (some ⟨b, 0, none⟩) L.length c] 30)).alloc (.cells #[.int .i64 0, .int .i64 0, .slice none 0 0] 30)) X → Cl X b 0 L) := Lib.hid fun X hX => (hcl.below hb).below hX
  have OK := Lib.hid ok
  have HBE := Lib.hid hbe
  have HDE := Lib.hid hde
  clear hbe hde
  clear hh hq hp
  generalize (gr L x).pa = pa at *
  generalize pos L x = j at *
  generalize pos L p = jp at *
  clear hc h ok
  unfold cellsF
  go_enter Try.func27, Try.ntmps27
  go_wp2_with (first | (have hgd := hx0; refine wpList_alloc30 rfl rfl ?_; clear hgd; generalize ((w.alloc (.cells #[.int .i64 r, .int .i64 m, .slice (some ⟨b, 0, none⟩) L.length c] 30)).alloc (.cells #[.int .i64 0, .int .i64 0, .slice none 0 0] 30)) = w3 at *; have hbi := Below.refl w3.heap.size w3; clear hx0 hZ0 hb) | (go_at_call 50; refine (HR.out.at' _ _ (by assumption)).mono ?_; rw [HA.out]; rintro e wi ⟨rfl, hbi⟩; have hX2 := HXB.out wi hbi; have f0 := cF0 hX2; have f1 := cF1 hX2; have f2 := cF2 hX2; clear hX2; have g1 := (HCL.out wi hbi).1) | (go_at_call 50; refine (HR.out.at' _ _ (by assumption)).mono ?_; rw [HAP.out]; rintro e wi ⟨rfl, hbi⟩; have hX2 := HXB.out wi hbi; have f0 := cF0 hX2; have f1 := cF1 hX2; have f2 := cF2 hX2; clear hX2; have g1 := (HCL.out wi hbi).1) | (refine wpList_load30 rfl _ rfl w.heap.size r m (.slice (some ⟨b, 0, none⟩) L.length c) rfl (HXB.out _ (by assumption)) ?_) | (refine wpList_store30 rfl _ _ rfl (w.heap.size + 1) r m (.slice (some ⟨b, 0, none⟩) L.length c) rfl rfl (HZB.out _ (by assumption)) rfl rfl ?_; intro wz hZ9 t9))
  have hq6 : Below w3.heap.size w3 wi.drew := Below.drewS hbi
  clear f0 f1 f2 g1
  refine Rd.region (fun X => Below w3.heap.size w3 X) 8 [0, 1, 3, 4, 6, 7] [0, 1, 3, 4, 2, 5, 6, 7] (by kernel_rfl) (by kernel_rfl) (by kernel_rfl) (by kernel_rfl) rfl hq6 ?_
  refine Rd.seq_float (.agg #[.int .i64 r, .int .i64 m, .slice (some ⟨b, 0, none⟩) L.length c]) (by simp only [List.getElem?_toArray, List.getElem?_cons_zero]; rfl) rfl (by rfl) (fun X hX => run_load30 rfl rfl (HXB.out X hX)) ?_
  simp only [Act.put, List.setIfInBounds_toArray, List.set_cons_succ, List.set_cons_zero]
  refine Rd.seq_float (.int .i64 x) (by simp only [List.getElem?_toArray, List.getElem?_cons_succ, List.getElem?_cons_zero]; rfl) rfl (by rfl) (fun X _ => by go_simp) ?_
  simp only [Act.put, List.setIfInBounds_toArray, List.set_cons_succ, List.set_cons_zero]
  refine Rd.seq_float (.agg #[.int .i64 r, .int .i64 m, .slice (some ⟨b, 0, none⟩) L.length c]) (by simp only [List.getElem?_toArray, List.getElem?_cons_succ, List.getElem?_cons_zero]; rfl) rfl (by rfl) (fun X hX => run_load30 rfl rfl (HXB.out X hX)) ?_
  simp only [Act.put, List.setIfInBounds_toArray, List.set_cons_succ, List.set_cons_zero]
  refine Rd.seq_float (.int .i64 p) (by simp only [List.getElem?_toArray, List.getElem?_cons_succ, List.getElem?_cons_zero]; rfl) rfl (by rfl) (fun X _ => by go_simp) ?_
  simp only [Act.put, List.setIfInBounds_toArray, List.set_cons_succ, List.set_cons_zero]
  refine Rd.seq_move (by simp only [List.getElem?_toArray, List.getElem?_cons_succ, List.getElem?_cons_zero]; rfl) rfl (by rfl) (fun K hK => ?_)
  go_simp
  refine (HR.out.top _ _ HH.out hq6).mono ?_
  rintro e wi ⟨rfl, hbi⟩
  refine hK _ _ (fun _ => hbi) ?_
  clear hK K
  refine Rd.seq_move (by simp only [List.getElem?_toArray, List.getElem?_cons_succ, List.getElem?_cons_zero]; rfl) rfl (by rfl) (fun K hK => ?_)
  go_simp
  refine (HR.out.top _ _ HQ.out (by assumption)).mono ?_
  rintro e wi ⟨rfl, hbi⟩
  refine hK _ _ (fun _ => hbi) ?_
  clear hK K
  refine Rd.seq_float (.bool false) (by simp only [List.getElem?_toArray, List.getElem?_cons_succ, List.getElem?_cons_zero]; rfl) rfl (by rfl) (fun X _ => by go_simp) ?_
  simp only [Act.put, List.setIfInBounds_toArray, List.set_cons_succ, List.set_cons_zero]
  refine Rd.seq_float (.bool false) (by simp only [List.getElem?_toArray, List.getElem?_cons_succ, List.getElem?_cons_zero]; rfl) rfl (by rfl) (fun X _ => by go_simp) ?_
  simp only [Act.put, List.setIfInBounds_toArray, List.set_cons_succ, List.set_cons_zero]
  refine Rd.seq_end ?_
  go_wp2_with (first | (refine wpList_load30 rfl _ rfl w.heap.size r m (.slice (some ⟨b, 0, none⟩) L.length c) rfl (HXB.out _ (by assumption)) ?_) | (go_at_call 53; refine (HR.out.bel _ _ _ HQ.out (by assumption)).mono ?_; rw [HBE.out]; rintro e wi ⟨rfl, hbi⟩; have hX2 := HXB.out wi hbi; have f0 := cF0 hX2; have f1 := cF1 hX2; have f2 := cF2 hX2; clear hX2))
  go_loopw [51] (fun i wr => ∃ k : Nat, k ≤ L.length ∧ i = .int .i64 k ∧ Hid (∀ j, j < k → tooDeep L x p (L.getD j g0).id = false) ∧ Below w3.heap.size w3 wr) (fun i _ => L.length - (intOf i).toNat)
  case atStart => exact ⟨0, by omega, rfl, Lib.hid (fun j hj => absurd hj (Nat.not_lt_zero _)), hbi⟩
  case round =>
    clear f0 f1 f2 hbi
    obtain ⟨k, hk, rfl, HT, hb7⟩ := hrel
    by_cases hlt : k < L.length
    · have hyy : has L (L.getD k g0).id = true := has_mem (getD_memG hlt)
      have HV : Hid (∀ X, Below w3.heap.size w3 X → X.cell? ⟨b, k * 5, none⟩ = some (.int .i64 (L.getD k g0).id)) := Lib.hid fun X hX => (HCC.out X hX).id hlt
      have HBY : Hid (∀ X, Below w3.heap.size w3 X → Calls Try.prog 53 #[.agg #[.int .i64 r, .int .i64 m, .slice (some ⟨b, 0, none⟩) L.length c], .int .i64 (L.getD k g0).id, .int .i64 x] X fun e w' => e = .returned (.bool (belowB L (L.getD k g0).id x)) ∧ Below w3.heap.size w3 w') := Lib.hid fun X hX => HR.out.bel _ x X hyy hX
      have HDY : Hid (∀ X, Below w3.heap.size w3 X → Calls Try.prog 34 #[.agg #[.int .i64 r, .int .i64 m, .slice (some ⟨b, 0, none⟩) L.length c], .int .i64 (L.getD k g0).id] X fun e w' => e = .returned (.int .i64 (dep L (L.getD k g0).id)) ∧ Below w3.heap.size w3 w') := Lib.hid fun X hX => HDD.out _ X hyy hX
      have HDX : Hid (∀ X, Below w3.heap.size w3 X → Calls Try.prog 34 #[.agg #[.int .i64 r, .int .i64 m, .slice (some ⟨b, 0, none⟩) L.length c], .int .i64 x] X fun e w' => e = .returned (.int .i64 (dep L x)) ∧ Below w3.heap.size w3 w') := Lib.hid fun X hX => HDD.out _ X HH.out hX
      have HDP : Hid (∀ X, Below w3.heap.size w3 X → Calls Try.prog 34 #[.agg #[.int .i64 r, .int .i64 m, .slice (some ⟨b, 0, none⟩) L.length c], .int .i64 p] X fun e w' => e = .returned (.int .i64 (dep L p)) ∧ Below w3.heap.size w3 w') := Lib.hid fun X hX => HDD.out _ X HQ.out hX
      have HTK : Hid (tooDeep L x p (L.getD k g0).id = false → ∀ j, j < k + 1 → tooDeep L x p (L.getD j g0).id = false) := Lib.hid fun e j hj => by
        by_cases e2 : j = k
        · subst e2; exact e
        · exact HT.out j (by omega)
      have hd1 := OK.out.dep8 (L.getD k g0).id
      have hd2 := OK.out.dep8 x
      have hd3 := OK.out.dep8 p
      have HTE : Hid (tooDeep L x p (L.getD k g0).id = (belowB L (L.getD k g0).id x && decide (8 < dep L (L.getD k g0).id - dep L x + dep L p + 1))) := Lib.hid rfl
      skip
      have hq7 : Below w3.heap.size w3 wr.drew := Below.drewS hb7
      clear hyy HT
      have HW : Hid (IntKind.i64.wrap (dep L (L.getD k g0).id - dep L x) = dep L (L.getD k g0).id - dep L x ∧ IntKind.i64.wrap (dep L (L.getD k g0).id - dep L x + dep L p) = dep L (L.getD k g0).id - dep L x + dep L p ∧ IntKind.i64.wrap (dep L (L.getD k g0).id - dep L x + dep L p + 1) = dep L (L.getD k g0).id - dep L x + dep L p + 1) := Lib.hid ⟨IntWalk.i64_in _ (by omega), IntWalk.i64_in _ (by omega), IntWalk.i64_in _ (by omega)⟩
      clear hd1 hd2 hd3
      generalize dep L (L.getD k g0).id = dy at *
      generalize dep L x = dx at *
      generalize dep L p = dp at *
      cases hby : belowB L (L.getD k g0).id x with
      | false =>
        have HT3 := Lib.hid (HTK.out (by rw [HTE.out, hby, Bool.false_and]))
        rw [hby] at HBY
        clear hby HTK HTE 
        generalize hyid : (L.getD k g0).id = y at HBY HDY HV
        clear hyid
        go_wp2_with fail
        refine Rd.region (fun X => Below w3.heap.size w3 X) 29 [0, 1, 2, 3, 4, 5, 6, 7, 9, 10, 11, 12, 13, 14, 15, 16, 17, 18, 19, 20, 21, 22, 23, 24, 25, 26, 27, 28] [0, 1, 2, 3, 4, 5, 6, 7, 8, 9, 10, 11, 12, 13, 14, 15, 16, 17, 18, 19, 20, 21, 22, 23, 24, 25, 26, 27, 28] (by kernel_rfl) (by kernel_rfl) (by kernel_rfl) (by kernel_rfl) rfl hq7 ?_
        refine Rd.seq_floatL (.agg #[.int .i64 r, .int .i64 m, .slice (some ⟨b, 0, none⟩) L.length c]) (by simp only [List.getElem?_toArray, List.getElem?_cons_zero]; rfl) (by rfl) rfl (by rfl) (fun X hX => run_load30 rfl rfl (HXB.out X hX)) ?_
        dsimp only [List.set_cons_succ, List.set_cons_zero]
        refine Rd.seq_floatL (.pointer (some ⟨w.heap.size, 2, none⟩)) (by simp only [List.getElem?_toArray, List.getElem?_cons_succ, List.getElem?_cons_zero]; rfl) (by rfl) rfl (by rfl) (fun X _ => by go_simp) ?_
        dsimp only [List.set_cons_succ, List.set_cons_zero]
        refine Rd.seq_floatL (.slice (some ⟨b, 0, none⟩) L.length c) (by simp only [List.getElem?_toArray, List.getElem?_cons_succ, List.getElem?_cons_zero]; rfl) (by rfl) rfl (by rfl) (fun X hX => by have e2 := cF2 (HXB.out X hX); go_simp) ?_
        dsimp only [List.set_cons_succ, List.set_cons_zero]
        refine Rd.seq_floatL (.int .i64 (k : Int)) (by simp only [List.getElem?_toArray, List.getElem?_cons_succ, List.getElem?_cons_zero]; rfl) (by rfl) rfl (by rfl) (fun X _ => by go_simp) ?_
        dsimp only [List.set_cons_succ, List.set_cons_zero]
        refine Rd.seq_floatL (.pointer (some ⟨b, k * 5, none⟩)) (by simp only [List.getElem?_toArray, List.getElem?_cons_succ, List.getElem?_cons_zero]; rfl) (by rfl) rfl (by rfl) (fun X _ => by first | (go_simp; done) | (go_simp; intro hx; omega)) ?_
        dsimp only [List.set_cons_succ, List.set_cons_zero]
        refine Rd.seq_floatL (.pointer (some ⟨b, k * 5, none⟩)) (by simp only [List.getElem?_toArray, List.getElem?_cons_succ, List.getElem?_cons_zero]; rfl) (by rfl) rfl (by rfl) (fun X _ => by go_simp) ?_
        dsimp only [List.set_cons_succ, List.set_cons_zero]
        refine Rd.seq_floatL (.int .i64 y) (by simp only [List.getElem?_toArray, List.getElem?_cons_succ, List.getElem?_cons_zero]; rfl) (by rfl) rfl (by rfl) (fun X hX => by have e2 := HV.out X hX; go_simp) ?_
        dsimp only [List.set_cons_succ, List.set_cons_zero]
        refine Rd.seq_floatL (.int .i64 x) (by simp only [List.getElem?_toArray, List.getElem?_cons_succ, List.getElem?_cons_zero]; rfl) (by rfl) rfl (by rfl) (fun X _ => by go_simp) ?_
        dsimp only [List.set_cons_succ, List.set_cons_zero]
        refine Rd.seq_move (by simp only [List.getElem?_toArray, List.getElem?_cons_succ, List.getElem?_cons_zero]; rfl) rfl (by rfl) (fun K hK => ?_)
        go_simp
        refine (HBY.out _ hq7).mono ?_
        rintro e wi ⟨rfl, hbi⟩
        refine hK _ _ (fun _ => hbi) ?_
        clear hK K
        refine Rd.seq_floatL (.bool false) (by simp only [List.getElem?_toArray, List.getElem?_cons_succ, List.getElem?_cons_zero]; rfl) (by rfl) rfl (by rfl) (fun X _ => by go_simp) ?_
        dsimp only [List.set_cons_succ, List.set_cons_zero]
        refine Rd.seq_skipL (by simp only [List.getElem?_toArray, List.getElem?_cons_succ, List.getElem?_cons_zero]; rfl) (by rfl) rfl (by rfl) ?_
        dsimp only [List.set_cons_succ, List.set_cons_zero]
        refine Rd.seq_skipL (by simp only [List.getElem?_toArray, List.getElem?_cons_succ, List.getElem?_cons_zero]; rfl) (by rfl) rfl (by rfl) ?_
        dsimp only [List.set_cons_succ, List.set_cons_zero]
        refine Rd.seq_skipL (by simp only [List.getElem?_toArray, List.getElem?_cons_succ, List.getElem?_cons_zero]; rfl) (by rfl) rfl (by rfl) ?_
        dsimp only [List.set_cons_succ, List.set_cons_zero]
        refine Rd.seq_skipL (by simp only [List.getElem?_toArray, List.getElem?_cons_succ, List.getElem?_cons_zero]; rfl) (by rfl) rfl (by rfl) ?_
        dsimp only [List.set_cons_succ, List.set_cons_zero]
        refine Rd.seq_skipL (by simp only [List.getElem?_toArray, List.getElem?_cons_succ, List.getElem?_cons_zero]; rfl) (by rfl) rfl (by rfl) ?_
        dsimp only [List.set_cons_succ, List.set_cons_zero]
        refine Rd.seq_skipL (by simp only [List.getElem?_toArray, List.getElem?_cons_succ, List.getElem?_cons_zero]; rfl) (by rfl) rfl (by rfl) ?_
        dsimp only [List.set_cons_succ, List.set_cons_zero]
        refine Rd.seq_skipL (by simp only [List.getElem?_toArray, List.getElem?_cons_succ, List.getElem?_cons_zero]; rfl) (by rfl) rfl (by rfl) ?_
        dsimp only [List.set_cons_succ, List.set_cons_zero]
        refine Rd.seq_skipL (by simp only [List.getElem?_toArray, List.getElem?_cons_succ, List.getElem?_cons_zero]; rfl) (by rfl) rfl (by rfl) ?_
        dsimp only [List.set_cons_succ, List.set_cons_zero]
        refine Rd.seq_skipL (by simp only [List.getElem?_toArray, List.getElem?_cons_succ, List.getElem?_cons_zero]; rfl) (by rfl) rfl (by rfl) ?_
        dsimp only [List.set_cons_succ, List.set_cons_zero]
        refine Rd.seq_skipL (by simp only [List.getElem?_toArray, List.getElem?_cons_succ, List.getElem?_cons_zero]; rfl) (by rfl) rfl (by rfl) ?_
        dsimp only [List.set_cons_succ, List.set_cons_zero]
        refine Rd.seq_skipL (by simp only [List.getElem?_toArray, List.getElem?_cons_succ, List.getElem?_cons_zero]; rfl) (by rfl) rfl (by rfl) ?_
        dsimp only [List.set_cons_succ, List.set_cons_zero]
        refine Rd.seq_skipL (by simp only [List.getElem?_toArray, List.getElem?_cons_succ, List.getElem?_cons_zero]; rfl) (by rfl) rfl (by rfl) ?_
        dsimp only [List.set_cons_succ, List.set_cons_zero]
        refine Rd.seq_skipL (by simp only [List.getElem?_toArray, List.getElem?_cons_succ, List.getElem?_cons_zero]; rfl) (by rfl) rfl (by rfl) ?_
        dsimp only [List.set_cons_succ, List.set_cons_zero]
        refine Rd.seq_skipL (by simp only [List.getElem?_toArray, List.getElem?_cons_succ, List.getElem?_cons_zero]; rfl) (by rfl) rfl (by rfl) ?_
        dsimp only [List.set_cons_succ, List.set_cons_zero]
        refine Rd.seq_skipL (by simp only [List.getElem?_toArray, List.getElem?_cons_succ, List.getElem?_cons_zero]; rfl) (by rfl) rfl (by rfl) ?_
        dsimp only [List.set_cons_succ, List.set_cons_zero]
        refine Rd.seq_skipL (by simp only [List.getElem?_toArray, List.getElem?_cons_succ, List.getElem?_cons_zero]; rfl) (by rfl) rfl (by rfl) ?_
        dsimp only [List.set_cons_succ, List.set_cons_zero]
        refine Rd.seq_skipL (by simp only [List.getElem?_toArray, List.getElem?_cons_succ, List.getElem?_cons_zero]; rfl) (by rfl) rfl (by rfl) ?_
        dsimp only [List.set_cons_succ, List.set_cons_zero]
        refine Rd.seq_skipL (by simp only [List.getElem?_toArray, List.getElem?_cons_succ, List.getElem?_cons_zero]; rfl) (by rfl) rfl (by rfl) ?_
        dsimp only [List.set_cons_succ, List.set_cons_zero]
        refine Rd.seq_floatL (.bool false) (by simp only [List.getElem?_toArray, List.getElem?_cons_succ, List.getElem?_cons_zero]; rfl) (by rfl) rfl (by rfl) (fun X _ => by go_simp) ?_
        dsimp only [List.set_cons_succ, List.set_cons_zero]
        refine Rd.seq_end ?_
        go_wp2_with fail
        exact ⟨⟨k + 1, by omega, by go_num, HT3, hbi⟩, by simp [intOf]; omega⟩
      | true =>
        rw [hby] at HBY HTE
        clear hby
        by_cases h8 : 8 < dy - dx + dp + 1
        · clear HTK HTE
          generalize hyid : (L.getD k g0).id = y at HBY HDY HV
          clear hyid
          go_wp2_with fail
          refine Rd.region (fun X => Below w3.heap.size w3 X) 29 [0, 1, 2, 3, 4, 5, 6, 7, 9, 10, 11, 12, 13, 14, 15, 16, 18, 19, 21, 22, 23, 25, 26, 27, 28] [0, 1, 2, 3, 4, 5, 6, 7, 8, 9, 10, 11, 12, 13, 14, 15, 16, 18, 19, 22, 23, 17, 20, 21, 24, 25, 26, 27, 28] (by kernel_rfl) (by kernel_rfl) (by kernel_rfl) (by kernel_rfl) rfl hq7 ?_
          refine Rd.seq_floatL (.agg #[.int .i64 r, .int .i64 m, .slice (some ⟨b, 0, none⟩) L.length c]) (by simp only [List.getElem?_toArray, List.getElem?_cons_zero]; rfl) (by rfl) rfl (by rfl) (fun X hX => run_load30 rfl rfl (HXB.out X hX)) ?_
          dsimp only [List.set_cons_succ, List.set_cons_zero]
          refine Rd.seq_floatL (.pointer (some ⟨w.heap.size, 2, none⟩)) (by simp only [List.getElem?_toArray, List.getElem?_cons_succ, List.getElem?_cons_zero]; rfl) (by rfl) rfl (by rfl) (fun X _ => by go_simp) ?_
          dsimp only [List.set_cons_succ, List.set_cons_zero]
          refine Rd.seq_floatL (.slice (some ⟨b, 0, none⟩) L.length c) (by simp only [List.getElem?_toArray, List.getElem?_cons_succ, List.getElem?_cons_zero]; rfl) (by rfl) rfl (by rfl) (fun X hX => by have e2 := cF2 (HXB.out X hX); go_simp) ?_
          dsimp only [List.set_cons_succ, List.set_cons_zero]
          refine Rd.seq_floatL (.int .i64 (k : Int)) (by simp only [List.getElem?_toArray, List.getElem?_cons_succ, List.getElem?_cons_zero]; rfl) (by rfl) rfl (by rfl) (fun X _ => by go_simp) ?_
          dsimp only [List.set_cons_succ, List.set_cons_zero]
          refine Rd.seq_floatL (.pointer (some ⟨b, k * 5, none⟩)) (by simp only [List.getElem?_toArray, List.getElem?_cons_succ, List.getElem?_cons_zero]; rfl) (by rfl) rfl (by rfl) (fun X _ => by first | (go_simp; done) | (go_simp; intro hx; omega)) ?_
          dsimp only [List.set_cons_succ, List.set_cons_zero]
          refine Rd.seq_floatL (.pointer (some ⟨b, k * 5, none⟩)) (by simp only [List.getElem?_toArray, List.getElem?_cons_succ, List.getElem?_cons_zero]; rfl) (by rfl) rfl (by rfl) (fun X _ => by go_simp) ?_
          dsimp only [List.set_cons_succ, List.set_cons_zero]
          refine Rd.seq_floatL (.int .i64 y) (by simp only [List.getElem?_toArray, List.getElem?_cons_succ, List.getElem?_cons_zero]; rfl) (by rfl) rfl (by rfl) (fun X hX => by have e2 := HV.out X hX; go_simp) ?_
          dsimp only [List.set_cons_succ, List.set_cons_zero]
          refine Rd.seq_floatL (.int .i64 x) (by simp only [List.getElem?_toArray, List.getElem?_cons_succ, List.getElem?_cons_zero]; rfl) (by rfl) rfl (by rfl) (fun X _ => by go_simp) ?_
          dsimp only [List.set_cons_succ, List.set_cons_zero]
          refine Rd.seq_move (by simp only [List.getElem?_toArray, List.getElem?_cons_succ, List.getElem?_cons_zero]; rfl) rfl (by rfl) (fun K hK => ?_)
          go_simp
          refine (HBY.out _ hq7).mono ?_
          rintro e wi ⟨rfl, hbi⟩
          refine hK _ _ (fun _ => hbi) ?_
          clear hK K
          refine Rd.seq_floatL (.bool true) (by simp only [List.getElem?_toArray, List.getElem?_cons_succ, List.getElem?_cons_zero]; rfl) (by rfl) rfl (by rfl) (fun X _ => by go_simp) ?_
          dsimp only [List.set_cons_succ, List.set_cons_zero]
          refine Rd.seq_floatL (.agg #[.int .i64 r, .int .i64 m, .slice (some ⟨b, 0, none⟩) L.length c]) (by simp only [List.getElem?_toArray, List.getElem?_cons_succ, List.getElem?_cons_zero]; rfl) (by rfl) rfl (by rfl) (fun X hX => run_load30 rfl rfl (HXB.out X hX)) ?_
          dsimp only [List.set_cons_succ, List.set_cons_zero]
          refine Rd.seq_floatL (.pointer (some ⟨w.heap.size, 2, none⟩)) (by simp only [List.getElem?_toArray, List.getElem?_cons_succ, List.getElem?_cons_zero]; rfl) (by rfl) rfl (by rfl) (fun X _ => by go_simp) ?_
          dsimp only [List.set_cons_succ, List.set_cons_zero]
          refine Rd.seq_floatL (.slice (some ⟨b, 0, none⟩) L.length c) (by simp only [List.getElem?_toArray, List.getElem?_cons_succ, List.getElem?_cons_zero]; rfl) (by rfl) rfl (by rfl) (fun X hX => by have e2 := cF2 (HXB.out X hX); go_simp) ?_
          dsimp only [List.set_cons_succ, List.set_cons_zero]
          refine Rd.seq_floatL (.int .i64 (k : Int)) (by simp only [List.getElem?_toArray, List.getElem?_cons_succ, List.getElem?_cons_zero]; rfl) (by rfl) rfl (by rfl) (fun X _ => by go_simp) ?_
          dsimp only [List.set_cons_succ, List.set_cons_zero]
          refine Rd.seq_floatL (.pointer (some ⟨b, k * 5, none⟩)) (by simp only [List.getElem?_toArray, List.getElem?_cons_succ, List.getElem?_cons_zero]; rfl) (by rfl) rfl (by rfl) (fun X _ => by first | (go_simp; done) | (go_simp; intro hx; omega)) ?_
          dsimp only [List.set_cons_succ, List.set_cons_zero]
          refine Rd.seq_floatL (.pointer (some ⟨b, k * 5, none⟩)) (by simp only [List.getElem?_toArray, List.getElem?_cons_succ, List.getElem?_cons_zero]; rfl) (by rfl) rfl (by rfl) (fun X _ => by go_simp) ?_
          dsimp only [List.set_cons_succ, List.set_cons_zero]
          refine Rd.seq_floatL (.int .i64 y) (by simp only [List.getElem?_toArray, List.getElem?_cons_succ, List.getElem?_cons_zero]; rfl) (by rfl) rfl (by rfl) (fun X hX => by have e2 := HV.out X hX; go_simp) ?_
          dsimp only [List.set_cons_succ, List.set_cons_zero]
          refine Rd.seq_floatL (.agg #[.int .i64 r, .int .i64 m, .slice (some ⟨b, 0, none⟩) L.length c]) (by simp only [List.getElem?_toArray, List.getElem?_cons_succ, List.getElem?_cons_zero]; rfl) (by rfl) rfl (by rfl) (fun X hX => run_load30 rfl rfl (HXB.out X hX)) ?_
          dsimp only [List.set_cons_succ, List.set_cons_zero]
          refine Rd.seq_floatL (.int .i64 x) (by simp only [List.getElem?_toArray, List.getElem?_cons_succ, List.getElem?_cons_zero]; rfl) (by rfl) rfl (by rfl) (fun X _ => by go_simp) ?_
          dsimp only [List.set_cons_succ, List.set_cons_zero]
          refine Rd.seq_floatL (.agg #[.int .i64 r, .int .i64 m, .slice (some ⟨b, 0, none⟩) L.length c]) (by simp only [List.getElem?_toArray, List.getElem?_cons_succ, List.getElem?_cons_zero]; rfl) (by rfl) rfl (by rfl) (fun X hX => run_load30 rfl rfl (HXB.out X hX)) ?_
          dsimp only [List.set_cons_succ, List.set_cons_zero]
          refine Rd.seq_floatL (.int .i64 p) (by simp only [List.getElem?_toArray, List.getElem?_cons_succ, List.getElem?_cons_zero]; rfl) (by rfl) rfl (by rfl) (fun X _ => by go_simp) ?_
          dsimp only [List.set_cons_succ, List.set_cons_zero]
          refine Rd.seq_move (by simp only [List.getElem?_toArray, List.getElem?_cons_succ, List.getElem?_cons_zero]; rfl) rfl (by rfl) (fun K hK => ?_)
          go_simp
          refine (HDY.out _ (by assumption)).mono ?_
          rintro e wi ⟨rfl, hbi⟩
          refine hK _ _ (fun _ => hbi) ?_
          clear hK K
          refine Rd.seq_move (by simp only [List.getElem?_toArray, List.getElem?_cons_succ, List.getElem?_cons_zero]; rfl) rfl (by rfl) (fun K hK => ?_)
          go_simp
          refine (HDX.out _ (by assumption)).mono ?_
          rintro e wi ⟨rfl, hbi⟩
          refine hK _ _ (fun _ => hbi) ?_
          clear hK K
          refine Rd.seq_floatL (.int .i64 (dy - dx)) (by simp only [List.getElem?_toArray, List.getElem?_cons_succ, List.getElem?_cons_zero]; rfl) (by rfl) rfl (by rfl) (fun X _ => by go_simp; exact HW.out.1) ?_
          dsimp only [List.set_cons_succ, List.set_cons_zero]
          refine Rd.seq_move (by simp only [List.getElem?_toArray, List.getElem?_cons_succ, List.getElem?_cons_zero]; rfl) rfl (by rfl) (fun K hK => ?_)
          go_simp
          refine (HDP.out _ (by assumption)).mono ?_
          rintro e wi ⟨rfl, hbi⟩
          refine hK _ _ (fun _ => hbi) ?_
          clear hK K
          refine Rd.seq_floatL (.int .i64 (dy - dx + dp)) (by simp only [List.getElem?_toArray, List.getElem?_cons_succ, List.getElem?_cons_zero]; rfl) (by rfl) rfl (by rfl) (fun X _ => by go_simp; exact HW.out.2.1) ?_
          dsimp only [List.set_cons_succ, List.set_cons_zero]
          refine Rd.seq_floatL (.int .i64 (dy - dx + dp + 1)) (by simp only [List.getElem?_toArray, List.getElem?_cons_succ, List.getElem?_cons_zero]; rfl) (by rfl) rfl (by rfl) (fun X _ => by go_simp; exact HW.out.2.2) ?_
          dsimp only [List.set_cons_succ, List.set_cons_zero]
          refine Rd.seq_floatL (.bool true) (by simp only [List.getElem?_toArray, List.getElem?_cons_succ, List.getElem?_cons_zero]; rfl) (by rfl) rfl (by rfl) (fun X _ => by go_simp) ?_
          dsimp only [List.set_cons_succ, List.set_cons_zero]
          refine Rd.seq_floatL (.bool true) (by simp only [List.getElem?_toArray, List.getElem?_cons_succ, List.getElem?_cons_zero]; rfl) (by rfl) rfl (by rfl) (fun X _ => by go_simp) ?_
          dsimp only [List.set_cons_succ, List.set_cons_zero]
          refine Rd.seq_end ?_
          go_wp2_with (first | (refine wpList_load30 rfl _ rfl w.heap.size r m (.slice (some ⟨b, 0, none⟩) L.length c) rfl (HXB.out _ (by assumption)) ?_) | (refine wpList_store30 rfl _ _ rfl (w.heap.size + 1) r m (.slice (some ⟨b, 0, none⟩) L.length c) rfl rfl (HZB.out _ (by assumption)) rfl rfl ?_; intro wz hZ9 t9))
          refine bodyPost_ret (resultsF_ct rfl _ wz (w.heap.size + 1) r m (.slice (some ⟨b, 0, none⟩) L.length c) _ rfl rfl hZ9) rfl ?_
          rw [HC.out, HN.out]
          exact ⟨⟨_, rfl, some ⟨b, 0, none⟩, c, rfl, (HR.out.row _ hbi).turn t9 (HZB.out _ hbi) (by decide)⟩, (HFin.out _ hbi).trans (t9.below (by omega))⟩
        · have HT3 := Lib.hid (HTK.out (by rw [HTE.out, Bool.true_and, decide_eq_false_iff_not]; exact h8))
          clear HTK HTE
          generalize hyid : (L.getD k g0).id = y at HBY HDY HV
          clear hyid
          go_wp2_with fail
          refine Rd.region (fun X => Below w3.heap.size w3 X) 29 [0, 1, 2, 3, 4, 5, 6, 7, 9, 10, 11, 12, 13, 14, 15, 16, 18, 19, 21, 22, 23, 25, 26, 27, 28] [0, 1, 2, 3, 4, 5, 6, 7, 8, 9, 10, 11, 12, 13, 14, 15, 16, 18, 19, 22, 23, 17, 20, 21, 24, 25, 26, 27, 28] (by kernel_rfl) (by kernel_rfl) (by kernel_rfl) (by kernel_rfl) rfl hq7 ?_
          refine Rd.seq_floatL (.agg #[.int .i64 r, .int .i64 m, .slice (some ⟨b, 0, none⟩) L.length c]) (by simp only [List.getElem?_toArray, List.getElem?_cons_zero]; rfl) (by rfl) rfl (by rfl) (fun X hX => run_load30 rfl rfl (HXB.out X hX)) ?_
          dsimp only [List.set_cons_succ, List.set_cons_zero]
          refine Rd.seq_floatL (.pointer (some ⟨w.heap.size, 2, none⟩)) (by simp only [List.getElem?_toArray, List.getElem?_cons_succ, List.getElem?_cons_zero]; rfl) (by rfl) rfl (by rfl) (fun X _ => by go_simp) ?_
          dsimp only [List.set_cons_succ, List.set_cons_zero]
          refine Rd.seq_floatL (.slice (some ⟨b, 0, none⟩) L.length c) (by simp only [List.getElem?_toArray, List.getElem?_cons_succ, List.getElem?_cons_zero]; rfl) (by rfl) rfl (by rfl) (fun X hX => by have e2 := cF2 (HXB.out X hX); go_simp) ?_
          dsimp only [List.set_cons_succ, List.set_cons_zero]
          refine Rd.seq_floatL (.int .i64 (k : Int)) (by simp only [List.getElem?_toArray, List.getElem?_cons_succ, List.getElem?_cons_zero]; rfl) (by rfl) rfl (by rfl) (fun X _ => by go_simp) ?_
          dsimp only [List.set_cons_succ, List.set_cons_zero]
          refine Rd.seq_floatL (.pointer (some ⟨b, k * 5, none⟩)) (by simp only [List.getElem?_toArray, List.getElem?_cons_succ, List.getElem?_cons_zero]; rfl) (by rfl) rfl (by rfl) (fun X _ => by first | (go_simp; done) | (go_simp; intro hx; omega)) ?_
          dsimp only [List.set_cons_succ, List.set_cons_zero]
          refine Rd.seq_floatL (.pointer (some ⟨b, k * 5, none⟩)) (by simp only [List.getElem?_toArray, List.getElem?_cons_succ, List.getElem?_cons_zero]; rfl) (by rfl) rfl (by rfl) (fun X _ => by go_simp) ?_
          dsimp only [List.set_cons_succ, List.set_cons_zero]
          refine Rd.seq_floatL (.int .i64 y) (by simp only [List.getElem?_toArray, List.getElem?_cons_succ, List.getElem?_cons_zero]; rfl) (by rfl) rfl (by rfl) (fun X hX => by have e2 := HV.out X hX; go_simp) ?_
          dsimp only [List.set_cons_succ, List.set_cons_zero]
          refine Rd.seq_floatL (.int .i64 x) (by simp only [List.getElem?_toArray, List.getElem?_cons_succ, List.getElem?_cons_zero]; rfl) (by rfl) rfl (by rfl) (fun X _ => by go_simp) ?_
          dsimp only [List.set_cons_succ, List.set_cons_zero]
          refine Rd.seq_move (by simp only [List.getElem?_toArray, List.getElem?_cons_succ, List.getElem?_cons_zero]; rfl) rfl (by rfl) (fun K hK => ?_)
          go_simp
          refine (HBY.out _ hq7).mono ?_
          rintro e wi ⟨rfl, hbi⟩
          refine hK _ _ (fun _ => hbi) ?_
          clear hK K
          refine Rd.seq_floatL (.bool true) (by simp only [List.getElem?_toArray, List.getElem?_cons_succ, List.getElem?_cons_zero]; rfl) (by rfl) rfl (by rfl) (fun X _ => by go_simp) ?_
          dsimp only [List.set_cons_succ, List.set_cons_zero]
          refine Rd.seq_floatL (.agg #[.int .i64 r, .int .i64 m, .slice (some ⟨b, 0, none⟩) L.length c]) (by simp only [List.getElem?_toArray, List.getElem?_cons_succ, List.getElem?_cons_zero]; rfl) (by rfl) rfl (by rfl) (fun X hX => run_load30 rfl rfl (HXB.out X hX)) ?_
          dsimp only [List.set_cons_succ, List.set_cons_zero]
          refine Rd.seq_floatL (.pointer (some ⟨w.heap.size, 2, none⟩)) (by simp only [List.getElem?_toArray, List.getElem?_cons_succ, List.getElem?_cons_zero]; rfl) (by rfl) rfl (by rfl) (fun X _ => by go_simp) ?_
          dsimp only [List.set_cons_succ, List.set_cons_zero]
          refine Rd.seq_floatL (.slice (some ⟨b, 0, none⟩) L.length c) (by simp only [List.getElem?_toArray, List.getElem?_cons_succ, List.getElem?_cons_zero]; rfl) (by rfl) rfl (by rfl) (fun X hX => by have e2 := cF2 (HXB.out X hX); go_simp) ?_
          dsimp only [List.set_cons_succ, List.set_cons_zero]
          refine Rd.seq_floatL (.int .i64 (k : Int)) (by simp only [List.getElem?_toArray, List.getElem?_cons_succ, List.getElem?_cons_zero]; rfl) (by rfl) rfl (by rfl) (fun X _ => by go_simp) ?_
          dsimp only [List.set_cons_succ, List.set_cons_zero]
          refine Rd.seq_floatL (.pointer (some ⟨b, k * 5, none⟩)) (by simp only [List.getElem?_toArray, List.getElem?_cons_succ, List.getElem?_cons_zero]; rfl) (by rfl) rfl (by rfl) (fun X _ => by first | (go_simp; done) | (go_simp; intro hx; omega)) ?_
          dsimp only [List.set_cons_succ, List.set_cons_zero]
          refine Rd.seq_floatL (.pointer (some ⟨b, k * 5, none⟩)) (by simp only [List.getElem?_toArray, List.getElem?_cons_succ, List.getElem?_cons_zero]; rfl) (by rfl) rfl (by rfl) (fun X _ => by go_simp) ?_
          dsimp only [List.set_cons_succ, List.set_cons_zero]
          refine Rd.seq_floatL (.int .i64 y) (by simp only [List.getElem?_toArray, List.getElem?_cons_succ, List.getElem?_cons_zero]; rfl) (by rfl) rfl (by rfl) (fun X hX => by have e2 := HV.out X hX; go_simp) ?_
          dsimp only [List.set_cons_succ, List.set_cons_zero]
          refine Rd.seq_floatL (.agg #[.int .i64 r, .int .i64 m, .slice (some ⟨b, 0, none⟩) L.length c]) (by simp only [List.getElem?_toArray, List.getElem?_cons_succ, List.getElem?_cons_zero]; rfl) (by rfl) rfl (by rfl) (fun X hX => run_load30 rfl rfl (HXB.out X hX)) ?_
          dsimp only [List.set_cons_succ, List.set_cons_zero]
          refine Rd.seq_floatL (.int .i64 x) (by simp only [List.getElem?_toArray, List.getElem?_cons_succ, List.getElem?_cons_zero]; rfl) (by rfl) rfl (by rfl) (fun X _ => by go_simp) ?_
          dsimp only [List.set_cons_succ, List.set_cons_zero]
          refine Rd.seq_floatL (.agg #[.int .i64 r, .int .i64 m, .slice (some ⟨b, 0, none⟩) L.length c]) (by simp only [List.getElem?_toArray, List.getElem?_cons_succ, List.getElem?_cons_zero]; rfl) (by rfl) rfl (by rfl) (fun X hX => run_load30 rfl rfl (HXB.out X hX)) ?_
          dsimp only [List.set_cons_succ, List.set_cons_zero]
          refine Rd.seq_floatL (.int .i64 p) (by simp only [List.getElem?_toArray, List.getElem?_cons_succ, List.getElem?_cons_zero]; rfl) (by rfl) rfl (by rfl) (fun X _ => by go_simp) ?_
          dsimp only [List.set_cons_succ, List.set_cons_zero]
          refine Rd.seq_move (by simp only [List.getElem?_toArray, List.getElem?_cons_succ, List.getElem?_cons_zero]; rfl) rfl (by rfl) (fun K hK => ?_)
          go_simp
          refine (HDY.out _ (by assumption)).mono ?_
          rintro e wi ⟨rfl, hbi⟩
          refine hK _ _ (fun _ => hbi) ?_
          clear hK K
          refine Rd.seq_move (by simp only [List.getElem?_toArray, List.getElem?_cons_succ, List.getElem?_cons_zero]; rfl) rfl (by rfl) (fun K hK => ?_)
          go_simp
          refine (HDX.out _ (by assumption)).mono ?_
          rintro e wi ⟨rfl, hbi⟩
          refine hK _ _ (fun _ => hbi) ?_
          clear hK K
          refine Rd.seq_floatL (.int .i64 (dy - dx)) (by simp only [List.getElem?_toArray, List.getElem?_cons_succ, List.getElem?_cons_zero]; rfl) (by rfl) rfl (by rfl) (fun X _ => by go_simp; exact HW.out.1) ?_
          dsimp only [List.set_cons_succ, List.set_cons_zero]
          refine Rd.seq_move (by simp only [List.getElem?_toArray, List.getElem?_cons_succ, List.getElem?_cons_zero]; rfl) rfl (by rfl) (fun K hK => ?_)
          go_simp
          refine (HDP.out _ (by assumption)).mono ?_
          rintro e wi ⟨rfl, hbi⟩
          refine hK _ _ (fun _ => hbi) ?_
          clear hK K
          refine Rd.seq_floatL (.int .i64 (dy - dx + dp)) (by simp only [List.getElem?_toArray, List.getElem?_cons_succ, List.getElem?_cons_zero]; rfl) (by rfl) rfl (by rfl) (fun X _ => by go_simp; exact HW.out.2.1) ?_
          dsimp only [List.set_cons_succ, List.set_cons_zero]
          refine Rd.seq_floatL (.int .i64 (dy - dx + dp + 1)) (by simp only [List.getElem?_toArray, List.getElem?_cons_succ, List.getElem?_cons_zero]; rfl) (by rfl) rfl (by rfl) (fun X _ => by go_simp; exact HW.out.2.2) ?_
          dsimp only [List.set_cons_succ, List.set_cons_zero]
          refine Rd.seq_floatL (.bool false) (by simp only [List.getElem?_toArray, List.getElem?_cons_succ, List.getElem?_cons_zero]; rfl) (by rfl) rfl (by rfl) (fun X _ => by go_simp) ?_
          dsimp only [List.set_cons_succ, List.set_cons_zero]
          refine Rd.seq_floatL (.bool false) (by simp only [List.getElem?_toArray, List.getElem?_cons_succ, List.getElem?_cons_zero]; rfl) (by rfl) rfl (by rfl) (fun X _ => by go_simp) ?_
          dsimp only [List.set_cons_succ, List.set_cons_zero]
          refine Rd.seq_end ?_
          go_wp2_with fail
          exact ⟨⟨k + 1, by omega, by go_num, HT3, hbi⟩, by simp [intOf]; omega⟩
    · obtain rfl : k = L.length := by omega
      exact (deep_yes HDE.out HT.out).elim
set_option maxRecDepth 100000 in
set_option maxHeartbeats 4000000 in
theorem rMove_full (x p : Int) (m0 k : Int) (w : World) (h : RowG w (.slice a L.length c) L) (ok : Ok L m0 k) (hh : has L x = true) (hq : has L p = true) (hp : 0 ≤ (gr L x).pa) (ht : topI L x = topI L p) (hbe : belowB L p x = false) (hde : deepB L x p = false) (hn : ¬ (gr L x).pa = p) (h32 : fanI L p = 32) :
    Calls Try.prog 27 #[.agg (cellsF r m (.slice a L.length c)), .int .i64 x, .int .i64 p] w fun e w' => (∃ v, e = .returned (.tuple #[v, .int .i64 (moveC L x p)]) ∧ DocF w' v r m (moveN L x p)) ∧ Below w.heap.size w w' := by
  have hc : moveC L x p = 6 := by unfold moveC; rw [if_neg (by rw [hh, hq]; decide), if_neg (by omega), if_neg (fun e => e ht), if_neg (by rw [hbe]; decide), if_neg (by rw [hde]; decide), if_pos ⟨hn, h32⟩]
  have HC := Lib.hid hc
  have HN : Hid (moveN L x p = L) := Lib.hid (by unfold moveN; rw [hc]; rfl)
  have hx0 : Blk ((w.alloc (.cells #[.int .i64 r, .int .i64 m, .slice a L.length c] 30)).alloc (.cells #[.int .i64 0, .int .i64 0, .slice none 0 0] 30)) w.heap.size 30 (cellsF r m (.slice a L.length c)) := (Blk.new w 30 _).alloc _
  have hZ0 : Blk ((w.alloc (.cells #[.int .i64 r, .int .i64 m, .slice a L.length c] 30)).alloc (.cells #[.int .i64 0, .int .i64 0, .slice none 0 0] 30)) (w.heap.size + 1) 30 (cellsF 0 0 (.slice none 0 0)) := by
    have := Blk.new (w.alloc (.cells #[.int .i64 r, .int .i64 m, .slice a L.length c] 30)) 30 (cellsF 0 0 (.slice none 0 0))
    have e : (w.alloc (.cells #[.int .i64 r, .int .i64 m, .slice a L.length c] 30)).heap.size = w.heap.size + 1 := by simp
    rw [e] at this
    exact this
  have hb : Below w.heap.size w ((w.alloc (.cells #[.int .i64 r, .int .i64 m, .slice a L.length c] 30)).alloc (.cells #[.int .i64 0, .int .i64 0, .slice none 0 0] 30)) := ((Below.refl _ w).alloc (Nat.le_refl _) _).alloc (by simp) _
  have hsz : w.heap.size + 2 ≤ ((w.alloc (.cells #[.int .i64 r, .int .i64 m, .slice a L.length c] 30)).alloc (.cells #[.int .i64 0, .int .i64 0, .slice none 0 0] 30)).heap.size := by simp
  have HR : Hid (Rdw ((w.alloc (.cells #[.int .i64 r, .int .i64 m, .slice a L.length c] 30)).alloc (.cells #[.int .i64 0, .int .i64 0, .slice none 0 0] 30)) r m a c L) := Lib.hid (Rdw.of h ok hb)
  have HXB : Hid (∀ X, Below ((w.alloc (.cells #[.int .i64 r, .int .i64 m, .slice a L.length c] 30)).alloc (.cells #[.int .i64 0, .int .i64 0, .slice none 0 0] 30)).heap.size ((w.alloc (.cells #[.int .i64 r, .int .i64 m, .slice a L.length c] 30)).alloc (.cells #[.int .i64 0, .int .i64 0, .slice none 0 0] 30)) X → Blk X w.heap.size 30 (cellsF r m (.slice a L.length c))) := Lib.hid fun X hX => hx0.below hX
  have HZB : Hid (∀ X, Below ((w.alloc (.cells #[.int .i64 r, .int .i64 m, .slice a L.length c] 30)).alloc (.cells #[.int .i64 0, .int .i64 0, .slice none 0 0] 30)).heap.size ((w.alloc (.cells #[.int .i64 r, .int .i64 m, .slice a L.length c] 30)).alloc (.cells #[.int .i64 0, .int .i64 0, .slice none 0 0] 30)) X → Blk X (w.heap.size + 1) 30 (cellsF 0 0 (.slice none 0 0))) := Lib.hid fun X hX => hZ0.below hX
  have HFin : Hid (∀ X, Below ((w.alloc (.cells #[.int .i64 r, .int .i64 m, .slice a L.length c] 30)).alloc (.cells #[.int .i64 0, .int .i64 0, .slice none 0 0] 30)).heap.size ((w.alloc (.cells #[.int .i64 r, .int .i64 m, .slice a L.length c] 30)).alloc (.cells #[.int .i64 0, .int .i64 0, .slice none 0 0] 30)) X → Below w.heap.size w X) := Lib.hid fun X hX => hb.trans (hX.mono (by omega))
  have HA : Hid (atG L x = (pos L x : Int)) := Lib.hid (atG_yes hh)
  have HH := Lib.hid hh
  have hj := has_pos hh
  obtain ⟨b, rfl, hcl⟩ := h.at hj
  have HCL : Hid (∀ X, Below ((w.alloc (.cells #[.int .i64 r, .int .i64 m, .slice (some ⟨b, 0, none⟩) L.length c] 30)).alloc (.cells #[.int .i64 0, .int .i64 0, .slice none 0 0] 30)).heap.size ((w.alloc (.cells #[.int .i64 r, .int .i64 m, .slice (some ⟨b, 0, none⟩) L.length c] 30)).alloc (.cells #[.int .i64 0, .int .i64 0, .slice none 0 0] 30)) X → X.cell? ⟨b, pos L x * 5 + 1, none⟩ = some (.int .i64 (gr L x).pa) ∧ X.rangeAt b (pos L x * 5) (cellsE (gr L x)).toList) := Lib.hid fun X hX => ⟨((hcl.below hb).below hX).pa hj, ((hcl.below hb).below hX).range hj⟩
  have HQ := Lib.hid hq
  have HAP : Hid (atG L p = (pos L p : Int)) := Lib.hid (atG_yes hq)
  have hp0 : ¬ (gr L x).pa < 0 := by omega
  have htt : (topI L p == topI L p) = true := by simp
  have htn : (topI L p != topI L p) = false := by simp
  have hn64 := ok.n64
  have HDD : Hid (∀ y X, has L y = true → Below ((w.alloc (.cells #[.int .i64 r, .int .i64 m, .slice (some ⟨b, 0, none⟩) L.length c] 30)).alloc (.cells #[.int .i64 0, .int .i64 0, .slice none 0 0] 30)).heap.size ((w.alloc (.cells #[.int .i64 r, .int .i64 m, .slice (some ⟨b, 0, none⟩) L.length c] 30)).alloc (.cells #[.int .i64 0, .int .i64 0, .slice none 0 0] 30)) X → Calls Try.prog 34 #[.agg #[.int .i64 r, .int .i64 m, .slice (some ⟨b, 0, none⟩) L.length c], .int .i64 y] X fun e w' => e = .returned (.int .i64 (dep L y)) ∧ Below ((w.alloc (.cells #[.int .i64 r, .int .i64 m, .slice (some ⟨b, 0, none⟩) L.length c] 30)).alloc (.cells #[.int .i64 0, .int .i64 0, .slice none 0 0] 30)).heap.size ((w.alloc (.cells #[.int .i64 r, .int .i64 m, .slice (some ⟨b, 0, none⟩) L.length c] 30)).alloc (.cells #[.int .i64 0, .int .i64 0, .slice none 0 0] 30)) w') := Lib.hid fun y X hy hX => HR.out.dep y X hy hX
  have HCC : Hid (∀ X, Below ((w.alloc (.cells #[.int .i64 r, .int .i64 m, .slice (some ⟨b, 0, none⟩) L.length c] 30)).alloc (.cells #[.int .i64 0, .int .i64 0, .slice none 0 0] 30)).heap.size ((w.alloc (.cells #[.int .i64 r, .int .i64 m, .slice (some ⟨b, 0, none⟩) L.length c] 30)).alloc (.cells #[.int .i64 0, .int .i64 0, .slice none 0 0] 30)) X → Cl X b 0 L) := Lib.hid fun X hX => (hcl.below hb).below hX
  have OK := Lib.hid ok
  have HBE := Lib.hid hbe
  have HDE := Lib.hid hde
  clear hbe hde
  have hn2 := beq_ff hn
  have h322 := beq_tt h32
  clear h32
  clear hh hq hp
  generalize (gr L x).pa = pa at *
  generalize pos L x = j at *
  generalize pos L p = jp at *
  clear hc h ok
  unfold cellsF
  go_enter Try.func27, Try.ntmps27
  go_wp2_with (first | (have hgd := hx0; refine wpList_alloc30 rfl rfl ?_; clear hgd; generalize ((w.alloc (.cells #[.int .i64 r, .int .i64 m, .slice (some ⟨b, 0, none⟩) L.length c] 30)).alloc (.cells #[.int .i64 0, .int .i64 0, .slice none 0 0] 30)) = w3 at *; have hbi := Below.refl w3.heap.size w3; clear hx0 hZ0 hb) | (go_at_call 50; refine (HR.out.at' _ _ (by assumption)).mono ?_; rw [HA.out]; rintro e wi ⟨rfl, hbi⟩; have hX2 := HXB.out wi hbi; have f0 := cF0 hX2; have f1 := cF1 hX2; have f2 := cF2 hX2; clear hX2; have g1 := (HCL.out wi hbi).1) | (go_at_call 50; refine (HR.out.at' _ _ (by assumption)).mono ?_; rw [HAP.out]; rintro e wi ⟨rfl, hbi⟩; have hX2 := HXB.out wi hbi; have f0 := cF0 hX2; have f1 := cF1 hX2; have f2 := cF2 hX2; clear hX2; have g1 := (HCL.out wi hbi).1) | (refine wpList_load30 rfl _ rfl w.heap.size r m (.slice (some ⟨b, 0, none⟩) L.length c) rfl (HXB.out _ (by assumption)) ?_) | (refine wpList_store30 rfl _ _ rfl (w.heap.size + 1) r m (.slice (some ⟨b, 0, none⟩) L.length c) rfl rfl (HZB.out _ (by assumption)) rfl rfl ?_; intro wz hZ9 t9))
  have hq6 : Below w3.heap.size w3 wi.drew := Below.drewS hbi
  clear f0 f1 f2 g1
  refine Rd.region (fun X => Below w3.heap.size w3 X) 8 [0, 1, 3, 4, 6, 7] [0, 1, 3, 4, 2, 5, 6, 7] (by kernel_rfl) (by kernel_rfl) (by kernel_rfl) (by kernel_rfl) rfl hq6 ?_
  refine Rd.seq_float (.agg #[.int .i64 r, .int .i64 m, .slice (some ⟨b, 0, none⟩) L.length c]) (by simp only [List.getElem?_toArray, List.getElem?_cons_zero]; rfl) rfl (by rfl) (fun X hX => run_load30 rfl rfl (HXB.out X hX)) ?_
  simp only [Act.put, List.setIfInBounds_toArray, List.set_cons_succ, List.set_cons_zero]
  refine Rd.seq_float (.int .i64 x) (by simp only [List.getElem?_toArray, List.getElem?_cons_succ, List.getElem?_cons_zero]; rfl) rfl (by rfl) (fun X _ => by go_simp) ?_
  simp only [Act.put, List.setIfInBounds_toArray, List.set_cons_succ, List.set_cons_zero]
  refine Rd.seq_float (.agg #[.int .i64 r, .int .i64 m, .slice (some ⟨b, 0, none⟩) L.length c]) (by simp only [List.getElem?_toArray, List.getElem?_cons_succ, List.getElem?_cons_zero]; rfl) rfl (by rfl) (fun X hX => run_load30 rfl rfl (HXB.out X hX)) ?_
  simp only [Act.put, List.setIfInBounds_toArray, List.set_cons_succ, List.set_cons_zero]
  refine Rd.seq_float (.int .i64 p) (by simp only [List.getElem?_toArray, List.getElem?_cons_succ, List.getElem?_cons_zero]; rfl) rfl (by rfl) (fun X _ => by go_simp) ?_
  simp only [Act.put, List.setIfInBounds_toArray, List.set_cons_succ, List.set_cons_zero]
  refine Rd.seq_move (by simp only [List.getElem?_toArray, List.getElem?_cons_succ, List.getElem?_cons_zero]; rfl) rfl (by rfl) (fun K hK => ?_)
  go_simp
  refine (HR.out.top _ _ HH.out hq6).mono ?_
  rintro e wi ⟨rfl, hbi⟩
  refine hK _ _ (fun _ => hbi) ?_
  clear hK K
  refine Rd.seq_move (by simp only [List.getElem?_toArray, List.getElem?_cons_succ, List.getElem?_cons_zero]; rfl) rfl (by rfl) (fun K hK => ?_)
  go_simp
  refine (HR.out.top _ _ HQ.out (by assumption)).mono ?_
  rintro e wi ⟨rfl, hbi⟩
  refine hK _ _ (fun _ => hbi) ?_
  clear hK K
  refine Rd.seq_float (.bool false) (by simp only [List.getElem?_toArray, List.getElem?_cons_succ, List.getElem?_cons_zero]; rfl) rfl (by rfl) (fun X _ => by go_simp) ?_
  simp only [Act.put, List.setIfInBounds_toArray, List.set_cons_succ, List.set_cons_zero]
  refine Rd.seq_float (.bool false) (by simp only [List.getElem?_toArray, List.getElem?_cons_succ, List.getElem?_cons_zero]; rfl) rfl (by rfl) (fun X _ => by go_simp) ?_
  simp only [Act.put, List.setIfInBounds_toArray, List.set_cons_succ, List.set_cons_zero]
  refine Rd.seq_end ?_
  go_wp2_with (first | (refine wpList_load30 rfl _ rfl w.heap.size r m (.slice (some ⟨b, 0, none⟩) L.length c) rfl (HXB.out _ (by assumption)) ?_) | (go_at_call 53; refine (HR.out.bel _ _ _ HQ.out (by assumption)).mono ?_; rw [HBE.out]; rintro e wi ⟨rfl, hbi⟩; have hX2 := HXB.out wi hbi; have f0 := cF0 hX2; have f1 := cF1 hX2; have f2 := cF2 hX2; clear hX2))
  go_loopw [51] (fun i wr => ∃ k : Nat, k ≤ L.length ∧ i = .int .i64 k ∧ Hid (∀ j, j < k → tooDeep L x p (L.getD j g0).id = false) ∧ Below w3.heap.size w3 wr) (fun i _ => L.length - (intOf i).toNat)
  case atStart => exact ⟨0, by omega, rfl, Lib.hid (fun j hj => absurd hj (Nat.not_lt_zero _)), hbi⟩
  case round =>
    clear f0 f1 f2 hbi
    obtain ⟨k, hk, rfl, HT, hb7⟩ := hrel
    by_cases hlt : k < L.length
    · have hyy : has L (L.getD k g0).id = true := has_mem (getD_memG hlt)
      have HV : Hid (∀ X, Below w3.heap.size w3 X → X.cell? ⟨b, k * 5, none⟩ = some (.int .i64 (L.getD k g0).id)) := Lib.hid fun X hX => (HCC.out X hX).id hlt
      have HBY : Hid (∀ X, Below w3.heap.size w3 X → Calls Try.prog 53 #[.agg #[.int .i64 r, .int .i64 m, .slice (some ⟨b, 0, none⟩) L.length c], .int .i64 (L.getD k g0).id, .int .i64 x] X fun e w' => e = .returned (.bool (belowB L (L.getD k g0).id x)) ∧ Below w3.heap.size w3 w') := Lib.hid fun X hX => HR.out.bel _ x X hyy hX
      have HDY : Hid (∀ X, Below w3.heap.size w3 X → Calls Try.prog 34 #[.agg #[.int .i64 r, .int .i64 m, .slice (some ⟨b, 0, none⟩) L.length c], .int .i64 (L.getD k g0).id] X fun e w' => e = .returned (.int .i64 (dep L (L.getD k g0).id)) ∧ Below w3.heap.size w3 w') := Lib.hid fun X hX => HDD.out _ X hyy hX
      have HDX : Hid (∀ X, Below w3.heap.size w3 X → Calls Try.prog 34 #[.agg #[.int .i64 r, .int .i64 m, .slice (some ⟨b, 0, none⟩) L.length c], .int .i64 x] X fun e w' => e = .returned (.int .i64 (dep L x)) ∧ Below w3.heap.size w3 w') := Lib.hid fun X hX => HDD.out _ X HH.out hX
      have HDP : Hid (∀ X, Below w3.heap.size w3 X → Calls Try.prog 34 #[.agg #[.int .i64 r, .int .i64 m, .slice (some ⟨b, 0, none⟩) L.length c], .int .i64 p] X fun e w' => e = .returned (.int .i64 (dep L p)) ∧ Below w3.heap.size w3 w') := Lib.hid fun X hX => HDD.out _ X HQ.out hX
      have HTK : Hid (tooDeep L x p (L.getD k g0).id = false → ∀ j, j < k + 1 → tooDeep L x p (L.getD j g0).id = false) := Lib.hid fun e j hj => by
        by_cases e2 : j = k
        · subst e2; exact e
        · exact HT.out j (by omega)
      have hd1 := OK.out.dep8 (L.getD k g0).id
      have hd2 := OK.out.dep8 x
      have hd3 := OK.out.dep8 p
      have HTE : Hid (tooDeep L x p (L.getD k g0).id = (belowB L (L.getD k g0).id x && decide (8 < dep L (L.getD k g0).id - dep L x + dep L p + 1))) := Lib.hid rfl
      have HNO := Lib.hid (deep_no HDE.out hlt)
      have hq7 : Below w3.heap.size w3 wr.drew := Below.drewS hb7
      clear hyy HT
      have HW : Hid (IntKind.i64.wrap (dep L (L.getD k g0).id - dep L x) = dep L (L.getD k g0).id - dep L x ∧ IntKind.i64.wrap (dep L (L.getD k g0).id - dep L x + dep L p) = dep L (L.getD k g0).id - dep L x + dep L p ∧ IntKind.i64.wrap (dep L (L.getD k g0).id - dep L x + dep L p + 1) = dep L (L.getD k g0).id - dep L x + dep L p + 1) := Lib.hid ⟨IntWalk.i64_in _ (by omega), IntWalk.i64_in _ (by omega), IntWalk.i64_in _ (by omega)⟩
      clear hd1 hd2 hd3
      generalize dep L (L.getD k g0).id = dy at *
      generalize dep L x = dx at *
      generalize dep L p = dp at *
      cases hby : belowB L (L.getD k g0).id x with
      | false =>
        have HT3 := Lib.hid (HTK.out (by rw [HTE.out, hby, Bool.false_and]))
        rw [hby] at HBY
        clear hby HTK HTE HNO
        generalize hyid : (L.getD k g0).id = y at HBY HDY HV
        clear hyid
        go_wp2_with fail
        refine Rd.region (fun X => Below w3.heap.size w3 X) 29 [0, 1, 2, 3, 4, 5, 6, 7, 9, 10, 11, 12, 13, 14, 15, 16, 17, 18, 19, 20, 21, 22, 23, 24, 25, 26, 27, 28] [0, 1, 2, 3, 4, 5, 6, 7, 8, 9, 10, 11, 12, 13, 14, 15, 16, 17, 18, 19, 20, 21, 22, 23, 24, 25, 26, 27, 28] (by kernel_rfl) (by kernel_rfl) (by kernel_rfl) (by kernel_rfl) rfl hq7 ?_
        refine Rd.seq_floatL (.agg #[.int .i64 r, .int .i64 m, .slice (some ⟨b, 0, none⟩) L.length c]) (by simp only [List.getElem?_toArray, List.getElem?_cons_zero]; rfl) (by rfl) rfl (by rfl) (fun X hX => run_load30 rfl rfl (HXB.out X hX)) ?_
        dsimp only [List.set_cons_succ, List.set_cons_zero]
        refine Rd.seq_floatL (.pointer (some ⟨w.heap.size, 2, none⟩)) (by simp only [List.getElem?_toArray, List.getElem?_cons_succ, List.getElem?_cons_zero]; rfl) (by rfl) rfl (by rfl) (fun X _ => by go_simp) ?_
        dsimp only [List.set_cons_succ, List.set_cons_zero]
        refine Rd.seq_floatL (.slice (some ⟨b, 0, none⟩) L.length c) (by simp only [List.getElem?_toArray, List.getElem?_cons_succ, List.getElem?_cons_zero]; rfl) (by rfl) rfl (by rfl) (fun X hX => by have e2 := cF2 (HXB.out X hX); go_simp) ?_
        dsimp only [List.set_cons_succ, List.set_cons_zero]
        refine Rd.seq_floatL (.int .i64 (k : Int)) (by simp only [List.getElem?_toArray, List.getElem?_cons_succ, List.getElem?_cons_zero]; rfl) (by rfl) rfl (by rfl) (fun X _ => by go_simp) ?_
        dsimp only [List.set_cons_succ, List.set_cons_zero]
        refine Rd.seq_floatL (.pointer (some ⟨b, k * 5, none⟩)) (by simp only [List.getElem?_toArray, List.getElem?_cons_succ, List.getElem?_cons_zero]; rfl) (by rfl) rfl (by rfl) (fun X _ => by first | (go_simp; done) | (go_simp; intro hx; omega)) ?_
        dsimp only [List.set_cons_succ, List.set_cons_zero]
        refine Rd.seq_floatL (.pointer (some ⟨b, k * 5, none⟩)) (by simp only [List.getElem?_toArray, List.getElem?_cons_succ, List.getElem?_cons_zero]; rfl) (by rfl) rfl (by rfl) (fun X _ => by go_simp) ?_
        dsimp only [List.set_cons_succ, List.set_cons_zero]
        refine Rd.seq_floatL (.int .i64 y) (by simp only [List.getElem?_toArray, List.getElem?_cons_succ, List.getElem?_cons_zero]; rfl) (by rfl) rfl (by rfl) (fun X hX => by have e2 := HV.out X hX; go_simp) ?_
        dsimp only [List.set_cons_succ, List.set_cons_zero]
        refine Rd.seq_floatL (.int .i64 x) (by simp only [List.getElem?_toArray, List.getElem?_cons_succ, List.getElem?_cons_zero]; rfl) (by rfl) rfl (by rfl) (fun X _ => by go_simp) ?_
        dsimp only [List.set_cons_succ, List.set_cons_zero]
        refine Rd.seq_move (by simp only [List.getElem?_toArray, List.getElem?_cons_succ, List.getElem?_cons_zero]; rfl) rfl (by rfl) (fun K hK => ?_)
        go_simp
        refine (HBY.out _ hq7).mono ?_
        rintro e wi ⟨rfl, hbi⟩
        refine hK _ _ (fun _ => hbi) ?_
        clear hK K
        refine Rd.seq_floatL (.bool false) (by simp only [List.getElem?_toArray, List.getElem?_cons_succ, List.getElem?_cons_zero]; rfl) (by rfl) rfl (by rfl) (fun X _ => by go_simp) ?_
        dsimp only [List.set_cons_succ, List.set_cons_zero]
        refine Rd.seq_skipL (by simp only [List.getElem?_toArray, List.getElem?_cons_succ, List.getElem?_cons_zero]; rfl) (by rfl) rfl (by rfl) ?_
        dsimp only [List.set_cons_succ, List.set_cons_zero]
        refine Rd.seq_skipL (by simp only [List.getElem?_toArray, List.getElem?_cons_succ, List.getElem?_cons_zero]; rfl) (by rfl) rfl (by rfl) ?_
        dsimp only [List.set_cons_succ, List.set_cons_zero]
        refine Rd.seq_skipL (by simp only [List.getElem?_toArray, List.getElem?_cons_succ, List.getElem?_cons_zero]; rfl) (by rfl) rfl (by rfl) ?_
        dsimp only [List.set_cons_succ, List.set_cons_zero]
        refine Rd.seq_skipL (by simp only [List.getElem?_toArray, List.getElem?_cons_succ, List.getElem?_cons_zero]; rfl) (by rfl) rfl (by rfl) ?_
        dsimp only [List.set_cons_succ, List.set_cons_zero]
        refine Rd.seq_skipL (by simp only [List.getElem?_toArray, List.getElem?_cons_succ, List.getElem?_cons_zero]; rfl) (by rfl) rfl (by rfl) ?_
        dsimp only [List.set_cons_succ, List.set_cons_zero]
        refine Rd.seq_skipL (by simp only [List.getElem?_toArray, List.getElem?_cons_succ, List.getElem?_cons_zero]; rfl) (by rfl) rfl (by rfl) ?_
        dsimp only [List.set_cons_succ, List.set_cons_zero]
        refine Rd.seq_skipL (by simp only [List.getElem?_toArray, List.getElem?_cons_succ, List.getElem?_cons_zero]; rfl) (by rfl) rfl (by rfl) ?_
        dsimp only [List.set_cons_succ, List.set_cons_zero]
        refine Rd.seq_skipL (by simp only [List.getElem?_toArray, List.getElem?_cons_succ, List.getElem?_cons_zero]; rfl) (by rfl) rfl (by rfl) ?_
        dsimp only [List.set_cons_succ, List.set_cons_zero]
        refine Rd.seq_skipL (by simp only [List.getElem?_toArray, List.getElem?_cons_succ, List.getElem?_cons_zero]; rfl) (by rfl) rfl (by rfl) ?_
        dsimp only [List.set_cons_succ, List.set_cons_zero]
        refine Rd.seq_skipL (by simp only [List.getElem?_toArray, List.getElem?_cons_succ, List.getElem?_cons_zero]; rfl) (by rfl) rfl (by rfl) ?_
        dsimp only [List.set_cons_succ, List.set_cons_zero]
        refine Rd.seq_skipL (by simp only [List.getElem?_toArray, List.getElem?_cons_succ, List.getElem?_cons_zero]; rfl) (by rfl) rfl (by rfl) ?_
        dsimp only [List.set_cons_succ, List.set_cons_zero]
        refine Rd.seq_skipL (by simp only [List.getElem?_toArray, List.getElem?_cons_succ, List.getElem?_cons_zero]; rfl) (by rfl) rfl (by rfl) ?_
        dsimp only [List.set_cons_succ, List.set_cons_zero]
        refine Rd.seq_skipL (by simp only [List.getElem?_toArray, List.getElem?_cons_succ, List.getElem?_cons_zero]; rfl) (by rfl) rfl (by rfl) ?_
        dsimp only [List.set_cons_succ, List.set_cons_zero]
        refine Rd.seq_skipL (by simp only [List.getElem?_toArray, List.getElem?_cons_succ, List.getElem?_cons_zero]; rfl) (by rfl) rfl (by rfl) ?_
        dsimp only [List.set_cons_succ, List.set_cons_zero]
        refine Rd.seq_skipL (by simp only [List.getElem?_toArray, List.getElem?_cons_succ, List.getElem?_cons_zero]; rfl) (by rfl) rfl (by rfl) ?_
        dsimp only [List.set_cons_succ, List.set_cons_zero]
        refine Rd.seq_skipL (by simp only [List.getElem?_toArray, List.getElem?_cons_succ, List.getElem?_cons_zero]; rfl) (by rfl) rfl (by rfl) ?_
        dsimp only [List.set_cons_succ, List.set_cons_zero]
        refine Rd.seq_skipL (by simp only [List.getElem?_toArray, List.getElem?_cons_succ, List.getElem?_cons_zero]; rfl) (by rfl) rfl (by rfl) ?_
        dsimp only [List.set_cons_succ, List.set_cons_zero]
        refine Rd.seq_skipL (by simp only [List.getElem?_toArray, List.getElem?_cons_succ, List.getElem?_cons_zero]; rfl) (by rfl) rfl (by rfl) ?_
        dsimp only [List.set_cons_succ, List.set_cons_zero]
        refine Rd.seq_floatL (.bool false) (by simp only [List.getElem?_toArray, List.getElem?_cons_succ, List.getElem?_cons_zero]; rfl) (by rfl) rfl (by rfl) (fun X _ => by go_simp) ?_
        dsimp only [List.set_cons_succ, List.set_cons_zero]
        refine Rd.seq_end ?_
        go_wp2_with fail
        exact ⟨⟨k + 1, by omega, by go_num, HT3, hbi⟩, by simp [intOf]; omega⟩
      | true =>
        rw [hby] at HBY HTE
        clear hby
        have h8 : ¬ 8 < dy - dx + dp + 1 := by have := HNO.out; rw [HTE.out, Bool.true_and, decide_eq_false_iff_not] at this; exact this
        · have HT3 := Lib.hid (HTK.out HNO.out)
          clear HTK HTE HNO
          generalize hyid : (L.getD k g0).id = y at HBY HDY HV
          clear hyid
          go_wp2_with fail
          refine Rd.region (fun X => Below w3.heap.size w3 X) 29 [0, 1, 2, 3, 4, 5, 6, 7, 9, 10, 11, 12, 13, 14, 15, 16, 18, 19, 21, 22, 23, 25, 26, 27, 28] [0, 1, 2, 3, 4, 5, 6, 7, 8, 9, 10, 11, 12, 13, 14, 15, 16, 18, 19, 22, 23, 17, 20, 21, 24, 25, 26, 27, 28] (by kernel_rfl) (by kernel_rfl) (by kernel_rfl) (by kernel_rfl) rfl hq7 ?_
          refine Rd.seq_floatL (.agg #[.int .i64 r, .int .i64 m, .slice (some ⟨b, 0, none⟩) L.length c]) (by simp only [List.getElem?_toArray, List.getElem?_cons_zero]; rfl) (by rfl) rfl (by rfl) (fun X hX => run_load30 rfl rfl (HXB.out X hX)) ?_
          dsimp only [List.set_cons_succ, List.set_cons_zero]
          refine Rd.seq_floatL (.pointer (some ⟨w.heap.size, 2, none⟩)) (by simp only [List.getElem?_toArray, List.getElem?_cons_succ, List.getElem?_cons_zero]; rfl) (by rfl) rfl (by rfl) (fun X _ => by go_simp) ?_
          dsimp only [List.set_cons_succ, List.set_cons_zero]
          refine Rd.seq_floatL (.slice (some ⟨b, 0, none⟩) L.length c) (by simp only [List.getElem?_toArray, List.getElem?_cons_succ, List.getElem?_cons_zero]; rfl) (by rfl) rfl (by rfl) (fun X hX => by have e2 := cF2 (HXB.out X hX); go_simp) ?_
          dsimp only [List.set_cons_succ, List.set_cons_zero]
          refine Rd.seq_floatL (.int .i64 (k : Int)) (by simp only [List.getElem?_toArray, List.getElem?_cons_succ, List.getElem?_cons_zero]; rfl) (by rfl) rfl (by rfl) (fun X _ => by go_simp) ?_
          dsimp only [List.set_cons_succ, List.set_cons_zero]
          refine Rd.seq_floatL (.pointer (some ⟨b, k * 5, none⟩)) (by simp only [List.getElem?_toArray, List.getElem?_cons_succ, List.getElem?_cons_zero]; rfl) (by rfl) rfl (by rfl) (fun X _ => by first | (go_simp; done) | (go_simp; intro hx; omega)) ?_
          dsimp only [List.set_cons_succ, List.set_cons_zero]
          refine Rd.seq_floatL (.pointer (some ⟨b, k * 5, none⟩)) (by simp only [List.getElem?_toArray, List.getElem?_cons_succ, List.getElem?_cons_zero]; rfl) (by rfl) rfl (by rfl) (fun X _ => by go_simp) ?_
          dsimp only [List.set_cons_succ, List.set_cons_zero]
          refine Rd.seq_floatL (.int .i64 y) (by simp only [List.getElem?_toArray, List.getElem?_cons_succ, List.getElem?_cons_zero]; rfl) (by rfl) rfl (by rfl) (fun X hX => by have e2 := HV.out X hX; go_simp) ?_
          dsimp only [List.set_cons_succ, List.set_cons_zero]
          refine Rd.seq_floatL (.int .i64 x) (by simp only [List.getElem?_toArray, List.getElem?_cons_succ, List.getElem?_cons_zero]; rfl) (by rfl) rfl (by rfl) (fun X _ => by go_simp) ?_
          dsimp only [List.set_cons_succ, List.set_cons_zero]
          refine Rd.seq_move (by simp only [List.getElem?_toArray, List.getElem?_cons_succ, List.getElem?_cons_zero]; rfl) rfl (by rfl) (fun K hK => ?_)
          go_simp
          refine (HBY.out _ hq7).mono ?_
          rintro e wi ⟨rfl, hbi⟩
          refine hK _ _ (fun _ => hbi) ?_
          clear hK K
          refine Rd.seq_floatL (.bool true) (by simp only [List.getElem?_toArray, List.getElem?_cons_succ, List.getElem?_cons_zero]; rfl) (by rfl) rfl (by rfl) (fun X _ => by go_simp) ?_
          dsimp only [List.set_cons_succ, List.set_cons_zero]
          refine Rd.seq_floatL (.agg #[.int .i64 r, .int .i64 m, .slice (some ⟨b, 0, none⟩) L.length c]) (by simp only [List.getElem?_toArray, List.getElem?_cons_succ, List.getElem?_cons_zero]; rfl) (by rfl) rfl (by rfl) (fun X hX => run_load30 rfl rfl (HXB.out X hX)) ?_
          dsimp only [List.set_cons_succ, List.set_cons_zero]
          refine Rd.seq_floatL (.pointer (some ⟨w.heap.size, 2, none⟩)) (by simp only [List.getElem?_toArray, List.getElem?_cons_succ, List.getElem?_cons_zero]; rfl) (by rfl) rfl (by rfl) (fun X _ => by go_simp) ?_
          dsimp only [List.set_cons_succ, List.set_cons_zero]
          refine Rd.seq_floatL (.slice (some ⟨b, 0, none⟩) L.length c) (by simp only [List.getElem?_toArray, List.getElem?_cons_succ, List.getElem?_cons_zero]; rfl) (by rfl) rfl (by rfl) (fun X hX => by have e2 := cF2 (HXB.out X hX); go_simp) ?_
          dsimp only [List.set_cons_succ, List.set_cons_zero]
          refine Rd.seq_floatL (.int .i64 (k : Int)) (by simp only [List.getElem?_toArray, List.getElem?_cons_succ, List.getElem?_cons_zero]; rfl) (by rfl) rfl (by rfl) (fun X _ => by go_simp) ?_
          dsimp only [List.set_cons_succ, List.set_cons_zero]
          refine Rd.seq_floatL (.pointer (some ⟨b, k * 5, none⟩)) (by simp only [List.getElem?_toArray, List.getElem?_cons_succ, List.getElem?_cons_zero]; rfl) (by rfl) rfl (by rfl) (fun X _ => by first | (go_simp; done) | (go_simp; intro hx; omega)) ?_
          dsimp only [List.set_cons_succ, List.set_cons_zero]
          refine Rd.seq_floatL (.pointer (some ⟨b, k * 5, none⟩)) (by simp only [List.getElem?_toArray, List.getElem?_cons_succ, List.getElem?_cons_zero]; rfl) (by rfl) rfl (by rfl) (fun X _ => by go_simp) ?_
          dsimp only [List.set_cons_succ, List.set_cons_zero]
          refine Rd.seq_floatL (.int .i64 y) (by simp only [List.getElem?_toArray, List.getElem?_cons_succ, List.getElem?_cons_zero]; rfl) (by rfl) rfl (by rfl) (fun X hX => by have e2 := HV.out X hX; go_simp) ?_
          dsimp only [List.set_cons_succ, List.set_cons_zero]
          refine Rd.seq_floatL (.agg #[.int .i64 r, .int .i64 m, .slice (some ⟨b, 0, none⟩) L.length c]) (by simp only [List.getElem?_toArray, List.getElem?_cons_succ, List.getElem?_cons_zero]; rfl) (by rfl) rfl (by rfl) (fun X hX => run_load30 rfl rfl (HXB.out X hX)) ?_
          dsimp only [List.set_cons_succ, List.set_cons_zero]
          refine Rd.seq_floatL (.int .i64 x) (by simp only [List.getElem?_toArray, List.getElem?_cons_succ, List.getElem?_cons_zero]; rfl) (by rfl) rfl (by rfl) (fun X _ => by go_simp) ?_
          dsimp only [List.set_cons_succ, List.set_cons_zero]
          refine Rd.seq_floatL (.agg #[.int .i64 r, .int .i64 m, .slice (some ⟨b, 0, none⟩) L.length c]) (by simp only [List.getElem?_toArray, List.getElem?_cons_succ, List.getElem?_cons_zero]; rfl) (by rfl) rfl (by rfl) (fun X hX => run_load30 rfl rfl (HXB.out X hX)) ?_
          dsimp only [List.set_cons_succ, List.set_cons_zero]
          refine Rd.seq_floatL (.int .i64 p) (by simp only [List.getElem?_toArray, List.getElem?_cons_succ, List.getElem?_cons_zero]; rfl) (by rfl) rfl (by rfl) (fun X _ => by go_simp) ?_
          dsimp only [List.set_cons_succ, List.set_cons_zero]
          refine Rd.seq_move (by simp only [List.getElem?_toArray, List.getElem?_cons_succ, List.getElem?_cons_zero]; rfl) rfl (by rfl) (fun K hK => ?_)
          go_simp
          refine (HDY.out _ (by assumption)).mono ?_
          rintro e wi ⟨rfl, hbi⟩
          refine hK _ _ (fun _ => hbi) ?_
          clear hK K
          refine Rd.seq_move (by simp only [List.getElem?_toArray, List.getElem?_cons_succ, List.getElem?_cons_zero]; rfl) rfl (by rfl) (fun K hK => ?_)
          go_simp
          refine (HDX.out _ (by assumption)).mono ?_
          rintro e wi ⟨rfl, hbi⟩
          refine hK _ _ (fun _ => hbi) ?_
          clear hK K
          refine Rd.seq_floatL (.int .i64 (dy - dx)) (by simp only [List.getElem?_toArray, List.getElem?_cons_succ, List.getElem?_cons_zero]; rfl) (by rfl) rfl (by rfl) (fun X _ => by go_simp; exact HW.out.1) ?_
          dsimp only [List.set_cons_succ, List.set_cons_zero]
          refine Rd.seq_move (by simp only [List.getElem?_toArray, List.getElem?_cons_succ, List.getElem?_cons_zero]; rfl) rfl (by rfl) (fun K hK => ?_)
          go_simp
          refine (HDP.out _ (by assumption)).mono ?_
          rintro e wi ⟨rfl, hbi⟩
          refine hK _ _ (fun _ => hbi) ?_
          clear hK K
          refine Rd.seq_floatL (.int .i64 (dy - dx + dp)) (by simp only [List.getElem?_toArray, List.getElem?_cons_succ, List.getElem?_cons_zero]; rfl) (by rfl) rfl (by rfl) (fun X _ => by go_simp; exact HW.out.2.1) ?_
          dsimp only [List.set_cons_succ, List.set_cons_zero]
          refine Rd.seq_floatL (.int .i64 (dy - dx + dp + 1)) (by simp only [List.getElem?_toArray, List.getElem?_cons_succ, List.getElem?_cons_zero]; rfl) (by rfl) rfl (by rfl) (fun X _ => by go_simp; exact HW.out.2.2) ?_
          dsimp only [List.set_cons_succ, List.set_cons_zero]
          refine Rd.seq_floatL (.bool false) (by simp only [List.getElem?_toArray, List.getElem?_cons_succ, List.getElem?_cons_zero]; rfl) (by rfl) rfl (by rfl) (fun X _ => by go_simp) ?_
          dsimp only [List.set_cons_succ, List.set_cons_zero]
          refine Rd.seq_floatL (.bool false) (by simp only [List.getElem?_toArray, List.getElem?_cons_succ, List.getElem?_cons_zero]; rfl) (by rfl) rfl (by rfl) (fun X _ => by go_simp) ?_
          dsimp only [List.set_cons_succ, List.set_cons_zero]
          refine Rd.seq_end ?_
          go_wp2_with fail
          exact ⟨⟨k + 1, by omega, by go_num, HT3, hbi⟩, by simp [intOf]; omega⟩
    · obtain rfl : k = L.length := by omega
      have hX8 := HXB.out _ hb7
      have f0 := cF0 hX8
      have f1 := cF1 hX8
      have f2 := cF2 hX8
      have g1 := (HCL.out _ hb7).1
      clear hX8
      go_wp2_with (first | (go_at_call 51; refine (HR.out.fan _ _ HQ.out (by assumption)).mono ?_; rintro e wi ⟨rfl, hbi⟩; have hX2 := HXB.out wi hbi; have f0 := cF0 hX2; have f1 := cF1 hX2; have f2 := cF2 hX2; clear hX2) | (refine wpList_load30 rfl _ rfl w.heap.size r m (.slice (some ⟨b, 0, none⟩) L.length c) rfl (HXB.out _ (by assumption)) ?_) | (refine wpList_store30 rfl _ _ rfl (w.heap.size + 1) r m (.slice (some ⟨b, 0, none⟩) L.length c) rfl rfl (HZB.out _ (by assumption)) rfl rfl ?_; intro wz hZ9 t9))
      refine bodyPost_ret (resultsF_ct rfl _ wz (w.heap.size + 1) r m (.slice (some ⟨b, 0, none⟩) L.length c) _ rfl rfl hZ9) rfl ?_
      rw [HC.out, HN.out]
      exact ⟨⟨_, rfl, some ⟨b, 0, none⟩, c, rfl, (HR.out.row _ hbi).turn t9 (HZB.out _ hbi) (by decide)⟩, (HFin.out _ hbi).trans (t9.below (by omega))⟩
set_option maxRecDepth 100000 in
set_option maxHeartbeats 4000000 in
theorem rMove_go (x p : Int) (m0 k : Int) (w : World) (h : RowG w (.slice a L.length c) L) (ok : Ok L m0 k) (hh : has L x = true) (hq : has L p = true) (hp : 0 ≤ (gr L x).pa) (ht : topI L x = topI L p) (hbe : belowB L p x = false) (hde : deepB L x p = false) (hn : ¬ (gr L x).pa = p) (h32 : ¬ fanI L p = 32) :
    Calls Try.prog 27 #[.agg (cellsF r m (.slice a L.length c)), .int .i64 x, .int .i64 p] w fun e w' => (∃ v, e = .returned (.tuple #[v, .int .i64 (moveC L x p)]) ∧ DocF w' v r m (moveN L x p)) ∧ Below w.heap.size w w' := by
  have hc : moveC L x p = 0 := by unfold moveC; rw [if_neg (by rw [hh, hq]; decide), if_neg (by omega), if_neg (fun e => e ht), if_neg (by rw [hbe]; decide), if_neg (by rw [hde]; decide), if_neg (fun e => h32 e.2)]
  have HC := Lib.hid hc
  have HN : Hid (moveN L x p = moveG L x p) := Lib.hid (by unfold moveN; rw [hc]; rfl)
  have hx0 : Blk ((w.alloc (.cells #[.int .i64 r, .int .i64 m, .slice a L.length c] 30)).alloc (.cells #[.int .i64 0, .int .i64 0, .slice none 0 0] 30)) w.heap.size 30 (cellsF r m (.slice a L.length c)) := (Blk.new w 30 _).alloc _
  have hZ0 : Blk ((w.alloc (.cells #[.int .i64 r, .int .i64 m, .slice a L.length c] 30)).alloc (.cells #[.int .i64 0, .int .i64 0, .slice none 0 0] 30)) (w.heap.size + 1) 30 (cellsF 0 0 (.slice none 0 0)) := by
    have := Blk.new (w.alloc (.cells #[.int .i64 r, .int .i64 m, .slice a L.length c] 30)) 30 (cellsF 0 0 (.slice none 0 0))
    have e : (w.alloc (.cells #[.int .i64 r, .int .i64 m, .slice a L.length c] 30)).heap.size = w.heap.size + 1 := by simp
    rw [e] at this
    exact this
  have hb : Below w.heap.size w ((w.alloc (.cells #[.int .i64 r, .int .i64 m, .slice a L.length c] 30)).alloc (.cells #[.int .i64 0, .int .i64 0, .slice none 0 0] 30)) := ((Below.refl _ w).alloc (Nat.le_refl _) _).alloc (by simp) _
  have hsz : w.heap.size + 2 ≤ ((w.alloc (.cells #[.int .i64 r, .int .i64 m, .slice a L.length c] 30)).alloc (.cells #[.int .i64 0, .int .i64 0, .slice none 0 0] 30)).heap.size := by simp
  have HR : Hid (Rdw ((w.alloc (.cells #[.int .i64 r, .int .i64 m, .slice a L.length c] 30)).alloc (.cells #[.int .i64 0, .int .i64 0, .slice none 0 0] 30)) r m a c L) := Lib.hid (Rdw.of h ok hb)
  have HXB : Hid (∀ X, Below ((w.alloc (.cells #[.int .i64 r, .int .i64 m, .slice a L.length c] 30)).alloc (.cells #[.int .i64 0, .int .i64 0, .slice none 0 0] 30)).heap.size ((w.alloc (.cells #[.int .i64 r, .int .i64 m, .slice a L.length c] 30)).alloc (.cells #[.int .i64 0, .int .i64 0, .slice none 0 0] 30)) X → Blk X w.heap.size 30 (cellsF r m (.slice a L.length c))) := Lib.hid fun X hX => hx0.below hX
  have HZB : Hid (∀ X, Below ((w.alloc (.cells #[.int .i64 r, .int .i64 m, .slice a L.length c] 30)).alloc (.cells #[.int .i64 0, .int .i64 0, .slice none 0 0] 30)).heap.size ((w.alloc (.cells #[.int .i64 r, .int .i64 m, .slice a L.length c] 30)).alloc (.cells #[.int .i64 0, .int .i64 0, .slice none 0 0] 30)) X → Blk X (w.heap.size + 1) 30 (cellsF 0 0 (.slice none 0 0))) := Lib.hid fun X hX => hZ0.below hX
  have HFin : Hid (∀ X, Below ((w.alloc (.cells #[.int .i64 r, .int .i64 m, .slice a L.length c] 30)).alloc (.cells #[.int .i64 0, .int .i64 0, .slice none 0 0] 30)).heap.size ((w.alloc (.cells #[.int .i64 r, .int .i64 m, .slice a L.length c] 30)).alloc (.cells #[.int .i64 0, .int .i64 0, .slice none 0 0] 30)) X → Below w.heap.size w X) := Lib.hid fun X hX => hb.trans (hX.mono (by omega))
  have HA : Hid (atG L x = (pos L x : Int)) := Lib.hid (atG_yes hh)
  have HH := Lib.hid hh
  have hj := has_pos hh
  obtain ⟨b, rfl, hcl⟩ := h.at hj
  have HCL : Hid (∀ X, Below ((w.alloc (.cells #[.int .i64 r, .int .i64 m, .slice (some ⟨b, 0, none⟩) L.length c] 30)).alloc (.cells #[.int .i64 0, .int .i64 0, .slice none 0 0] 30)).heap.size ((w.alloc (.cells #[.int .i64 r, .int .i64 m, .slice (some ⟨b, 0, none⟩) L.length c] 30)).alloc (.cells #[.int .i64 0, .int .i64 0, .slice none 0 0] 30)) X → X.cell? ⟨b, pos L x * 5 + 1, none⟩ = some (.int .i64 (gr L x).pa) ∧ X.rangeAt b (pos L x * 5) (cellsE (gr L x)).toList) := Lib.hid fun X hX => ⟨((hcl.below hb).below hX).pa hj, ((hcl.below hb).below hX).range hj⟩
  have HQ := Lib.hid hq
  have HAP : Hid (atG L p = (pos L p : Int)) := Lib.hid (atG_yes hq)
  have hp0 : ¬ (gr L x).pa < 0 := by omega
  have htt : (topI L p == topI L p) = true := by simp
  have htn : (topI L p != topI L p) = false := by simp
  have hn64 := ok.n64
  have HDD : Hid (∀ y X, has L y = true → Below ((w.alloc (.cells #[.int .i64 r, .int .i64 m, .slice (some ⟨b, 0, none⟩) L.length c] 30)).alloc (.cells #[.int .i64 0, .int .i64 0, .slice none 0 0] 30)).heap.size ((w.alloc (.cells #[.int .i64 r, .int .i64 m, .slice (some ⟨b, 0, none⟩) L.length c] 30)).alloc (.cells #[.int .i64 0, .int .i64 0, .slice none 0 0] 30)) X → Calls Try.prog 34 #[.agg #[.int .i64 r, .int .i64 m, .slice (some ⟨b, 0, none⟩) L.length c], .int .i64 y] X fun e w' => e = .returned (.int .i64 (dep L y)) ∧ Below ((w.alloc (.cells #[.int .i64 r, .int .i64 m, .slice (some ⟨b, 0, none⟩) L.length c] 30)).alloc (.cells #[.int .i64 0, .int .i64 0, .slice none 0 0] 30)).heap.size ((w.alloc (.cells #[.int .i64 r, .int .i64 m, .slice (some ⟨b, 0, none⟩) L.length c] 30)).alloc (.cells #[.int .i64 0, .int .i64 0, .slice none 0 0] 30)) w') := Lib.hid fun y X hy hX => HR.out.dep y X hy hX
  have HCC : Hid (∀ X, Below ((w.alloc (.cells #[.int .i64 r, .int .i64 m, .slice (some ⟨b, 0, none⟩) L.length c] 30)).alloc (.cells #[.int .i64 0, .int .i64 0, .slice none 0 0] 30)).heap.size ((w.alloc (.cells #[.int .i64 r, .int .i64 m, .slice (some ⟨b, 0, none⟩) L.length c] 30)).alloc (.cells #[.int .i64 0, .int .i64 0, .slice none 0 0] 30)) X → Cl X b 0 L) := Lib.hid fun X hX => (hcl.below hb).below hX
  have OK := Lib.hid ok
  have HBE := Lib.hid hbe
  have HDE := Lib.hid hde
  clear hbe hde
  have hn2 := beq_ff hn
  have h322 := beq_ff h32
  clear h32
  have HGG : Hid (moveG L x p = L.set (pos L x) ⟨(gr L x).id, p, (gr L x).wt, (gr L x).me, (gr L x).aw⟩) := Lib.hid (by unfold moveG setG mvd; rw [gr_id hh])
  rw [HGG.out] at HN
  clear hh hq hp HGG
  generalize gr L x = g at *
  generalize pos L x = j at *
  generalize pos L p = jp at *
  clear hc h ok
  unfold cellsF
  go_enter Try.func27, Try.ntmps27
  go_wp2_with (first | (have hgd := hx0; refine wpList_alloc30 rfl rfl ?_; clear hgd; generalize ((w.alloc (.cells #[.int .i64 r, .int .i64 m, .slice (some ⟨b, 0, none⟩) L.length c] 30)).alloc (.cells #[.int .i64 0, .int .i64 0, .slice none 0 0] 30)) = w3 at *; have hbi := Below.refl w3.heap.size w3; clear hx0 hZ0 hb) | (go_at_call 50; refine (HR.out.at' _ _ (by assumption)).mono ?_; rw [HA.out]; rintro e wi ⟨rfl, hbi⟩; have hX2 := HXB.out wi hbi; have f0 := cF0 hX2; have f1 := cF1 hX2; have f2 := cF2 hX2; clear hX2; have g1 := (HCL.out wi hbi).1) | (go_at_call 50; refine (HR.out.at' _ _ (by assumption)).mono ?_; rw [HAP.out]; rintro e wi ⟨rfl, hbi⟩; have hX2 := HXB.out wi hbi; have f0 := cF0 hX2; have f1 := cF1 hX2; have f2 := cF2 hX2; clear hX2; have g1 := (HCL.out wi hbi).1) | (refine wpList_load30 rfl _ rfl w.heap.size r m (.slice (some ⟨b, 0, none⟩) L.length c) rfl (HXB.out _ (by assumption)) ?_) | (refine wpList_store30 rfl _ _ rfl (w.heap.size + 1) r m (.slice (some ⟨b, 0, none⟩) L.length c) rfl rfl (HZB.out _ (by assumption)) rfl rfl ?_; intro wz hZ9 t9))
  have hq6 : Below w3.heap.size w3 wi.drew := Below.drewS hbi
  clear f0 f1 f2 g1
  refine Rd.region (fun X => Below w3.heap.size w3 X) 8 [0, 1, 3, 4, 6, 7] [0, 1, 3, 4, 2, 5, 6, 7] (by kernel_rfl) (by kernel_rfl) (by kernel_rfl) (by kernel_rfl) rfl hq6 ?_
  refine Rd.seq_float (.agg #[.int .i64 r, .int .i64 m, .slice (some ⟨b, 0, none⟩) L.length c]) (by simp only [List.getElem?_toArray, List.getElem?_cons_zero]; rfl) rfl (by rfl) (fun X hX => run_load30 rfl rfl (HXB.out X hX)) ?_
  simp only [Act.put, List.setIfInBounds_toArray, List.set_cons_succ, List.set_cons_zero]
  refine Rd.seq_float (.int .i64 x) (by simp only [List.getElem?_toArray, List.getElem?_cons_succ, List.getElem?_cons_zero]; rfl) rfl (by rfl) (fun X _ => by go_simp) ?_
  simp only [Act.put, List.setIfInBounds_toArray, List.set_cons_succ, List.set_cons_zero]
  refine Rd.seq_float (.agg #[.int .i64 r, .int .i64 m, .slice (some ⟨b, 0, none⟩) L.length c]) (by simp only [List.getElem?_toArray, List.getElem?_cons_succ, List.getElem?_cons_zero]; rfl) rfl (by rfl) (fun X hX => run_load30 rfl rfl (HXB.out X hX)) ?_
  simp only [Act.put, List.setIfInBounds_toArray, List.set_cons_succ, List.set_cons_zero]
  refine Rd.seq_float (.int .i64 p) (by simp only [List.getElem?_toArray, List.getElem?_cons_succ, List.getElem?_cons_zero]; rfl) rfl (by rfl) (fun X _ => by go_simp) ?_
  simp only [Act.put, List.setIfInBounds_toArray, List.set_cons_succ, List.set_cons_zero]
  refine Rd.seq_move (by simp only [List.getElem?_toArray, List.getElem?_cons_succ, List.getElem?_cons_zero]; rfl) rfl (by rfl) (fun K hK => ?_)
  go_simp
  refine (HR.out.top _ _ HH.out hq6).mono ?_
  rintro e wi ⟨rfl, hbi⟩
  refine hK _ _ (fun _ => hbi) ?_
  clear hK K
  refine Rd.seq_move (by simp only [List.getElem?_toArray, List.getElem?_cons_succ, List.getElem?_cons_zero]; rfl) rfl (by rfl) (fun K hK => ?_)
  go_simp
  refine (HR.out.top _ _ HQ.out (by assumption)).mono ?_
  rintro e wi ⟨rfl, hbi⟩
  refine hK _ _ (fun _ => hbi) ?_
  clear hK K
  refine Rd.seq_float (.bool false) (by simp only [List.getElem?_toArray, List.getElem?_cons_succ, List.getElem?_cons_zero]; rfl) rfl (by rfl) (fun X _ => by go_simp) ?_
  simp only [Act.put, List.setIfInBounds_toArray, List.set_cons_succ, List.set_cons_zero]
  refine Rd.seq_float (.bool false) (by simp only [List.getElem?_toArray, List.getElem?_cons_succ, List.getElem?_cons_zero]; rfl) rfl (by rfl) (fun X _ => by go_simp) ?_
  simp only [Act.put, List.setIfInBounds_toArray, List.set_cons_succ, List.set_cons_zero]
  refine Rd.seq_end ?_
  go_wp2_with (first | (refine wpList_load30 rfl _ rfl w.heap.size r m (.slice (some ⟨b, 0, none⟩) L.length c) rfl (HXB.out _ (by assumption)) ?_) | (go_at_call 53; refine (HR.out.bel _ _ _ HQ.out (by assumption)).mono ?_; rw [HBE.out]; rintro e wi ⟨rfl, hbi⟩; have hX2 := HXB.out wi hbi; have f0 := cF0 hX2; have f1 := cF1 hX2; have f2 := cF2 hX2; clear hX2))
  go_loopw [51] (fun i wr => ∃ k : Nat, k ≤ L.length ∧ i = .int .i64 k ∧ Hid (∀ j, j < k → tooDeep L x p (L.getD j g0).id = false) ∧ Below w3.heap.size w3 wr) (fun i _ => L.length - (intOf i).toNat)
  case atStart => exact ⟨0, by omega, rfl, Lib.hid (fun j hj => absurd hj (Nat.not_lt_zero _)), hbi⟩
  case round =>
    clear f0 f1 f2 hbi
    obtain ⟨k, hk, rfl, HT, hb7⟩ := hrel
    by_cases hlt : k < L.length
    · have hyy : has L (L.getD k g0).id = true := has_mem (getD_memG hlt)
      have HV : Hid (∀ X, Below w3.heap.size w3 X → X.cell? ⟨b, k * 5, none⟩ = some (.int .i64 (L.getD k g0).id)) := Lib.hid fun X hX => (HCC.out X hX).id hlt
      have HBY : Hid (∀ X, Below w3.heap.size w3 X → Calls Try.prog 53 #[.agg #[.int .i64 r, .int .i64 m, .slice (some ⟨b, 0, none⟩) L.length c], .int .i64 (L.getD k g0).id, .int .i64 x] X fun e w' => e = .returned (.bool (belowB L (L.getD k g0).id x)) ∧ Below w3.heap.size w3 w') := Lib.hid fun X hX => HR.out.bel _ x X hyy hX
      have HDY : Hid (∀ X, Below w3.heap.size w3 X → Calls Try.prog 34 #[.agg #[.int .i64 r, .int .i64 m, .slice (some ⟨b, 0, none⟩) L.length c], .int .i64 (L.getD k g0).id] X fun e w' => e = .returned (.int .i64 (dep L (L.getD k g0).id)) ∧ Below w3.heap.size w3 w') := Lib.hid fun X hX => HDD.out _ X hyy hX
      have HDX : Hid (∀ X, Below w3.heap.size w3 X → Calls Try.prog 34 #[.agg #[.int .i64 r, .int .i64 m, .slice (some ⟨b, 0, none⟩) L.length c], .int .i64 x] X fun e w' => e = .returned (.int .i64 (dep L x)) ∧ Below w3.heap.size w3 w') := Lib.hid fun X hX => HDD.out _ X HH.out hX
      have HDP : Hid (∀ X, Below w3.heap.size w3 X → Calls Try.prog 34 #[.agg #[.int .i64 r, .int .i64 m, .slice (some ⟨b, 0, none⟩) L.length c], .int .i64 p] X fun e w' => e = .returned (.int .i64 (dep L p)) ∧ Below w3.heap.size w3 w') := Lib.hid fun X hX => HDD.out _ X HQ.out hX
      have HTK : Hid (tooDeep L x p (L.getD k g0).id = false → ∀ j, j < k + 1 → tooDeep L x p (L.getD j g0).id = false) := Lib.hid fun e j hj => by
        by_cases e2 : j = k
        · subst e2; exact e
        · exact HT.out j (by omega)
      have hd1 := OK.out.dep8 (L.getD k g0).id
      have hd2 := OK.out.dep8 x
      have hd3 := OK.out.dep8 p
      have HTE : Hid (tooDeep L x p (L.getD k g0).id = (belowB L (L.getD k g0).id x && decide (8 < dep L (L.getD k g0).id - dep L x + dep L p + 1))) := Lib.hid rfl
      have HNO := Lib.hid (deep_no HDE.out hlt)
      have hq7 : Below w3.heap.size w3 wr.drew := Below.drewS hb7
      clear hyy HT
      have HW : Hid (IntKind.i64.wrap (dep L (L.getD k g0).id - dep L x) = dep L (L.getD k g0).id - dep L x ∧ IntKind.i64.wrap (dep L (L.getD k g0).id - dep L x + dep L p) = dep L (L.getD k g0).id - dep L x + dep L p ∧ IntKind.i64.wrap (dep L (L.getD k g0).id - dep L x + dep L p + 1) = dep L (L.getD k g0).id - dep L x + dep L p + 1) := Lib.hid ⟨IntWalk.i64_in _ (by omega), IntWalk.i64_in _ (by omega), IntWalk.i64_in _ (by omega)⟩
      clear hd1 hd2 hd3
      generalize dep L (L.getD k g0).id = dy at *
      generalize dep L x = dx at *
      generalize dep L p = dp at *
      cases hby : belowB L (L.getD k g0).id x with
      | false =>
        have HT3 := Lib.hid (HTK.out (by rw [HTE.out, hby, Bool.false_and]))
        rw [hby] at HBY
        clear hby HTK HTE HNO
        generalize hyid : (L.getD k g0).id = y at HBY HDY HV
        clear hyid
        go_wp2_with fail
        refine Rd.region (fun X => Below w3.heap.size w3 X) 29 [0, 1, 2, 3, 4, 5, 6, 7, 9, 10, 11, 12, 13, 14, 15, 16, 17, 18, 19, 20, 21, 22, 23, 24, 25, 26, 27, 28] [0, 1, 2, 3, 4, 5, 6, 7, 8, 9, 10, 11, 12, 13, 14, 15, 16, 17, 18, 19, 20, 21, 22, 23, 24, 25, 26, 27, 28] (by kernel_rfl) (by kernel_rfl) (by kernel_rfl) (by kernel_rfl) rfl hq7 ?_
        refine Rd.seq_floatL (.agg #[.int .i64 r, .int .i64 m, .slice (some ⟨b, 0, none⟩) L.length c]) (by simp only [List.getElem?_toArray, List.getElem?_cons_zero]; rfl) (by rfl) rfl (by rfl) (fun X hX => run_load30 rfl rfl (HXB.out X hX)) ?_
        dsimp only [List.set_cons_succ, List.set_cons_zero]
        refine Rd.seq_floatL (.pointer (some ⟨w.heap.size, 2, none⟩)) (by simp only [List.getElem?_toArray, List.getElem?_cons_succ, List.getElem?_cons_zero]; rfl) (by rfl) rfl (by rfl) (fun X _ => by go_simp) ?_
        dsimp only [List.set_cons_succ, List.set_cons_zero]
        refine Rd.seq_floatL (.slice (some ⟨b, 0, none⟩) L.length c) (by simp only [List.getElem?_toArray, List.getElem?_cons_succ, List.getElem?_cons_zero]; rfl) (by rfl) rfl (by rfl) (fun X hX => by have e2 := cF2 (HXB.out X hX); go_simp) ?_
        dsimp only [List.set_cons_succ, List.set_cons_zero]
        refine Rd.seq_floatL (.int .i64 (k : Int)) (by simp only [List.getElem?_toArray, List.getElem?_cons_succ, List.getElem?_cons_zero]; rfl) (by rfl) rfl (by rfl) (fun X _ => by go_simp) ?_
        dsimp only [List.set_cons_succ, List.set_cons_zero]
        refine Rd.seq_floatL (.pointer (some ⟨b, k * 5, none⟩)) (by simp only [List.getElem?_toArray, List.getElem?_cons_succ, List.getElem?_cons_zero]; rfl) (by rfl) rfl (by rfl) (fun X _ => by first | (go_simp; done) | (go_simp; intro hx; omega)) ?_
        dsimp only [List.set_cons_succ, List.set_cons_zero]
        refine Rd.seq_floatL (.pointer (some ⟨b, k * 5, none⟩)) (by simp only [List.getElem?_toArray, List.getElem?_cons_succ, List.getElem?_cons_zero]; rfl) (by rfl) rfl (by rfl) (fun X _ => by go_simp) ?_
        dsimp only [List.set_cons_succ, List.set_cons_zero]
        refine Rd.seq_floatL (.int .i64 y) (by simp only [List.getElem?_toArray, List.getElem?_cons_succ, List.getElem?_cons_zero]; rfl) (by rfl) rfl (by rfl) (fun X hX => by have e2 := HV.out X hX; go_simp) ?_
        dsimp only [List.set_cons_succ, List.set_cons_zero]
        refine Rd.seq_floatL (.int .i64 x) (by simp only [List.getElem?_toArray, List.getElem?_cons_succ, List.getElem?_cons_zero]; rfl) (by rfl) rfl (by rfl) (fun X _ => by go_simp) ?_
        dsimp only [List.set_cons_succ, List.set_cons_zero]
        refine Rd.seq_move (by simp only [List.getElem?_toArray, List.getElem?_cons_succ, List.getElem?_cons_zero]; rfl) rfl (by rfl) (fun K hK => ?_)
        go_simp
        refine (HBY.out _ hq7).mono ?_
        rintro e wi ⟨rfl, hbi⟩
        refine hK _ _ (fun _ => hbi) ?_
        clear hK K
        refine Rd.seq_floatL (.bool false) (by simp only [List.getElem?_toArray, List.getElem?_cons_succ, List.getElem?_cons_zero]; rfl) (by rfl) rfl (by rfl) (fun X _ => by go_simp) ?_
        dsimp only [List.set_cons_succ, List.set_cons_zero]
        refine Rd.seq_skipL (by simp only [List.getElem?_toArray, List.getElem?_cons_succ, List.getElem?_cons_zero]; rfl) (by rfl) rfl (by rfl) ?_
        dsimp only [List.set_cons_succ, List.set_cons_zero]
        refine Rd.seq_skipL (by simp only [List.getElem?_toArray, List.getElem?_cons_succ, List.getElem?_cons_zero]; rfl) (by rfl) rfl (by rfl) ?_
        dsimp only [List.set_cons_succ, List.set_cons_zero]
        refine Rd.seq_skipL (by simp only [List.getElem?_toArray, List.getElem?_cons_succ, List.getElem?_cons_zero]; rfl) (by rfl) rfl (by rfl) ?_
        dsimp only [List.set_cons_succ, List.set_cons_zero]
        refine Rd.seq_skipL (by simp only [List.getElem?_toArray, List.getElem?_cons_succ, List.getElem?_cons_zero]; rfl) (by rfl) rfl (by rfl) ?_
        dsimp only [List.set_cons_succ, List.set_cons_zero]
        refine Rd.seq_skipL (by simp only [List.getElem?_toArray, List.getElem?_cons_succ, List.getElem?_cons_zero]; rfl) (by rfl) rfl (by rfl) ?_
        dsimp only [List.set_cons_succ, List.set_cons_zero]
        refine Rd.seq_skipL (by simp only [List.getElem?_toArray, List.getElem?_cons_succ, List.getElem?_cons_zero]; rfl) (by rfl) rfl (by rfl) ?_
        dsimp only [List.set_cons_succ, List.set_cons_zero]
        refine Rd.seq_skipL (by simp only [List.getElem?_toArray, List.getElem?_cons_succ, List.getElem?_cons_zero]; rfl) (by rfl) rfl (by rfl) ?_
        dsimp only [List.set_cons_succ, List.set_cons_zero]
        refine Rd.seq_skipL (by simp only [List.getElem?_toArray, List.getElem?_cons_succ, List.getElem?_cons_zero]; rfl) (by rfl) rfl (by rfl) ?_
        dsimp only [List.set_cons_succ, List.set_cons_zero]
        refine Rd.seq_skipL (by simp only [List.getElem?_toArray, List.getElem?_cons_succ, List.getElem?_cons_zero]; rfl) (by rfl) rfl (by rfl) ?_
        dsimp only [List.set_cons_succ, List.set_cons_zero]
        refine Rd.seq_skipL (by simp only [List.getElem?_toArray, List.getElem?_cons_succ, List.getElem?_cons_zero]; rfl) (by rfl) rfl (by rfl) ?_
        dsimp only [List.set_cons_succ, List.set_cons_zero]
        refine Rd.seq_skipL (by simp only [List.getElem?_toArray, List.getElem?_cons_succ, List.getElem?_cons_zero]; rfl) (by rfl) rfl (by rfl) ?_
        dsimp only [List.set_cons_succ, List.set_cons_zero]
        refine Rd.seq_skipL (by simp only [List.getElem?_toArray, List.getElem?_cons_succ, List.getElem?_cons_zero]; rfl) (by rfl) rfl (by rfl) ?_
        dsimp only [List.set_cons_succ, List.set_cons_zero]
        refine Rd.seq_skipL (by simp only [List.getElem?_toArray, List.getElem?_cons_succ, List.getElem?_cons_zero]; rfl) (by rfl) rfl (by rfl) ?_
        dsimp only [List.set_cons_succ, List.set_cons_zero]
        refine Rd.seq_skipL (by simp only [List.getElem?_toArray, List.getElem?_cons_succ, List.getElem?_cons_zero]; rfl) (by rfl) rfl (by rfl) ?_
        dsimp only [List.set_cons_succ, List.set_cons_zero]
        refine Rd.seq_skipL (by simp only [List.getElem?_toArray, List.getElem?_cons_succ, List.getElem?_cons_zero]; rfl) (by rfl) rfl (by rfl) ?_
        dsimp only [List.set_cons_succ, List.set_cons_zero]
        refine Rd.seq_skipL (by simp only [List.getElem?_toArray, List.getElem?_cons_succ, List.getElem?_cons_zero]; rfl) (by rfl) rfl (by rfl) ?_
        dsimp only [List.set_cons_succ, List.set_cons_zero]
        refine Rd.seq_skipL (by simp only [List.getElem?_toArray, List.getElem?_cons_succ, List.getElem?_cons_zero]; rfl) (by rfl) rfl (by rfl) ?_
        dsimp only [List.set_cons_succ, List.set_cons_zero]
        refine Rd.seq_skipL (by simp only [List.getElem?_toArray, List.getElem?_cons_succ, List.getElem?_cons_zero]; rfl) (by rfl) rfl (by rfl) ?_
        dsimp only [List.set_cons_succ, List.set_cons_zero]
        refine Rd.seq_floatL (.bool false) (by simp only [List.getElem?_toArray, List.getElem?_cons_succ, List.getElem?_cons_zero]; rfl) (by rfl) rfl (by rfl) (fun X _ => by go_simp) ?_
        dsimp only [List.set_cons_succ, List.set_cons_zero]
        refine Rd.seq_end ?_
        go_wp2_with fail
        exact ⟨⟨k + 1, by omega, by go_num, HT3, hbi⟩, by simp [intOf]; omega⟩
      | true =>
        rw [hby] at HBY HTE
        clear hby
        have h8 : ¬ 8 < dy - dx + dp + 1 := by have := HNO.out; rw [HTE.out, Bool.true_and, decide_eq_false_iff_not] at this; exact this
        · have HT3 := Lib.hid (HTK.out HNO.out)
          clear HTK HTE HNO
          generalize hyid : (L.getD k g0).id = y at HBY HDY HV
          clear hyid
          go_wp2_with fail
          refine Rd.region (fun X => Below w3.heap.size w3 X) 29 [0, 1, 2, 3, 4, 5, 6, 7, 9, 10, 11, 12, 13, 14, 15, 16, 18, 19, 21, 22, 23, 25, 26, 27, 28] [0, 1, 2, 3, 4, 5, 6, 7, 8, 9, 10, 11, 12, 13, 14, 15, 16, 18, 19, 22, 23, 17, 20, 21, 24, 25, 26, 27, 28] (by kernel_rfl) (by kernel_rfl) (by kernel_rfl) (by kernel_rfl) rfl hq7 ?_
          refine Rd.seq_floatL (.agg #[.int .i64 r, .int .i64 m, .slice (some ⟨b, 0, none⟩) L.length c]) (by simp only [List.getElem?_toArray, List.getElem?_cons_zero]; rfl) (by rfl) rfl (by rfl) (fun X hX => run_load30 rfl rfl (HXB.out X hX)) ?_
          dsimp only [List.set_cons_succ, List.set_cons_zero]
          refine Rd.seq_floatL (.pointer (some ⟨w.heap.size, 2, none⟩)) (by simp only [List.getElem?_toArray, List.getElem?_cons_succ, List.getElem?_cons_zero]; rfl) (by rfl) rfl (by rfl) (fun X _ => by go_simp) ?_
          dsimp only [List.set_cons_succ, List.set_cons_zero]
          refine Rd.seq_floatL (.slice (some ⟨b, 0, none⟩) L.length c) (by simp only [List.getElem?_toArray, List.getElem?_cons_succ, List.getElem?_cons_zero]; rfl) (by rfl) rfl (by rfl) (fun X hX => by have e2 := cF2 (HXB.out X hX); go_simp) ?_
          dsimp only [List.set_cons_succ, List.set_cons_zero]
          refine Rd.seq_floatL (.int .i64 (k : Int)) (by simp only [List.getElem?_toArray, List.getElem?_cons_succ, List.getElem?_cons_zero]; rfl) (by rfl) rfl (by rfl) (fun X _ => by go_simp) ?_
          dsimp only [List.set_cons_succ, List.set_cons_zero]
          refine Rd.seq_floatL (.pointer (some ⟨b, k * 5, none⟩)) (by simp only [List.getElem?_toArray, List.getElem?_cons_succ, List.getElem?_cons_zero]; rfl) (by rfl) rfl (by rfl) (fun X _ => by first | (go_simp; done) | (go_simp; intro hx; omega)) ?_
          dsimp only [List.set_cons_succ, List.set_cons_zero]
          refine Rd.seq_floatL (.pointer (some ⟨b, k * 5, none⟩)) (by simp only [List.getElem?_toArray, List.getElem?_cons_succ, List.getElem?_cons_zero]; rfl) (by rfl) rfl (by rfl) (fun X _ => by go_simp) ?_
          dsimp only [List.set_cons_succ, List.set_cons_zero]
          refine Rd.seq_floatL (.int .i64 y) (by simp only [List.getElem?_toArray, List.getElem?_cons_succ, List.getElem?_cons_zero]; rfl) (by rfl) rfl (by rfl) (fun X hX => by have e2 := HV.out X hX; go_simp) ?_
          dsimp only [List.set_cons_succ, List.set_cons_zero]
          refine Rd.seq_floatL (.int .i64 x) (by simp only [List.getElem?_toArray, List.getElem?_cons_succ, List.getElem?_cons_zero]; rfl) (by rfl) rfl (by rfl) (fun X _ => by go_simp) ?_
          dsimp only [List.set_cons_succ, List.set_cons_zero]
          refine Rd.seq_move (by simp only [List.getElem?_toArray, List.getElem?_cons_succ, List.getElem?_cons_zero]; rfl) rfl (by rfl) (fun K hK => ?_)
          go_simp
          refine (HBY.out _ hq7).mono ?_
          rintro e wi ⟨rfl, hbi⟩
          refine hK _ _ (fun _ => hbi) ?_
          clear hK K
          refine Rd.seq_floatL (.bool true) (by simp only [List.getElem?_toArray, List.getElem?_cons_succ, List.getElem?_cons_zero]; rfl) (by rfl) rfl (by rfl) (fun X _ => by go_simp) ?_
          dsimp only [List.set_cons_succ, List.set_cons_zero]
          refine Rd.seq_floatL (.agg #[.int .i64 r, .int .i64 m, .slice (some ⟨b, 0, none⟩) L.length c]) (by simp only [List.getElem?_toArray, List.getElem?_cons_succ, List.getElem?_cons_zero]; rfl) (by rfl) rfl (by rfl) (fun X hX => run_load30 rfl rfl (HXB.out X hX)) ?_
          dsimp only [List.set_cons_succ, List.set_cons_zero]
          refine Rd.seq_floatL (.pointer (some ⟨w.heap.size, 2, none⟩)) (by simp only [List.getElem?_toArray, List.getElem?_cons_succ, List.getElem?_cons_zero]; rfl) (by rfl) rfl (by rfl) (fun X _ => by go_simp) ?_
          dsimp only [List.set_cons_succ, List.set_cons_zero]
          refine Rd.seq_floatL (.slice (some ⟨b, 0, none⟩) L.length c) (by simp only [List.getElem?_toArray, List.getElem?_cons_succ, List.getElem?_cons_zero]; rfl) (by rfl) rfl (by rfl) (fun X hX => by have e2 := cF2 (HXB.out X hX); go_simp) ?_
          dsimp only [List.set_cons_succ, List.set_cons_zero]
          refine Rd.seq_floatL (.int .i64 (k : Int)) (by simp only [List.getElem?_toArray, List.getElem?_cons_succ, List.getElem?_cons_zero]; rfl) (by rfl) rfl (by rfl) (fun X _ => by go_simp) ?_
          dsimp only [List.set_cons_succ, List.set_cons_zero]
          refine Rd.seq_floatL (.pointer (some ⟨b, k * 5, none⟩)) (by simp only [List.getElem?_toArray, List.getElem?_cons_succ, List.getElem?_cons_zero]; rfl) (by rfl) rfl (by rfl) (fun X _ => by first | (go_simp; done) | (go_simp; intro hx; omega)) ?_
          dsimp only [List.set_cons_succ, List.set_cons_zero]
          refine Rd.seq_floatL (.pointer (some ⟨b, k * 5, none⟩)) (by simp only [List.getElem?_toArray, List.getElem?_cons_succ, List.getElem?_cons_zero]; rfl) (by rfl) rfl (by rfl) (fun X _ => by go_simp) ?_
          dsimp only [List.set_cons_succ, List.set_cons_zero]
          refine Rd.seq_floatL (.int .i64 y) (by simp only [List.getElem?_toArray, List.getElem?_cons_succ, List.getElem?_cons_zero]; rfl) (by rfl) rfl (by rfl) (fun X hX => by have e2 := HV.out X hX; go_simp) ?_
          dsimp only [List.set_cons_succ, List.set_cons_zero]
          refine Rd.seq_floatL (.agg #[.int .i64 r, .int .i64 m, .slice (some ⟨b, 0, none⟩) L.length c]) (by simp only [List.getElem?_toArray, List.getElem?_cons_succ, List.getElem?_cons_zero]; rfl) (by rfl) rfl (by rfl) (fun X hX => run_load30 rfl rfl (HXB.out X hX)) ?_
          dsimp only [List.set_cons_succ, List.set_cons_zero]
          refine Rd.seq_floatL (.int .i64 x) (by simp only [List.getElem?_toArray, List.getElem?_cons_succ, List.getElem?_cons_zero]; rfl) (by rfl) rfl (by rfl) (fun X _ => by go_simp) ?_
          dsimp only [List.set_cons_succ, List.set_cons_zero]
          refine Rd.seq_floatL (.agg #[.int .i64 r, .int .i64 m, .slice (some ⟨b, 0, none⟩) L.length c]) (by simp only [List.getElem?_toArray, List.getElem?_cons_succ, List.getElem?_cons_zero]; rfl) (by rfl) rfl (by rfl) (fun X hX => run_load30 rfl rfl (HXB.out X hX)) ?_
          dsimp only [List.set_cons_succ, List.set_cons_zero]
          refine Rd.seq_floatL (.int .i64 p) (by simp only [List.getElem?_toArray, List.getElem?_cons_succ, List.getElem?_cons_zero]; rfl) (by rfl) rfl (by rfl) (fun X _ => by go_simp) ?_
          dsimp only [List.set_cons_succ, List.set_cons_zero]
          refine Rd.seq_move (by simp only [List.getElem?_toArray, List.getElem?_cons_succ, List.getElem?_cons_zero]; rfl) rfl (by rfl) (fun K hK => ?_)
          go_simp
          refine (HDY.out _ (by assumption)).mono ?_
          rintro e wi ⟨rfl, hbi⟩
          refine hK _ _ (fun _ => hbi) ?_
          clear hK K
          refine Rd.seq_move (by simp only [List.getElem?_toArray, List.getElem?_cons_succ, List.getElem?_cons_zero]; rfl) rfl (by rfl) (fun K hK => ?_)
          go_simp
          refine (HDX.out _ (by assumption)).mono ?_
          rintro e wi ⟨rfl, hbi⟩
          refine hK _ _ (fun _ => hbi) ?_
          clear hK K
          refine Rd.seq_floatL (.int .i64 (dy - dx)) (by simp only [List.getElem?_toArray, List.getElem?_cons_succ, List.getElem?_cons_zero]; rfl) (by rfl) rfl (by rfl) (fun X _ => by go_simp; exact HW.out.1) ?_
          dsimp only [List.set_cons_succ, List.set_cons_zero]
          refine Rd.seq_move (by simp only [List.getElem?_toArray, List.getElem?_cons_succ, List.getElem?_cons_zero]; rfl) rfl (by rfl) (fun K hK => ?_)
          go_simp
          refine (HDP.out _ (by assumption)).mono ?_
          rintro e wi ⟨rfl, hbi⟩
          refine hK _ _ (fun _ => hbi) ?_
          clear hK K
          refine Rd.seq_floatL (.int .i64 (dy - dx + dp)) (by simp only [List.getElem?_toArray, List.getElem?_cons_succ, List.getElem?_cons_zero]; rfl) (by rfl) rfl (by rfl) (fun X _ => by go_simp; exact HW.out.2.1) ?_
          dsimp only [List.set_cons_succ, List.set_cons_zero]
          refine Rd.seq_floatL (.int .i64 (dy - dx + dp + 1)) (by simp only [List.getElem?_toArray, List.getElem?_cons_succ, List.getElem?_cons_zero]; rfl) (by rfl) rfl (by rfl) (fun X _ => by go_simp; exact HW.out.2.2) ?_
          dsimp only [List.set_cons_succ, List.set_cons_zero]
          refine Rd.seq_floatL (.bool false) (by simp only [List.getElem?_toArray, List.getElem?_cons_succ, List.getElem?_cons_zero]; rfl) (by rfl) rfl (by rfl) (fun X _ => by go_simp) ?_
          dsimp only [List.set_cons_succ, List.set_cons_zero]
          refine Rd.seq_floatL (.bool false) (by simp only [List.getElem?_toArray, List.getElem?_cons_succ, List.getElem?_cons_zero]; rfl) (by rfl) rfl (by rfl) (fun X _ => by go_simp) ?_
          dsimp only [List.set_cons_succ, List.set_cons_zero]
          refine Rd.seq_end ?_
          go_wp2_with fail
          exact ⟨⟨k + 1, by omega, by go_num, HT3, hbi⟩, by simp [intOf]; omega⟩
    · obtain rfl : k = L.length := by omega
      have hX8 := HXB.out _ hb7
      have f0 := cF0 hX8
      have f1 := cF1 hX8
      have f2 := cF2 hX8
      have g1 := (HCL.out _ hb7).1
      clear hX8
      go_wp2_with (first | (go_at_call 51; refine (HR.out.fan _ _ HQ.out (by assumption)).mono ?_; rintro e wi ⟨rfl, hbi⟩; have hX2 := HXB.out wi hbi; have f0 := cF0 hX2; have f1 := cF1 hX2; have f2 := cF2 hX2; clear hX2) | (refine wpList_load30 rfl _ rfl w.heap.size r m (.slice (some ⟨b, 0, none⟩) L.length c) rfl (HXB.out _ (by assumption)) ?_) | (refine wpList_load_mid rfl 70 _ rfl b (j * 5) rfl _ _ (HCL.out _ (by assumption)).2 Try.underlying70 rfl Try.info70 ?_) | (refine wpList_alloc70 rfl rfl ?_; have hZg := Blk.new wi 70 #[.int .i64 0, .int .i64 0, .int .i64 0, .int .i64 0, .int .i64 0]; have hbg := Below.allocS hbi (.cells #[.int .i64 0, .int .i64 0, .int .i64 0, .int .i64 0, .int .i64 0] 70); have hltg : wi.heap.size < (wi.alloc (.cells #[.int .i64 0, .int .i64 0, .int .i64 0, .int .i64 0, .int .i64 0] 70)).heap.size := (by simp); have hleg := hbi.size; generalize wi.alloc (.cells #[.int .i64 0, .int .i64 0, .int .i64 0, .int .i64 0, .int .i64 0] 70) = wg at *) | (refine wpList_store70 rfl _ _ rfl wi.heap.size g rfl rfl hZg rfl ?_; intro wh hZh th; have hbh : Below w3.heap.size w3 wh := hbg.trans (th.below hleg); have fz := hZh.fz 1; have cx1 := cE1 hZh; have hZk : Blk (wh.setCell ⟨wi.heap.size, 1, none⟩ (.int .i64 p)) wi.heap.size 70 (cellsE ⟨g.id, p, g.wt, g.me, g.aw⟩) := hZh.set 1 _; have hbk : Below w3.heap.size w3 (wh.setCell ⟨wi.heap.size, 1, none⟩ (.int .i64 p)) := hbh.trans ((Turn.setCell wh wi.heap.size 1 _).below hleg)) | (refine wpList_load70 rfl _ rfl wi.heap.size ⟨g.id, p, g.wt, g.me, g.aw⟩ rfl hZk ?_) | (go_at_call 54; refine (HR.out.set _ ⟨g.id, p, g.wt, g.me, g.aw⟩ _ hj (by assumption)).mono ?_; rintro e wi ⟨⟨a', c', rfl, hr9⟩, hbi⟩) | (refine wpList_store30 rfl _ _ rfl (w.heap.size + 1) r m (.slice a' L.length c') rfl rfl (HZB.out _ (by assumption)) rfl rfl ?_; intro wz hZ9 t9))
      refine bodyPost_ret (resultsF_ct rfl _ wz (w.heap.size + 1) r m _ _ rfl rfl hZ9) rfl ?_
      rw [HC.out, HN.out]
      exact ⟨⟨_, rfl, a', c', by rw [List.length_set], by rw [List.length_set]; exact hr9.turn t9 (HZB.out _ hbi) (by decide)⟩, (HFin.out _ hbi).trans (t9.below (by omega))⟩
set_option maxRecDepth 100000 in
set_option maxHeartbeats 4000000 in
theorem rMove_stay (x p : Int) (m0 k : Int) (w : World) (h : RowG w (.slice a L.length c) L) (ok : Ok L m0 k) (hh : has L x = true) (hq : has L p = true) (hp : 0 ≤ (gr L x).pa) (ht : topI L x = topI L p) (hbe : belowB L p x = false) (hde : deepB L x p = false) (hn : (gr L x).pa = p) :
    Calls Try.prog 27 #[.agg (cellsF r m (.slice a L.length c)), .int .i64 x, .int .i64 p] w fun e w' => (∃ v, e = .returned (.tuple #[v, .int .i64 (moveC L x p)]) ∧ DocF w' v r m (moveN L x p)) ∧ Below w.heap.size w w' := by
  have hc : moveC L x p = 0 := by unfold moveC; rw [if_neg (by rw [hh, hq]; decide), if_neg (by omega), if_neg (fun e => e ht), if_neg (by rw [hbe]; decide), if_neg (by rw [hde]; decide), if_neg (fun e => e.1 hn)]
  have HC := Lib.hid hc
  have HN : Hid (moveN L x p = moveG L x p) := Lib.hid (by unfold moveN; rw [hc]; rfl)
  have hx0 : Blk ((w.alloc (.cells #[.int .i64 r, .int .i64 m, .slice a L.length c] 30)).alloc (.cells #[.int .i64 0, .int .i64 0, .slice none 0 0] 30)) w.heap.size 30 (cellsF r m (.slice a L.length c)) := (Blk.new w 30 _).alloc _
  have hZ0 : Blk ((w.alloc (.cells #[.int .i64 r, .int .i64 m, .slice a L.length c] 30)).alloc (.cells #[.int .i64 0, .int .i64 0, .slice none 0 0] 30)) (w.heap.size + 1) 30 (cellsF 0 0 (.slice none 0 0)) := by
    have := Blk.new (w.alloc (.cells #[.int .i64 r, .int .i64 m, .slice a L.length c] 30)) 30 (cellsF 0 0 (.slice none 0 0))
    have e : (w.alloc (.cells #[.int .i64 r, .int .i64 m, .slice a L.length c] 30)).heap.size = w.heap.size + 1 := by simp
    rw [e] at this
    exact this
  have hb : Below w.heap.size w ((w.alloc (.cells #[.int .i64 r, .int .i64 m, .slice a L.length c] 30)).alloc (.cells #[.int .i64 0, .int .i64 0, .slice none 0 0] 30)) := ((Below.refl _ w).alloc (Nat.le_refl _) _).alloc (by simp) _
  have hsz : w.heap.size + 2 ≤ ((w.alloc (.cells #[.int .i64 r, .int .i64 m, .slice a L.length c] 30)).alloc (.cells #[.int .i64 0, .int .i64 0, .slice none 0 0] 30)).heap.size := by simp
  have HR : Hid (Rdw ((w.alloc (.cells #[.int .i64 r, .int .i64 m, .slice a L.length c] 30)).alloc (.cells #[.int .i64 0, .int .i64 0, .slice none 0 0] 30)) r m a c L) := Lib.hid (Rdw.of h ok hb)
  have HXB : Hid (∀ X, Below ((w.alloc (.cells #[.int .i64 r, .int .i64 m, .slice a L.length c] 30)).alloc (.cells #[.int .i64 0, .int .i64 0, .slice none 0 0] 30)).heap.size ((w.alloc (.cells #[.int .i64 r, .int .i64 m, .slice a L.length c] 30)).alloc (.cells #[.int .i64 0, .int .i64 0, .slice none 0 0] 30)) X → Blk X w.heap.size 30 (cellsF r m (.slice a L.length c))) := Lib.hid fun X hX => hx0.below hX
  have HZB : Hid (∀ X, Below ((w.alloc (.cells #[.int .i64 r, .int .i64 m, .slice a L.length c] 30)).alloc (.cells #[.int .i64 0, .int .i64 0, .slice none 0 0] 30)).heap.size ((w.alloc (.cells #[.int .i64 r, .int .i64 m, .slice a L.length c] 30)).alloc (.cells #[.int .i64 0, .int .i64 0, .slice none 0 0] 30)) X → Blk X (w.heap.size + 1) 30 (cellsF 0 0 (.slice none 0 0))) := Lib.hid fun X hX => hZ0.below hX
  have HFin : Hid (∀ X, Below ((w.alloc (.cells #[.int .i64 r, .int .i64 m, .slice a L.length c] 30)).alloc (.cells #[.int .i64 0, .int .i64 0, .slice none 0 0] 30)).heap.size ((w.alloc (.cells #[.int .i64 r, .int .i64 m, .slice a L.length c] 30)).alloc (.cells #[.int .i64 0, .int .i64 0, .slice none 0 0] 30)) X → Below w.heap.size w X) := Lib.hid fun X hX => hb.trans (hX.mono (by omega))
  have HA : Hid (atG L x = (pos L x : Int)) := Lib.hid (atG_yes hh)
  have HH := Lib.hid hh
  have hj := has_pos hh
  obtain ⟨b, rfl, hcl⟩ := h.at hj
  have HCL : Hid (∀ X, Below ((w.alloc (.cells #[.int .i64 r, .int .i64 m, .slice (some ⟨b, 0, none⟩) L.length c] 30)).alloc (.cells #[.int .i64 0, .int .i64 0, .slice none 0 0] 30)).heap.size ((w.alloc (.cells #[.int .i64 r, .int .i64 m, .slice (some ⟨b, 0, none⟩) L.length c] 30)).alloc (.cells #[.int .i64 0, .int .i64 0, .slice none 0 0] 30)) X → X.cell? ⟨b, pos L x * 5 + 1, none⟩ = some (.int .i64 (gr L x).pa) ∧ X.rangeAt b (pos L x * 5) (cellsE (gr L x)).toList) := Lib.hid fun X hX => ⟨((hcl.below hb).below hX).pa hj, ((hcl.below hb).below hX).range hj⟩
  have HQ := Lib.hid hq
  have HAP : Hid (atG L p = (pos L p : Int)) := Lib.hid (atG_yes hq)
  have hp0 : ¬ (gr L x).pa < 0 := by omega
  have htt : (topI L p == topI L p) = true := by simp
  have htn : (topI L p != topI L p) = false := by simp
  have hn64 := ok.n64
  have HDD : Hid (∀ y X, has L y = true → Below ((w.alloc (.cells #[.int .i64 r, .int .i64 m, .slice (some ⟨b, 0, none⟩) L.length c] 30)).alloc (.cells #[.int .i64 0, .int .i64 0, .slice none 0 0] 30)).heap.size ((w.alloc (.cells #[.int .i64 r, .int .i64 m, .slice (some ⟨b, 0, none⟩) L.length c] 30)).alloc (.cells #[.int .i64 0, .int .i64 0, .slice none 0 0] 30)) X → Calls Try.prog 34 #[.agg #[.int .i64 r, .int .i64 m, .slice (some ⟨b, 0, none⟩) L.length c], .int .i64 y] X fun e w' => e = .returned (.int .i64 (dep L y)) ∧ Below ((w.alloc (.cells #[.int .i64 r, .int .i64 m, .slice (some ⟨b, 0, none⟩) L.length c] 30)).alloc (.cells #[.int .i64 0, .int .i64 0, .slice none 0 0] 30)).heap.size ((w.alloc (.cells #[.int .i64 r, .int .i64 m, .slice (some ⟨b, 0, none⟩) L.length c] 30)).alloc (.cells #[.int .i64 0, .int .i64 0, .slice none 0 0] 30)) w') := Lib.hid fun y X hy hX => HR.out.dep y X hy hX
  have HCC : Hid (∀ X, Below ((w.alloc (.cells #[.int .i64 r, .int .i64 m, .slice (some ⟨b, 0, none⟩) L.length c] 30)).alloc (.cells #[.int .i64 0, .int .i64 0, .slice none 0 0] 30)).heap.size ((w.alloc (.cells #[.int .i64 r, .int .i64 m, .slice (some ⟨b, 0, none⟩) L.length c] 30)).alloc (.cells #[.int .i64 0, .int .i64 0, .slice none 0 0] 30)) X → Cl X b 0 L) := Lib.hid fun X hX => (hcl.below hb).below hX
  have OK := Lib.hid ok
  have HBE := Lib.hid hbe
  have HDE := Lib.hid hde
  clear hbe hde
  have hpp : (p == p) = true := by simp
  have hpn : (p != p) = false := by simp
  have HPN := Lib.hid hn
  have hp00 : 0 ≤ p := by omega
  have hp0p : ¬ p < 0 := by omega
  clear hn hp0
  have HGG : Hid (moveG L x p = L.set (pos L x) ⟨(gr L x).id, p, (gr L x).wt, (gr L x).me, (gr L x).aw⟩) := Lib.hid (by unfold moveG setG mvd; rw [gr_id hh])
  rw [HGG.out] at HN
  clear hh hq hp HGG
  generalize gr L x = g at *
  have HCL1 := HCL.out
  rw [HPN.out] at HCL1
  replace HCL := Lib.hid HCL1
  clear HCL1
  generalize pos L x = j at *
  generalize pos L p = jp at *
  clear hc h ok
  unfold cellsF
  go_enter Try.func27, Try.ntmps27
  go_wp2_with (first | (have hgd := hx0; refine wpList_alloc30 rfl rfl ?_; clear hgd; generalize ((w.alloc (.cells #[.int .i64 r, .int .i64 m, .slice (some ⟨b, 0, none⟩) L.length c] 30)).alloc (.cells #[.int .i64 0, .int .i64 0, .slice none 0 0] 30)) = w3 at *; have hbi := Below.refl w3.heap.size w3; clear hx0 hZ0 hb) | (go_at_call 50; refine (HR.out.at' _ _ (by assumption)).mono ?_; rw [HA.out]; rintro e wi ⟨rfl, hbi⟩; have hX2 := HXB.out wi hbi; have f0 := cF0 hX2; have f1 := cF1 hX2; have f2 := cF2 hX2; clear hX2; have g1 := (HCL.out wi hbi).1) | (go_at_call 50; refine (HR.out.at' _ _ (by assumption)).mono ?_; rw [HAP.out]; rintro e wi ⟨rfl, hbi⟩; have hX2 := HXB.out wi hbi; have f0 := cF0 hX2; have f1 := cF1 hX2; have f2 := cF2 hX2; clear hX2; have g1 := (HCL.out wi hbi).1) | (refine wpList_load30 rfl _ rfl w.heap.size r m (.slice (some ⟨b, 0, none⟩) L.length c) rfl (HXB.out _ (by assumption)) ?_) | (refine wpList_store30 rfl _ _ rfl (w.heap.size + 1) r m (.slice (some ⟨b, 0, none⟩) L.length c) rfl rfl (HZB.out _ (by assumption)) rfl rfl ?_; intro wz hZ9 t9))
  have hq6 : Below w3.heap.size w3 wi.drew := Below.drewS hbi
  clear f0 f1 f2 g1
  refine Rd.region (fun X => Below w3.heap.size w3 X) 8 [0, 1, 3, 4, 6, 7] [0, 1, 3, 4, 2, 5, 6, 7] (by kernel_rfl) (by kernel_rfl) (by kernel_rfl) (by kernel_rfl) rfl hq6 ?_
  refine Rd.seq_float (.agg #[.int .i64 r, .int .i64 m, .slice (some ⟨b, 0, none⟩) L.length c]) (by simp only [List.getElem?_toArray, List.getElem?_cons_zero]; rfl) rfl (by rfl) (fun X hX => run_load30 rfl rfl (HXB.out X hX)) ?_
  simp only [Act.put, List.setIfInBounds_toArray, List.set_cons_succ, List.set_cons_zero]
  refine Rd.seq_float (.int .i64 x) (by simp only [List.getElem?_toArray, List.getElem?_cons_succ, List.getElem?_cons_zero]; rfl) rfl (by rfl) (fun X _ => by go_simp) ?_
  simp only [Act.put, List.setIfInBounds_toArray, List.set_cons_succ, List.set_cons_zero]
  refine Rd.seq_float (.agg #[.int .i64 r, .int .i64 m, .slice (some ⟨b, 0, none⟩) L.length c]) (by simp only [List.getElem?_toArray, List.getElem?_cons_succ, List.getElem?_cons_zero]; rfl) rfl (by rfl) (fun X hX => run_load30 rfl rfl (HXB.out X hX)) ?_
  simp only [Act.put, List.setIfInBounds_toArray, List.set_cons_succ, List.set_cons_zero]
  refine Rd.seq_float (.int .i64 p) (by simp only [List.getElem?_toArray, List.getElem?_cons_succ, List.getElem?_cons_zero]; rfl) rfl (by rfl) (fun X _ => by go_simp) ?_
  simp only [Act.put, List.setIfInBounds_toArray, List.set_cons_succ, List.set_cons_zero]
  refine Rd.seq_move (by simp only [List.getElem?_toArray, List.getElem?_cons_succ, List.getElem?_cons_zero]; rfl) rfl (by rfl) (fun K hK => ?_)
  go_simp
  refine (HR.out.top _ _ HH.out hq6).mono ?_
  rintro e wi ⟨rfl, hbi⟩
  refine hK _ _ (fun _ => hbi) ?_
  clear hK K
  refine Rd.seq_move (by simp only [List.getElem?_toArray, List.getElem?_cons_succ, List.getElem?_cons_zero]; rfl) rfl (by rfl) (fun K hK => ?_)
  go_simp
  refine (HR.out.top _ _ HQ.out (by assumption)).mono ?_
  rintro e wi ⟨rfl, hbi⟩
  refine hK _ _ (fun _ => hbi) ?_
  clear hK K
  refine Rd.seq_float (.bool false) (by simp only [List.getElem?_toArray, List.getElem?_cons_succ, List.getElem?_cons_zero]; rfl) rfl (by rfl) (fun X _ => by go_simp) ?_
  simp only [Act.put, List.setIfInBounds_toArray, List.set_cons_succ, List.set_cons_zero]
  refine Rd.seq_float (.bool false) (by simp only [List.getElem?_toArray, List.getElem?_cons_succ, List.getElem?_cons_zero]; rfl) rfl (by rfl) (fun X _ => by go_simp) ?_
  simp only [Act.put, List.setIfInBounds_toArray, List.set_cons_succ, List.set_cons_zero]
  refine Rd.seq_end ?_
  go_wp2_with (first | (refine wpList_load30 rfl _ rfl w.heap.size r m (.slice (some ⟨b, 0, none⟩) L.length c) rfl (HXB.out _ (by assumption)) ?_) | (go_at_call 53; refine (HR.out.bel _ _ _ HQ.out (by assumption)).mono ?_; rw [HBE.out]; rintro e wi ⟨rfl, hbi⟩; have hX2 := HXB.out wi hbi; have f0 := cF0 hX2; have f1 := cF1 hX2; have f2 := cF2 hX2; clear hX2))
  go_loopw [51] (fun i wr => ∃ k : Nat, k ≤ L.length ∧ i = .int .i64 k ∧ Hid (∀ j, j < k → tooDeep L x p (L.getD j g0).id = false) ∧ Below w3.heap.size w3 wr) (fun i _ => L.length - (intOf i).toNat)
  case atStart => exact ⟨0, by omega, rfl, Lib.hid (fun j hj => absurd hj (Nat.not_lt_zero _)), hbi⟩
  case round =>
    clear f0 f1 f2 hbi
    obtain ⟨k, hk, rfl, HT, hb7⟩ := hrel
    by_cases hlt : k < L.length
    · have hyy : has L (L.getD k g0).id = true := has_mem (getD_memG hlt)
      have HV : Hid (∀ X, Below w3.heap.size w3 X → X.cell? ⟨b, k * 5, none⟩ = some (.int .i64 (L.getD k g0).id)) := Lib.hid fun X hX => (HCC.out X hX).id hlt
      have HBY : Hid (∀ X, Below w3.heap.size w3 X → Calls Try.prog 53 #[.agg #[.int .i64 r, .int .i64 m, .slice (some ⟨b, 0, none⟩) L.length c], .int .i64 (L.getD k g0).id, .int .i64 x] X fun e w' => e = .returned (.bool (belowB L (L.getD k g0).id x)) ∧ Below w3.heap.size w3 w') := Lib.hid fun X hX => HR.out.bel _ x X hyy hX
      have HDY : Hid (∀ X, Below w3.heap.size w3 X → Calls Try.prog 34 #[.agg #[.int .i64 r, .int .i64 m, .slice (some ⟨b, 0, none⟩) L.length c], .int .i64 (L.getD k g0).id] X fun e w' => e = .returned (.int .i64 (dep L (L.getD k g0).id)) ∧ Below w3.heap.size w3 w') := Lib.hid fun X hX => HDD.out _ X hyy hX
      have HDX : Hid (∀ X, Below w3.heap.size w3 X → Calls Try.prog 34 #[.agg #[.int .i64 r, .int .i64 m, .slice (some ⟨b, 0, none⟩) L.length c], .int .i64 x] X fun e w' => e = .returned (.int .i64 (dep L x)) ∧ Below w3.heap.size w3 w') := Lib.hid fun X hX => HDD.out _ X HH.out hX
      have HDP : Hid (∀ X, Below w3.heap.size w3 X → Calls Try.prog 34 #[.agg #[.int .i64 r, .int .i64 m, .slice (some ⟨b, 0, none⟩) L.length c], .int .i64 p] X fun e w' => e = .returned (.int .i64 (dep L p)) ∧ Below w3.heap.size w3 w') := Lib.hid fun X hX => HDD.out _ X HQ.out hX
      have HTK : Hid (tooDeep L x p (L.getD k g0).id = false → ∀ j, j < k + 1 → tooDeep L x p (L.getD j g0).id = false) := Lib.hid fun e j hj => by
        by_cases e2 : j = k
        · subst e2; exact e
        · exact HT.out j (by omega)
      have hd1 := OK.out.dep8 (L.getD k g0).id
      have hd2 := OK.out.dep8 x
      have hd3 := OK.out.dep8 p
      have HTE : Hid (tooDeep L x p (L.getD k g0).id = (belowB L (L.getD k g0).id x && decide (8 < dep L (L.getD k g0).id - dep L x + dep L p + 1))) := Lib.hid rfl
      have HNO := Lib.hid (deep_no HDE.out hlt)
      have hq7 : Below w3.heap.size w3 wr.drew := Below.drewS hb7
      clear hyy HT
      have HW : Hid (IntKind.i64.wrap (dep L (L.getD k g0).id - dep L x) = dep L (L.getD k g0).id - dep L x ∧ IntKind.i64.wrap (dep L (L.getD k g0).id - dep L x + dep L p) = dep L (L.getD k g0).id - dep L x + dep L p ∧ IntKind.i64.wrap (dep L (L.getD k g0).id - dep L x + dep L p + 1) = dep L (L.getD k g0).id - dep L x + dep L p + 1) := Lib.hid ⟨IntWalk.i64_in _ (by omega), IntWalk.i64_in _ (by omega), IntWalk.i64_in _ (by omega)⟩
      clear hd1 hd2 hd3
      generalize dep L (L.getD k g0).id = dy at *
      generalize dep L x = dx at *
      generalize dep L p = dp at *
      cases hby : belowB L (L.getD k g0).id x with
      | false =>
        have HT3 := Lib.hid (HTK.out (by rw [HTE.out, hby, Bool.false_and]))
        rw [hby] at HBY
        clear hby HTK HTE HNO
        generalize hyid : (L.getD k g0).id = y at HBY HDY HV
        clear hyid
        go_wp2_with fail
        refine Rd.region (fun X => Below w3.heap.size w3 X) 29 [0, 1, 2, 3, 4, 5, 6, 7, 9, 10, 11, 12, 13, 14, 15, 16, 17, 18, 19, 20, 21, 22, 23, 24, 25, 26, 27, 28] [0, 1, 2, 3, 4, 5, 6, 7, 8, 9, 10, 11, 12, 13, 14, 15, 16, 17, 18, 19, 20, 21, 22, 23, 24, 25, 26, 27, 28] (by kernel_rfl) (by kernel_rfl) (by kernel_rfl) (by kernel_rfl) rfl hq7 ?_
        refine Rd.seq_floatL (.agg #[.int .i64 r, .int .i64 m, .slice (some ⟨b, 0, none⟩) L.length c]) (by simp only [List.getElem?_toArray, List.getElem?_cons_zero]; rfl) (by rfl) rfl (by rfl) (fun X hX => run_load30 rfl rfl (HXB.out X hX)) ?_
        dsimp only [List.set_cons_succ, List.set_cons_zero]
        refine Rd.seq_floatL (.pointer (some ⟨w.heap.size, 2, none⟩)) (by simp only [List.getElem?_toArray, List.getElem?_cons_succ, List.getElem?_cons_zero]; rfl) (by rfl) rfl (by rfl) (fun X _ => by go_simp) ?_
        dsimp only [List.set_cons_succ, List.set_cons_zero]
        refine Rd.seq_floatL (.slice (some ⟨b, 0, none⟩) L.length c) (by simp only [List.getElem?_toArray, List.getElem?_cons_succ, List.getElem?_cons_zero]; rfl) (by rfl) rfl (by rfl) (fun X hX => by have e2 := cF2 (HXB.out X hX); go_simp) ?_
        dsimp only [List.set_cons_succ, List.set_cons_zero]
        refine Rd.seq_floatL (.int .i64 (k : Int)) (by simp only [List.getElem?_toArray, List.getElem?_cons_succ, List.getElem?_cons_zero]; rfl) (by rfl) rfl (by rfl) (fun X _ => by go_simp) ?_
        dsimp only [List.set_cons_succ, List.set_cons_zero]
        refine Rd.seq_floatL (.pointer (some ⟨b, k * 5, none⟩)) (by simp only [List.getElem?_toArray, List.getElem?_cons_succ, List.getElem?_cons_zero]; rfl) (by rfl) rfl (by rfl) (fun X _ => by first | (go_simp; done) | (go_simp; intro hx; omega)) ?_
        dsimp only [List.set_cons_succ, List.set_cons_zero]
        refine Rd.seq_floatL (.pointer (some ⟨b, k * 5, none⟩)) (by simp only [List.getElem?_toArray, List.getElem?_cons_succ, List.getElem?_cons_zero]; rfl) (by rfl) rfl (by rfl) (fun X _ => by go_simp) ?_
        dsimp only [List.set_cons_succ, List.set_cons_zero]
        refine Rd.seq_floatL (.int .i64 y) (by simp only [List.getElem?_toArray, List.getElem?_cons_succ, List.getElem?_cons_zero]; rfl) (by rfl) rfl (by rfl) (fun X hX => by have e2 := HV.out X hX; go_simp) ?_
        dsimp only [List.set_cons_succ, List.set_cons_zero]
        refine Rd.seq_floatL (.int .i64 x) (by simp only [List.getElem?_toArray, List.getElem?_cons_succ, List.getElem?_cons_zero]; rfl) (by rfl) rfl (by rfl) (fun X _ => by go_simp) ?_
        dsimp only [List.set_cons_succ, List.set_cons_zero]
        refine Rd.seq_move (by simp only [List.getElem?_toArray, List.getElem?_cons_succ, List.getElem?_cons_zero]; rfl) rfl (by rfl) (fun K hK => ?_)
        go_simp
        refine (HBY.out _ hq7).mono ?_
        rintro e wi ⟨rfl, hbi⟩
        refine hK _ _ (fun _ => hbi) ?_
        clear hK K
        refine Rd.seq_floatL (.bool false) (by simp only [List.getElem?_toArray, List.getElem?_cons_succ, List.getElem?_cons_zero]; rfl) (by rfl) rfl (by rfl) (fun X _ => by go_simp) ?_
        dsimp only [List.set_cons_succ, List.set_cons_zero]
        refine Rd.seq_skipL (by simp only [List.getElem?_toArray, List.getElem?_cons_succ, List.getElem?_cons_zero]; rfl) (by rfl) rfl (by rfl) ?_
        dsimp only [List.set_cons_succ, List.set_cons_zero]
        refine Rd.seq_skipL (by simp only [List.getElem?_toArray, List.getElem?_cons_succ, List.getElem?_cons_zero]; rfl) (by rfl) rfl (by rfl) ?_
        dsimp only [List.set_cons_succ, List.set_cons_zero]
        refine Rd.seq_skipL (by simp only [List.getElem?_toArray, List.getElem?_cons_succ, List.getElem?_cons_zero]; rfl) (by rfl) rfl (by rfl) ?_
        dsimp only [List.set_cons_succ, List.set_cons_zero]
        refine Rd.seq_skipL (by simp only [List.getElem?_toArray, List.getElem?_cons_succ, List.getElem?_cons_zero]; rfl) (by rfl) rfl (by rfl) ?_
        dsimp only [List.set_cons_succ, List.set_cons_zero]
        refine Rd.seq_skipL (by simp only [List.getElem?_toArray, List.getElem?_cons_succ, List.getElem?_cons_zero]; rfl) (by rfl) rfl (by rfl) ?_
        dsimp only [List.set_cons_succ, List.set_cons_zero]
        refine Rd.seq_skipL (by simp only [List.getElem?_toArray, List.getElem?_cons_succ, List.getElem?_cons_zero]; rfl) (by rfl) rfl (by rfl) ?_
        dsimp only [List.set_cons_succ, List.set_cons_zero]
        refine Rd.seq_skipL (by simp only [List.getElem?_toArray, List.getElem?_cons_succ, List.getElem?_cons_zero]; rfl) (by rfl) rfl (by rfl) ?_
        dsimp only [List.set_cons_succ, List.set_cons_zero]
        refine Rd.seq_skipL (by simp only [List.getElem?_toArray, List.getElem?_cons_succ, List.getElem?_cons_zero]; rfl) (by rfl) rfl (by rfl) ?_
        dsimp only [List.set_cons_succ, List.set_cons_zero]
        refine Rd.seq_skipL (by simp only [List.getElem?_toArray, List.getElem?_cons_succ, List.getElem?_cons_zero]; rfl) (by rfl) rfl (by rfl) ?_
        dsimp only [List.set_cons_succ, List.set_cons_zero]
        refine Rd.seq_skipL (by simp only [List.getElem?_toArray, List.getElem?_cons_succ, List.getElem?_cons_zero]; rfl) (by rfl) rfl (by rfl) ?_
        dsimp only [List.set_cons_succ, List.set_cons_zero]
        refine Rd.seq_skipL (by simp only [List.getElem?_toArray, List.getElem?_cons_succ, List.getElem?_cons_zero]; rfl) (by rfl) rfl (by rfl) ?_
        dsimp only [List.set_cons_succ, List.set_cons_zero]
        refine Rd.seq_skipL (by simp only [List.getElem?_toArray, List.getElem?_cons_succ, List.getElem?_cons_zero]; rfl) (by rfl) rfl (by rfl) ?_
        dsimp only [List.set_cons_succ, List.set_cons_zero]
        refine Rd.seq_skipL (by simp only [List.getElem?_toArray, List.getElem?_cons_succ, List.getElem?_cons_zero]; rfl) (by rfl) rfl (by rfl) ?_
        dsimp only [List.set_cons_succ, List.set_cons_zero]
        refine Rd.seq_skipL (by simp only [List.getElem?_toArray, List.getElem?_cons_succ, List.getElem?_cons_zero]; rfl) (by rfl) rfl (by rfl) ?_
        dsimp only [List.set_cons_succ, List.set_cons_zero]
        refine Rd.seq_skipL (by simp only [List.getElem?_toArray, List.getElem?_cons_succ, List.getElem?_cons_zero]; rfl) (by rfl) rfl (by rfl) ?_
        dsimp only [List.set_cons_succ, List.set_cons_zero]
        refine Rd.seq_skipL (by simp only [List.getElem?_toArray, List.getElem?_cons_succ, List.getElem?_cons_zero]; rfl) (by rfl) rfl (by rfl) ?_
        dsimp only [List.set_cons_succ, List.set_cons_zero]
        refine Rd.seq_skipL (by simp only [List.getElem?_toArray, List.getElem?_cons_succ, List.getElem?_cons_zero]; rfl) (by rfl) rfl (by rfl) ?_
        dsimp only [List.set_cons_succ, List.set_cons_zero]
        refine Rd.seq_skipL (by simp only [List.getElem?_toArray, List.getElem?_cons_succ, List.getElem?_cons_zero]; rfl) (by rfl) rfl (by rfl) ?_
        dsimp only [List.set_cons_succ, List.set_cons_zero]
        refine Rd.seq_floatL (.bool false) (by simp only [List.getElem?_toArray, List.getElem?_cons_succ, List.getElem?_cons_zero]; rfl) (by rfl) rfl (by rfl) (fun X _ => by go_simp) ?_
        dsimp only [List.set_cons_succ, List.set_cons_zero]
        refine Rd.seq_end ?_
        go_wp2_with fail
        exact ⟨⟨k + 1, by omega, by go_num, HT3, hbi⟩, by simp [intOf]; omega⟩
      | true =>
        rw [hby] at HBY HTE
        clear hby
        have h8 : ¬ 8 < dy - dx + dp + 1 := by have := HNO.out; rw [HTE.out, Bool.true_and, decide_eq_false_iff_not] at this; exact this
        · have HT3 := Lib.hid (HTK.out HNO.out)
          clear HTK HTE HNO
          generalize hyid : (L.getD k g0).id = y at HBY HDY HV
          clear hyid
          go_wp2_with fail
          refine Rd.region (fun X => Below w3.heap.size w3 X) 29 [0, 1, 2, 3, 4, 5, 6, 7, 9, 10, 11, 12, 13, 14, 15, 16, 18, 19, 21, 22, 23, 25, 26, 27, 28] [0, 1, 2, 3, 4, 5, 6, 7, 8, 9, 10, 11, 12, 13, 14, 15, 16, 18, 19, 22, 23, 17, 20, 21, 24, 25, 26, 27, 28] (by kernel_rfl) (by kernel_rfl) (by kernel_rfl) (by kernel_rfl) rfl hq7 ?_
          refine Rd.seq_floatL (.agg #[.int .i64 r, .int .i64 m, .slice (some ⟨b, 0, none⟩) L.length c]) (by simp only [List.getElem?_toArray, List.getElem?_cons_zero]; rfl) (by rfl) rfl (by rfl) (fun X hX => run_load30 rfl rfl (HXB.out X hX)) ?_
          dsimp only [List.set_cons_succ, List.set_cons_zero]
          refine Rd.seq_floatL (.pointer (some ⟨w.heap.size, 2, none⟩)) (by simp only [List.getElem?_toArray, List.getElem?_cons_succ, List.getElem?_cons_zero]; rfl) (by rfl) rfl (by rfl) (fun X _ => by go_simp) ?_
          dsimp only [List.set_cons_succ, List.set_cons_zero]
          refine Rd.seq_floatL (.slice (some ⟨b, 0, none⟩) L.length c) (by simp only [List.getElem?_toArray, List.getElem?_cons_succ, List.getElem?_cons_zero]; rfl) (by rfl) rfl (by rfl) (fun X hX => by have e2 := cF2 (HXB.out X hX); go_simp) ?_
          dsimp only [List.set_cons_succ, List.set_cons_zero]
          refine Rd.seq_floatL (.int .i64 (k : Int)) (by simp only [List.getElem?_toArray, List.getElem?_cons_succ, List.getElem?_cons_zero]; rfl) (by rfl) rfl (by rfl) (fun X _ => by go_simp) ?_
          dsimp only [List.set_cons_succ, List.set_cons_zero]
          refine Rd.seq_floatL (.pointer (some ⟨b, k * 5, none⟩)) (by simp only [List.getElem?_toArray, List.getElem?_cons_succ, List.getElem?_cons_zero]; rfl) (by rfl) rfl (by rfl) (fun X _ => by first | (go_simp; done) | (go_simp; intro hx; omega)) ?_
          dsimp only [List.set_cons_succ, List.set_cons_zero]
          refine Rd.seq_floatL (.pointer (some ⟨b, k * 5, none⟩)) (by simp only [List.getElem?_toArray, List.getElem?_cons_succ, List.getElem?_cons_zero]; rfl) (by rfl) rfl (by rfl) (fun X _ => by go_simp) ?_
          dsimp only [List.set_cons_succ, List.set_cons_zero]
          refine Rd.seq_floatL (.int .i64 y) (by simp only [List.getElem?_toArray, List.getElem?_cons_succ, List.getElem?_cons_zero]; rfl) (by rfl) rfl (by rfl) (fun X hX => by have e2 := HV.out X hX; go_simp) ?_
          dsimp only [List.set_cons_succ, List.set_cons_zero]
          refine Rd.seq_floatL (.int .i64 x) (by simp only [List.getElem?_toArray, List.getElem?_cons_succ, List.getElem?_cons_zero]; rfl) (by rfl) rfl (by rfl) (fun X _ => by go_simp) ?_
          dsimp only [List.set_cons_succ, List.set_cons_zero]
          refine Rd.seq_move (by simp only [List.getElem?_toArray, List.getElem?_cons_succ, List.getElem?_cons_zero]; rfl) rfl (by rfl) (fun K hK => ?_)
          go_simp
          refine (HBY.out _ hq7).mono ?_
          rintro e wi ⟨rfl, hbi⟩
          refine hK _ _ (fun _ => hbi) ?_
          clear hK K
          refine Rd.seq_floatL (.bool true) (by simp only [List.getElem?_toArray, List.getElem?_cons_succ, List.getElem?_cons_zero]; rfl) (by rfl) rfl (by rfl) (fun X _ => by go_simp) ?_
          dsimp only [List.set_cons_succ, List.set_cons_zero]
          refine Rd.seq_floatL (.agg #[.int .i64 r, .int .i64 m, .slice (some ⟨b, 0, none⟩) L.length c]) (by simp only [List.getElem?_toArray, List.getElem?_cons_succ, List.getElem?_cons_zero]; rfl) (by rfl) rfl (by rfl) (fun X hX => run_load30 rfl rfl (HXB.out X hX)) ?_
          dsimp only [List.set_cons_succ, List.set_cons_zero]
          refine Rd.seq_floatL (.pointer (some ⟨w.heap.size, 2, none⟩)) (by simp only [List.getElem?_toArray, List.getElem?_cons_succ, List.getElem?_cons_zero]; rfl) (by rfl) rfl (by rfl) (fun X _ => by go_simp) ?_
          dsimp only [List.set_cons_succ, List.set_cons_zero]
          refine Rd.seq_floatL (.slice (some ⟨b, 0, none⟩) L.length c) (by simp only [List.getElem?_toArray, List.getElem?_cons_succ, List.getElem?_cons_zero]; rfl) (by rfl) rfl (by rfl) (fun X hX => by have e2 := cF2 (HXB.out X hX); go_simp) ?_
          dsimp only [List.set_cons_succ, List.set_cons_zero]
          refine Rd.seq_floatL (.int .i64 (k : Int)) (by simp only [List.getElem?_toArray, List.getElem?_cons_succ, List.getElem?_cons_zero]; rfl) (by rfl) rfl (by rfl) (fun X _ => by go_simp) ?_
          dsimp only [List.set_cons_succ, List.set_cons_zero]
          refine Rd.seq_floatL (.pointer (some ⟨b, k * 5, none⟩)) (by simp only [List.getElem?_toArray, List.getElem?_cons_succ, List.getElem?_cons_zero]; rfl) (by rfl) rfl (by rfl) (fun X _ => by first | (go_simp; done) | (go_simp; intro hx; omega)) ?_
          dsimp only [List.set_cons_succ, List.set_cons_zero]
          refine Rd.seq_floatL (.pointer (some ⟨b, k * 5, none⟩)) (by simp only [List.getElem?_toArray, List.getElem?_cons_succ, List.getElem?_cons_zero]; rfl) (by rfl) rfl (by rfl) (fun X _ => by go_simp) ?_
          dsimp only [List.set_cons_succ, List.set_cons_zero]
          refine Rd.seq_floatL (.int .i64 y) (by simp only [List.getElem?_toArray, List.getElem?_cons_succ, List.getElem?_cons_zero]; rfl) (by rfl) rfl (by rfl) (fun X hX => by have e2 := HV.out X hX; go_simp) ?_
          dsimp only [List.set_cons_succ, List.set_cons_zero]
          refine Rd.seq_floatL (.agg #[.int .i64 r, .int .i64 m, .slice (some ⟨b, 0, none⟩) L.length c]) (by simp only [List.getElem?_toArray, List.getElem?_cons_succ, List.getElem?_cons_zero]; rfl) (by rfl) rfl (by rfl) (fun X hX => run_load30 rfl rfl (HXB.out X hX)) ?_
          dsimp only [List.set_cons_succ, List.set_cons_zero]
          refine Rd.seq_floatL (.int .i64 x) (by simp only [List.getElem?_toArray, List.getElem?_cons_succ, List.getElem?_cons_zero]; rfl) (by rfl) rfl (by rfl) (fun X _ => by go_simp) ?_
          dsimp only [List.set_cons_succ, List.set_cons_zero]
          refine Rd.seq_floatL (.agg #[.int .i64 r, .int .i64 m, .slice (some ⟨b, 0, none⟩) L.length c]) (by simp only [List.getElem?_toArray, List.getElem?_cons_succ, List.getElem?_cons_zero]; rfl) (by rfl) rfl (by rfl) (fun X hX => run_load30 rfl rfl (HXB.out X hX)) ?_
          dsimp only [List.set_cons_succ, List.set_cons_zero]
          refine Rd.seq_floatL (.int .i64 p) (by simp only [List.getElem?_toArray, List.getElem?_cons_succ, List.getElem?_cons_zero]; rfl) (by rfl) rfl (by rfl) (fun X _ => by go_simp) ?_
          dsimp only [List.set_cons_succ, List.set_cons_zero]
          refine Rd.seq_move (by simp only [List.getElem?_toArray, List.getElem?_cons_succ, List.getElem?_cons_zero]; rfl) rfl (by rfl) (fun K hK => ?_)
          go_simp
          refine (HDY.out _ (by assumption)).mono ?_
          rintro e wi ⟨rfl, hbi⟩
          refine hK _ _ (fun _ => hbi) ?_
          clear hK K
          refine Rd.seq_move (by simp only [List.getElem?_toArray, List.getElem?_cons_succ, List.getElem?_cons_zero]; rfl) rfl (by rfl) (fun K hK => ?_)
          go_simp
          refine (HDX.out _ (by assumption)).mono ?_
          rintro e wi ⟨rfl, hbi⟩
          refine hK _ _ (fun _ => hbi) ?_
          clear hK K
          refine Rd.seq_floatL (.int .i64 (dy - dx)) (by simp only [List.getElem?_toArray, List.getElem?_cons_succ, List.getElem?_cons_zero]; rfl) (by rfl) rfl (by rfl) (fun X _ => by go_simp; exact HW.out.1) ?_
          dsimp only [List.set_cons_succ, List.set_cons_zero]
          refine Rd.seq_move (by simp only [List.getElem?_toArray, List.getElem?_cons_succ, List.getElem?_cons_zero]; rfl) rfl (by rfl) (fun K hK => ?_)
          go_simp
          refine (HDP.out _ (by assumption)).mono ?_
          rintro e wi ⟨rfl, hbi⟩
          refine hK _ _ (fun _ => hbi) ?_
          clear hK K
          refine Rd.seq_floatL (.int .i64 (dy - dx + dp)) (by simp only [List.getElem?_toArray, List.getElem?_cons_succ, List.getElem?_cons_zero]; rfl) (by rfl) rfl (by rfl) (fun X _ => by go_simp; exact HW.out.2.1) ?_
          dsimp only [List.set_cons_succ, List.set_cons_zero]
          refine Rd.seq_floatL (.int .i64 (dy - dx + dp + 1)) (by simp only [List.getElem?_toArray, List.getElem?_cons_succ, List.getElem?_cons_zero]; rfl) (by rfl) rfl (by rfl) (fun X _ => by go_simp; exact HW.out.2.2) ?_
          dsimp only [List.set_cons_succ, List.set_cons_zero]
          refine Rd.seq_floatL (.bool false) (by simp only [List.getElem?_toArray, List.getElem?_cons_succ, List.getElem?_cons_zero]; rfl) (by rfl) rfl (by rfl) (fun X _ => by go_simp) ?_
          dsimp only [List.set_cons_succ, List.set_cons_zero]
          refine Rd.seq_floatL (.bool false) (by simp only [List.getElem?_toArray, List.getElem?_cons_succ, List.getElem?_cons_zero]; rfl) (by rfl) rfl (by rfl) (fun X _ => by go_simp) ?_
          dsimp only [List.set_cons_succ, List.set_cons_zero]
          refine Rd.seq_end ?_
          go_wp2_with fail
          exact ⟨⟨k + 1, by omega, by go_num, HT3, hbi⟩, by simp [intOf]; omega⟩
    · obtain rfl : k = L.length := by omega
      have hX8 := HXB.out _ hb7
      have f0 := cF0 hX8
      have f1 := cF1 hX8
      have f2 := cF2 hX8
      have g1 := (HCL.out _ hb7).1
      clear hX8
      have wi := wr
      generalize hwi : wr = wi at *
      clear hwi
      have hbi := hb7
      go_wp2_with (first | (refine wpList_load30 rfl _ rfl w.heap.size r m (.slice (some ⟨b, 0, none⟩) L.length c) rfl (HXB.out _ (by assumption)) ?_) | (refine wpList_load_mid rfl 70 _ rfl b (j * 5) rfl _ _ (HCL.out _ (by assumption)).2 Try.underlying70 rfl Try.info70 ?_) | (refine wpList_alloc70 rfl rfl ?_; have hZg := Blk.new wi 70 #[.int .i64 0, .int .i64 0, .int .i64 0, .int .i64 0, .int .i64 0]; have hbg := Below.allocS hbi (.cells #[.int .i64 0, .int .i64 0, .int .i64 0, .int .i64 0, .int .i64 0] 70); have hltg : wi.heap.size < (wi.alloc (.cells #[.int .i64 0, .int .i64 0, .int .i64 0, .int .i64 0, .int .i64 0] 70)).heap.size := (by simp); have hleg := hbi.size; generalize wi.alloc (.cells #[.int .i64 0, .int .i64 0, .int .i64 0, .int .i64 0, .int .i64 0] 70) = wg at *) | (refine wpList_store70 rfl _ _ rfl wi.heap.size g rfl rfl hZg rfl ?_; intro wh hZh th; have hbh : Below w3.heap.size w3 wh := hbg.trans (th.below hleg); have fz := hZh.fz 1; have cx1 := cE1 hZh; have hZk : Blk (wh.setCell ⟨wi.heap.size, 1, none⟩ (.int .i64 p)) wi.heap.size 70 (cellsE ⟨g.id, p, g.wt, g.me, g.aw⟩) := hZh.set 1 _; have hbk : Below w3.heap.size w3 (wh.setCell ⟨wi.heap.size, 1, none⟩ (.int .i64 p)) := hbh.trans ((Turn.setCell wh wi.heap.size 1 _).below hleg)) | (refine wpList_load70 rfl _ rfl wi.heap.size ⟨g.id, p, g.wt, g.me, g.aw⟩ rfl hZk ?_) | (go_at_call 54; refine (HR.out.set _ ⟨g.id, p, g.wt, g.me, g.aw⟩ _ hj (by assumption)).mono ?_; rintro e wi ⟨⟨a', c', rfl, hr9⟩, hbi⟩) | (refine wpList_store30 rfl _ _ rfl (w.heap.size + 1) r m (.slice a' L.length c') rfl rfl (HZB.out _ (by assumption)) rfl rfl ?_; intro wz hZ9 t9))
      refine bodyPost_ret (resultsF_ct rfl _ wz (w.heap.size + 1) r m _ _ rfl rfl hZ9) rfl ?_
      rw [HC.out, HN.out]
      exact ⟨⟨_, rfl, a', c', by rw [List.length_set], by rw [List.length_set]; exact hr9.turn t9 (HZB.out _ hbi) (by decide)⟩, (HFin.out _ hbi).trans (t9.below (by omega))⟩
theorem rMove_any (x p : Int) (m0 k : Int) (w : World) (h : RowG w (.slice a L.length c) L) (ok : Ok L m0 k) :
    Calls Try.prog 27 #[.agg (cellsF r m (.slice a L.length c)), .int .i64 x, .int .i64 p] w fun e w' => (∃ v, e = .returned (.tuple #[v, .int .i64 (moveC L x p)]) ∧ DocF w' v r m (moveN L x p)) ∧ Below w.heap.size w w' := by
  cases hh : has L x with
  | false => exact rMove_noX r m a c L x p m0 k w h ok hh
  | true =>
  cases hq : has L p with
  | false => exact rMove_noP r m a c L x p m0 k w h ok hh hq
  | true =>
  rcases ok.pa hh with hp1 | hp1
  · exact rMove_root r m a c L x p m0 k w h ok hh hq hp1
  have hp : 0 ≤ (gr L x).pa := by have := ok.id hp1; omega
  by_cases ht : topI L x = topI L p
  case neg => exact rMove_domain r m a c L x p m0 k w h ok hh hq hp ht
  cases hbe : belowB L p x with
  | true => exact rMove_loop r m a c L x p m0 k w h ok hh hq hp ht hbe
  | false =>
  cases hde : deepB L x p with
  | true => exact rMove_deep r m a c L x p m0 k w h ok hh hq hp ht hbe hde
  | false =>
  by_cases hn : (gr L x).pa = p
  · exact rMove_stay r m a c L x p m0 k w h ok hh hq hp ht hbe hde hn
  by_cases h32 : fanI L p = 32
  · exact rMove_full r m a c L x p m0 k w h ok hh hq hp ht hbe hde hn h32
  · exact rMove_go r m a c L x p m0 k w h ok hh hq hp ht hbe hde hn h32
end
end Go.Proofs.Ythndfhkkaichiaa
