/-
  The document's New, AddRoot, Add, SetWeight, Count. Condition: the groups are a forest.
-/
import Derived.Test.YthndfhkkaichiaaXr
import Derived.Test.YthndfhkkaichiaaXl
namespace Go.Proofs.Ythndfhkkaichiaa
open Go.RowKit Go.Maps

/-- what is asked of the document's forest, in whatever world since. -/
structure Rdw (w1 : World) (r m : Int) (a : Option Addr) (c : Nat) (L : List Gr) : Prop where
  row : ∀ X, Below w1.heap.size w1 X → RowG X (.slice a L.length c) L
  at' : ∀ (y : Int) X, Below w1.heap.size w1 X → Calls Try.prog 50 #[.agg #[.int .i64 r, .int .i64 m, .slice a L.length c], .int .i64 y] X fun e w' => e = .returned (.int .i64 (atG L y)) ∧ Below w1.heap.size w1 w'
  dep : ∀ (y : Int) X, has L y = true → Below w1.heap.size w1 X → Calls Try.prog 34 #[.agg #[.int .i64 r, .int .i64 m, .slice a L.length c], .int .i64 y] X fun e w' => e = .returned (.int .i64 (dep L y)) ∧ Below w1.heap.size w1 w'
  top : ∀ (y : Int) X, has L y = true → Below w1.heap.size w1 X → Calls Try.prog 35 #[.agg #[.int .i64 r, .int .i64 m, .slice a L.length c], .int .i64 y] X fun e w' => e = .returned (.int .i64 (topI L y)) ∧ Below w1.heap.size w1 w'
  bel : ∀ (y t : Int) X, has L y = true → Below w1.heap.size w1 X → Calls Try.prog 53 #[.agg #[.int .i64 r, .int .i64 m, .slice a L.length c], .int .i64 y, .int .i64 t] X fun e w' => e = .returned (.bool (belowB L y t)) ∧ Below w1.heap.size w1 w'
  fan : ∀ (y : Int) X, has L y = true → Below w1.heap.size w1 X → Calls Try.prog 51 #[.agg #[.int .i64 r, .int .i64 m, .slice a L.length c], .int .i64 y] X fun e w' => e = .returned (.int .i64 (fanI L y)) ∧ Below w1.heap.size w1 w'
  more : ∀ (p wt : Int) X, 0 ≤ m ∧ m ≤ 1000 → Below w1.heap.size w1 X → Calls Try.prog 49 #[.agg #[.int .i64 r, .int .i64 m, .slice a L.length c], .int .i64 p, .int .i64 wt] X fun e w' => (∃ a' c', e = .returned (.tuple #[.agg #[.int .i64 r, .int .i64 (m + 1), .slice a' (addG L m p wt).length c'], .int .i64 (m + 1)]) ∧ RowG w' (.slice a' (addG L m p wt).length c') (addG L m p wt)) ∧ Below w1.heap.size w1 w'
  set : ∀ (i : Nat) (g : Gr) X, i < L.length → Below w1.heap.size w1 X → Calls Try.prog 54 #[.agg #[.int .i64 r, .int .i64 m, .slice a L.length c], .int .i64 (i : Int), .agg (cellsE g)] X fun e w' => (∃ a' c', e = .returned (.agg #[.int .i64 r, .int .i64 m, .slice a' L.length c']) ∧ RowG w' (.slice a' L.length c') (L.set i g)) ∧ Below w1.heap.size w1 w'
theorem Rdw.of {w w1 : World} {r m m0 k : Int} {a : Option Addr} {c : Nat} {L : List Gr} (h : RowG w (.slice a L.length c) L) (ok : Ok L m0 k) (hb : Below w.heap.size w w1) : Rdw w1 r m a c L where
  row := fun X hX => (h.below hb).below hX
  at' := fun y X hX => (At_any r m a c L y X ((h.below hb).below hX) ok.n64).mono (by rintro e w' ⟨rfl, hb'⟩; exact ⟨rfl, Below.stay hX hb'⟩)
  dep := fun y X hy hX => (rDepth_any r m a c L y m0 k X ((h.below hb).below hX) ok hy).mono (by rintro e w' ⟨rfl, hb'⟩; exact ⟨rfl, Below.stay hX hb'⟩)
  top := fun y X hy hX => (rRoot_any r m a c L y m0 k X ((h.below hb).below hX) ok hy).mono (by rintro e w' ⟨rfl, hb'⟩; exact ⟨rfl, Below.stay hX hb'⟩)
  bel := fun y t X hy hX => (rBelow_any r m a c L y t m0 k X ((h.below hb).below hX) ok hy).mono (by rintro e w' ⟨rfl, hb'⟩; exact ⟨rfl, Below.stay hX hb'⟩)
  fan := fun y X hy hX => (rFan_any r m a c L y m0 k X ((h.below hb).below hX) ok hy).mono (by rintro e w' ⟨rfl, hb'⟩; exact ⟨rfl, Below.stay hX hb'⟩)
  more := fun p wt X hm hX => (more_any r m p wt a c L X ((h.below hb).below hX) ok.n64 hm).mono (by rintro e w' ⟨⟨v, rfl, a', c', rfl, h'⟩, hb'⟩; exact ⟨⟨a', c', rfl, h'⟩, Below.stay hX hb'⟩)
  set := fun i g X hi hX => (rset_any r m a c L i g X ((h.below hb).below hX) ok.n64 hi).mono (by rintro e w' ⟨⟨v, rfl, a', c', rfl, h'⟩, hb'⟩; rw [List.length_set] at h' ⊢; exact ⟨⟨a', c', rfl, h'⟩, Below.stay hX hb'⟩)
set_option maxRecDepth 100000 in
set_option maxHeartbeats 4000000 in
theorem rNew_no (r : Int) (w : World) (hr : ¬ (1 ≤ r ∧ r ≤ 64)) :
    Calls Try.prog 10 #[.int .i64 r] w fun e w' => e = .returned (.tuple #[.agg (cellsF 0 0 (.slice none 0 0)), .int .i64 14]) ∧ Below w.heap.size w w' := by
  have hZ : Blk (w.alloc (.cells #[.int .i64 0, .int .i64 0, .slice none 0 0] 30)) w.heap.size 30 (cellsF 0 0 (.slice none 0 0)) := Blk.new w 30 _
  have hb : Below w.heap.size w (w.alloc (.cells #[.int .i64 0, .int .i64 0, .slice none 0 0] 30)) := (Below.refl _ w).alloc (Nat.le_refl _) _
  by_cases h1 : r < 1
  · go_enter Try.func10, Try.ntmps10
    go_wp2_with (first | (refine wpList_alloc30 rfl rfl ?_; generalize w.alloc (.cells #[.int .i64 0, .int .i64 0, .slice none 0 0] 30) = w1 at *) | (refine wpList_store30 rfl _ _ rfl w.heap.size 0 0 (.slice none 0 0) rfl rfl hZ rfl rfl ?_; intro wz hZ9 t9))
    refine bodyPost_ret (resultsF_ct rfl _ wz w.heap.size 0 0 (.slice none 0 0) _ rfl rfl hZ9) rfl ?_
    exact ⟨rfl, hb.trans (t9.below (Nat.le_refl _))⟩
  · have h2 : 64 < r := by omega
    go_enter Try.func10, Try.ntmps10
    go_wp2_with (first | (refine wpList_alloc30 rfl rfl ?_; generalize w.alloc (.cells #[.int .i64 0, .int .i64 0, .slice none 0 0] 30) = w1 at *) | (refine wpList_store30 rfl _ _ rfl w.heap.size 0 0 (.slice none 0 0) rfl rfl hZ rfl rfl ?_; intro wz hZ9 t9))
    refine bodyPost_ret (resultsF_ct rfl _ wz w.heap.size 0 0 (.slice none 0 0) _ rfl rfl hZ9) rfl ?_
    exact ⟨rfl, hb.trans (t9.below (Nat.le_refl _))⟩
set_option maxRecDepth 100000 in
set_option maxHeartbeats 4000000 in
theorem rNew_yes (r : Int) (w : World) (h1 : 1 ≤ r) (h2 : r ≤ 64) :
    Calls Try.prog 10 #[.int .i64 r] w fun e w' => (∃ v, e = .returned (.tuple #[v, .int .i64 0]) ∧ DocF w' v r 0 []) ∧ Below w.heap.size w w' := by
  have hZ : Blk (w.alloc (.cells #[.int .i64 0, .int .i64 0, .slice none 0 0] 30)) w.heap.size 30 (cellsF 0 0 (.slice none 0 0)) := Blk.new w 30 _
  have hb : Below w.heap.size w (w.alloc (.cells #[.int .i64 0, .int .i64 0, .slice none 0 0] 30)) := (Below.refl _ w).alloc (Nat.le_refl _) _
  have h3 : ¬ r < 1 := by omega
  have h4 : ¬ 64 < r := by omega
  go_enter Try.func10, Try.ntmps10
  go_wp2_with (first | (refine wpList_alloc30 rfl rfl ?_; generalize w.alloc (.cells #[.int .i64 0, .int .i64 0, .slice none 0 0] 30) = w1 at *) | (refine wpList_store30 rfl _ _ rfl w.heap.size r 0 (.slice none 0 0) rfl rfl hZ rfl rfl ?_; intro wz hZ9 t9))
  refine bodyPost_ret (resultsF_ct rfl _ wz w.heap.size r 0 (.slice none 0 0) _ rfl rfl hZ9) rfl ?_
  exact ⟨⟨_, rfl, none, 0, rfl, RowG.nil _⟩, hb.trans (t9.below (Nat.le_refl _))⟩
section
variable (r m : Int) (a : Option Addr) (c : Nat) (L : List Gr)
set_option maxRecDepth 100000 in
set_option maxHeartbeats 4000000 in
theorem rWeight_no (x wt : Int) (m0 k : Int) (w : World) (h : RowG w (.slice a L.length c) L) (ok : Ok L m0 k) (hh : has L x = false) :
    Calls Try.prog 29 #[.agg (cellsF r m (.slice a L.length c)), .int .i64 x, .int .i64 wt] w fun e w' => (∃ v, e = .returned (.tuple #[v, .int .i64 (weightC L x wt)]) ∧ DocF w' v r m (weightN L x wt)) ∧ Below w.heap.size w w' := by
  have hc : weightC L x wt = 4 := by unfold weightC; rw [if_pos hh]
  have HC := Lib.hid hc
  have HN : Hid (weightN L x wt = L) := Lib.hid (by unfold weightN; rw [hc]; rfl)
  have hx0 : Blk ((w.alloc (.cells #[.int .i64 r, .int .i64 m, .slice a L.length c] 30)).alloc (.cells #[.int .i64 0, .int .i64 0, .slice none 0 0] 30)) w.heap.size 30 (cellsF r m (.slice a L.length c)) := (Blk.new w 30 _).alloc _
  have hZ0 : Blk ((w.alloc (.cells #[.int .i64 r, .int .i64 m, .slice a L.length c] 30)).alloc (.cells #[.int .i64 0, .int .i64 0, .slice none 0 0] 30)) (w.heap.size + 1) 30 (cellsF 0 0 (.slice none 0 0)) := by
    have := Blk.new (w.alloc (.cells #[.int .i64 r, .int .i64 m, .slice a L.length c] 30)) 30 (cellsF 0 0 (.slice none 0 0))
    have e : (w.alloc (.cells #[.int .i64 r, .int .i64 m, .slice a L.length c] 30)).heap.size = w.heap.size + 1 := by simp
    rw [e] at this
    exact this
  have hb : Below w.heap.size w ((w.alloc (.cells #[.int .i64 r, .int .i64 m, .slice a L.length c] 30)).alloc (.cells #[.int .i64 0, .int .i64 0, .slice none 0 0] 30)) := ((Below.refl _ w).alloc (Nat.le_refl _) _).alloc (by simp) _
  have hsz : w.heap.size + 2 ≤ ((w.alloc (.cells #[.int .i64 r, .int .i64 m, .slice a L.length c] 30)).alloc (.cells #[.int .i64 0, .int .i64 0, .slice none 0 0] 30)).heap.size := by simp
  have HR : Hid (Rdw ((w.alloc (.cells #[.int .i64 r, .int .i64 m, .slice a L.length c] 30)).alloc (.cells #[.int .i64 0, .int .i64 0, .slice none 0 0] 30)) r m a c L) := Lib.hid (Rdw.of h ok hb)
  have HXB : Hid (∀ X, Below ((w.alloc (.cells #[.int .i64 r, .int .i64 m, .slice a L.length c] 30)).alloc (.cells #[.int .i64 0, .int .i64 0, .slice none 0 0] 30)).heap.size ((w.alloc (.cells #[.int .i64 r, .int .i64 m, .slice a L.length c] 30)).alloc (.cells #[.int .i64 0, .int .i64 0, .slice none 0 0] 30)) X → Blk X w.heap.size 30 (cellsF r m (.slice a L.length c))) := Lib.hid fun X hX => hx0.below hX
  have HZB : Hid (∀ X, Below ((w.alloc (.cells #[.int .i64 r, .int .i64 m, .slice a L.length c] 30)).alloc (.cells #[.int .i64 0, .int .i64 0, .slice none 0 0] 30)).heap.size ((w.alloc (.cells #[.int .i64 r, .int .i64 m, .slice a L.length c] 30)).alloc (.cells #[.int .i64 0, .int .i64 0, .slice none 0 0] 30)) X → Blk X (w.heap.size + 1) 30 (cellsF 0 0 (.slice none 0 0))) := Lib.hid fun X hX => hZ0.below hX
  have HFin : Hid (∀ X, Below ((w.alloc (.cells #[.int .i64 r, .int .i64 m, .slice a L.length c] 30)).alloc (.cells #[.int .i64 0, .int .i64 0, .slice none 0 0] 30)).heap.size ((w.alloc (.cells #[.int .i64 r, .int .i64 m, .slice a L.length c] 30)).alloc (.cells #[.int .i64 0, .int .i64 0, .slice none 0 0] 30)) X → Below w.heap.size w X) := Lib.hid fun X hX => hb.trans (hX.mono (by omega))
  have HA : Hid (atG L x = -1) := Lib.hid (atG_no hh)
  clear hh
  clear hc h ok
  unfold cellsF
  go_enter Try.func29, Try.ntmps29
  go_wp2_with (first | (have hgd := hx0; refine wpList_alloc30 rfl rfl ?_; clear hgd; generalize ((w.alloc (.cells #[.int .i64 r, .int .i64 m, .slice a L.length c] 30)).alloc (.cells #[.int .i64 0, .int .i64 0, .slice none 0 0] 30)) = w3 at *; have hbi := Below.refl w3.heap.size w3; clear hx0 hZ0 hb) | (go_at_call 50; refine (HR.out.at' _ _ (by assumption)).mono ?_; rw [HA.out]; rintro e wi ⟨rfl, hbi⟩) | (refine wpList_load30 rfl _ rfl w.heap.size r m (.slice a L.length c) rfl (HXB.out _ (by assumption)) ?_) | (refine wpList_store30 rfl _ _ rfl (w.heap.size + 1) r m (.slice a L.length c) rfl rfl (HZB.out _ (by assumption)) rfl rfl ?_; intro wz hZ9 t9))
  refine bodyPost_ret (resultsF_ct rfl _ wz (w.heap.size + 1) r m (.slice a L.length c) _ rfl rfl hZ9) rfl ?_
  rw [HC.out, HN.out]
  exact ⟨⟨_, rfl, a, c, rfl, (HR.out.row _ hbi).turn t9 (HZB.out _ hbi) (by decide)⟩, (HFin.out _ hbi).trans (t9.below (by omega))⟩
set_option maxRecDepth 100000 in
set_option maxHeartbeats 4000000 in
theorem rWeight_root (x wt : Int) (m0 k : Int) (w : World) (h : RowG w (.slice a L.length c) L) (ok : Ok L m0 k) (hh : has L x = true) (hp : (gr L x).pa = -1) :
    Calls Try.prog 29 #[.agg (cellsF r m (.slice a L.length c)), .int .i64 x, .int .i64 wt] w fun e w' => (∃ v, e = .returned (.tuple #[v, .int .i64 (weightC L x wt)]) ∧ DocF w' v r m (weightN L x wt)) ∧ Below w.heap.size w w' := by
  have hc : weightC L x wt = 15 := by unfold weightC; rw [if_neg (by rw [hh]; decide), if_pos (by omega)]
  have HC := Lib.hid hc
  have HN : Hid (weightN L x wt = L) := Lib.hid (by unfold weightN; rw [hc]; rfl)
  have hx0 : Blk ((w.alloc (.cells #[.int .i64 r, .int .i64 m, .slice a L.length c] 30)).alloc (.cells #[.int .i64 0, .int .i64 0, .slice none 0 0] 30)) w.heap.size 30 (cellsF r m (.slice a L.length c)) := (Blk.new w 30 _).alloc _
  have hZ0 : Blk ((w.alloc (.cells #[.int .i64 r, .int .i64 m, .slice a L.length c] 30)).alloc (.cells #[.int .i64 0, .int .i64 0, .slice none 0 0] 30)) (w.heap.size + 1) 30 (cellsF 0 0 (.slice none 0 0)) := by
    have := Blk.new (w.alloc (.cells #[.int .i64 r, .int .i64 m, .slice a L.length c] 30)) 30 (cellsF 0 0 (.slice none 0 0))
    have e : (w.alloc (.cells #[.int .i64 r, .int .i64 m, .slice a L.length c] 30)).heap.size = w.heap.size + 1 := by simp
    rw [e] at this
    exact this
  have hb : Below w.heap.size w ((w.alloc (.cells #[.int .i64 r, .int .i64 m, .slice a L.length c] 30)).alloc (.cells #[.int .i64 0, .int .i64 0, .slice none 0 0] 30)) := ((Below.refl _ w).alloc (Nat.le_refl _) _).alloc (by simp) _
  have hsz : w.heap.size + 2 ≤ ((w.alloc (.cells #[.int .i64 r, .int .i64 m, .slice a L.length c] 30)).alloc (.cells #[.int .i64 0, .int .i64 0, .slice none 0 0] 30)).heap.size := by simp
  have HR : Hid (Rdw ((w.alloc (.cells #[.int .i64 r, .int .i64 m, .slice a L.length c] 30)).alloc (.cells #[.int .i64 0, .int .i64 0, .slice none 0 0] 30)) r m a c L) := Lib.hid (Rdw.of h ok hb)
  have HXB : Hid (∀ X, Below ((w.alloc (.cells #[.int .i64 r, .int .i64 m, .slice a L.length c] 30)).alloc (.cells #[.int .i64 0, .int .i64 0, .slice none 0 0] 30)).heap.size ((w.alloc (.cells #[.int .i64 r, .int .i64 m, .slice a L.length c] 30)).alloc (.cells #[.int .i64 0, .int .i64 0, .slice none 0 0] 30)) X → Blk X w.heap.size 30 (cellsF r m (.slice a L.length c))) := Lib.hid fun X hX => hx0.below hX
  have HZB : Hid (∀ X, Below ((w.alloc (.cells #[.int .i64 r, .int .i64 m, .slice a L.length c] 30)).alloc (.cells #[.int .i64 0, .int .i64 0, .slice none 0 0] 30)).heap.size ((w.alloc (.cells #[.int .i64 r, .int .i64 m, .slice a L.length c] 30)).alloc (.cells #[.int .i64 0, .int .i64 0, .slice none 0 0] 30)) X → Blk X (w.heap.size + 1) 30 (cellsF 0 0 (.slice none 0 0))) := Lib.hid fun X hX => hZ0.below hX
  have HFin : Hid (∀ X, Below ((w.alloc (.cells #[.int .i64 r, .int .i64 m, .slice a L.length c] 30)).alloc (.cells #[.int .i64 0, .int .i64 0, .slice none 0 0] 30)).heap.size ((w.alloc (.cells #[.int .i64 r, .int .i64 m, .slice a L.length c] 30)).alloc (.cells #[.int .i64 0, .int .i64 0, .slice none 0 0] 30)) X → Below w.heap.size w X) := Lib.hid fun X hX => hb.trans (hX.mono (by omega))
  have HA : Hid (atG L x = (pos L x : Int)) := Lib.hid (atG_yes hh)
  have HH := Lib.hid hh
  have hj := has_pos hh
  obtain ⟨b, rfl, hcl⟩ := h.at hj
  have HCL : Hid (∀ X, Below ((w.alloc (.cells #[.int .i64 r, .int .i64 m, .slice (some ⟨b, 0, none⟩) L.length c] 30)).alloc (.cells #[.int .i64 0, .int .i64 0, .slice none 0 0] 30)).heap.size ((w.alloc (.cells #[.int .i64 r, .int .i64 m, .slice (some ⟨b, 0, none⟩) L.length c] 30)).alloc (.cells #[.int .i64 0, .int .i64 0, .slice none 0 0] 30)) X → X.cell? ⟨b, pos L x * 5 + 1, none⟩ = some (.int .i64 (gr L x).pa) ∧ X.rangeAt b (pos L x * 5) (cellsE (gr L x)).toList) := Lib.hid fun X hX => ⟨((hcl.below hb).below hX).pa hj, ((hcl.below hb).below hX).range hj⟩
  rw [hp] at HCL
  clear hh hp
  generalize pos L x = j at *
  clear hc h ok
  unfold cellsF
  go_enter Try.func29, Try.ntmps29
  go_wp2_with (first | (have hgd := hx0; refine wpList_alloc30 rfl rfl ?_; clear hgd; generalize ((w.alloc (.cells #[.int .i64 r, .int .i64 m, .slice (some ⟨b, 0, none⟩) L.length c] 30)).alloc (.cells #[.int .i64 0, .int .i64 0, .slice none 0 0] 30)) = w3 at *; have hbi := Below.refl w3.heap.size w3; clear hx0 hZ0 hb) | (go_at_call 50; refine (HR.out.at' _ _ (by assumption)).mono ?_; rw [HA.out]; rintro e wi ⟨rfl, hbi⟩; have hX2 := HXB.out wi hbi; have f0 := cF0 hX2; have f1 := cF1 hX2; have f2 := cF2 hX2; clear hX2; have g1 := (HCL.out wi hbi).1) | (refine wpList_load30 rfl _ rfl w.heap.size r m (.slice (some ⟨b, 0, none⟩) L.length c) rfl (HXB.out _ (by assumption)) ?_) | (refine wpList_store30 rfl _ _ rfl (w.heap.size + 1) r m (.slice (some ⟨b, 0, none⟩) L.length c) rfl rfl (HZB.out _ (by assumption)) rfl rfl ?_; intro wz hZ9 t9))
  refine bodyPost_ret (resultsF_ct rfl _ wz (w.heap.size + 1) r m (.slice (some ⟨b, 0, none⟩) L.length c) _ rfl rfl hZ9) rfl ?_
  rw [HC.out, HN.out]
  exact ⟨⟨_, rfl, some ⟨b, 0, none⟩, c, rfl, (HR.out.row _ hbi).turn t9 (HZB.out _ hbi) (by decide)⟩, (HFin.out _ hbi).trans (t9.below (by omega))⟩
set_option maxRecDepth 100000 in
set_option maxHeartbeats 4000000 in
theorem rWeight_bad1 (x wt : Int) (m0 k : Int) (w : World) (h : RowG w (.slice a L.length c) L) (ok : Ok L m0 k) (hh : has L x = true) (hp : 0 ≤ (gr L x).pa) (hw : wt < 1) :
    Calls Try.prog 29 #[.agg (cellsF r m (.slice a L.length c)), .int .i64 x, .int .i64 wt] w fun e w' => (∃ v, e = .returned (.tuple #[v, .int .i64 (weightC L x wt)]) ∧ DocF w' v r m (weightN L x wt)) ∧ Below w.heap.size w w' := by
  have hc : weightC L x wt = 13 := by unfold weightC; rw [if_neg (by rw [hh]; decide), if_neg (by omega), if_pos (by omega)]
  have HC := Lib.hid hc
  have HN : Hid (weightN L x wt = L) := Lib.hid (by unfold weightN; rw [hc]; rfl)
  have hx0 : Blk ((w.alloc (.cells #[.int .i64 r, .int .i64 m, .slice a L.length c] 30)).alloc (.cells #[.int .i64 0, .int .i64 0, .slice none 0 0] 30)) w.heap.size 30 (cellsF r m (.slice a L.length c)) := (Blk.new w 30 _).alloc _
  have hZ0 : Blk ((w.alloc (.cells #[.int .i64 r, .int .i64 m, .slice a L.length c] 30)).alloc (.cells #[.int .i64 0, .int .i64 0, .slice none 0 0] 30)) (w.heap.size + 1) 30 (cellsF 0 0 (.slice none 0 0)) := by
    have := Blk.new (w.alloc (.cells #[.int .i64 r, .int .i64 m, .slice a L.length c] 30)) 30 (cellsF 0 0 (.slice none 0 0))
    have e : (w.alloc (.cells #[.int .i64 r, .int .i64 m, .slice a L.length c] 30)).heap.size = w.heap.size + 1 := by simp
    rw [e] at this
    exact this
  have hb : Below w.heap.size w ((w.alloc (.cells #[.int .i64 r, .int .i64 m, .slice a L.length c] 30)).alloc (.cells #[.int .i64 0, .int .i64 0, .slice none 0 0] 30)) := ((Below.refl _ w).alloc (Nat.le_refl _) _).alloc (by simp) _
  have hsz : w.heap.size + 2 ≤ ((w.alloc (.cells #[.int .i64 r, .int .i64 m, .slice a L.length c] 30)).alloc (.cells #[.int .i64 0, .int .i64 0, .slice none 0 0] 30)).heap.size := by simp
  have HR : Hid (Rdw ((w.alloc (.cells #[.int .i64 r, .int .i64 m, .slice a L.length c] 30)).alloc (.cells #[.int .i64 0, .int .i64 0, .slice none 0 0] 30)) r m a c L) := Lib.hid (Rdw.of h ok hb)
  have HXB : Hid (∀ X, Below ((w.alloc (.cells #[.int .i64 r, .int .i64 m, .slice a L.length c] 30)).alloc (.cells #[.int .i64 0, .int .i64 0, .slice none 0 0] 30)).heap.size ((w.alloc (.cells #[.int .i64 r, .int .i64 m, .slice a L.length c] 30)).alloc (.cells #[.int .i64 0, .int .i64 0, .slice none 0 0] 30)) X → Blk X w.heap.size 30 (cellsF r m (.slice a L.length c))) := Lib.hid fun X hX => hx0.below hX
  have HZB : Hid (∀ X, Below ((w.alloc (.cells #[.int .i64 r, .int .i64 m, .slice a L.length c] 30)).alloc (.cells #[.int .i64 0, .int .i64 0, .slice none 0 0] 30)).heap.size ((w.alloc (.cells #[.int .i64 r, .int .i64 m, .slice a L.length c] 30)).alloc (.cells #[.int .i64 0, .int .i64 0, .slice none 0 0] 30)) X → Blk X (w.heap.size + 1) 30 (cellsF 0 0 (.slice none 0 0))) := Lib.hid fun X hX => hZ0.below hX
  have HFin : Hid (∀ X, Below ((w.alloc (.cells #[.int .i64 r, .int .i64 m, .slice a L.length c] 30)).alloc (.cells #[.int .i64 0, .int .i64 0, .slice none 0 0] 30)).heap.size ((w.alloc (.cells #[.int .i64 r, .int .i64 m, .slice a L.length c] 30)).alloc (.cells #[.int .i64 0, .int .i64 0, .slice none 0 0] 30)) X → Below w.heap.size w X) := Lib.hid fun X hX => hb.trans (hX.mono (by omega))
  have HA : Hid (atG L x = (pos L x : Int)) := Lib.hid (atG_yes hh)
  have HH := Lib.hid hh
  have hj := has_pos hh
  obtain ⟨b, rfl, hcl⟩ := h.at hj
  have HCL : Hid (∀ X, Below ((w.alloc (.cells #[.int .i64 r, .int .i64 m, .slice (some ⟨b, 0, none⟩) L.length c] 30)).alloc (.cells #[.int .i64 0, .int .i64 0, .slice none 0 0] 30)).heap.size ((w.alloc (.cells #[.int .i64 r, .int .i64 m, .slice (some ⟨b, 0, none⟩) L.length c] 30)).alloc (.cells #[.int .i64 0, .int .i64 0, .slice none 0 0] 30)) X → X.cell? ⟨b, pos L x * 5 + 1, none⟩ = some (.int .i64 (gr L x).pa) ∧ X.rangeAt b (pos L x * 5) (cellsE (gr L x)).toList) := Lib.hid fun X hX => ⟨((hcl.below hb).below hX).pa hj, ((hcl.below hb).below hX).range hj⟩
  clear hh
  skip
  generalize (gr L x).pa = pa at *
  generalize pos L x = j at *
  clear hc h ok
  unfold cellsF
  go_enter Try.func29, Try.ntmps29
  go_wp2_with (first | (have hgd := hx0; refine wpList_alloc30 rfl rfl ?_; clear hgd; generalize ((w.alloc (.cells #[.int .i64 r, .int .i64 m, .slice (some ⟨b, 0, none⟩) L.length c] 30)).alloc (.cells #[.int .i64 0, .int .i64 0, .slice none 0 0] 30)) = w3 at *; have hbi := Below.refl w3.heap.size w3; clear hx0 hZ0 hb) | (go_at_call 50; refine (HR.out.at' _ _ (by assumption)).mono ?_; rw [HA.out]; rintro e wi ⟨rfl, hbi⟩; have hX2 := HXB.out wi hbi; have f0 := cF0 hX2; have f1 := cF1 hX2; have f2 := cF2 hX2; clear hX2; have g1 := (HCL.out wi hbi).1) | (refine wpList_load30 rfl _ rfl w.heap.size r m (.slice (some ⟨b, 0, none⟩) L.length c) rfl (HXB.out _ (by assumption)) ?_) | (refine wpList_store30 rfl _ _ rfl (w.heap.size + 1) r m (.slice (some ⟨b, 0, none⟩) L.length c) rfl rfl (HZB.out _ (by assumption)) rfl rfl ?_; intro wz hZ9 t9))
  refine bodyPost_ret (resultsF_ct rfl _ wz (w.heap.size + 1) r m (.slice (some ⟨b, 0, none⟩) L.length c) _ rfl rfl hZ9) rfl ?_
  rw [HC.out, HN.out]
  exact ⟨⟨_, rfl, some ⟨b, 0, none⟩, c, rfl, (HR.out.row _ hbi).turn t9 (HZB.out _ hbi) (by decide)⟩, (HFin.out _ hbi).trans (t9.below (by omega))⟩
set_option maxRecDepth 100000 in
set_option maxHeartbeats 4000000 in
theorem rWeight_bad2 (x wt : Int) (m0 k : Int) (w : World) (h : RowG w (.slice a L.length c) L) (ok : Ok L m0 k) (hh : has L x = true) (hp : 0 ≤ (gr L x).pa) (hw : 10000 < wt) :
    Calls Try.prog 29 #[.agg (cellsF r m (.slice a L.length c)), .int .i64 x, .int .i64 wt] w fun e w' => (∃ v, e = .returned (.tuple #[v, .int .i64 (weightC L x wt)]) ∧ DocF w' v r m (weightN L x wt)) ∧ Below w.heap.size w w' := by
  have hc : weightC L x wt = 13 := by unfold weightC; rw [if_neg (by rw [hh]; decide), if_neg (by omega), if_pos (by omega)]
  have HC := Lib.hid hc
  have HN : Hid (weightN L x wt = L) := Lib.hid (by unfold weightN; rw [hc]; rfl)
  have hx0 : Blk ((w.alloc (.cells #[.int .i64 r, .int .i64 m, .slice a L.length c] 30)).alloc (.cells #[.int .i64 0, .int .i64 0, .slice none 0 0] 30)) w.heap.size 30 (cellsF r m (.slice a L.length c)) := (Blk.new w 30 _).alloc _
  have hZ0 : Blk ((w.alloc (.cells #[.int .i64 r, .int .i64 m, .slice a L.length c] 30)).alloc (.cells #[.int .i64 0, .int .i64 0, .slice none 0 0] 30)) (w.heap.size + 1) 30 (cellsF 0 0 (.slice none 0 0)) := by
    have := Blk.new (w.alloc (.cells #[.int .i64 r, .int .i64 m, .slice a L.length c] 30)) 30 (cellsF 0 0 (.slice none 0 0))
    have e : (w.alloc (.cells #[.int .i64 r, .int .i64 m, .slice a L.length c] 30)).heap.size = w.heap.size + 1 := by simp
    rw [e] at this
    exact this
  have hb : Below w.heap.size w ((w.alloc (.cells #[.int .i64 r, .int .i64 m, .slice a L.length c] 30)).alloc (.cells #[.int .i64 0, .int .i64 0, .slice none 0 0] 30)) := ((Below.refl _ w).alloc (Nat.le_refl _) _).alloc (by simp) _
  have hsz : w.heap.size + 2 ≤ ((w.alloc (.cells #[.int .i64 r, .int .i64 m, .slice a L.length c] 30)).alloc (.cells #[.int .i64 0, .int .i64 0, .slice none 0 0] 30)).heap.size := by simp
  have HR : Hid (Rdw ((w.alloc (.cells #[.int .i64 r, .int .i64 m, .slice a L.length c] 30)).alloc (.cells #[.int .i64 0, .int .i64 0, .slice none 0 0] 30)) r m a c L) := Lib.hid (Rdw.of h ok hb)
  have HXB : Hid (∀ X, Below ((w.alloc (.cells #[.int .i64 r, .int .i64 m, .slice a L.length c] 30)).alloc (.cells #[.int .i64 0, .int .i64 0, .slice none 0 0] 30)).heap.size ((w.alloc (.cells #[.int .i64 r, .int .i64 m, .slice a L.length c] 30)).alloc (.cells #[.int .i64 0, .int .i64 0, .slice none 0 0] 30)) X → Blk X w.heap.size 30 (cellsF r m (.slice a L.length c))) := Lib.hid fun X hX => hx0.below hX
  have HZB : Hid (∀ X, Below ((w.alloc (.cells #[.int .i64 r, .int .i64 m, .slice a L.length c] 30)).alloc (.cells #[.int .i64 0, .int .i64 0, .slice none 0 0] 30)).heap.size ((w.alloc (.cells #[.int .i64 r, .int .i64 m, .slice a L.length c] 30)).alloc (.cells #[.int .i64 0, .int .i64 0, .slice none 0 0] 30)) X → Blk X (w.heap.size + 1) 30 (cellsF 0 0 (.slice none 0 0))) := Lib.hid fun X hX => hZ0.below hX
  have HFin : Hid (∀ X, Below ((w.alloc (.cells #[.int .i64 r, .int .i64 m, .slice a L.length c] 30)).alloc (.cells #[.int .i64 0, .int .i64 0, .slice none 0 0] 30)).heap.size ((w.alloc (.cells #[.int .i64 r, .int .i64 m, .slice a L.length c] 30)).alloc (.cells #[.int .i64 0, .int .i64 0, .slice none 0 0] 30)) X → Below w.heap.size w X) := Lib.hid fun X hX => hb.trans (hX.mono (by omega))
  have HA : Hid (atG L x = (pos L x : Int)) := Lib.hid (atG_yes hh)
  have HH := Lib.hid hh
  have hj := has_pos hh
  obtain ⟨b, rfl, hcl⟩ := h.at hj
  have HCL : Hid (∀ X, Below ((w.alloc (.cells #[.int .i64 r, .int .i64 m, .slice (some ⟨b, 0, none⟩) L.length c] 30)).alloc (.cells #[.int .i64 0, .int .i64 0, .slice none 0 0] 30)).heap.size ((w.alloc (.cells #[.int .i64 r, .int .i64 m, .slice (some ⟨b, 0, none⟩) L.length c] 30)).alloc (.cells #[.int .i64 0, .int .i64 0, .slice none 0 0] 30)) X → X.cell? ⟨b, pos L x * 5 + 1, none⟩ = some (.int .i64 (gr L x).pa) ∧ X.rangeAt b (pos L x * 5) (cellsE (gr L x)).toList) := Lib.hid fun X hX => ⟨((hcl.below hb).below hX).pa hj, ((hcl.below hb).below hX).range hj⟩
  clear hh
  have hw1 : ¬ wt < 1 := by omega
  generalize (gr L x).pa = pa at *
  generalize pos L x = j at *
  clear hc h ok
  unfold cellsF
  go_enter Try.func29, Try.ntmps29
  go_wp2_with (first | (have hgd := hx0; refine wpList_alloc30 rfl rfl ?_; clear hgd; generalize ((w.alloc (.cells #[.int .i64 r, .int .i64 m, .slice (some ⟨b, 0, none⟩) L.length c] 30)).alloc (.cells #[.int .i64 0, .int .i64 0, .slice none 0 0] 30)) = w3 at *; have hbi := Below.refl w3.heap.size w3; clear hx0 hZ0 hb) | (go_at_call 50; refine (HR.out.at' _ _ (by assumption)).mono ?_; rw [HA.out]; rintro e wi ⟨rfl, hbi⟩; have hX2 := HXB.out wi hbi; have f0 := cF0 hX2; have f1 := cF1 hX2; have f2 := cF2 hX2; clear hX2; have g1 := (HCL.out wi hbi).1) | (refine wpList_load30 rfl _ rfl w.heap.size r m (.slice (some ⟨b, 0, none⟩) L.length c) rfl (HXB.out _ (by assumption)) ?_) | (refine wpList_store30 rfl _ _ rfl (w.heap.size + 1) r m (.slice (some ⟨b, 0, none⟩) L.length c) rfl rfl (HZB.out _ (by assumption)) rfl rfl ?_; intro wz hZ9 t9))
  refine bodyPost_ret (resultsF_ct rfl _ wz (w.heap.size + 1) r m (.slice (some ⟨b, 0, none⟩) L.length c) _ rfl rfl hZ9) rfl ?_
  rw [HC.out, HN.out]
  exact ⟨⟨_, rfl, some ⟨b, 0, none⟩, c, rfl, (HR.out.row _ hbi).turn t9 (HZB.out _ hbi) (by decide)⟩, (HFin.out _ hbi).trans (t9.below (by omega))⟩
set_option maxRecDepth 100000 in
set_option maxHeartbeats 4000000 in
theorem rWeight_yes (x wt : Int) (m0 k : Int) (w : World) (h : RowG w (.slice a L.length c) L) (ok : Ok L m0 k) (hh : has L x = true) (hp : 0 ≤ (gr L x).pa) (hw : 1 ≤ wt ∧ wt ≤ 10000) :
    Calls Try.prog 29 #[.agg (cellsF r m (.slice a L.length c)), .int .i64 x, .int .i64 wt] w fun e w' => (∃ v, e = .returned (.tuple #[v, .int .i64 (weightC L x wt)]) ∧ DocF w' v r m (weightN L x wt)) ∧ Below w.heap.size w w' := by
  have hc : weightC L x wt = 0 := by unfold weightC; rw [if_neg (by rw [hh]; decide), if_neg (by omega), if_neg (by omega)]
  have HC := Lib.hid hc
  have HN : Hid (weightN L x wt = weightG L x wt) := Lib.hid (by unfold weightN; rw [hc]; rfl)
  have hx0 : Blk ((w.alloc (.cells #[.int .i64 r, .int .i64 m, .slice a L.length c] 30)).alloc (.cells #[.int .i64 0, .int .i64 0, .slice none 0 0] 30)) w.heap.size 30 (cellsF r m (.slice a L.length c)) := (Blk.new w 30 _).alloc _
  have hZ0 : Blk ((w.alloc (.cells #[.int .i64 r, .int .i64 m, .slice a L.length c] 30)).alloc (.cells #[.int .i64 0, .int .i64 0, .slice none 0 0] 30)) (w.heap.size + 1) 30 (cellsF 0 0 (.slice none 0 0)) := by
    have := Blk.new (w.alloc (.cells #[.int .i64 r, .int .i64 m, .slice a L.length c] 30)) 30 (cellsF 0 0 (.slice none 0 0))
    have e : (w.alloc (.cells #[.int .i64 r, .int .i64 m, .slice a L.length c] 30)).heap.size = w.heap.size + 1 := by simp
    rw [e] at this
    exact this
  have hb : Below w.heap.size w ((w.alloc (.cells #[.int .i64 r, .int .i64 m, .slice a L.length c] 30)).alloc (.cells #[.int .i64 0, .int .i64 0, .slice none 0 0] 30)) := ((Below.refl _ w).alloc (Nat.le_refl _) _).alloc (by simp) _
  have hsz : w.heap.size + 2 ≤ ((w.alloc (.cells #[.int .i64 r, .int .i64 m, .slice a L.length c] 30)).alloc (.cells #[.int .i64 0, .int .i64 0, .slice none 0 0] 30)).heap.size := by simp
  have HR : Hid (Rdw ((w.alloc (.cells #[.int .i64 r, .int .i64 m, .slice a L.length c] 30)).alloc (.cells #[.int .i64 0, .int .i64 0, .slice none 0 0] 30)) r m a c L) := Lib.hid (Rdw.of h ok hb)
  have HXB : Hid (∀ X, Below ((w.alloc (.cells #[.int .i64 r, .int .i64 m, .slice a L.length c] 30)).alloc (.cells #[.int .i64 0, .int .i64 0, .slice none 0 0] 30)).heap.size ((w.alloc (.cells #[.int .i64 r, .int .i64 m, .slice a L.length c] 30)).alloc (.cells #[.int .i64 0, .int .i64 0, .slice none 0 0] 30)) X → Blk X w.heap.size 30 (cellsF r m (.slice a L.length c))) := Lib.hid fun X hX => hx0.below hX
  have HZB : Hid (∀ X, Below ((w.alloc (.cells #[.int .i64 r, .int .i64 m, .slice a L.length c] 30)).alloc (.cells #[.int .i64 0, .int .i64 0, .slice none 0 0] 30)).heap.size ((w.alloc (.cells #[.int .i64 r, .int .i64 m, .slice a L.length c] 30)).alloc (.cells #[.int .i64 0, .int .i64 0, .slice none 0 0] 30)) X → Blk X (w.heap.size + 1) 30 (cellsF 0 0 (.slice none 0 0))) := Lib.hid fun X hX => hZ0.below hX
  have HFin : Hid (∀ X, Below ((w.alloc (.cells #[.int .i64 r, .int .i64 m, .slice a L.length c] 30)).alloc (.cells #[.int .i64 0, .int .i64 0, .slice none 0 0] 30)).heap.size ((w.alloc (.cells #[.int .i64 r, .int .i64 m, .slice a L.length c] 30)).alloc (.cells #[.int .i64 0, .int .i64 0, .slice none 0 0] 30)) X → Below w.heap.size w X) := Lib.hid fun X hX => hb.trans (hX.mono (by omega))
  have HA : Hid (atG L x = (pos L x : Int)) := Lib.hid (atG_yes hh)
  have HH := Lib.hid hh
  have hj := has_pos hh
  obtain ⟨b, rfl, hcl⟩ := h.at hj
  have HCL : Hid (∀ X, Below ((w.alloc (.cells #[.int .i64 r, .int .i64 m, .slice (some ⟨b, 0, none⟩) L.length c] 30)).alloc (.cells #[.int .i64 0, .int .i64 0, .slice none 0 0] 30)).heap.size ((w.alloc (.cells #[.int .i64 r, .int .i64 m, .slice (some ⟨b, 0, none⟩) L.length c] 30)).alloc (.cells #[.int .i64 0, .int .i64 0, .slice none 0 0] 30)) X → X.cell? ⟨b, pos L x * 5 + 1, none⟩ = some (.int .i64 (gr L x).pa) ∧ X.rangeAt b (pos L x * 5) (cellsE (gr L x)).toList) := Lib.hid fun X hX => ⟨((hcl.below hb).below hX).pa hj, ((hcl.below hb).below hX).range hj⟩
  have HGG : Hid (weightG L x wt = L.set (pos L x) ⟨(gr L x).id, (gr L x).pa, wt, (gr L x).me, (gr L x).aw⟩) := Lib.hid (by unfold weightG setG; rw [gr_id hh])
  rw [HGG.out] at HN
  have hw1 : ¬ wt < 1 := by omega
  have hw2 : ¬ 10000 < wt := by omega
  clear hh hw HGG
  generalize gr L x = g at *
  generalize pos L x = j at *
  clear hc h ok
  unfold cellsF
  go_enter Try.func29, Try.ntmps29
  go_wp2_with (first | (have hgd := hx0; refine wpList_alloc30 rfl rfl ?_; clear hgd; generalize ((w.alloc (.cells #[.int .i64 r, .int .i64 m, .slice (some ⟨b, 0, none⟩) L.length c] 30)).alloc (.cells #[.int .i64 0, .int .i64 0, .slice none 0 0] 30)) = w3 at *; have hbi := Below.refl w3.heap.size w3; clear hx0 hZ0 hb) | (go_at_call 50; refine (HR.out.at' _ _ (by assumption)).mono ?_; rw [HA.out]; rintro e wi ⟨rfl, hbi⟩; have hX2 := HXB.out wi hbi; have f0 := cF0 hX2; have f1 := cF1 hX2; have f2 := cF2 hX2; clear hX2; have g1 := (HCL.out wi hbi).1) | (refine wpList_load30 rfl _ rfl w.heap.size r m (.slice (some ⟨b, 0, none⟩) L.length c) rfl (HXB.out _ (by assumption)) ?_) | (refine wpList_load_mid rfl 70 _ rfl b (j * 5) rfl _ _ (HCL.out _ (by assumption)).2 Try.underlying70 rfl Try.info70 ?_) | (refine wpList_alloc70 rfl rfl ?_; have hZg := Blk.new wi 70 #[.int .i64 0, .int .i64 0, .int .i64 0, .int .i64 0, .int .i64 0]; have hbg := Below.allocS hbi (.cells #[.int .i64 0, .int .i64 0, .int .i64 0, .int .i64 0, .int .i64 0] 70); have hltg : wi.heap.size < (wi.alloc (.cells #[.int .i64 0, .int .i64 0, .int .i64 0, .int .i64 0, .int .i64 0] 70)).heap.size := (by simp); have hleg := hbi.size; generalize wi.alloc (.cells #[.int .i64 0, .int .i64 0, .int .i64 0, .int .i64 0, .int .i64 0] 70) = wg at *) | (refine wpList_store70 rfl _ _ rfl wi.heap.size g rfl rfl hZg rfl ?_; intro wh hZh th; have hbh : Below w3.heap.size w3 wh := hbg.trans (th.below hleg); have fz := hZh.fz 2; have cx2 := cE2 hZh; have hZk : Blk (wh.setCell ⟨wi.heap.size, 2, none⟩ (.int .i64 wt)) wi.heap.size 70 (cellsE ⟨g.id, g.pa, wt, g.me, g.aw⟩) := hZh.set 2 (.int .i64 wt); have hbk : Below w3.heap.size w3 (wh.setCell ⟨wi.heap.size, 2, none⟩ (.int .i64 wt)) := hbh.trans ((Turn.setCell wh wi.heap.size 2 _).below hleg)) | (refine wpList_load70 rfl _ rfl wi.heap.size ⟨g.id, g.pa, wt, g.me, g.aw⟩ rfl hZk ?_) | (go_at_call 54; refine (HR.out.set _ ⟨g.id, g.pa, wt, g.me, g.aw⟩ _ hj (by assumption)).mono ?_; rintro e wi ⟨⟨a', c', rfl, hr9⟩, hbi⟩) | (refine wpList_store30 rfl _ _ rfl (w.heap.size + 1) r m (.slice a' L.length c') rfl rfl (HZB.out _ (by assumption)) rfl rfl ?_; intro wz hZ9 t9))
  refine bodyPost_ret (resultsF_ct rfl _ wz (w.heap.size + 1) r m _ _ rfl rfl hZ9) rfl ?_
  rw [HC.out, HN.out]
  exact ⟨⟨_, rfl, a', c', by rw [List.length_set], by rw [List.length_set]; exact hr9.turn t9 (HZB.out _ hbi) (by decide)⟩, (HFin.out _ hbi).trans (t9.below (by omega))⟩
end
end Go.Proofs.Ythndfhkkaichiaa
