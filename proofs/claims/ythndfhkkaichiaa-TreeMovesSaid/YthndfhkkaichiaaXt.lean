/-
  The document's Count, AddRoot, Add. Condition: the groups are a forest.
-/
import Derived.Test.YthndfhkkaichiaaXs
namespace Go.Proofs.Ythndfhkkaichiaa
open Go.RowKit Go.Maps

section
variable (r m : Int) (a : Option Addr) (c : Nat) (L : List Gr)
set_option maxRecDepth 100000 in
set_option maxHeartbeats 4000000 in
theorem rCount_no (x me aw : Int) (m0 k : Int) (w : World) (h : RowG w (.slice a L.length c) L) (ok : Ok L m0 k) (hh : has L x = false) :
    Calls Try.prog 30 #[.agg (cellsF r m (.slice a L.length c)), .int .i64 x, .int .i64 me, .int .i64 aw] w fun e w' => (∃ v, e = .returned (.tuple #[v, .int .i64 (countC L x me aw)]) ∧ DocF w' v r m (countN L x me aw)) ∧ Below w.heap.size w w' := by
  have hc : countC L x me aw = 4 := by unfold countC; rw [if_pos hh]
  have HC := Lib.hid hc
  have HN : Hid (countN L x me aw = L) := Lib.hid (by unfold countN; rw [hc]; rfl)
  have hx0 : Blk ((w.alloc (.cells #[.int .i64 r, .int .i64 m, .slice a L.length c] 30)).alloc (.cells #[.int .i64 0, .int .i64 0, .slice none 0 0] 30)) w.heap.size 30 (cellsF r m (.slice a L.length c)) := (Blk.new w 30 _).alloc _
  have hZ0 : Blk ((w.alloc (.cells #[.int .i64 r, .int .i64 m, .slice a L.length c] 30)).alloc (.cells #[.int .i64 0, .int .i64 0, .slice none 0 0] 30)) (w.heap.size + 1) 30 (cellsF 0 0 (.slice none 0 0)) := by
    have := Blk.new (w.alloc (.cells #[.int .i64 r, .int .i64 m, .slice a L.length c] 30)) 30 (cellsF 0 0 (.slice none 0 0))
    have e : (w.alloc (.cells #[.int .i64 r, .int .i64 m, .slice a L.length c] 30)).heap.size = w.heap.size + 1 := by simp
    rw [e] at this
    exact this
  have hb : Below w.heap.size w ((w.alloc (.cells #[.int .i64 r, .int .i64 m, .slice a L.length c] 30)).alloc (.cells #[.int .i64 0, .int .i64 0, .slice none 0 0] 30)) := ((Below.refl _ w).alloc (Nat.le_refl _) _).alloc (by simp) _
  have hsz : w.heap.size + 2 ≤ ((w.alloc (.cells #[.int .i64 r, .int .i64 m, .slice a L.length c] 30)).alloc (.cells #[.int .i64 0, .int .i64 0, .slice none 0 0] 30)).heap.size := by simp
  have HR : Hid (Rdw ((w.alloc (.cells #[.int .i64 r, .int .i64 m, .slice a L.length c] 30)).alloc (.cells #[.int .i64 0, .int .i64 0, .slice none 0 0] 30)) r m a c L) := Lib.hid (Rdw.of h ok hb)
  have HXB : Hid (∀ X, Below ((w.alloc (.cells #[.int .i64 r, .int .i64 m, .slice a L.length c] 30)).alloc (.cells #[.int .i64 0, .int .i64 0, .slice none 0 0] 30)).heap.size ((w.alloc (.cells #[.int .i64 r, .int .i64 m, .slice a L.length c] 30)).alloc (.cells #[.int .i64 0, .int .i64 0, .slice none 0 0] 30)) X → Blk X w.heap.size 30 (cellsF r m (.slice a L.length c))) := Lib.hid fun X hX => hx0.below hX
  have HZB : Hid (∀ X, Below ((w.alloc (.cells #[.int .i64 r, .int .i64 m, .slice a L.length c] 30)).alloc (.cells #[.int .i64 0, .int .i64 0, .slice none 0 0] 30)).heap.size ((w.alloc (.cells #[.int .i64 r, .int .i64 m, .slice a L.length c] 30)).alloc (.cells #[.int .i64 0, .int .i64 0, .slice none 0 0] 30)) X → Blk X (w.heap.size + 1) 30 (cellsF 0 0 (.slice none 0 0))) := Lib.hid fun X hX => hZ0.below hX
  have HFin : Hid (∀ X, Below ((w.alloc (.cells #[.int .i64 r, .int .i64 m, .slice a L.length c] 30)).alloc (.cells #[.int .i64 0, .int .i64 0, .slice none 0 0] 30)).heap.size ((w.alloc (.cells #[.int .i64 r, .int .i64 m, .slice a L.length c] 30)).alloc (.cells #[.int .i64 0, .int .i64 0, .slice none 0 0] 30)) X → Below w.heap.size w X) := Lib.hid fun X hX => hb.trans (hX.mono (by omega))
  have HA : Hid (atG L x = -1) := Lib.hid (atG_no hh)
  clear hh
  clear hc h ok
  unfold cellsF
  go_enter Try.func30, Try.ntmps30
  go_wp2_with (first | (have hgd := hx0; refine wpList_alloc30 rfl rfl ?_; clear hgd; generalize ((w.alloc (.cells #[.int .i64 r, .int .i64 m, .slice a L.length c] 30)).alloc (.cells #[.int .i64 0, .int .i64 0, .slice none 0 0] 30)) = w3 at *; have hbi := Below.refl w3.heap.size w3; clear hx0 hZ0 hb) | (go_at_call 50; refine (HR.out.at' _ _ (by assumption)).mono ?_; rw [HA.out]; rintro e wi ⟨rfl, hbi⟩) | (refine wpList_load30 rfl _ rfl w.heap.size r m (.slice a L.length c) rfl (HXB.out _ (by assumption)) ?_) | (refine wpList_store30 rfl _ _ rfl (w.heap.size + 1) r m (.slice a L.length c) rfl rfl (HZB.out _ (by assumption)) rfl rfl ?_; intro wz hZ9 t9))
  refine bodyPost_ret (resultsF_ct rfl _ wz (w.heap.size + 1) r m (.slice a L.length c) _ rfl rfl hZ9) rfl ?_
  rw [HC.out, HN.out]
  exact ⟨⟨_, rfl, a, c, rfl, (HR.out.row _ hbi).turn t9 (HZB.out _ hbi) (by decide)⟩, (HFin.out _ hbi).trans (t9.below (by omega))⟩
set_option maxRecDepth 100000 in
set_option maxHeartbeats 4000000 in
theorem rCount_full (x me aw : Int) (m0 k : Int) (w : World) (h : RowG w (.slice a L.length c) L) (ok : Ok L m0 k) (hh : has L x = true) (h0 : 0 < me) (h32 : fanI L x = 32) :
    Calls Try.prog 30 #[.agg (cellsF r m (.slice a L.length c)), .int .i64 x, .int .i64 me, .int .i64 aw] w fun e w' => (∃ v, e = .returned (.tuple #[v, .int .i64 (countC L x me aw)]) ∧ DocF w' v r m (countN L x me aw)) ∧ Below w.heap.size w w' := by
  have hc : countC L x me aw = 6 := by unfold countC; rw [if_neg (by rw [hh]; decide), if_pos ⟨h0, h32⟩]
  have HC := Lib.hid hc
  have HN : Hid (countN L x me aw = L) := Lib.hid (by unfold countN; rw [hc]; rfl)
  have hx0 : Blk ((w.alloc (.cells #[.int .i64 r, .int .i64 m, .slice a L.length c] 30)).alloc (.cells #[.int .i64 0, .int .i64 0, .slice none 0 0] 30)) w.heap.size 30 (cellsF r m (.slice a L.length c)) := (Blk.new w 30 _).alloc _
  have hZ0 : Blk ((w.alloc (.cells #[.int .i64 r, .int .i64 m, .slice a L.length c] 30)).alloc (.cells #[.int .i64 0, .int .i64 0, .slice none 0 0] 30)) (w.heap.size + 1) 30 (cellsF 0 0 (.slice none 0 0)) := by
    have := Blk.new (w.alloc (.cells #[.int .i64 r, .int .i64 m, .slice a L.length c] 30)) 30 (cellsF 0 0 (.slice none 0 0))
    have e : (w.alloc (.cells #[.int .i64 r, .int .i64 m, .slice a L.length c] 30)).heap.size = w.heap.size + 1 := by simp
    rw [e] at this
    exact this
  have hb : Below w.heap.size w ((w.alloc (.cells #[.int .i64 r, .int .i64 m, .slice a L.length c] 30)).alloc (.cells #[.int .i64 0, .int .i64 0, .slice none 0 0] 30)) := ((Below.refl _ w).alloc (Nat.le_refl _) _).alloc (by simp) _
  have hsz : w.heap.size + 2 ≤ ((w.alloc (.cells #[.int .i64 r, .int .i64 m, .slice a L.length c] 30)).alloc (.cells #[.int .i64 0, .int .i64 0, .slice none 0 0] 30)).heap.size := by simp
  have HR : Hid (Rdw ((w.alloc (.cells #[.int .i64 r, .int .i64 m, .slice a L.length c] 30)).alloc (.cells #[.int .i64 0, .int .i64 0, .slice none 0 0] 30)) r m a c L) := Lib.hid (Rdw.of h ok hb)
  have HXB : Hid (∀ X, Below ((w.alloc (.cells #[.int .i64 r, .int .i64 m, .slice a L.length c] 30)).alloc (.cells #[.int .i64 0, .int .i64 0, .slice none 0 0] 30)).heap.size ((w.alloc (.cells #[.int .i64 r, .int .i64 m, .slice a L.length c] 30)).alloc (.cells #[.int .i64 0, .int .i64 0, .slice none 0 0] 30)) X → Blk X w.heap.size 30 (cellsF r m (.slice a L.length c))) := Lib.hid fun X hX => hx0.below hX
  have HZB : Hid (∀ X, Below ((w.alloc (.cells #[.int .i64 r, .int .i64 m, .slice a L.length c] 30)).alloc (.cells #[.int .i64 0, .int .i64 0, .slice none 0 0] 30)).heap.size ((w.alloc (.cells #[.int .i64 r, .int .i64 m, .slice a L.length c] 30)).alloc (.cells #[.int .i64 0, .int .i64 0, .slice none 0 0] 30)) X → Blk X (w.heap.size + 1) 30 (cellsF 0 0 (.slice none 0 0))) := Lib.hid fun X hX => hZ0.below hX
  have HFin : Hid (∀ X, Below ((w.alloc (.cells #[.int .i64 r, .int .i64 m, .slice a L.length c] 30)).alloc (.cells #[.int .i64 0, .int .i64 0, .slice none 0 0] 30)).heap.size ((w.alloc (.cells #[.int .i64 r, .int .i64 m, .slice a L.length c] 30)).alloc (.cells #[.int .i64 0, .int .i64 0, .slice none 0 0] 30)) X → Below w.heap.size w X) := Lib.hid fun X hX => hb.trans (hX.mono (by omega))
  have HA : Hid (atG L x = (pos L x : Int)) := Lib.hid (atG_yes hh)
  have HH := Lib.hid hh
  have h322 := beq_tt h32
  clear hh h32
  generalize pos L x = j at *
  clear hc h ok
  unfold cellsF
  go_enter Try.func30, Try.ntmps30
  go_wp2_with (first | (have hgd := hx0; refine wpList_alloc30 rfl rfl ?_; clear hgd; generalize ((w.alloc (.cells #[.int .i64 r, .int .i64 m, .slice a L.length c] 30)).alloc (.cells #[.int .i64 0, .int .i64 0, .slice none 0 0] 30)) = w3 at *; have hbi := Below.refl w3.heap.size w3; clear hx0 hZ0 hb) | (go_at_call 50; refine (HR.out.at' _ _ (by assumption)).mono ?_; rw [HA.out]; rintro e wi ⟨rfl, hbi⟩; have hX2 := HXB.out wi hbi; have f0 := cF0 hX2; have f1 := cF1 hX2; have f2 := cF2 hX2; clear hX2) | (go_at_call 51; refine (HR.out.fan _ _ HH.out (by assumption)).mono ?_; rintro e wi ⟨rfl, hbi⟩) | (refine wpList_load30 rfl _ rfl w.heap.size r m (.slice a L.length c) rfl (HXB.out _ (by assumption)) ?_) | (refine wpList_store30 rfl _ _ rfl (w.heap.size + 1) r m (.slice a L.length c) rfl rfl (HZB.out _ (by assumption)) rfl rfl ?_; intro wz hZ9 t9))
  refine bodyPost_ret (resultsF_ct rfl _ wz (w.heap.size + 1) r m (.slice a L.length c) _ rfl rfl hZ9) rfl ?_
  rw [HC.out, HN.out]
  exact ⟨⟨_, rfl, a, c, rfl, (HR.out.row _ hbi).turn t9 (HZB.out _ hbi) (by decide)⟩, (HFin.out _ hbi).trans (t9.below (by omega))⟩
set_option maxRecDepth 100000 in
set_option maxHeartbeats 4000000 in
theorem rCount_negG (x me aw : Int) (m0 k : Int) (w : World) (h : RowG w (.slice a L.length c) L) (ok : Ok L m0 k) (hh : has L x = true) (h0 : 0 < me) (h32 : ¬ fanI L x = 32) (hs : (gr L x).aw + aw < 0) (hme : -1 ≤ me ∧ me ≤ 1) (haw : -1 ≤ aw ∧ aw ≤ 1) :
    Calls Try.prog 30 #[.agg (cellsF r m (.slice a L.length c)), .int .i64 x, .int .i64 me, .int .i64 aw] w fun e w' => (∃ v, e = .returned (.tuple #[v, .int .i64 (countC L x me aw)]) ∧ DocF w' v r m (countN L x me aw)) ∧ Below w.heap.size w w' := by
  have hc : countC L x me aw = 10 := by unfold countC; rw [if_neg (by rw [hh]; decide), if_neg (fun e => h32 e.2), if_pos (by omega)]
  have HC := Lib.hid hc
  have HN : Hid (countN L x me aw = L) := Lib.hid (by unfold countN; rw [hc]; rfl)
  have hx0 : Blk ((w.alloc (.cells #[.int .i64 r, .int .i64 m, .slice a L.length c] 30)).alloc (.cells #[.int .i64 0, .int .i64 0, .slice none 0 0] 30)) w.heap.size 30 (cellsF r m (.slice a L.length c)) := (Blk.new w 30 _).alloc _
  have hZ0 : Blk ((w.alloc (.cells #[.int .i64 r, .int .i64 m, .slice a L.length c] 30)).alloc (.cells #[.int .i64 0, .int .i64 0, .slice none 0 0] 30)) (w.heap.size + 1) 30 (cellsF 0 0 (.slice none 0 0)) := by
    have := Blk.new (w.alloc (.cells #[.int .i64 r, .int .i64 m, .slice a L.length c] 30)) 30 (cellsF 0 0 (.slice none 0 0))
    have e : (w.alloc (.cells #[.int .i64 r, .int .i64 m, .slice a L.length c] 30)).heap.size = w.heap.size + 1 := by simp
    rw [e] at this
    exact this
  have hb : Below w.heap.size w ((w.alloc (.cells #[.int .i64 r, .int .i64 m, .slice a L.length c] 30)).alloc (.cells #[.int .i64 0, .int .i64 0, .slice none 0 0] 30)) := ((Below.refl _ w).alloc (Nat.le_refl _) _).alloc (by simp) _
  have hsz : w.heap.size + 2 ≤ ((w.alloc (.cells #[.int .i64 r, .int .i64 m, .slice a L.length c] 30)).alloc (.cells #[.int .i64 0, .int .i64 0, .slice none 0 0] 30)).heap.size := by simp
  have HR : Hid (Rdw ((w.alloc (.cells #[.int .i64 r, .int .i64 m, .slice a L.length c] 30)).alloc (.cells #[.int .i64 0, .int .i64 0, .slice none 0 0] 30)) r m a c L) := Lib.hid (Rdw.of h ok hb)
  have HXB : Hid (∀ X, Below ((w.alloc (.cells #[.int .i64 r, .int .i64 m, .slice a L.length c] 30)).alloc (.cells #[.int .i64 0, .int .i64 0, .slice none 0 0] 30)).heap.size ((w.alloc (.cells #[.int .i64 r, .int .i64 m, .slice a L.length c] 30)).alloc (.cells #[.int .i64 0, .int .i64 0, .slice none 0 0] 30)) X → Blk X w.heap.size 30 (cellsF r m (.slice a L.length c))) := Lib.hid fun X hX => hx0.below hX
  have HZB : Hid (∀ X, Below ((w.alloc (.cells #[.int .i64 r, .int .i64 m, .slice a L.length c] 30)).alloc (.cells #[.int .i64 0, .int .i64 0, .slice none 0 0] 30)).heap.size ((w.alloc (.cells #[.int .i64 r, .int .i64 m, .slice a L.length c] 30)).alloc (.cells #[.int .i64 0, .int .i64 0, .slice none 0 0] 30)) X → Blk X (w.heap.size + 1) 30 (cellsF 0 0 (.slice none 0 0))) := Lib.hid fun X hX => hZ0.below hX
  have HFin : Hid (∀ X, Below ((w.alloc (.cells #[.int .i64 r, .int .i64 m, .slice a L.length c] 30)).alloc (.cells #[.int .i64 0, .int .i64 0, .slice none 0 0] 30)).heap.size ((w.alloc (.cells #[.int .i64 r, .int .i64 m, .slice a L.length c] 30)).alloc (.cells #[.int .i64 0, .int .i64 0, .slice none 0 0] 30)) X → Below w.heap.size w X) := Lib.hid fun X hX => hb.trans (hX.mono (by omega))
  have HA : Hid (atG L x = (pos L x : Int)) := Lib.hid (atG_yes hh)
  have HH := Lib.hid hh
  have hj := has_pos hh
  obtain ⟨b, rfl, hcl⟩ := h.at hj
  have HCL : Hid (∀ X, Below ((w.alloc (.cells #[.int .i64 r, .int .i64 m, .slice (some ⟨b, 0, none⟩) L.length c] 30)).alloc (.cells #[.int .i64 0, .int .i64 0, .slice none 0 0] 30)).heap.size ((w.alloc (.cells #[.int .i64 r, .int .i64 m, .slice (some ⟨b, 0, none⟩) L.length c] 30)).alloc (.cells #[.int .i64 0, .int .i64 0, .slice none 0 0] 30)) X → X.cell? ⟨b, pos L x * 5 + 1, none⟩ = some (.int .i64 (gr L x).pa) ∧ X.rangeAt b (pos L x * 5) (cellsE (gr L x)).toList) := Lib.hid fun X hX => ⟨((hcl.below hb).below hX).pa hj, ((hcl.below hb).below hX).range hj⟩
  have hnum := ok.num _ (gr_mem hh)
  have hkk := ok.k1
  have hff := beq_ff h32
  obtain ⟨n1, n2, n3, _⟩ := hnum
  have n5 : (gr L x).me ≤ 1000 := by omega
  have n6 : 0 ≤ (gr L x).me := by omega
  have n7 : (gr L x).aw ≤ 1000 := by omega
  clear hh n2 n3 hkk h32
  generalize gr L x = g at *
  generalize pos L x = j at *
  obtain ⟨hme1, hme2⟩ := hme
  obtain ⟨haw1, haw2⟩ := haw
  clear hc h ok
  unfold cellsF
  go_enter Try.func30, Try.ntmps30
  go_wp2_with (first | (have hgd := hx0; refine wpList_alloc30 rfl rfl ?_; clear hgd; generalize ((w.alloc (.cells #[.int .i64 r, .int .i64 m, .slice (some ⟨b, 0, none⟩) L.length c] 30)).alloc (.cells #[.int .i64 0, .int .i64 0, .slice none 0 0] 30)) = w3 at *; have hbi := Below.refl w3.heap.size w3; clear hx0 hZ0 hb) | (go_at_call 50; refine (HR.out.at' _ _ (by assumption)).mono ?_; rw [HA.out]; rintro e wi ⟨rfl, hbi⟩; have hX2 := HXB.out wi hbi; have f0 := cF0 hX2; have f1 := cF1 hX2; have f2 := cF2 hX2; clear hX2; have g1 := (HCL.out wi hbi).1) | (go_at_call 51; refine (HR.out.fan _ _ HH.out (by assumption)).mono ?_; rintro e wi ⟨rfl, hbi⟩; have hX2 := HXB.out wi hbi; have f0 := cF0 hX2; have f1 := cF1 hX2; have f2 := cF2 hX2; clear hX2; have g1 := (HCL.out wi hbi).1) | (refine wpList_load30 rfl _ rfl w.heap.size r m (.slice (some ⟨b, 0, none⟩) L.length c) rfl (HXB.out _ (by assumption)) ?_) | (refine wpList_load_mid rfl 70 _ rfl b (j * 5) rfl _ _ (HCL.out _ (by assumption)).2 Try.underlying70 rfl Try.info70 ?_) | (refine wpList_alloc70 rfl rfl ?_; have hZg := Blk.new wi 70 #[.int .i64 0, .int .i64 0, .int .i64 0, .int .i64 0, .int .i64 0]; have hbg := Below.allocS hbi (.cells #[.int .i64 0, .int .i64 0, .int .i64 0, .int .i64 0, .int .i64 0] 70); have hltg : wi.heap.size < (wi.alloc (.cells #[.int .i64 0, .int .i64 0, .int .i64 0, .int .i64 0, .int .i64 0] 70)).heap.size := (by simp); have hleg := hbi.size; generalize wi.alloc (.cells #[.int .i64 0, .int .i64 0, .int .i64 0, .int .i64 0, .int .i64 0] 70) = wg at *) | (refine wpList_store70 rfl _ _ rfl wi.heap.size g rfl rfl hZg rfl ?_; intro wh hZh th; have hbh : Below w3.heap.size w3 wh := hbg.trans (th.below hleg); have fz3 := hZh.fz 3; have fz4 := hZh.fz 4; have cx3 := cE3 hZh; have cx4 := cE4 hZh; have hZi : Blk (wh.setCell ⟨wi.heap.size, 3, none⟩ (.int .i64 (g.me + me))) wi.heap.size 70 (cellsE ⟨g.id, g.pa, g.wt, g.me + me, g.aw⟩) := hZh.set 3 _; have hbj : Below w3.heap.size w3 (wh.setCell ⟨wi.heap.size, 3, none⟩ (.int .i64 (g.me + me))) := hbh.trans ((Turn.setCell wh wi.heap.size 3 _).below hleg); have cy4 := cE4 hZi; have fy4 := hZi.fz 4; have cz4x := cE3 hZi; have hZk : Blk ((wh.setCell ⟨wi.heap.size, 3, none⟩ (.int .i64 (g.me + me))).setCell ⟨wi.heap.size, 4, none⟩ (.int .i64 (g.aw + aw))) wi.heap.size 70 (cellsE ⟨g.id, g.pa, g.wt, g.me + me, g.aw + aw⟩) := hZi.set 4 _; have hbk : Below w3.heap.size w3 ((wh.setCell ⟨wi.heap.size, 3, none⟩ (.int .i64 (g.me + me))).setCell ⟨wi.heap.size, 4, none⟩ (.int .i64 (g.aw + aw))) := hbj.trans ((Turn.setCell _ wi.heap.size 4 _).below hleg); have cz3 := cE3 hZk; have cz4 := cE4 hZk) | (refine wpList_store30 rfl _ _ rfl (w.heap.size + 1) r m (.slice (some ⟨b, 0, none⟩) L.length c) rfl rfl (HZB.out _ (by assumption)) rfl rfl ?_; intro wz hZ9 t9))
  refine bodyPost_ret (resultsF_ct rfl _ wz (w.heap.size + 1) r m (.slice (some ⟨b, 0, none⟩) L.length c) _ rfl rfl hZ9) rfl ?_
  rw [HC.out, HN.out]
  exact ⟨⟨_, rfl, some ⟨b, 0, none⟩, c, rfl, (HR.out.row _ hbk).turn t9 (HZB.out _ hbk) (by decide)⟩, (HFin.out _ hbk).trans (t9.below (by omega))⟩
set_option maxRecDepth 100000 in
set_option maxHeartbeats 4000000 in
theorem rCount_overG (x me aw : Int) (m0 k : Int) (w : World) (h : RowG w (.slice a L.length c) L) (ok : Ok L m0 k) (hh : has L x = true) (h0 : 0 < me) (h32 : ¬ fanI L x = 32) (hs0 : ¬ (gr L x).aw + aw < 0) (hs : (gr L x).me + me < (gr L x).aw + aw) (hme : -1 ≤ me ∧ me ≤ 1) (haw : -1 ≤ aw ∧ aw ≤ 1) :
    Calls Try.prog 30 #[.agg (cellsF r m (.slice a L.length c)), .int .i64 x, .int .i64 me, .int .i64 aw] w fun e w' => (∃ v, e = .returned (.tuple #[v, .int .i64 (countC L x me aw)]) ∧ DocF w' v r m (countN L x me aw)) ∧ Below w.heap.size w w' := by
  have hc : countC L x me aw = 10 := by unfold countC; rw [if_neg (by rw [hh]; decide), if_neg (fun e => h32 e.2), if_pos (by omega)]
  have HC := Lib.hid hc
  have HN : Hid (countN L x me aw = L) := Lib.hid (by unfold countN; rw [hc]; rfl)
  have hx0 : Blk ((w.alloc (.cells #[.int .i64 r, .int .i64 m, .slice a L.length c] 30)).alloc (.cells #[.int .i64 0, .int .i64 0, .slice none 0 0] 30)) w.heap.size 30 (cellsF r m (.slice a L.length c)) := (Blk.new w 30 _).alloc _
  have hZ0 : Blk ((w.alloc (.cells #[.int .i64 r, .int .i64 m, .slice a L.length c] 30)).alloc (.cells #[.int .i64 0, .int .i64 0, .slice none 0 0] 30)) (w.heap.size + 1) 30 (cellsF 0 0 (.slice none 0 0)) := by
    have := Blk.new (w.alloc (.cells #[.int .i64 r, .int .i64 m, .slice a L.length c] 30)) 30 (cellsF 0 0 (.slice none 0 0))
    have e : (w.alloc (.cells #[.int .i64 r, .int .i64 m, .slice a L.length c] 30)).heap.size = w.heap.size + 1 := by simp
    rw [e] at this
    exact this
  have hb : Below w.heap.size w ((w.alloc (.cells #[.int .i64 r, .int .i64 m, .slice a L.length c] 30)).alloc (.cells #[.int .i64 0, .int .i64 0, .slice none 0 0] 30)) := ((Below.refl _ w).alloc (Nat.le_refl _) _).alloc (by simp) _
  have hsz : w.heap.size + 2 ≤ ((w.alloc (.cells #[.int .i64 r, .int .i64 m, .slice a L.length c] 30)).alloc (.cells #[.int .i64 0, .int .i64 0, .slice none 0 0] 30)).heap.size := by simp
  have HR : Hid (Rdw ((w.alloc (.cells #[.int .i64 r, .int .i64 m, .slice a L.length c] 30)).alloc (.cells #[.int .i64 0, .int .i64 0, .slice none 0 0] 30)) r m a c L) := Lib.hid (Rdw.of h ok hb)
  have HXB : Hid (∀ X, Below ((w.alloc (.cells #[.int .i64 r, .int .i64 m, .slice a L.length c] 30)).alloc (.cells #[.int .i64 0, .int .i64 0, .slice none 0 0] 30)).heap.size ((w.alloc (.cells #[.int .i64 r, .int .i64 m, .slice a L.length c] 30)).alloc (.cells #[.int .i64 0, .int .i64 0, .slice none 0 0] 30)) X → Blk X w.heap.size 30 (cellsF r m (.slice a L.length c))) := Lib.hid fun X hX => hx0.below hX
  have HZB : Hid (∀ X, Below ((w.alloc (.cells #[.int .i64 r, .int .i64 m, .slice a L.length c] 30)).alloc (.cells #[.int .i64 0, .int .i64 0, .slice none 0 0] 30)).heap.size ((w.alloc (.cells #[.int .i64 r, .int .i64 m, .slice a L.length c] 30)).alloc (.cells #[.int .i64 0, .int .i64 0, .slice none 0 0] 30)) X → Blk X (w.heap.size + 1) 30 (cellsF 0 0 (.slice none 0 0))) := Lib.hid fun X hX => hZ0.below hX
  have HFin : Hid (∀ X, Below ((w.alloc (.cells #[.int .i64 r, .int .i64 m, .slice a L.length c] 30)).alloc (.cells #[.int .i64 0, .int .i64 0, .slice none 0 0] 30)).heap.size ((w.alloc (.cells #[.int .i64 r, .int .i64 m, .slice a L.length c] 30)).alloc (.cells #[.int .i64 0, .int .i64 0, .slice none 0 0] 30)) X → Below w.heap.size w X) := Lib.hid fun X hX => hb.trans (hX.mono (by omega))
  have HA : Hid (atG L x = (pos L x : Int)) := Lib.hid (atG_yes hh)
  have HH := Lib.hid hh
  have hj := has_pos hh
  obtain ⟨b, rfl, hcl⟩ := h.at hj
  have HCL : Hid (∀ X, Below ((w.alloc (.cells #[.int .i64 r, .int .i64 m, .slice (some ⟨b, 0, none⟩) L.length c] 30)).alloc (.cells #[.int .i64 0, .int .i64 0, .slice none 0 0] 30)).heap.size ((w.alloc (.cells #[.int .i64 r, .int .i64 m, .slice (some ⟨b, 0, none⟩) L.length c] 30)).alloc (.cells #[.int .i64 0, .int .i64 0, .slice none 0 0] 30)) X → X.cell? ⟨b, pos L x * 5 + 1, none⟩ = some (.int .i64 (gr L x).pa) ∧ X.rangeAt b (pos L x * 5) (cellsE (gr L x)).toList) := Lib.hid fun X hX => ⟨((hcl.below hb).below hX).pa hj, ((hcl.below hb).below hX).range hj⟩
  have hnum := ok.num _ (gr_mem hh)
  have hkk := ok.k1
  have hff := beq_ff h32
  obtain ⟨n1, n2, n3, _⟩ := hnum
  have n5 : (gr L x).me ≤ 1000 := by omega
  have n6 : 0 ≤ (gr L x).me := by omega
  have n7 : (gr L x).aw ≤ 1000 := by omega
  clear hh n2 n3 hkk h32
  generalize gr L x = g at *
  generalize pos L x = j at *
  obtain ⟨hme1, hme2⟩ := hme
  obtain ⟨haw1, haw2⟩ := haw
  clear hc h ok
  unfold cellsF
  go_enter Try.func30, Try.ntmps30
  go_wp2_with (first | (have hgd := hx0; refine wpList_alloc30 rfl rfl ?_; clear hgd; generalize ((w.alloc (.cells #[.int .i64 r, .int .i64 m, .slice (some ⟨b, 0, none⟩) L.length c] 30)).alloc (.cells #[.int .i64 0, .int .i64 0, .slice none 0 0] 30)) = w3 at *; have hbi := Below.refl w3.heap.size w3; clear hx0 hZ0 hb) | (go_at_call 50; refine (HR.out.at' _ _ (by assumption)).mono ?_; rw [HA.out]; rintro e wi ⟨rfl, hbi⟩; have hX2 := HXB.out wi hbi; have f0 := cF0 hX2; have f1 := cF1 hX2; have f2 := cF2 hX2; clear hX2; have g1 := (HCL.out wi hbi).1) | (go_at_call 51; refine (HR.out.fan _ _ HH.out (by assumption)).mono ?_; rintro e wi ⟨rfl, hbi⟩; have hX2 := HXB.out wi hbi; have f0 := cF0 hX2; have f1 := cF1 hX2; have f2 := cF2 hX2; clear hX2; have g1 := (HCL.out wi hbi).1) | (refine wpList_load30 rfl _ rfl w.heap.size r m (.slice (some ⟨b, 0, none⟩) L.length c) rfl (HXB.out _ (by assumption)) ?_) | (refine wpList_load_mid rfl 70 _ rfl b (j * 5) rfl _ _ (HCL.out _ (by assumption)).2 Try.underlying70 rfl Try.info70 ?_) | (refine wpList_alloc70 rfl rfl ?_; have hZg := Blk.new wi 70 #[.int .i64 0, .int .i64 0, .int .i64 0, .int .i64 0, .int .i64 0]; have hbg := Below.allocS hbi (.cells #[.int .i64 0, .int .i64 0, .int .i64 0, .int .i64 0, .int .i64 0] 70); have hltg : wi.heap.size < (wi.alloc (.cells #[.int .i64 0, .int .i64 0, .int .i64 0, .int .i64 0, .int .i64 0] 70)).heap.size := (by simp); have hleg := hbi.size; generalize wi.alloc (.cells #[.int .i64 0, .int .i64 0, .int .i64 0, .int .i64 0, .int .i64 0] 70) = wg at *) | (refine wpList_store70 rfl _ _ rfl wi.heap.size g rfl rfl hZg rfl ?_; intro wh hZh th; have hbh : Below w3.heap.size w3 wh := hbg.trans (th.below hleg); have fz3 := hZh.fz 3; have fz4 := hZh.fz 4; have cx3 := cE3 hZh; have cx4 := cE4 hZh; have hZi : Blk (wh.setCell ⟨wi.heap.size, 3, none⟩ (.int .i64 (g.me + me))) wi.heap.size 70 (cellsE ⟨g.id, g.pa, g.wt, g.me + me, g.aw⟩) := hZh.set 3 _; have hbj : Below w3.heap.size w3 (wh.setCell ⟨wi.heap.size, 3, none⟩ (.int .i64 (g.me + me))) := hbh.trans ((Turn.setCell wh wi.heap.size 3 _).below hleg); have cy4 := cE4 hZi; have fy4 := hZi.fz 4; have cz4x := cE3 hZi; have hZk : Blk ((wh.setCell ⟨wi.heap.size, 3, none⟩ (.int .i64 (g.me + me))).setCell ⟨wi.heap.size, 4, none⟩ (.int .i64 (g.aw + aw))) wi.heap.size 70 (cellsE ⟨g.id, g.pa, g.wt, g.me + me, g.aw + aw⟩) := hZi.set 4 _; have hbk : Below w3.heap.size w3 ((wh.setCell ⟨wi.heap.size, 3, none⟩ (.int .i64 (g.me + me))).setCell ⟨wi.heap.size, 4, none⟩ (.int .i64 (g.aw + aw))) := hbj.trans ((Turn.setCell _ wi.heap.size 4 _).below hleg); have cz3 := cE3 hZk; have cz4 := cE4 hZk) | (refine wpList_store30 rfl _ _ rfl (w.heap.size + 1) r m (.slice (some ⟨b, 0, none⟩) L.length c) rfl rfl (HZB.out _ (by assumption)) rfl rfl ?_; intro wz hZ9 t9))
  refine bodyPost_ret (resultsF_ct rfl _ wz (w.heap.size + 1) r m (.slice (some ⟨b, 0, none⟩) L.length c) _ rfl rfl hZ9) rfl ?_
  rw [HC.out, HN.out]
  exact ⟨⟨_, rfl, some ⟨b, 0, none⟩, c, rfl, (HR.out.row _ hbk).turn t9 (HZB.out _ hbk) (by decide)⟩, (HFin.out _ hbk).trans (t9.below (by omega))⟩
set_option maxRecDepth 100000 in
set_option maxHeartbeats 4000000 in
theorem rCount_yesG (x me aw : Int) (m0 k : Int) (w : World) (h : RowG w (.slice a L.length c) L) (ok : Ok L m0 k) (hh : has L x = true) (h0 : 0 < me) (h32 : ¬ fanI L x = 32) (hs0 : ¬ (gr L x).aw + aw < 0) (hs : ¬ (gr L x).me + me < (gr L x).aw + aw) (hme : -1 ≤ me ∧ me ≤ 1) (haw : -1 ≤ aw ∧ aw ≤ 1) :
    Calls Try.prog 30 #[.agg (cellsF r m (.slice a L.length c)), .int .i64 x, .int .i64 me, .int .i64 aw] w fun e w' => (∃ v, e = .returned (.tuple #[v, .int .i64 (countC L x me aw)]) ∧ DocF w' v r m (countN L x me aw)) ∧ Below w.heap.size w w' := by
  have hc : countC L x me aw = 0 := by unfold countC; rw [if_neg (by rw [hh]; decide), if_neg (fun e => h32 e.2), if_neg (by omega)]
  have HC := Lib.hid hc
  have HN : Hid (countN L x me aw = countG L x me aw) := Lib.hid (by unfold countN; rw [hc]; rfl)
  have hx0 : Blk ((w.alloc (.cells #[.int .i64 r, .int .i64 m, .slice a L.length c] 30)).alloc (.cells #[.int .i64 0, .int .i64 0, .slice none 0 0] 30)) w.heap.size 30 (cellsF r m (.slice a L.length c)) := (Blk.new w 30 _).alloc _
  have hZ0 : Blk ((w.alloc (.cells #[.int .i64 r, .int .i64 m, .slice a L.length c] 30)).alloc (.cells #[.int .i64 0, .int .i64 0, .slice none 0 0] 30)) (w.heap.size + 1) 30 (cellsF 0 0 (.slice none 0 0)) := by
    have := Blk.new (w.alloc (.cells #[.int .i64 r, .int .i64 m, .slice a L.length c] 30)) 30 (cellsF 0 0 (.slice none 0 0))
    have e : (w.alloc (.cells #[.int .i64 r, .int .i64 m, .slice a L.length c] 30)).heap.size = w.heap.size + 1 := by simp
    rw [e] at this
    exact this
  have hb : Below w.heap.size w ((w.alloc (.cells #[.int .i64 r, .int .i64 m, .slice a L.length c] 30)).alloc (.cells #[.int .i64 0, .int .i64 0, .slice none 0 0] 30)) := ((Below.refl _ w).alloc (Nat.le_refl _) _).alloc (by simp) _
  have hsz : w.heap.size + 2 ≤ ((w.alloc (.cells #[.int .i64 r, .int .i64 m, .slice a L.length c] 30)).alloc (.cells #[.int .i64 0, .int .i64 0, .slice none 0 0] 30)).heap.size := by simp
  have HR : Hid (Rdw ((w.alloc (.cells #[.int .i64 r, .int .i64 m, .slice a L.length c] 30)).alloc (.cells #[.int .i64 0, .int .i64 0, .slice none 0 0] 30)) r m a c L) := Lib.hid (Rdw.of h ok hb)
  have HXB : Hid (∀ X, Below ((w.alloc (.cells #[.int .i64 r, .int .i64 m, .slice a L.length c] 30)).alloc (.cells #[.int .i64 0, .int .i64 0, .slice none 0 0] 30)).heap.size ((w.alloc (.cells #[.int .i64 r, .int .i64 m, .slice a L.length c] 30)).alloc (.cells #[.int .i64 0, .int .i64 0, .slice none 0 0] 30)) X → Blk X w.heap.size 30 (cellsF r m (.slice a L.length c))) := Lib.hid fun X hX => hx0.below hX
  have HZB : Hid (∀ X, Below ((w.alloc (.cells #[.int .i64 r, .int .i64 m, .slice a L.length c] 30)).alloc (.cells #[.int .i64 0, .int .i64 0, .slice none 0 0] 30)).heap.size ((w.alloc (.cells #[.int .i64 r, .int .i64 m, .slice a L.length c] 30)).alloc (.cells #[.int .i64 0, .int .i64 0, .slice none 0 0] 30)) X → Blk X (w.heap.size + 1) 30 (cellsF 0 0 (.slice none 0 0))) := Lib.hid fun X hX => hZ0.below hX
  have HFin : Hid (∀ X, Below ((w.alloc (.cells #[.int .i64 r, .int .i64 m, .slice a L.length c] 30)).alloc (.cells #[.int .i64 0, .int .i64 0, .slice none 0 0] 30)).heap.size ((w.alloc (.cells #[.int .i64 r, .int .i64 m, .slice a L.length c] 30)).alloc (.cells #[.int .i64 0, .int .i64 0, .slice none 0 0] 30)) X → Below w.heap.size w X) := Lib.hid fun X hX => hb.trans (hX.mono (by omega))
  have HA : Hid (atG L x = (pos L x : Int)) := Lib.hid (atG_yes hh)
  have HH := Lib.hid hh
  have hj := has_pos hh
  obtain ⟨b, rfl, hcl⟩ := h.at hj
  have HCL : Hid (∀ X, Below ((w.alloc (.cells #[.int .i64 r, .int .i64 m, .slice (some ⟨b, 0, none⟩) L.length c] 30)).alloc (.cells #[.int .i64 0, .int .i64 0, .slice none 0 0] 30)).heap.size ((w.alloc (.cells #[.int .i64 r, .int .i64 m, .slice (some ⟨b, 0, none⟩) L.length c] 30)).alloc (.cells #[.int .i64 0, .int .i64 0, .slice none 0 0] 30)) X → X.cell? ⟨b, pos L x * 5 + 1, none⟩ = some (.int .i64 (gr L x).pa) ∧ X.rangeAt b (pos L x * 5) (cellsE (gr L x)).toList) := Lib.hid fun X hX => ⟨((hcl.below hb).below hX).pa hj, ((hcl.below hb).below hX).range hj⟩
  have hnum := ok.num _ (gr_mem hh)
  have hkk := ok.k1
  have HGG : Hid (countG L x me aw = L.set (pos L x) ⟨(gr L x).id, (gr L x).pa, (gr L x).wt, (gr L x).me + me, (gr L x).aw + aw⟩) := Lib.hid (by unfold countG setG; rw [gr_id hh])
  rw [HGG.out] at HN
  clear HGG
  have hff := beq_ff h32
  obtain ⟨n1, n2, n3, _⟩ := hnum
  have n5 : (gr L x).me ≤ 1000 := by omega
  have n6 : 0 ≤ (gr L x).me := by omega
  have n7 : (gr L x).aw ≤ 1000 := by omega
  clear hh n2 n3 hkk h32
  generalize gr L x = g at *
  generalize pos L x = j at *
  obtain ⟨hme1, hme2⟩ := hme
  obtain ⟨haw1, haw2⟩ := haw
  clear hc h ok
  unfold cellsF
  go_enter Try.func30, Try.ntmps30
  go_wp2_with (first | (have hgd := hx0; refine wpList_alloc30 rfl rfl ?_; clear hgd; generalize ((w.alloc (.cells #[.int .i64 r, .int .i64 m, .slice (some ⟨b, 0, none⟩) L.length c] 30)).alloc (.cells #[.int .i64 0, .int .i64 0, .slice none 0 0] 30)) = w3 at *; have hbi := Below.refl w3.heap.size w3; clear hx0 hZ0 hb) | (go_at_call 50; refine (HR.out.at' _ _ (by assumption)).mono ?_; rw [HA.out]; rintro e wi ⟨rfl, hbi⟩; have hX2 := HXB.out wi hbi; have f0 := cF0 hX2; have f1 := cF1 hX2; have f2 := cF2 hX2; clear hX2; have g1 := (HCL.out wi hbi).1) | (go_at_call 51; refine (HR.out.fan _ _ HH.out (by assumption)).mono ?_; rintro e wi ⟨rfl, hbi⟩; have hX2 := HXB.out wi hbi; have f0 := cF0 hX2; have f1 := cF1 hX2; have f2 := cF2 hX2; clear hX2; have g1 := (HCL.out wi hbi).1) | (refine wpList_load30 rfl _ rfl w.heap.size r m (.slice (some ⟨b, 0, none⟩) L.length c) rfl (HXB.out _ (by assumption)) ?_) | (refine wpList_load_mid rfl 70 _ rfl b (j * 5) rfl _ _ (HCL.out _ (by assumption)).2 Try.underlying70 rfl Try.info70 ?_) | (refine wpList_alloc70 rfl rfl ?_; have hZg := Blk.new wi 70 #[.int .i64 0, .int .i64 0, .int .i64 0, .int .i64 0, .int .i64 0]; have hbg := Below.allocS hbi (.cells #[.int .i64 0, .int .i64 0, .int .i64 0, .int .i64 0, .int .i64 0] 70); have hltg : wi.heap.size < (wi.alloc (.cells #[.int .i64 0, .int .i64 0, .int .i64 0, .int .i64 0, .int .i64 0] 70)).heap.size := (by simp); have hleg := hbi.size; generalize wi.alloc (.cells #[.int .i64 0, .int .i64 0, .int .i64 0, .int .i64 0, .int .i64 0] 70) = wg at *) | (refine wpList_store70 rfl _ _ rfl wi.heap.size g rfl rfl hZg rfl ?_; intro wh hZh th; have hbh : Below w3.heap.size w3 wh := hbg.trans (th.below hleg); have fz3 := hZh.fz 3; have fz4 := hZh.fz 4; have cx3 := cE3 hZh; have cx4 := cE4 hZh; have hZi : Blk (wh.setCell ⟨wi.heap.size, 3, none⟩ (.int .i64 (g.me + me))) wi.heap.size 70 (cellsE ⟨g.id, g.pa, g.wt, g.me + me, g.aw⟩) := hZh.set 3 _; have hbj : Below w3.heap.size w3 (wh.setCell ⟨wi.heap.size, 3, none⟩ (.int .i64 (g.me + me))) := hbh.trans ((Turn.setCell wh wi.heap.size 3 _).below hleg); have cy4 := cE4 hZi; have fy4 := hZi.fz 4; have cz4x := cE3 hZi; have hZk : Blk ((wh.setCell ⟨wi.heap.size, 3, none⟩ (.int .i64 (g.me + me))).setCell ⟨wi.heap.size, 4, none⟩ (.int .i64 (g.aw + aw))) wi.heap.size 70 (cellsE ⟨g.id, g.pa, g.wt, g.me + me, g.aw + aw⟩) := hZi.set 4 _; have hbk : Below w3.heap.size w3 ((wh.setCell ⟨wi.heap.size, 3, none⟩ (.int .i64 (g.me + me))).setCell ⟨wi.heap.size, 4, none⟩ (.int .i64 (g.aw + aw))) := hbj.trans ((Turn.setCell _ wi.heap.size 4 _).below hleg); have cz3 := cE3 hZk; have cz4 := cE4 hZk) | (refine wpList_load70 rfl _ rfl wi.heap.size ⟨g.id, g.pa, g.wt, g.me + me, g.aw + aw⟩ rfl hZk ?_) | (go_at_call 54; refine (HR.out.set _ ⟨g.id, g.pa, g.wt, g.me + me, g.aw + aw⟩ _ hj (by assumption)).mono ?_; rintro e wi ⟨⟨a', c', rfl, hr9⟩, hbi⟩) | (refine wpList_store30 rfl _ _ rfl (w.heap.size + 1) r m (.slice a' L.length c') rfl rfl (HZB.out _ (by assumption)) rfl rfl ?_; intro wz hZ9 t9))
  refine bodyPost_ret (resultsF_ct rfl _ wz (w.heap.size + 1) r m _ _ rfl rfl hZ9) rfl ?_
  rw [HC.out, HN.out]
  exact ⟨⟨_, rfl, a', c', by rw [List.length_set], by rw [List.length_set]; exact hr9.turn t9 (HZB.out _ hbi) (by decide)⟩, (HFin.out _ hbi).trans (t9.below (by omega))⟩
set_option maxRecDepth 100000 in
set_option maxHeartbeats 4000000 in
theorem rCount_negN (x me aw : Int) (m0 k : Int) (w : World) (h : RowG w (.slice a L.length c) L) (ok : Ok L m0 k) (hh : has L x = true) (h0 : ¬ 0 < me) (hs : (gr L x).aw + aw < 0) (hme : -1 ≤ me ∧ me ≤ 1) (haw : -1 ≤ aw ∧ aw ≤ 1) :
    Calls Try.prog 30 #[.agg (cellsF r m (.slice a L.length c)), .int .i64 x, .int .i64 me, .int .i64 aw] w fun e w' => (∃ v, e = .returned (.tuple #[v, .int .i64 (countC L x me aw)]) ∧ DocF w' v r m (countN L x me aw)) ∧ Below w.heap.size w w' := by
  have hc : countC L x me aw = 10 := by unfold countC; rw [if_neg (by rw [hh]; decide), if_neg (fun e => h0 e.1), if_pos (by omega)]
  have HC := Lib.hid hc
  have HN : Hid (countN L x me aw = L) := Lib.hid (by unfold countN; rw [hc]; rfl)
  have hx0 : Blk ((w.alloc (.cells #[.int .i64 r, .int .i64 m, .slice a L.length c] 30)).alloc (.cells #[.int .i64 0, .int .i64 0, .slice none 0 0] 30)) w.heap.size 30 (cellsF r m (.slice a L.length c)) := (Blk.new w 30 _).alloc _
  have hZ0 : Blk ((w.alloc (.cells #[.int .i64 r, .int .i64 m, .slice a L.length c] 30)).alloc (.cells #[.int .i64 0, .int .i64 0, .slice none 0 0] 30)) (w.heap.size + 1) 30 (cellsF 0 0 (.slice none 0 0)) := by
    have := Blk.new (w.alloc (.cells #[.int .i64 r, .int .i64 m, .slice a L.length c] 30)) 30 (cellsF 0 0 (.slice none 0 0))
    have e : (w.alloc (.cells #[.int .i64 r, .int .i64 m, .slice a L.length c] 30)).heap.size = w.heap.size + 1 := by simp
    rw [e] at this
    exact this
  have hb : Below w.heap.size w ((w.alloc (.cells #[.int .i64 r, .int .i64 m, .slice a L.length c] 30)).alloc (.cells #[.int .i64 0, .int .i64 0, .slice none 0 0] 30)) := ((Below.refl _ w).alloc (Nat.le_refl _) _).alloc (by simp) _
  have hsz : w.heap.size + 2 ≤ ((w.alloc (.cells #[.int .i64 r, .int .i64 m, .slice a L.length c] 30)).alloc (.cells #[.int .i64 0, .int .i64 0, .slice none 0 0] 30)).heap.size := by simp
  have HR : Hid (Rdw ((w.alloc (.cells #[.int .i64 r, .int .i64 m, .slice a L.length c] 30)).alloc (.cells #[.int .i64 0, .int .i64 0, .slice none 0 0] 30)) r m a c L) := Lib.hid (Rdw.of h ok hb)
  have HXB : Hid (∀ X, Below ((w.alloc (.cells #[.int .i64 r, .int .i64 m, .slice a L.length c] 30)).alloc (.cells #[.int .i64 0, .int .i64 0, .slice none 0 0] 30)).heap.size ((w.alloc (.cells #[.int .i64 r, .int .i64 m, .slice a L.length c] 30)).alloc (.cells #[.int .i64 0, .int .i64 0, .slice none 0 0] 30)) X → Blk X w.heap.size 30 (cellsF r m (.slice a L.length c))) := Lib.hid fun X hX => hx0.below hX
  have HZB : Hid (∀ X, Below ((w.alloc (.cells #[.int .i64 r, .int .i64 m, .slice a L.length c] 30)).alloc (.cells #[.int .i64 0, .int .i64 0, .slice none 0 0] 30)).heap.size ((w.alloc (.cells #[.int .i64 r, .int .i64 m, .slice a L.length c] 30)).alloc (.cells #[.int .i64 0, .int .i64 0, .slice none 0 0] 30)) X → Blk X (w.heap.size + 1) 30 (cellsF 0 0 (.slice none 0 0))) := Lib.hid fun X hX => hZ0.below hX
  have HFin : Hid (∀ X, Below ((w.alloc (.cells #[.int .i64 r, .int .i64 m, .slice a L.length c] 30)).alloc (.cells #[.int .i64 0, .int .i64 0, .slice none 0 0] 30)).heap.size ((w.alloc (.cells #[.int .i64 r, .int .i64 m, .slice a L.length c] 30)).alloc (.cells #[.int .i64 0, .int .i64 0, .slice none 0 0] 30)) X → Below w.heap.size w X) := Lib.hid fun X hX => hb.trans (hX.mono (by omega))
  have HA : Hid (atG L x = (pos L x : Int)) := Lib.hid (atG_yes hh)
  have HH := Lib.hid hh
  have hj := has_pos hh
  obtain ⟨b, rfl, hcl⟩ := h.at hj
  have HCL : Hid (∀ X, Below ((w.alloc (.cells #[.int .i64 r, .int .i64 m, .slice (some ⟨b, 0, none⟩) L.length c] 30)).alloc (.cells #[.int .i64 0, .int .i64 0, .slice none 0 0] 30)).heap.size ((w.alloc (.cells #[.int .i64 r, .int .i64 m, .slice (some ⟨b, 0, none⟩) L.length c] 30)).alloc (.cells #[.int .i64 0, .int .i64 0, .slice none 0 0] 30)) X → X.cell? ⟨b, pos L x * 5 + 1, none⟩ = some (.int .i64 (gr L x).pa) ∧ X.rangeAt b (pos L x * 5) (cellsE (gr L x)).toList) := Lib.hid fun X hX => ⟨((hcl.below hb).below hX).pa hj, ((hcl.below hb).below hX).range hj⟩
  have hnum := ok.num _ (gr_mem hh)
  have hkk := ok.k1
  obtain ⟨n1, n2, n3, _⟩ := hnum
  have n5 : (gr L x).me ≤ 1000 := by omega
  have n6 : 0 ≤ (gr L x).me := by omega
  have n7 : (gr L x).aw ≤ 1000 := by omega
  clear hh n2 n3 hkk 
  generalize gr L x = g at *
  generalize pos L x = j at *
  obtain ⟨hme1, hme2⟩ := hme
  obtain ⟨haw1, haw2⟩ := haw
  clear hc h ok
  unfold cellsF
  go_enter Try.func30, Try.ntmps30
  go_wp2_with (first | (have hgd := hx0; refine wpList_alloc30 rfl rfl ?_; clear hgd; generalize ((w.alloc (.cells #[.int .i64 r, .int .i64 m, .slice (some ⟨b, 0, none⟩) L.length c] 30)).alloc (.cells #[.int .i64 0, .int .i64 0, .slice none 0 0] 30)) = w3 at *; have hbi := Below.refl w3.heap.size w3; clear hx0 hZ0 hb) | (go_at_call 50; refine (HR.out.at' _ _ (by assumption)).mono ?_; rw [HA.out]; rintro e wi ⟨rfl, hbi⟩; have hX2 := HXB.out wi hbi; have f0 := cF0 hX2; have f1 := cF1 hX2; have f2 := cF2 hX2; clear hX2; have g1 := (HCL.out wi hbi).1) | (refine wpList_load30 rfl _ rfl w.heap.size r m (.slice (some ⟨b, 0, none⟩) L.length c) rfl (HXB.out _ (by assumption)) ?_) | (refine wpList_load_mid rfl 70 _ rfl b (j * 5) rfl _ _ (HCL.out _ (by assumption)).2 Try.underlying70 rfl Try.info70 ?_) | (refine wpList_alloc70 rfl rfl ?_; have hZg := Blk.new wi 70 #[.int .i64 0, .int .i64 0, .int .i64 0, .int .i64 0, .int .i64 0]; have hbg := Below.allocS hbi (.cells #[.int .i64 0, .int .i64 0, .int .i64 0, .int .i64 0, .int .i64 0] 70); have hltg : wi.heap.size < (wi.alloc (.cells #[.int .i64 0, .int .i64 0, .int .i64 0, .int .i64 0, .int .i64 0] 70)).heap.size := (by simp); have hleg := hbi.size; generalize wi.alloc (.cells #[.int .i64 0, .int .i64 0, .int .i64 0, .int .i64 0, .int .i64 0] 70) = wg at *) | (refine wpList_store70 rfl _ _ rfl wi.heap.size g rfl rfl hZg rfl ?_; intro wh hZh th; have hbh : Below w3.heap.size w3 wh := hbg.trans (th.below hleg); have fz3 := hZh.fz 3; have fz4 := hZh.fz 4; have cx3 := cE3 hZh; have cx4 := cE4 hZh; have hZi : Blk (wh.setCell ⟨wi.heap.size, 3, none⟩ (.int .i64 (g.me + me))) wi.heap.size 70 (cellsE ⟨g.id, g.pa, g.wt, g.me + me, g.aw⟩) := hZh.set 3 _; have hbj : Below w3.heap.size w3 (wh.setCell ⟨wi.heap.size, 3, none⟩ (.int .i64 (g.me + me))) := hbh.trans ((Turn.setCell wh wi.heap.size 3 _).below hleg); have cy4 := cE4 hZi; have fy4 := hZi.fz 4; have cz4x := cE3 hZi; have hZk : Blk ((wh.setCell ⟨wi.heap.size, 3, none⟩ (.int .i64 (g.me + me))).setCell ⟨wi.heap.size, 4, none⟩ (.int .i64 (g.aw + aw))) wi.heap.size 70 (cellsE ⟨g.id, g.pa, g.wt, g.me + me, g.aw + aw⟩) := hZi.set 4 _; have hbk : Below w3.heap.size w3 ((wh.setCell ⟨wi.heap.size, 3, none⟩ (.int .i64 (g.me + me))).setCell ⟨wi.heap.size, 4, none⟩ (.int .i64 (g.aw + aw))) := hbj.trans ((Turn.setCell _ wi.heap.size 4 _).below hleg); have cz3 := cE3 hZk; have cz4 := cE4 hZk) | (refine wpList_store30 rfl _ _ rfl (w.heap.size + 1) r m (.slice (some ⟨b, 0, none⟩) L.length c) rfl rfl (HZB.out _ (by assumption)) rfl rfl ?_; intro wz hZ9 t9))
  refine bodyPost_ret (resultsF_ct rfl _ wz (w.heap.size + 1) r m (.slice (some ⟨b, 0, none⟩) L.length c) _ rfl rfl hZ9) rfl ?_
  rw [HC.out, HN.out]
  exact ⟨⟨_, rfl, some ⟨b, 0, none⟩, c, rfl, (HR.out.row _ hbk).turn t9 (HZB.out _ hbk) (by decide)⟩, (HFin.out _ hbk).trans (t9.below (by omega))⟩
set_option maxRecDepth 100000 in
set_option maxHeartbeats 4000000 in
theorem rCount_overN (x me aw : Int) (m0 k : Int) (w : World) (h : RowG w (.slice a L.length c) L) (ok : Ok L m0 k) (hh : has L x = true) (h0 : ¬ 0 < me) (hs0 : ¬ (gr L x).aw + aw < 0) (hs : (gr L x).me + me < (gr L x).aw + aw) (hme : -1 ≤ me ∧ me ≤ 1) (haw : -1 ≤ aw ∧ aw ≤ 1) :
    Calls Try.prog 30 #[.agg (cellsF r m (.slice a L.length c)), .int .i64 x, .int .i64 me, .int .i64 aw] w fun e w' => (∃ v, e = .returned (.tuple #[v, .int .i64 (countC L x me aw)]) ∧ DocF w' v r m (countN L x me aw)) ∧ Below w.heap.size w w' := by
  have hc : countC L x me aw = 10 := by unfold countC; rw [if_neg (by rw [hh]; decide), if_neg (fun e => h0 e.1), if_pos (by omega)]
  have HC := Lib.hid hc
  have HN : Hid (countN L x me aw = L) := Lib.hid (by unfold countN; rw [hc]; rfl)
  have hx0 : Blk ((w.alloc (.cells #[.int .i64 r, .int .i64 m, .slice a L.length c] 30)).alloc (.cells #[.int .i64 0, .int .i64 0, .slice none 0 0] 30)) w.heap.size 30 (cellsF r m (.slice a L.length c)) := (Blk.new w 30 _).alloc _
  have hZ0 : Blk ((w.alloc (.cells #[.int .i64 r, .int .i64 m, .slice a L.length c] 30)).alloc (.cells #[.int .i64 0, .int .i64 0, .slice none 0 0] 30)) (w.heap.size + 1) 30 (cellsF 0 0 (.slice none 0 0)) := by
    have := Blk.new (w.alloc (.cells #[.int .i64 r, .int .i64 m, .slice a L.length c] 30)) 30 (cellsF 0 0 (.slice none 0 0))
    have e : (w.alloc (.cells #[.int .i64 r, .int .i64 m, .slice a L.length c] 30)).heap.size = w.heap.size + 1 := by simp
    rw [e] at this
    exact this
  have hb : Below w.heap.size w ((w.alloc (.cells #[.int .i64 r, .int .i64 m, .slice a L.length c] 30)).alloc (.cells #[.int .i64 0, .int .i64 0, .slice none 0 0] 30)) := ((Below.refl _ w).alloc (Nat.le_refl _) _).alloc (by simp) _
  have hsz : w.heap.size + 2 ≤ ((w.alloc (.cells #[.int .i64 r, .int .i64 m, .slice a L.length c] 30)).alloc (.cells #[.int .i64 0, .int .i64 0, .slice none 0 0] 30)).heap.size := by simp
  have HR : Hid (Rdw ((w.alloc (.cells #[.int .i64 r, .int .i64 m, .slice a L.length c] 30)).alloc (.cells #[.int .i64 0, .int .i64 0, .slice none 0 0] 30)) r m a c L) := Lib.hid (Rdw.of h ok hb)
  have HXB : Hid (∀ X, Below ((w.alloc (.cells #[.int .i64 r, .int .i64 m, .slice a L.length c] 30)).alloc (.cells #[.int .i64 0, .int .i64 0, .slice none 0 0] 30)).heap.size ((w.alloc (.cells #[.int .i64 r, .int .i64 m, .slice a L.length c] 30)).alloc (.cells #[.int .i64 0, .int .i64 0, .slice none 0 0] 30)) X → Blk X w.heap.size 30 (cellsF r m (.slice a L.length c))) := Lib.hid fun X hX => hx0.below hX
  have HZB : Hid (∀ X, Below ((w.alloc (.cells #[.int .i64 r, .int .i64 m, .slice a L.length c] 30)).alloc (.cells #[.int .i64 0, .int .i64 0, .slice none 0 0] 30)).heap.size ((w.alloc (.cells #[.int .i64 r, .int .i64 m, .slice a L.length c] 30)).alloc (.cells #[.int .i64 0, .int .i64 0, .slice none 0 0] 30)) X → Blk X (w.heap.size + 1) 30 (cellsF 0 0 (.slice none 0 0))) := Lib.hid fun X hX => hZ0.below hX
  have HFin : Hid (∀ X, Below ((w.alloc (.cells #[.int .i64 r, .int .i64 m, .slice a L.length c] 30)).alloc (.cells #[.int .i64 0, .int .i64 0, .slice none 0 0] 30)).heap.size ((w.alloc (.cells #[.int .i64 r, .int .i64 m, .slice a L.length c] 30)).alloc (.cells #[.int .i64 0, .int .i64 0, .slice none 0 0] 30)) X → Below w.heap.size w X) := Lib.hid fun X hX => hb.trans (hX.mono (by omega))
  have HA : Hid (atG L x = (pos L x : Int)) := Lib.hid (atG_yes hh)
  have HH := Lib.hid hh
  have hj := has_pos hh
  obtain ⟨b, rfl, hcl⟩ := h.at hj
  have HCL : Hid (∀ X, Below ((w.alloc (.cells #[.int .i64 r, .int .i64 m, .slice (some ⟨b, 0, none⟩) L.length c] 30)).alloc (.cells #[.int .i64 0, .int .i64 0, .slice none 0 0] 30)).heap.size ((w.alloc (.cells #[.int .i64 r, .int .i64 m, .slice (some ⟨b, 0, none⟩) L.length c] 30)).alloc (.cells #[.int .i64 0, .int .i64 0, .slice none 0 0] 30)) X → X.cell? ⟨b, pos L x * 5 + 1, none⟩ = some (.int .i64 (gr L x).pa) ∧ X.rangeAt b (pos L x * 5) (cellsE (gr L x)).toList) := Lib.hid fun X hX => ⟨((hcl.below hb).below hX).pa hj, ((hcl.below hb).below hX).range hj⟩
  have hnum := ok.num _ (gr_mem hh)
  have hkk := ok.k1
  obtain ⟨n1, n2, n3, _⟩ := hnum
  have n5 : (gr L x).me ≤ 1000 := by omega
  have n6 : 0 ≤ (gr L x).me := by omega
  have n7 : (gr L x).aw ≤ 1000 := by omega
  clear hh n2 n3 hkk 
  generalize gr L x = g at *
  generalize pos L x = j at *
  obtain ⟨hme1, hme2⟩ := hme
  obtain ⟨haw1, haw2⟩ := haw
  clear hc h ok
  unfold cellsF
  go_enter Try.func30, Try.ntmps30
  go_wp2_with (first | (have hgd := hx0; refine wpList_alloc30 rfl rfl ?_; clear hgd; generalize ((w.alloc (.cells #[.int .i64 r, .int .i64 m, .slice (some ⟨b, 0, none⟩) L.length c] 30)).alloc (.cells #[.int .i64 0, .int .i64 0, .slice none 0 0] 30)) = w3 at *; have hbi := Below.refl w3.heap.size w3; clear hx0 hZ0 hb) | (go_at_call 50; refine (HR.out.at' _ _ (by assumption)).mono ?_; rw [HA.out]; rintro e wi ⟨rfl, hbi⟩; have hX2 := HXB.out wi hbi; have f0 := cF0 hX2; have f1 := cF1 hX2; have f2 := cF2 hX2; clear hX2; have g1 := (HCL.out wi hbi).1) | (refine wpList_load30 rfl _ rfl w.heap.size r m (.slice (some ⟨b, 0, none⟩) L.length c) rfl (HXB.out _ (by assumption)) ?_) | (refine wpList_load_mid rfl 70 _ rfl b (j * 5) rfl _ _ (HCL.out _ (by assumption)).2 Try.underlying70 rfl Try.info70 ?_) | (refine wpList_alloc70 rfl rfl ?_; have hZg := Blk.new wi 70 #[.int .i64 0, .int .i64 0, .int .i64 0, .int .i64 0, .int .i64 0]; have hbg := Below.allocS hbi (.cells #[.int .i64 0, .int .i64 0, .int .i64 0, .int .i64 0, .int .i64 0] 70); have hltg : wi.heap.size < (wi.alloc (.cells #[.int .i64 0, .int .i64 0, .int .i64 0, .int .i64 0, .int .i64 0] 70)).heap.size := (by simp); have hleg := hbi.size; generalize wi.alloc (.cells #[.int .i64 0, .int .i64 0, .int .i64 0, .int .i64 0, .int .i64 0] 70) = wg at *) | (refine wpList_store70 rfl _ _ rfl wi.heap.size g rfl rfl hZg rfl ?_; intro wh hZh th; have hbh : Below w3.heap.size w3 wh := hbg.trans (th.below hleg); have fz3 := hZh.fz 3; have fz4 := hZh.fz 4; have cx3 := cE3 hZh; have cx4 := cE4 hZh; have hZi : Blk (wh.setCell ⟨wi.heap.size, 3, none⟩ (.int .i64 (g.me + me))) wi.heap.size 70 (cellsE ⟨g.id, g.pa, g.wt, g.me + me, g.aw⟩) := hZh.set 3 _; have hbj : Below w3.heap.size w3 (wh.setCell ⟨wi.heap.size, 3, none⟩ (.int .i64 (g.me + me))) := hbh.trans ((Turn.setCell wh wi.heap.size 3 _).below hleg); have cy4 := cE4 hZi; have fy4 := hZi.fz 4; have cz4x := cE3 hZi; have hZk : Blk ((wh.setCell ⟨wi.heap.size, 3, none⟩ (.int .i64 (g.me + me))).setCell ⟨wi.heap.size, 4, none⟩ (.int .i64 (g.aw + aw))) wi.heap.size 70 (cellsE ⟨g.id, g.pa, g.wt, g.me + me, g.aw + aw⟩) := hZi.set 4 _; have hbk : Below w3.heap.size w3 ((wh.setCell ⟨wi.heap.size, 3, none⟩ (.int .i64 (g.me + me))).setCell ⟨wi.heap.size, 4, none⟩ (.int .i64 (g.aw + aw))) := hbj.trans ((Turn.setCell _ wi.heap.size 4 _).below hleg); have cz3 := cE3 hZk; have cz4 := cE4 hZk) | (refine wpList_store30 rfl _ _ rfl (w.heap.size + 1) r m (.slice (some ⟨b, 0, none⟩) L.length c) rfl rfl (HZB.out _ (by assumption)) rfl rfl ?_; intro wz hZ9 t9))
  refine bodyPost_ret (resultsF_ct rfl _ wz (w.heap.size + 1) r m (.slice (some ⟨b, 0, none⟩) L.length c) _ rfl rfl hZ9) rfl ?_
  rw [HC.out, HN.out]
  exact ⟨⟨_, rfl, some ⟨b, 0, none⟩, c, rfl, (HR.out.row _ hbk).turn t9 (HZB.out _ hbk) (by decide)⟩, (HFin.out _ hbk).trans (t9.below (by omega))⟩
set_option maxRecDepth 100000 in
set_option maxHeartbeats 4000000 in
theorem rCount_yesN (x me aw : Int) (m0 k : Int) (w : World) (h : RowG w (.slice a L.length c) L) (ok : Ok L m0 k) (hh : has L x = true) (h0 : ¬ 0 < me) (hs0 : ¬ (gr L x).aw + aw < 0) (hs : ¬ (gr L x).me + me < (gr L x).aw + aw) (hme : -1 ≤ me ∧ me ≤ 1) (haw : -1 ≤ aw ∧ aw ≤ 1) :
    Calls Try.prog 30 #[.agg (cellsF r m (.slice a L.length c)), .int .i64 x, .int .i64 me, .int .i64 aw] w fun e w' => (∃ v, e = .returned (.tuple #[v, .int .i64 (countC L x me aw)]) ∧ DocF w' v r m (countN L x me aw)) ∧ Below w.heap.size w w' := by
  have hc : countC L x me aw = 0 := by unfold countC; rw [if_neg (by rw [hh]; decide), if_neg (fun e => h0 e.1), if_neg (by omega)]
  have HC := Lib.hid hc
  have HN : Hid (countN L x me aw = countG L x me aw) := Lib.hid (by unfold countN; rw [hc]; rfl)
  have hx0 : Blk ((w.alloc (.cells #[.int .i64 r, .int .i64 m, .slice a L.length c] 30)).alloc (.cells #[.int .i64 0, .int .i64 0, .slice none 0 0] 30)) w.heap.size 30 (cellsF r m (.slice a L.length c)) := (Blk.new w 30 _).alloc _
  have hZ0 : Blk ((w.alloc (.cells #[.int .i64 r, .int .i64 m, .slice a L.length c] 30)).alloc (.cells #[.int .i64 0, .int .i64 0, .slice none 0 0] 30)) (w.heap.size + 1) 30 (cellsF 0 0 (.slice none 0 0)) := by
    have := Blk.new (w.alloc (.cells #[.int .i64 r, .int .i64 m, .slice a L.length c] 30)) 30 (cellsF 0 0 (.slice none 0 0))
    have e : (w.alloc (.cells #[.int .i64 r, .int .i64 m, .slice a L.length c] 30)).heap.size = w.heap.size + 1 := by simp
    rw [e] at this
    exact this
  have hb : Below w.heap.size w ((w.alloc (.cells #[.int .i64 r, .int .i64 m, .slice a L.length c] 30)).alloc (.cells #[.int .i64 0, .int .i64 0, .slice none 0 0] 30)) := ((Below.refl _ w).alloc (Nat.le_refl _) _).alloc (by simp) _
  have hsz : w.heap.size + 2 ≤ ((w.alloc (.cells #[.int .i64 r, .int .i64 m, .slice a L.length c] 30)).alloc (.cells #[.int .i64 0, .int .i64 0, .slice none 0 0] 30)).heap.size := by simp
  have HR : Hid (Rdw ((w.alloc (.cells #[.int .i64 r, .int .i64 m, .slice a L.length c] 30)).alloc (.cells #[.int .i64 0, .int .i64 0, .slice none 0 0] 30)) r m a c L) := Lib.hid (Rdw.of h ok hb)
  have HXB : Hid (∀ X, Below ((w.alloc (.cells #[.int .i64 r, .int .i64 m, .slice a L.length c] 30)).alloc (.cells #[.int .i64 0, .int .i64 0, .slice none 0 0] 30)).heap.size ((w.alloc (.cells #[.int .i64 r, .int .i64 m, .slice a L.length c] 30)).alloc (.cells #[.int .i64 0, .int .i64 0, .slice none 0 0] 30)) X → Blk X w.heap.size 30 (cellsF r m (.slice a L.length c))) := Lib.hid fun X hX => hx0.below hX
  have HZB : Hid (∀ X, Below ((w.alloc (.cells #[.int .i64 r, .int .i64 m, .slice a L.length c] 30)).alloc (.cells #[.int .i64 0, .int .i64 0, .slice none 0 0] 30)).heap.size ((w.alloc (.cells #[.int .i64 r, .int .i64 m, .slice a L.length c] 30)).alloc (.cells #[.int .i64 0, .int .i64 0, .slice none 0 0] 30)) X → Blk X (w.heap.size + 1) 30 (cellsF 0 0 (.slice none 0 0))) := Lib.hid fun X hX => hZ0.below hX
  have HFin : Hid (∀ X, Below ((w.alloc (.cells #[.int .i64 r, .int .i64 m, .slice a L.length c] 30)).alloc (.cells #[.int .i64 0, .int .i64 0, .slice none 0 0] 30)).heap.size ((w.alloc (.cells #[.int .i64 r, .int .i64 m, .slice a L.length c] 30)).alloc (.cells #[.int .i64 0, .int .i64 0, .slice none 0 0] 30)) X → Below w.heap.size w X) := Lib.hid fun X hX => hb.trans (hX.mono (by omega))
  have HA : Hid (atG L x = (pos L x : Int)) := Lib.hid (atG_yes hh)
  have HH := Lib.hid hh
  have hj := has_pos hh
  obtain ⟨b, rfl, hcl⟩ := h.at hj
  have HCL : Hid (∀ X, Below ((w.alloc (.cells #[.int .i64 r, .int .i64 m, .slice (some ⟨b, 0, none⟩) L.length c] 30)).alloc (.cells #[.int .i64 0, .int .i64 0, .slice none 0 0] 30)).heap.size ((w.alloc (.cells #[.int .i64 r, .int .i64 m, .slice (some ⟨b, 0, none⟩) L.length c] 30)).alloc (.cells #[.int .i64 0, .int .i64 0, .slice none 0 0] 30)) X → X.cell? ⟨b, pos L x * 5 + 1, none⟩ = some (.int .i64 (gr L x).pa) ∧ X.rangeAt b (pos L x * 5) (cellsE (gr L x)).toList) := Lib.hid fun X hX => ⟨((hcl.below hb).below hX).pa hj, ((hcl.below hb).below hX).range hj⟩
  have hnum := ok.num _ (gr_mem hh)
  have hkk := ok.k1
  have HGG : Hid (countG L x me aw = L.set (pos L x) ⟨(gr L x).id, (gr L x).pa, (gr L x).wt, (gr L x).me + me, (gr L x).aw + aw⟩) := Lib.hid (by unfold countG setG; rw [gr_id hh])
  rw [HGG.out] at HN
  clear HGG
  obtain ⟨n1, n2, n3, _⟩ := hnum
  have n5 : (gr L x).me ≤ 1000 := by omega
  have n6 : 0 ≤ (gr L x).me := by omega
  have n7 : (gr L x).aw ≤ 1000 := by omega
  clear hh n2 n3 hkk 
  generalize gr L x = g at *
  generalize pos L x = j at *
  obtain ⟨hme1, hme2⟩ := hme
  obtain ⟨haw1, haw2⟩ := haw
  clear hc h ok
  unfold cellsF
  go_enter Try.func30, Try.ntmps30
  go_wp2_with (first | (have hgd := hx0; refine wpList_alloc30 rfl rfl ?_; clear hgd; generalize ((w.alloc (.cells #[.int .i64 r, .int .i64 m, .slice (some ⟨b, 0, none⟩) L.length c] 30)).alloc (.cells #[.int .i64 0, .int .i64 0, .slice none 0 0] 30)) = w3 at *; have hbi := Below.refl w3.heap.size w3; clear hx0 hZ0 hb) | (go_at_call 50; refine (HR.out.at' _ _ (by assumption)).mono ?_; rw [HA.out]; rintro e wi ⟨rfl, hbi⟩; have hX2 := HXB.out wi hbi; have f0 := cF0 hX2; have f1 := cF1 hX2; have f2 := cF2 hX2; clear hX2; have g1 := (HCL.out wi hbi).1) | (refine wpList_load30 rfl _ rfl w.heap.size r m (.slice (some ⟨b, 0, none⟩) L.length c) rfl (HXB.out _ (by assumption)) ?_) | (refine wpList_load_mid rfl 70 _ rfl b (j * 5) rfl _ _ (HCL.out _ (by assumption)).2 Try.underlying70 rfl Try.info70 ?_) | (refine wpList_alloc70 rfl rfl ?_; have hZg := Blk.new wi 70 #[.int .i64 0, .int .i64 0, .int .i64 0, .int .i64 0, .int .i64 0]; have hbg := Below.allocS hbi (.cells #[.int .i64 0, .int .i64 0, .int .i64 0, .int .i64 0, .int .i64 0] 70); have hltg : wi.heap.size < (wi.alloc (.cells #[.int .i64 0, .int .i64 0, .int .i64 0, .int .i64 0, .int .i64 0] 70)).heap.size := (by simp); have hleg := hbi.size; generalize wi.alloc (.cells #[.int .i64 0, .int .i64 0, .int .i64 0, .int .i64 0, .int .i64 0] 70) = wg at *) | (refine wpList_store70 rfl _ _ rfl wi.heap.size g rfl rfl hZg rfl ?_; intro wh hZh th; have hbh : Below w3.heap.size w3 wh := hbg.trans (th.below hleg); have fz3 := hZh.fz 3; have fz4 := hZh.fz 4; have cx3 := cE3 hZh; have cx4 := cE4 hZh; have hZi : Blk (wh.setCell ⟨wi.heap.size, 3, none⟩ (.int .i64 (g.me + me))) wi.heap.size 70 (cellsE ⟨g.id, g.pa, g.wt, g.me + me, g.aw⟩) := hZh.set 3 _; have hbj : Below w3.heap.size w3 (wh.setCell ⟨wi.heap.size, 3, none⟩ (.int .i64 (g.me + me))) := hbh.trans ((Turn.setCell wh wi.heap.size 3 _).below hleg); have cy4 := cE4 hZi; have fy4 := hZi.fz 4; have cz4x := cE3 hZi; have hZk : Blk ((wh.setCell ⟨wi.heap.size, 3, none⟩ (.int .i64 (g.me + me))).setCell ⟨wi.heap.size, 4, none⟩ (.int .i64 (g.aw + aw))) wi.heap.size 70 (cellsE ⟨g.id, g.pa, g.wt, g.me + me, g.aw + aw⟩) := hZi.set 4 _; have hbk : Below w3.heap.size w3 ((wh.setCell ⟨wi.heap.size, 3, none⟩ (.int .i64 (g.me + me))).setCell ⟨wi.heap.size, 4, none⟩ (.int .i64 (g.aw + aw))) := hbj.trans ((Turn.setCell _ wi.heap.size 4 _).below hleg); have cz3 := cE3 hZk; have cz4 := cE4 hZk) | (refine wpList_load70 rfl _ rfl wi.heap.size ⟨g.id, g.pa, g.wt, g.me + me, g.aw + aw⟩ rfl hZk ?_) | (go_at_call 54; refine (HR.out.set _ ⟨g.id, g.pa, g.wt, g.me + me, g.aw + aw⟩ _ hj (by assumption)).mono ?_; rintro e wi ⟨⟨a', c', rfl, hr9⟩, hbi⟩) | (refine wpList_store30 rfl _ _ rfl (w.heap.size + 1) r m (.slice a' L.length c') rfl rfl (HZB.out _ (by assumption)) rfl rfl ?_; intro wz hZ9 t9))
  refine bodyPost_ret (resultsF_ct rfl _ wz (w.heap.size + 1) r m _ _ rfl rfl hZ9) rfl ?_
  rw [HC.out, HN.out]
  exact ⟨⟨_, rfl, a', c', by rw [List.length_set], by rw [List.length_set]; exact hr9.turn t9 (HZB.out _ hbi) (by decide)⟩, (HFin.out _ hbi).trans (t9.below (by omega))⟩
theorem rCount_any (x me aw : Int) (m0 k : Int) (w : World) (h : RowG w (.slice a L.length c) L) (ok : Ok L m0 k) (hme : -1 ≤ me ∧ me ≤ 1) (haw : -1 ≤ aw ∧ aw ≤ 1) :
    Calls Try.prog 30 #[.agg (cellsF r m (.slice a L.length c)), .int .i64 x, .int .i64 me, .int .i64 aw] w fun e w' => (∃ v, e = .returned (.tuple #[v, .int .i64 (countC L x me aw)]) ∧ DocF w' v r m (countN L x me aw)) ∧ Below w.heap.size w w' := by
  cases hh : has L x with
  | false => exact rCount_no r m a c L x me aw m0 k w h ok hh
  | true =>
  by_cases h0 : 0 < me
  · by_cases h32 : fanI L x = 32
    · exact rCount_full r m a c L x me aw m0 k w h ok hh h0 h32
    · by_cases hs0 : (gr L x).aw + aw < 0
      · exact rCount_negG r m a c L x me aw m0 k w h ok hh h0 h32 hs0 hme haw
      · by_cases hs : (gr L x).me + me < (gr L x).aw + aw
        · exact rCount_overG r m a c L x me aw m0 k w h ok hh h0 h32 hs0 hs hme haw
        · exact rCount_yesG r m a c L x me aw m0 k w h ok hh h0 h32 hs0 hs hme haw
  · by_cases hs0 : (gr L x).aw + aw < 0
    · exact rCount_negN r m a c L x me aw m0 k w h ok hh h0 hs0 hme haw
    · by_cases hs : (gr L x).me + me < (gr L x).aw + aw
      · exact rCount_overN r m a c L x me aw m0 k w h ok hh h0 hs0 hs hme haw
      · exact rCount_yesN r m a c L x me aw m0 k w h ok hh h0 hs0 hs hme haw
theorem rWeight_any (x wt : Int) (m0 k : Int) (w : World) (h : RowG w (.slice a L.length c) L) (ok : Ok L m0 k) :
    Calls Try.prog 29 #[.agg (cellsF r m (.slice a L.length c)), .int .i64 x, .int .i64 wt] w fun e w' => (∃ v, e = .returned (.tuple #[v, .int .i64 (weightC L x wt)]) ∧ DocF w' v r m (weightN L x wt)) ∧ Below w.heap.size w w' := by
  cases hh : has L x with
  | false => exact rWeight_no r m a c L x wt m0 k w h ok hh
  | true =>
  rcases ok.pa hh with hp | hp
  · exact rWeight_root r m a c L x wt m0 k w h ok hh hp
  have hp2 : 0 ≤ (gr L x).pa := by have := ok.id hp; omega
  by_cases h1 : wt < 1
  · exact rWeight_bad1 r m a c L x wt m0 k w h ok hh hp2 h1
  by_cases h2 : 10000 < wt
  · exact rWeight_bad2 r m a c L x wt m0 k w h ok hh hp2 h2
  · exact rWeight_yes r m a c L x wt m0 k w h ok hh hp2 (by omega)
end
end Go.Proofs.Ythndfhkkaichiaa
