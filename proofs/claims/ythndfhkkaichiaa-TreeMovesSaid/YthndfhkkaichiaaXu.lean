/-
  The document's AddRoot, Add. Condition: the groups are a forest.
-/
import Derived.Test.YthndfhkkaichiaaXs
namespace Go.Proofs.Ythndfhkkaichiaa
open Go.RowKit Go.Maps

section
variable (r m : Int) (a : Option Addr) (c : Nat) (L : List Gr)
set_option maxRecDepth 100000 in
set_option maxHeartbeats 4000000 in
theorem rRoot_full (R : Nat) (hR : r = (R : Int)) (hm : 0 ≤ m ∧ m < 1000) (m0 k : Int) (w : World) (h : RowG w (.slice a L.length c) L) (ok : Ok L m0 k) (hl : L.length = R) :
    Calls Try.prog 23 #[.agg (cellsF r m (.slice a L.length c))] w fun e w' => (∃ v, e = .returned (.tuple #[v, .int .i64 (nextI (rootC L R) m), .int .i64 (rootC L R)]) ∧ DocF w' v r (lastI (rootC L R) m) (rootN L R m)) ∧ Below w.heap.size w w' := by
  have hc : rootC L R = 6 := by unfold rootC; rw [if_pos hl]
  have HC : Hid (nextI (rootC L R) m = 0 ∧ lastI (rootC L R) m = m ∧ rootC L R = 6) := Lib.hid (by rw [hc]; exact ⟨rfl, rfl, rfl⟩)
  have HN : Hid (rootN L R m = L) := Lib.hid (by unfold rootN; rw [hc]; rfl)
  have HM : Hid (0 ≤ m ∧ m ≤ 1000) := Lib.hid (by omega)
  have hx0 : Blk ((w.alloc (.cells #[.int .i64 r, .int .i64 m, .slice a L.length c] 30)).alloc (.cells #[.int .i64 0, .int .i64 0, .slice none 0 0] 30)) w.heap.size 30 (cellsF r m (.slice a L.length c)) := (Blk.new w 30 _).alloc _
  have hZ0 : Blk ((w.alloc (.cells #[.int .i64 r, .int .i64 m, .slice a L.length c] 30)).alloc (.cells #[.int .i64 0, .int .i64 0, .slice none 0 0] 30)) (w.heap.size + 1) 30 (cellsF 0 0 (.slice none 0 0)) := by
    have := Blk.new (w.alloc (.cells #[.int .i64 r, .int .i64 m, .slice a L.length c] 30)) 30 (cellsF 0 0 (.slice none 0 0))
    have e : (w.alloc (.cells #[.int .i64 r, .int .i64 m, .slice a L.length c] 30)).heap.size = w.heap.size + 1 := by simp
    rw [e] at this
    exact this
  have hb : Below w.heap.size w ((w.alloc (.cells #[.int .i64 r, .int .i64 m, .slice a L.length c] 30)).alloc (.cells #[.int .i64 0, .int .i64 0, .slice none 0 0] 30)) := ((Below.refl _ w).alloc (Nat.le_refl _) _).alloc (by simp) _
  have hsz : w.heap.size + 2 ≤ ((w.alloc (.cells #[.int .i64 r, .int .i64 m, .slice a L.length c] 30)).alloc (.cells #[.int .i64 0, .int .i64 0, .slice none 0 0] 30)).heap.size := by simp
  have HR : Hid (Rdw ((w.alloc (.cells #[.int .i64 r, .int .i64 m, .slice a L.length c] 30)).alloc (.cells #[.int .i64 0, .int .i64 0, .slice none 0 0] 30)) r m a c L) := Lib.hid (Rdw.of h ok hb)
  have HXB : Hid (∀ X, Below ((w.alloc (.cells #[.int .i64 r, .int .i64 m, .slice a L.length c] 30)).alloc (.cells #[.int .i64 0, .int .i64 0, .slice none 0 0] 30)).heap.size ((w.alloc (.cells #[.int .i64 r, .int .i64 m, .slice a L.length c] 30)).alloc (.cells #[.int .i64 0, .int .i64 0, .slice none 0 0] 30)) X → Blk X w.heap.size 30 (cellsF r m (.slice a L.length c))) := Lib.hid fun X hX => hx0.below hX
  have HZB : Hid (∀ X, Below ((w.alloc (.cells #[.int .i64 r, .int .i64 m, .slice a L.length c] 30)).alloc (.cells #[.int .i64 0, .int .i64 0, .slice none 0 0] 30)).heap.size ((w.alloc (.cells #[.int .i64 r, .int .i64 m, .slice a L.length c] 30)).alloc (.cells #[.int .i64 0, .int .i64 0, .slice none 0 0] 30)) X → Blk X (w.heap.size + 1) 30 (cellsF 0 0 (.slice none 0 0))) := Lib.hid fun X hX => hZ0.below hX
  have HFin : Hid (∀ X, Below ((w.alloc (.cells #[.int .i64 r, .int .i64 m, .slice a L.length c] 30)).alloc (.cells #[.int .i64 0, .int .i64 0, .slice none 0 0] 30)).heap.size ((w.alloc (.cells #[.int .i64 r, .int .i64 m, .slice a L.length c] 30)).alloc (.cells #[.int .i64 0, .int .i64 0, .slice none 0 0] 30)) X → Below w.heap.size w X) := Lib.hid fun X hX => hb.trans (hX.mono (by omega))
  have hl2 : ((L.length : Int) == r) = true := beq_tt (by omega)
  clear hl
  have HX1 := Lib.hid (Below.refl w.heap.size w)
  clear hc h ok hm hR
  unfold cellsF
  go_enter Try.func23, Try.ntmps23
  go_wp2_with (first | (have hgd := hx0; refine wpList_alloc30 rfl rfl ?_; clear hgd; generalize ((w.alloc (.cells #[.int .i64 r, .int .i64 m, .slice a L.length c] 30)).alloc (.cells #[.int .i64 0, .int .i64 0, .slice none 0 0] 30)) = w3 at *; have hbi := Below.refl w3.heap.size w3; have h00 := cF0 hx0; have h01 := cF1 hx0; have h02 := cF2 hx0; clear hx0 hZ0 hb) | (refine wpList_load30 rfl _ rfl w.heap.size r m (.slice a L.length c) rfl (HXB.out _ (by assumption)) ?_) | (refine wpList_store30 rfl _ _ rfl (w.heap.size + 1) r m (.slice a L.length c) rfl rfl (HZB.out _ (by assumption)) rfl rfl ?_; intro wz hZ9 t9))
  refine bodyPost_ret (resultsF_ctt rfl _ wz (w.heap.size + 1) r m (.slice a L.length c) _ _ rfl rfl rfl hZ9) rfl ?_
  rw [HC.out.1, HC.out.2.1, HC.out.2.2, HN.out]
  exact ⟨⟨_, rfl, a, c, rfl, (HR.out.row _ hbi).turn t9 (HZB.out _ hbi) (by decide)⟩, (HFin.out _ hbi).trans (t9.below (by omega))⟩
set_option maxRecDepth 100000 in
set_option maxHeartbeats 4000000 in
theorem rRoot_yes (R : Nat) (hR : r = (R : Int)) (hm : 0 ≤ m ∧ m < 1000) (m0 k : Int) (w : World) (h : RowG w (.slice a L.length c) L) (ok : Ok L m0 k) (hl : ¬ L.length = R) :
    Calls Try.prog 23 #[.agg (cellsF r m (.slice a L.length c))] w fun e w' => (∃ v, e = .returned (.tuple #[v, .int .i64 (nextI (rootC L R) m), .int .i64 (rootC L R)]) ∧ DocF w' v r (lastI (rootC L R) m) (rootN L R m)) ∧ Below w.heap.size w w' := by
  have hc : rootC L R = 0 := by unfold rootC; rw [if_neg hl]
  have HC : Hid (nextI (rootC L R) m = m + 1 ∧ lastI (rootC L R) m = m + 1 ∧ rootC L R = 0) := Lib.hid (by rw [hc]; exact ⟨rfl, rfl, rfl⟩)
  have HN : Hid (rootN L R m = addG L m (-1) 1) := Lib.hid (by unfold rootN; rw [hc]; rfl)
  have HM : Hid (0 ≤ m ∧ m ≤ 1000) := Lib.hid (by omega)
  have hx0 : Blk ((w.alloc (.cells #[.int .i64 r, .int .i64 m, .slice a L.length c] 30)).alloc (.cells #[.int .i64 0, .int .i64 0, .slice none 0 0] 30)) w.heap.size 30 (cellsF r m (.slice a L.length c)) := (Blk.new w 30 _).alloc _
  have hZ0 : Blk ((w.alloc (.cells #[.int .i64 r, .int .i64 m, .slice a L.length c] 30)).alloc (.cells #[.int .i64 0, .int .i64 0, .slice none 0 0] 30)) (w.heap.size + 1) 30 (cellsF 0 0 (.slice none 0 0)) := by
    have := Blk.new (w.alloc (.cells #[.int .i64 r, .int .i64 m, .slice a L.length c] 30)) 30 (cellsF 0 0 (.slice none 0 0))
    have e : (w.alloc (.cells #[.int .i64 r, .int .i64 m, .slice a L.length c] 30)).heap.size = w.heap.size + 1 := by simp
    rw [e] at this
    exact this
  have hb : Below w.heap.size w ((w.alloc (.cells #[.int .i64 r, .int .i64 m, .slice a L.length c] 30)).alloc (.cells #[.int .i64 0, .int .i64 0, .slice none 0 0] 30)) := ((Below.refl _ w).alloc (Nat.le_refl _) _).alloc (by simp) _
  have hsz : w.heap.size + 2 ≤ ((w.alloc (.cells #[.int .i64 r, .int .i64 m, .slice a L.length c] 30)).alloc (.cells #[.int .i64 0, .int .i64 0, .slice none 0 0] 30)).heap.size := by simp
  have HR : Hid (Rdw ((w.alloc (.cells #[.int .i64 r, .int .i64 m, .slice a L.length c] 30)).alloc (.cells #[.int .i64 0, .int .i64 0, .slice none 0 0] 30)) r m a c L) := Lib.hid (Rdw.of h ok hb)
  have HXB : Hid (∀ X, Below ((w.alloc (.cells #[.int .i64 r, .int .i64 m, .slice a L.length c] 30)).alloc (.cells #[.int .i64 0, .int .i64 0, .slice none 0 0] 30)).heap.size ((w.alloc (.cells #[.int .i64 r, .int .i64 m, .slice a L.length c] 30)).alloc (.cells #[.int .i64 0, .int .i64 0, .slice none 0 0] 30)) X → Blk X w.heap.size 30 (cellsF r m (.slice a L.length c))) := Lib.hid fun X hX => hx0.below hX
  have HZB : Hid (∀ X, Below ((w.alloc (.cells #[.int .i64 r, .int .i64 m, .slice a L.length c] 30)).alloc (.cells #[.int .i64 0, .int .i64 0, .slice none 0 0] 30)).heap.size ((w.alloc (.cells #[.int .i64 r, .int .i64 m, .slice a L.length c] 30)).alloc (.cells #[.int .i64 0, .int .i64 0, .slice none 0 0] 30)) X → Blk X (w.heap.size + 1) 30 (cellsF 0 0 (.slice none 0 0))) := Lib.hid fun X hX => hZ0.below hX
  have HFin : Hid (∀ X, Below ((w.alloc (.cells #[.int .i64 r, .int .i64 m, .slice a L.length c] 30)).alloc (.cells #[.int .i64 0, .int .i64 0, .slice none 0 0] 30)).heap.size ((w.alloc (.cells #[.int .i64 r, .int .i64 m, .slice a L.length c] 30)).alloc (.cells #[.int .i64 0, .int .i64 0, .slice none 0 0] 30)) X → Below w.heap.size w X) := Lib.hid fun X hX => hb.trans (hX.mono (by omega))
  have hl2 : ((L.length : Int) == r) = false := beq_ff (by omega)
  clear hl
  have HX1 := Lib.hid (Below.refl w.heap.size w)
  clear hc h ok hm hR
  unfold cellsF
  go_enter Try.func23, Try.ntmps23
  go_wp2_with (first | (have hgd := hx0; refine wpList_alloc30 rfl rfl ?_; clear hgd; generalize ((w.alloc (.cells #[.int .i64 r, .int .i64 m, .slice a L.length c] 30)).alloc (.cells #[.int .i64 0, .int .i64 0, .slice none 0 0] 30)) = w3 at *; have hbi := Below.refl w3.heap.size w3; have h00 := cF0 hx0; have h01 := cF1 hx0; have h02 := cF2 hx0; clear hx0 hZ0 hb) | (refine wpList_load30 rfl _ rfl w.heap.size r m (.slice a L.length c) rfl (HXB.out _ (by assumption)) ?_) | (go_at_call 49; refine (HR.out.more _ _ _ HM.out (by assumption)).mono ?_; rintro e wi ⟨⟨a', c', rfl, hr9⟩, hbi⟩) | (refine wpList_alloc30 rfl rfl ?_; have hZg := Blk.new wi 30 #[.int .i64 0, .int .i64 0, .slice none 0 0]; have hbg := Below.allocS hbi (.cells #[.int .i64 0, .int .i64 0, .slice none 0 0] 30); have hleg := hbi.size; have hr5 := hr9.alloc (.cells #[.int .i64 0, .int .i64 0, .slice none 0 0] 30); generalize wi.alloc (.cells #[.int .i64 0, .int .i64 0, .slice none 0 0] 30) = wg at *) | (refine wpList_store30 rfl _ _ rfl wi.heap.size r (m + 1) (.slice a' (addG L m (-1) 1).length c') rfl rfl hZg rfl rfl ?_; intro wh hZh th; have hbh : Below w3.heap.size w3 wh := hbg.trans (th.below hleg); have hr6 := hr5.turn th hZg (by decide)) | (refine wpList_load30 rfl _ rfl wi.heap.size r (m + 1) (.slice a' (addG L m (-1) 1).length c') rfl hZh ?_) | (refine wpList_store30 rfl _ _ rfl (w.heap.size + 1) r (m + 1) (.slice a' (addG L m (-1) 1).length c') rfl rfl (HZB.out _ hbh) rfl rfl ?_; intro wz hZ9 t9))
  refine bodyPost_ret (resultsF_ctt rfl _ wz (w.heap.size + 1) r (m + 1) (.slice a' (addG L m (-1) 1).length c') _ _ rfl rfl rfl hZ9) rfl ?_
  rw [HC.out.1, HC.out.2.1, HC.out.2.2, HN.out]
  exact ⟨⟨_, rfl, a', c', rfl, hr6.turn t9 (HZB.out _ hbh) (by decide)⟩, (HFin.out _ hbh).trans (t9.below (by omega))⟩
set_option maxRecDepth 100000 in
set_option maxHeartbeats 4000000 in
theorem rAdd_no (p wt : Int) (R : Nat) (hm : 0 ≤ m ∧ m < 1000) (m0 k : Int) (w : World) (h : RowG w (.slice a L.length c) L) (ok : Ok L m0 k) (hh : has L p = false) :
    Calls Try.prog 24 #[.agg (cellsF r m (.slice a L.length c)), .int .i64 p, .int .i64 wt] w fun e w' => (∃ v, e = .returned (.tuple #[v, .int .i64 (nextI (addC L R p wt) m), .int .i64 (addC L R p wt)]) ∧ DocF w' v r (lastI (addC L R p wt) m) (addN L R m p wt)) ∧ Below w.heap.size w w' := by
  have hc : addC L R p wt = 4 := by unfold addC; rw [if_pos hh]
  have HC : Hid (nextI (addC L R p wt) m = 0 ∧ lastI (addC L R p wt) m = m ∧ addC L R p wt = 4) := Lib.hid (by rw [hc]; exact ⟨rfl, rfl, rfl⟩)
  have HN : Hid (addN L R m p wt = L) := Lib.hid (by unfold addN; rw [hc]; rfl)
  have HM : Hid (0 ≤ m ∧ m ≤ 1000) := Lib.hid (by omega)
  have hx0 : Blk ((w.alloc (.cells #[.int .i64 r, .int .i64 m, .slice a L.length c] 30)).alloc (.cells #[.int .i64 0, .int .i64 0, .slice none 0 0] 30)) w.heap.size 30 (cellsF r m (.slice a L.length c)) := (Blk.new w 30 _).alloc _
  have hZ0 : Blk ((w.alloc (.cells #[.int .i64 r, .int .i64 m, .slice a L.length c] 30)).alloc (.cells #[.int .i64 0, .int .i64 0, .slice none 0 0] 30)) (w.heap.size + 1) 30 (cellsF 0 0 (.slice none 0 0)) := by
    have := Blk.new (w.alloc (.cells #[.int .i64 r, .int .i64 m, .slice a L.length c] 30)) 30 (cellsF 0 0 (.slice none 0 0))
    have e : (w.alloc (.cells #[.int .i64 r, .int .i64 m, .slice a L.length c] 30)).heap.size = w.heap.size + 1 := by simp
    rw [e] at this
    exact this
  have hb : Below w.heap.size w ((w.alloc (.cells #[.int .i64 r, .int .i64 m, .slice a L.length c] 30)).alloc (.cells #[.int .i64 0, .int .i64 0, .slice none 0 0] 30)) := ((Below.refl _ w).alloc (Nat.le_refl _) _).alloc (by simp) _
  have hsz : w.heap.size + 2 ≤ ((w.alloc (.cells #[.int .i64 r, .int .i64 m, .slice a L.length c] 30)).alloc (.cells #[.int .i64 0, .int .i64 0, .slice none 0 0] 30)).heap.size := by simp
  have HR : Hid (Rdw ((w.alloc (.cells #[.int .i64 r, .int .i64 m, .slice a L.length c] 30)).alloc (.cells #[.int .i64 0, .int .i64 0, .slice none 0 0] 30)) r m a c L) := Lib.hid (Rdw.of h ok hb)
  have HXB : Hid (∀ X, Below ((w.alloc (.cells #[.int .i64 r, .int .i64 m, .slice a L.length c] 30)).alloc (.cells #[.int .i64 0, .int .i64 0, .slice none 0 0] 30)).heap.size ((w.alloc (.cells #[.int .i64 r, .int .i64 m, .slice a L.length c] 30)).alloc (.cells #[.int .i64 0, .int .i64 0, .slice none 0 0] 30)) X → Blk X w.heap.size 30 (cellsF r m (.slice a L.length c))) := Lib.hid fun X hX => hx0.below hX
  have HZB : Hid (∀ X, Below ((w.alloc (.cells #[.int .i64 r, .int .i64 m, .slice a L.length c] 30)).alloc (.cells #[.int .i64 0, .int .i64 0, .slice none 0 0] 30)).heap.size ((w.alloc (.cells #[.int .i64 r, .int .i64 m, .slice a L.length c] 30)).alloc (.cells #[.int .i64 0, .int .i64 0, .slice none 0 0] 30)) X → Blk X (w.heap.size + 1) 30 (cellsF 0 0 (.slice none 0 0))) := Lib.hid fun X hX => hZ0.below hX
  have HFin : Hid (∀ X, Below ((w.alloc (.cells #[.int .i64 r, .int .i64 m, .slice a L.length c] 30)).alloc (.cells #[.int .i64 0, .int .i64 0, .slice none 0 0] 30)).heap.size ((w.alloc (.cells #[.int .i64 r, .int .i64 m, .slice a L.length c] 30)).alloc (.cells #[.int .i64 0, .int .i64 0, .slice none 0 0] 30)) X → Below w.heap.size w X) := Lib.hid fun X hX => hb.trans (hX.mono (by omega))
  have HA : Hid (atG L p = -1) := Lib.hid (atG_no hh)
  clear hh
  have HX1 := Lib.hid (Below.refl w.heap.size w)
  clear hc h ok hm
  unfold cellsF
  go_enter Try.func24, Try.ntmps24
  go_wp2_with (first | (have hgd := hx0; refine wpList_alloc30 rfl rfl ?_; clear hgd; generalize ((w.alloc (.cells #[.int .i64 r, .int .i64 m, .slice a L.length c] 30)).alloc (.cells #[.int .i64 0, .int .i64 0, .slice none 0 0] 30)) = w3 at *; have hbi := Below.refl w3.heap.size w3; clear hx0 hZ0 hb) | (go_at_call 50; refine (HR.out.at' _ _ (by assumption)).mono ?_; rw [HA.out]; rintro e wi ⟨rfl, hbi⟩; have hX2 := HXB.out wi hbi; have f0 := cF0 hX2; have f1 := cF1 hX2; have f2 := cF2 hX2; clear hX2) | (refine wpList_load30 rfl _ rfl w.heap.size r m (.slice a L.length c) rfl (HXB.out _ (by assumption)) ?_) | (refine wpList_store30 rfl _ _ rfl (w.heap.size + 1) r m (.slice a L.length c) rfl rfl (HZB.out _ (by assumption)) rfl rfl ?_; intro wz hZ9 t9))
  refine bodyPost_ret (resultsF_ctt rfl _ wz (w.heap.size + 1) r m (.slice a L.length c) _ _ rfl rfl rfl hZ9) rfl ?_
  rw [HC.out.1, HC.out.2.1, HC.out.2.2, HN.out]
  exact ⟨⟨_, rfl, a, c, rfl, (HR.out.row _ hbi).turn t9 (HZB.out _ hbi) (by decide)⟩, (HFin.out _ hbi).trans (t9.below (by omega))⟩
set_option maxRecDepth 100000 in
set_option maxHeartbeats 4000000 in
theorem rAdd_bad1 (p wt : Int) (R : Nat) (hm : 0 ≤ m ∧ m < 1000) (m0 k : Int) (w : World) (h : RowG w (.slice a L.length c) L) (ok : Ok L m0 k) (hh : has L p = true) (hw : wt < 1) :
    Calls Try.prog 24 #[.agg (cellsF r m (.slice a L.length c)), .int .i64 p, .int .i64 wt] w fun e w' => (∃ v, e = .returned (.tuple #[v, .int .i64 (nextI (addC L R p wt) m), .int .i64 (addC L R p wt)]) ∧ DocF w' v r (lastI (addC L R p wt) m) (addN L R m p wt)) ∧ Below w.heap.size w w' := by
  have hc : addC L R p wt = 13 := by unfold addC; rw [if_neg (by rw [hh]; decide), if_pos (by omega)]
  have HC : Hid (nextI (addC L R p wt) m = 0 ∧ lastI (addC L R p wt) m = m ∧ addC L R p wt = 13) := Lib.hid (by rw [hc]; exact ⟨rfl, rfl, rfl⟩)
  have HN : Hid (addN L R m p wt = L) := Lib.hid (by unfold addN; rw [hc]; rfl)
  have HM : Hid (0 ≤ m ∧ m ≤ 1000) := Lib.hid (by omega)
  have hx0 : Blk ((w.alloc (.cells #[.int .i64 r, .int .i64 m, .slice a L.length c] 30)).alloc (.cells #[.int .i64 0, .int .i64 0, .slice none 0 0] 30)) w.heap.size 30 (cellsF r m (.slice a L.length c)) := (Blk.new w 30 _).alloc _
  have hZ0 : Blk ((w.alloc (.cells #[.int .i64 r, .int .i64 m, .slice a L.length c] 30)).alloc (.cells #[.int .i64 0, .int .i64 0, .slice none 0 0] 30)) (w.heap.size + 1) 30 (cellsF 0 0 (.slice none 0 0)) := by
    have := Blk.new (w.alloc (.cells #[.int .i64 r, .int .i64 m, .slice a L.length c] 30)) 30 (cellsF 0 0 (.slice none 0 0))
    have e : (w.alloc (.cells #[.int .i64 r, .int .i64 m, .slice a L.length c] 30)).heap.size = w.heap.size + 1 := by simp
    rw [e] at this
    exact this
  have hb : Below w.heap.size w ((w.alloc (.cells #[.int .i64 r, .int .i64 m, .slice a L.length c] 30)).alloc (.cells #[.int .i64 0, .int .i64 0, .slice none 0 0] 30)) := ((Below.refl _ w).alloc (Nat.le_refl _) _).alloc (by simp) _
  have hsz : w.heap.size + 2 ≤ ((w.alloc (.cells #[.int .i64 r, .int .i64 m, .slice a L.length c] 30)).alloc (.cells #[.int .i64 0, .int .i64 0, .slice none 0 0] 30)).heap.size := by simp
  have HR : Hid (Rdw ((w.alloc (.cells #[.int .i64 r, .int .i64 m, .slice a L.length c] 30)).alloc (.cells #[.int .i64 0, .int .i64 0, .slice none 0 0] 30)) r m a c L) := Lib.hid (Rdw.of h ok hb)
  have HXB : Hid (∀ X, Below ((w.alloc (.cells #[.int .i64 r, .int .i64 m, .slice a L.length c] 30)).alloc (.cells #[.int .i64 0, .int .i64 0, .slice none 0 0] 30)).heap.size ((w.alloc (.cells #[.int .i64 r, .int .i64 m, .slice a L.length c] 30)).alloc (.cells #[.int .i64 0, .int .i64 0, .slice none 0 0] 30)) X → Blk X w.heap.size 30 (cellsF r m (.slice a L.length c))) := Lib.hid fun X hX => hx0.below hX
  have HZB : Hid (∀ X, Below ((w.alloc (.cells #[.int .i64 r, .int .i64 m, .slice a L.length c] 30)).alloc (.cells #[.int .i64 0, .int .i64 0, .slice none 0 0] 30)).heap.size ((w.alloc (.cells #[.int .i64 r, .int .i64 m, .slice a L.length c] 30)).alloc (.cells #[.int .i64 0, .int .i64 0, .slice none 0 0] 30)) X → Blk X (w.heap.size + 1) 30 (cellsF 0 0 (.slice none 0 0))) := Lib.hid fun X hX => hZ0.below hX
  have HFin : Hid (∀ X, Below ((w.alloc (.cells #[.int .i64 r, .int .i64 m, .slice a L.length c] 30)).alloc (.cells #[.int .i64 0, .int .i64 0, .slice none 0 0] 30)).heap.size ((w.alloc (.cells #[.int .i64 r, .int .i64 m, .slice a L.length c] 30)).alloc (.cells #[.int .i64 0, .int .i64 0, .slice none 0 0] 30)) X → Below w.heap.size w X) := Lib.hid fun X hX => hb.trans (hX.mono (by omega))
  have HA : Hid (atG L p = (pos L p : Int)) := Lib.hid (atG_yes hh)
  have HH := Lib.hid hh
  clear hh
  generalize pos L p = j at *
  have HX1 := Lib.hid (Below.refl w.heap.size w)
  clear hc h ok hm
  unfold cellsF
  go_enter Try.func24, Try.ntmps24
  go_wp2_with (first | (have hgd := hx0; refine wpList_alloc30 rfl rfl ?_; clear hgd; generalize ((w.alloc (.cells #[.int .i64 r, .int .i64 m, .slice a L.length c] 30)).alloc (.cells #[.int .i64 0, .int .i64 0, .slice none 0 0] 30)) = w3 at *; have hbi := Below.refl w3.heap.size w3; clear hx0 hZ0 hb) | (go_at_call 50; refine (HR.out.at' _ _ (by assumption)).mono ?_; rw [HA.out]; rintro e wi ⟨rfl, hbi⟩; have hX2 := HXB.out wi hbi; have f0 := cF0 hX2; have f1 := cF1 hX2; have f2 := cF2 hX2; clear hX2) | (refine wpList_load30 rfl _ rfl w.heap.size r m (.slice a L.length c) rfl (HXB.out _ (by assumption)) ?_) | (refine wpList_store30 rfl _ _ rfl (w.heap.size + 1) r m (.slice a L.length c) rfl rfl (HZB.out _ (by assumption)) rfl rfl ?_; intro wz hZ9 t9))
  refine bodyPost_ret (resultsF_ctt rfl _ wz (w.heap.size + 1) r m (.slice a L.length c) _ _ rfl rfl rfl hZ9) rfl ?_
  rw [HC.out.1, HC.out.2.1, HC.out.2.2, HN.out]
  exact ⟨⟨_, rfl, a, c, rfl, (HR.out.row _ hbi).turn t9 (HZB.out _ hbi) (by decide)⟩, (HFin.out _ hbi).trans (t9.below (by omega))⟩
set_option maxRecDepth 100000 in
set_option maxHeartbeats 4000000 in
theorem rAdd_bad2 (p wt : Int) (R : Nat) (hm : 0 ≤ m ∧ m < 1000) (m0 k : Int) (w : World) (h : RowG w (.slice a L.length c) L) (ok : Ok L m0 k) (hh : has L p = true) (hw : 10000 < wt) :
    Calls Try.prog 24 #[.agg (cellsF r m (.slice a L.length c)), .int .i64 p, .int .i64 wt] w fun e w' => (∃ v, e = .returned (.tuple #[v, .int .i64 (nextI (addC L R p wt) m), .int .i64 (addC L R p wt)]) ∧ DocF w' v r (lastI (addC L R p wt) m) (addN L R m p wt)) ∧ Below w.heap.size w w' := by
  have hc : addC L R p wt = 13 := by unfold addC; rw [if_neg (by rw [hh]; decide), if_pos (by omega)]
  have HC : Hid (nextI (addC L R p wt) m = 0 ∧ lastI (addC L R p wt) m = m ∧ addC L R p wt = 13) := Lib.hid (by rw [hc]; exact ⟨rfl, rfl, rfl⟩)
  have HN : Hid (addN L R m p wt = L) := Lib.hid (by unfold addN; rw [hc]; rfl)
  have HM : Hid (0 ≤ m ∧ m ≤ 1000) := Lib.hid (by omega)
  have hx0 : Blk ((w.alloc (.cells #[.int .i64 r, .int .i64 m, .slice a L.length c] 30)).alloc (.cells #[.int .i64 0, .int .i64 0, .slice none 0 0] 30)) w.heap.size 30 (cellsF r m (.slice a L.length c)) := (Blk.new w 30 _).alloc _
  have hZ0 : Blk ((w.alloc (.cells #[.int .i64 r, .int .i64 m, .slice a L.length c] 30)).alloc (.cells #[.int .i64 0, .int .i64 0, .slice none 0 0] 30)) (w.heap.size + 1) 30 (cellsF 0 0 (.slice none 0 0)) := by
    have := Blk.new (w.alloc (.cells #[.int .i64 r, .int .i64 m, .slice a L.length c] 30)) 30 (cellsF 0 0 (.slice none 0 0))
    have e : (w.alloc (.cells #[.int .i64 r, .int .i64 m, .slice a L.length c] 30)).heap.size = w.heap.size + 1 := by simp
    rw [e] at this
    exact this
  have hb : Below w.heap.size w ((w.alloc (.cells #[.int .i64 r, .int .i64 m, .slice a L.length c] 30)).alloc (.cells #[.int .i64 0, .int .i64 0, .slice none 0 0] 30)) := ((Below.refl _ w).alloc (Nat.le_refl _) _).alloc (by simp) _
  have hsz : w.heap.size + 2 ≤ ((w.alloc (.cells #[.int .i64 r, .int .i64 m, .slice a L.length c] 30)).alloc (.cells #[.int .i64 0, .int .i64 0, .slice none 0 0] 30)).heap.size := by simp
  have HR : Hid (Rdw ((w.alloc (.cells #[.int .i64 r, .int .i64 m, .slice a L.length c] 30)).alloc (.cells #[.int .i64 0, .int .i64 0, .slice none 0 0] 30)) r m a c L) := Lib.hid (Rdw.of h ok hb)
  have HXB : Hid (∀ X, Below ((w.alloc (.cells #[.int .i64 r, .int .i64 m, .slice a L.length c] 30)).alloc (.cells #[.int .i64 0, .int .i64 0, .slice none 0 0] 30)).heap.size ((w.alloc (.cells #[.int .i64 r, .int .i64 m, .slice a L.length c] 30)).alloc (.cells #[.int .i64 0, .int .i64 0, .slice none 0 0] 30)) X → Blk X w.heap.size 30 (cellsF r m (.slice a L.length c))) := Lib.hid fun X hX => hx0.below hX
  have HZB : Hid (∀ X, Below ((w.alloc (.cells #[.int .i64 r, .int .i64 m, .slice a L.length c] 30)).alloc (.cells #[.int .i64 0, .int .i64 0, .slice none 0 0] 30)).heap.size ((w.alloc (.cells #[.int .i64 r, .int .i64 m, .slice a L.length c] 30)).alloc (.cells #[.int .i64 0, .int .i64 0, .slice none 0 0] 30)) X → Blk X (w.heap.size + 1) 30 (cellsF 0 0 (.slice none 0 0))) := Lib.hid fun X hX => hZ0.below hX
  have HFin : Hid (∀ X, Below ((w.alloc (.cells #[.int .i64 r, .int .i64 m, .slice a L.length c] 30)).alloc (.cells #[.int .i64 0, .int .i64 0, .slice none 0 0] 30)).heap.size ((w.alloc (.cells #[.int .i64 r, .int .i64 m, .slice a L.length c] 30)).alloc (.cells #[.int .i64 0, .int .i64 0, .slice none 0 0] 30)) X → Below w.heap.size w X) := Lib.hid fun X hX => hb.trans (hX.mono (by omega))
  have HA : Hid (atG L p = (pos L p : Int)) := Lib.hid (atG_yes hh)
  have HH := Lib.hid hh
  clear hh
  generalize pos L p = j at *
  have hw1 : ¬ wt < 1 := by omega
  have HX1 := Lib.hid (Below.refl w.heap.size w)
  clear hc h ok hm
  unfold cellsF
  go_enter Try.func24, Try.ntmps24
  go_wp2_with (first | (have hgd := hx0; refine wpList_alloc30 rfl rfl ?_; clear hgd; generalize ((w.alloc (.cells #[.int .i64 r, .int .i64 m, .slice a L.length c] 30)).alloc (.cells #[.int .i64 0, .int .i64 0, .slice none 0 0] 30)) = w3 at *; have hbi := Below.refl w3.heap.size w3; clear hx0 hZ0 hb) | (go_at_call 50; refine (HR.out.at' _ _ (by assumption)).mono ?_; rw [HA.out]; rintro e wi ⟨rfl, hbi⟩; have hX2 := HXB.out wi hbi; have f0 := cF0 hX2; have f1 := cF1 hX2; have f2 := cF2 hX2; clear hX2) | (refine wpList_load30 rfl _ rfl w.heap.size r m (.slice a L.length c) rfl (HXB.out _ (by assumption)) ?_) | (refine wpList_store30 rfl _ _ rfl (w.heap.size + 1) r m (.slice a L.length c) rfl rfl (HZB.out _ (by assumption)) rfl rfl ?_; intro wz hZ9 t9))
  refine bodyPost_ret (resultsF_ctt rfl _ wz (w.heap.size + 1) r m (.slice a L.length c) _ _ rfl rfl rfl hZ9) rfl ?_
  rw [HC.out.1, HC.out.2.1, HC.out.2.2, HN.out]
  exact ⟨⟨_, rfl, a, c, rfl, (HR.out.row _ hbi).turn t9 (HZB.out _ hbi) (by decide)⟩, (HFin.out _ hbi).trans (t9.below (by omega))⟩
set_option maxRecDepth 100000 in
set_option maxHeartbeats 4000000 in
theorem rAdd_deep (p wt : Int) (R : Nat) (hm : 0 ≤ m ∧ m < 1000) (m0 k : Int) (w : World) (h : RowG w (.slice a L.length c) L) (ok : Ok L m0 k) (hh : has L p = true) (hw : 1 ≤ wt ∧ wt ≤ 10000) (hd : dep L p = 8) :
    Calls Try.prog 24 #[.agg (cellsF r m (.slice a L.length c)), .int .i64 p, .int .i64 wt] w fun e w' => (∃ v, e = .returned (.tuple #[v, .int .i64 (nextI (addC L R p wt) m), .int .i64 (addC L R p wt)]) ∧ DocF w' v r (lastI (addC L R p wt) m) (addN L R m p wt)) ∧ Below w.heap.size w w' := by
  have hc : addC L R p wt = 7 := by unfold addC; rw [if_neg (by rw [hh]; decide), if_neg (fun e => e hw), if_pos hd]
  have HC : Hid (nextI (addC L R p wt) m = 0 ∧ lastI (addC L R p wt) m = m ∧ addC L R p wt = 7) := Lib.hid (by rw [hc]; exact ⟨rfl, rfl, rfl⟩)
  have HN : Hid (addN L R m p wt = L) := Lib.hid (by unfold addN; rw [hc]; rfl)
  have HM : Hid (0 ≤ m ∧ m ≤ 1000) := Lib.hid (by omega)
  have hx0 : Blk ((w.alloc (.cells #[.int .i64 r, .int .i64 m, .slice a L.length c] 30)).alloc (.cells #[.int .i64 0, .int .i64 0, .slice none 0 0] 30)) w.heap.size 30 (cellsF r m (.slice a L.length c)) := (Blk.new w 30 _).alloc _
  have hZ0 : Blk ((w.alloc (.cells #[.int .i64 r, .int .i64 m, .slice a L.length c] 30)).alloc (.cells #[.int .i64 0, .int .i64 0, .slice none 0 0] 30)) (w.heap.size + 1) 30 (cellsF 0 0 (.slice none 0 0)) := by
    have := Blk.new (w.alloc (.cells #[.int .i64 r, .int .i64 m, .slice a L.length c] 30)) 30 (cellsF 0 0 (.slice none 0 0))
    have e : (w.alloc (.cells #[.int .i64 r, .int .i64 m, .slice a L.length c] 30)).heap.size = w.heap.size + 1 := by simp
    rw [e] at this
    exact this
  have hb : Below w.heap.size w ((w.alloc (.cells #[.int .i64 r, .int .i64 m, .slice a L.length c] 30)).alloc (.cells #[.int .i64 0, .int .i64 0, .slice none 0 0] 30)) := ((Below.refl _ w).alloc (Nat.le_refl _) _).alloc (by simp) _
  have hsz : w.heap.size + 2 ≤ ((w.alloc (.cells #[.int .i64 r, .int .i64 m, .slice a L.length c] 30)).alloc (.cells #[.int .i64 0, .int .i64 0, .slice none 0 0] 30)).heap.size := by simp
  have HR : Hid (Rdw ((w.alloc (.cells #[.int .i64 r, .int .i64 m, .slice a L.length c] 30)).alloc (.cells #[.int .i64 0, .int .i64 0, .slice none 0 0] 30)) r m a c L) := Lib.hid (Rdw.of h ok hb)
  have HXB : Hid (∀ X, Below ((w.alloc (.cells #[.int .i64 r, .int .i64 m, .slice a L.length c] 30)).alloc (.cells #[.int .i64 0, .int .i64 0, .slice none 0 0] 30)).heap.size ((w.alloc (.cells #[.int .i64 r, .int .i64 m, .slice a L.length c] 30)).alloc (.cells #[.int .i64 0, .int .i64 0, .slice none 0 0] 30)) X → Blk X w.heap.size 30 (cellsF r m (.slice a L.length c))) := Lib.hid fun X hX => hx0.below hX
  have HZB : Hid (∀ X, Below ((w.alloc (.cells #[.int .i64 r, .int .i64 m, .slice a L.length c] 30)).alloc (.cells #[.int .i64 0, .int .i64 0, .slice none 0 0] 30)).heap.size ((w.alloc (.cells #[.int .i64 r, .int .i64 m, .slice a L.length c] 30)).alloc (.cells #[.int .i64 0, .int .i64 0, .slice none 0 0] 30)) X → Blk X (w.heap.size + 1) 30 (cellsF 0 0 (.slice none 0 0))) := Lib.hid fun X hX => hZ0.below hX
  have HFin : Hid (∀ X, Below ((w.alloc (.cells #[.int .i64 r, .int .i64 m, .slice a L.length c] 30)).alloc (.cells #[.int .i64 0, .int .i64 0, .slice none 0 0] 30)).heap.size ((w.alloc (.cells #[.int .i64 r, .int .i64 m, .slice a L.length c] 30)).alloc (.cells #[.int .i64 0, .int .i64 0, .slice none 0 0] 30)) X → Below w.heap.size w X) := Lib.hid fun X hX => hb.trans (hX.mono (by omega))
  have HA : Hid (atG L p = (pos L p : Int)) := Lib.hid (atG_yes hh)
  have HH := Lib.hid hh
  clear hh
  generalize pos L p = j at *
  have hw1 : ¬ wt < 1 := by omega
  have hw2 : ¬ 10000 < wt := by omega
  clear hw
  have hd2 := beq_tt hd
  clear hd
  have HX1 := Lib.hid (Below.refl w.heap.size w)
  clear hc h ok hm
  unfold cellsF
  go_enter Try.func24, Try.ntmps24
  go_wp2_with (first | (have hgd := hx0; refine wpList_alloc30 rfl rfl ?_; clear hgd; generalize ((w.alloc (.cells #[.int .i64 r, .int .i64 m, .slice a L.length c] 30)).alloc (.cells #[.int .i64 0, .int .i64 0, .slice none 0 0] 30)) = w3 at *; have hbi := Below.refl w3.heap.size w3; clear hx0 hZ0 hb) | (go_at_call 50; refine (HR.out.at' _ _ (by assumption)).mono ?_; rw [HA.out]; rintro e wi ⟨rfl, hbi⟩; have hX2 := HXB.out wi hbi; have f0 := cF0 hX2; have f1 := cF1 hX2; have f2 := cF2 hX2; clear hX2) | (go_at_call 34; refine (HR.out.dep _ _ HH.out (by assumption)).mono ?_; rintro e wi ⟨rfl, hbi⟩; have hX2 := HXB.out wi hbi; have f0 := cF0 hX2; have f1 := cF1 hX2; have f2 := cF2 hX2; clear hX2) | (refine wpList_load30 rfl _ rfl w.heap.size r m (.slice a L.length c) rfl (HXB.out _ (by assumption)) ?_) | (refine wpList_store30 rfl _ _ rfl (w.heap.size + 1) r m (.slice a L.length c) rfl rfl (HZB.out _ (by assumption)) rfl rfl ?_; intro wz hZ9 t9))
  refine bodyPost_ret (resultsF_ctt rfl _ wz (w.heap.size + 1) r m (.slice a L.length c) _ _ rfl rfl rfl hZ9) rfl ?_
  rw [HC.out.1, HC.out.2.1, HC.out.2.2, HN.out]
  exact ⟨⟨_, rfl, a, c, rfl, (HR.out.row _ hbi).turn t9 (HZB.out _ hbi) (by decide)⟩, (HFin.out _ hbi).trans (t9.below (by omega))⟩
set_option maxRecDepth 100000 in
set_option maxHeartbeats 4000000 in
theorem rAdd_wide (p wt : Int) (R : Nat) (hm : 0 ≤ m ∧ m < 1000) (m0 k : Int) (w : World) (h : RowG w (.slice a L.length c) L) (ok : Ok L m0 k) (hh : has L p = true) (hw : 1 ≤ wt ∧ wt ≤ 10000) (hd : ¬ dep L p = 8) (hf : fanI L p = 32) :
    Calls Try.prog 24 #[.agg (cellsF r m (.slice a L.length c)), .int .i64 p, .int .i64 wt] w fun e w' => (∃ v, e = .returned (.tuple #[v, .int .i64 (nextI (addC L R p wt) m), .int .i64 (addC L R p wt)]) ∧ DocF w' v r (lastI (addC L R p wt) m) (addN L R m p wt)) ∧ Below w.heap.size w w' := by
  have hc : addC L R p wt = 6 := by unfold addC; rw [if_neg (by rw [hh]; decide), if_neg (fun e => e hw), if_neg hd, if_pos (.inl hf)]
  have HC : Hid (nextI (addC L R p wt) m = 0 ∧ lastI (addC L R p wt) m = m ∧ addC L R p wt = 6) := Lib.hid (by rw [hc]; exact ⟨rfl, rfl, rfl⟩)
  have HN : Hid (addN L R m p wt = L) := Lib.hid (by unfold addN; rw [hc]; rfl)
  have HM : Hid (0 ≤ m ∧ m ≤ 1000) := Lib.hid (by omega)
  have hx0 : Blk ((w.alloc (.cells #[.int .i64 r, .int .i64 m, .slice a L.length c] 30)).alloc (.cells #[.int .i64 0, .int .i64 0, .slice none 0 0] 30)) w.heap.size 30 (cellsF r m (.slice a L.length c)) := (Blk.new w 30 _).alloc _
  have hZ0 : Blk ((w.alloc (.cells #[.int .i64 r, .int .i64 m, .slice a L.length c] 30)).alloc (.cells #[.int .i64 0, .int .i64 0, .slice none 0 0] 30)) (w.heap.size + 1) 30 (cellsF 0 0 (.slice none 0 0)) := by
    have := Blk.new (w.alloc (.cells #[.int .i64 r, .int .i64 m, .slice a L.length c] 30)) 30 (cellsF 0 0 (.slice none 0 0))
    have e : (w.alloc (.cells #[.int .i64 r, .int .i64 m, .slice a L.length c] 30)).heap.size = w.heap.size + 1 := by simp
    rw [e] at this
    exact this
  have hb : Below w.heap.size w ((w.alloc (.cells #[.int .i64 r, .int .i64 m, .slice a L.length c] 30)).alloc (.cells #[.int .i64 0, .int .i64 0, .slice none 0 0] 30)) := ((Below.refl _ w).alloc (Nat.le_refl _) _).alloc (by simp) _
  have hsz : w.heap.size + 2 ≤ ((w.alloc (.cells #[.int .i64 r, .int .i64 m, .slice a L.length c] 30)).alloc (.cells #[.int .i64 0, .int .i64 0, .slice none 0 0] 30)).heap.size := by simp
  have HR : Hid (Rdw ((w.alloc (.cells #[.int .i64 r, .int .i64 m, .slice a L.length c] 30)).alloc (.cells #[.int .i64 0, .int .i64 0, .slice none 0 0] 30)) r m a c L) := Lib.hid (Rdw.of h ok hb)
  have HXB : Hid (∀ X, Below ((w.alloc (.cells #[.int .i64 r, .int .i64 m, .slice a L.length c] 30)).alloc (.cells #[.int .i64 0, .int .i64 0, .slice none 0 0] 30)).heap.size ((w.alloc (.cells #[.int .i64 r, .int .i64 m, .slice a L.length c] 30)).alloc (.cells #[.int .i64 0, .int .i64 0, .slice none 0 0] 30)) X → Blk X w.heap.size 30 (cellsF r m (.slice a L.length c))) := Lib.hid fun X hX => hx0.below hX
  have HZB : Hid (∀ X, Below ((w.alloc (.cells #[.int .i64 r, .int .i64 m, .slice a L.length c] 30)).alloc (.cells #[.int .i64 0, .int .i64 0, .slice none 0 0] 30)).heap.size ((w.alloc (.cells #[.int .i64 r, .int .i64 m, .slice a L.length c] 30)).alloc (.cells #[.int .i64 0, .int .i64 0, .slice none 0 0] 30)) X → Blk X (w.heap.size + 1) 30 (cellsF 0 0 (.slice none 0 0))) := Lib.hid fun X hX => hZ0.below hX
  have HFin : Hid (∀ X, Below ((w.alloc (.cells #[.int .i64 r, .int .i64 m, .slice a L.length c] 30)).alloc (.cells #[.int .i64 0, .int .i64 0, .slice none 0 0] 30)).heap.size ((w.alloc (.cells #[.int .i64 r, .int .i64 m, .slice a L.length c] 30)).alloc (.cells #[.int .i64 0, .int .i64 0, .slice none 0 0] 30)) X → Below w.heap.size w X) := Lib.hid fun X hX => hb.trans (hX.mono (by omega))
  have HA : Hid (atG L p = (pos L p : Int)) := Lib.hid (atG_yes hh)
  have HH := Lib.hid hh
  clear hh
  generalize pos L p = j at *
  have hw1 : ¬ wt < 1 := by omega
  have hw2 : ¬ 10000 < wt := by omega
  clear hw
  have hd2 := beq_ff hd
  have hf2 := beq_tt hf
  clear hd hf
  have HX1 := Lib.hid (Below.refl w.heap.size w)
  clear hc h ok hm
  unfold cellsF
  go_enter Try.func24, Try.ntmps24
  go_wp2_with (first | (have hgd := hx0; refine wpList_alloc30 rfl rfl ?_; clear hgd; generalize ((w.alloc (.cells #[.int .i64 r, .int .i64 m, .slice a L.length c] 30)).alloc (.cells #[.int .i64 0, .int .i64 0, .slice none 0 0] 30)) = w3 at *; have hbi := Below.refl w3.heap.size w3; clear hx0 hZ0 hb) | (go_at_call 50; refine (HR.out.at' _ _ (by assumption)).mono ?_; rw [HA.out]; rintro e wi ⟨rfl, hbi⟩; have hX2 := HXB.out wi hbi; have f0 := cF0 hX2; have f1 := cF1 hX2; have f2 := cF2 hX2; clear hX2) | (go_at_call 34; refine (HR.out.dep _ _ HH.out (by assumption)).mono ?_; rintro e wi ⟨rfl, hbi⟩; have hX2 := HXB.out wi hbi; have f0 := cF0 hX2; have f1 := cF1 hX2; have f2 := cF2 hX2; clear hX2) | (go_at_call 51; refine (HR.out.fan _ _ HH.out (by assumption)).mono ?_; rintro e wi ⟨rfl, hbi⟩; have hX2 := HXB.out wi hbi; have f0 := cF0 hX2; have f1 := cF1 hX2; have f2 := cF2 hX2; clear hX2) | (refine wpList_load30 rfl _ rfl w.heap.size r m (.slice a L.length c) rfl (HXB.out _ (by assumption)) ?_) | (refine wpList_store30 rfl _ _ rfl (w.heap.size + 1) r m (.slice a L.length c) rfl rfl (HZB.out _ (by assumption)) rfl rfl ?_; intro wz hZ9 t9))
  refine bodyPost_ret (resultsF_ctt rfl _ wz (w.heap.size + 1) r m (.slice a L.length c) _ _ rfl rfl rfl hZ9) rfl ?_
  rw [HC.out.1, HC.out.2.1, HC.out.2.2, HN.out]
  exact ⟨⟨_, rfl, a, c, rfl, (HR.out.row _ hbi).turn t9 (HZB.out _ hbi) (by decide)⟩, (HFin.out _ hbi).trans (t9.below (by omega))⟩
set_option maxRecDepth 100000 in
set_option maxHeartbeats 4000000 in
theorem rAdd_full (p wt : Int) (R : Nat) (hR : r = (R : Int)) (hm : 0 ≤ m ∧ m < 1000) (m0 k : Int) (w : World) (h : RowG w (.slice a L.length c) L) (ok : Ok L m0 k) (hh : has L p = true) (hw : 1 ≤ wt ∧ wt ≤ 10000) (hd : ¬ dep L p = 8) (hf : ¬ fanI L p = 32) (hl : L.length = R) :
    Calls Try.prog 24 #[.agg (cellsF r m (.slice a L.length c)), .int .i64 p, .int .i64 wt] w fun e w' => (∃ v, e = .returned (.tuple #[v, .int .i64 (nextI (addC L R p wt) m), .int .i64 (addC L R p wt)]) ∧ DocF w' v r (lastI (addC L R p wt) m) (addN L R m p wt)) ∧ Below w.heap.size w w' := by
  have hc : addC L R p wt = 6 := by unfold addC; rw [if_neg (by rw [hh]; decide), if_neg (fun e => e hw), if_neg hd, if_pos (.inr hl)]
  have HC : Hid (nextI (addC L R p wt) m = 0 ∧ lastI (addC L R p wt) m = m ∧ addC L R p wt = 6) := Lib.hid (by rw [hc]; exact ⟨rfl, rfl, rfl⟩)
  have HN : Hid (addN L R m p wt = L) := Lib.hid (by unfold addN; rw [hc]; rfl)
  have HM : Hid (0 ≤ m ∧ m ≤ 1000) := Lib.hid (by omega)
  have hx0 : Blk ((w.alloc (.cells #[.int .i64 r, .int .i64 m, .slice a L.length c] 30)).alloc (.cells #[.int .i64 0, .int .i64 0, .slice none 0 0] 30)) w.heap.size 30 (cellsF r m (.slice a L.length c)) := (Blk.new w 30 _).alloc _
  have hZ0 : Blk ((w.alloc (.cells #[.int .i64 r, .int .i64 m, .slice a L.length c] 30)).alloc (.cells #[.int .i64 0, .int .i64 0, .slice none 0 0] 30)) (w.heap.size + 1) 30 (cellsF 0 0 (.slice none 0 0)) := by
    have := Blk.new (w.alloc (.cells #[.int .i64 r, .int .i64 m, .slice a L.length c] 30)) 30 (cellsF 0 0 (.slice none 0 0))
    have e : (w.alloc (.cells #[.int .i64 r, .int .i64 m, .slice a L.length c] 30)).heap.size = w.heap.size + 1 := by simp
    rw [e] at this
    exact this
  have hb : Below w.heap.size w ((w.alloc (.cells #[.int .i64 r, .int .i64 m, .slice a L.length c] 30)).alloc (.cells #[.int .i64 0, .int .i64 0, .slice none 0 0] 30)) := ((Below.refl _ w).alloc (Nat.le_refl _) _).alloc (by simp) _
  have hsz : w.heap.size + 2 ≤ ((w.alloc (.cells #[.int .i64 r, .int .i64 m, .slice a L.length c] 30)).alloc (.cells #[.int .i64 0, .int .i64 0, .slice none 0 0] 30)).heap.size := by simp
  have HR : Hid (Rdw ((w.alloc (.cells #[.int .i64 r, .int .i64 m, .slice a L.length c] 30)).alloc (.cells #[.int .i64 0, .int .i64 0, .slice none 0 0] 30)) r m a c L) := Lib.hid (Rdw.of h ok hb)
  have HXB : Hid (∀ X, Below ((w.alloc (.cells #[.int .i64 r, .int .i64 m, .slice a L.length c] 30)).alloc (.cells #[.int .i64 0, .int .i64 0, .slice none 0 0] 30)).heap.size ((w.alloc (.cells #[.int .i64 r, .int .i64 m, .slice a L.length c] 30)).alloc (.cells #[.int .i64 0, .int .i64 0, .slice none 0 0] 30)) X → Blk X w.heap.size 30 (cellsF r m (.slice a L.length c))) := Lib.hid fun X hX => hx0.below hX
  have HZB : Hid (∀ X, Below ((w.alloc (.cells #[.int .i64 r, .int .i64 m, .slice a L.length c] 30)).alloc (.cells #[.int .i64 0, .int .i64 0, .slice none 0 0] 30)).heap.size ((w.alloc (.cells #[.int .i64 r, .int .i64 m, .slice a L.length c] 30)).alloc (.cells #[.int .i64 0, .int .i64 0, .slice none 0 0] 30)) X → Blk X (w.heap.size + 1) 30 (cellsF 0 0 (.slice none 0 0))) := Lib.hid fun X hX => hZ0.below hX
  have HFin : Hid (∀ X, Below ((w.alloc (.cells #[.int .i64 r, .int .i64 m, .slice a L.length c] 30)).alloc (.cells #[.int .i64 0, .int .i64 0, .slice none 0 0] 30)).heap.size ((w.alloc (.cells #[.int .i64 r, .int .i64 m, .slice a L.length c] 30)).alloc (.cells #[.int .i64 0, .int .i64 0, .slice none 0 0] 30)) X → Below w.heap.size w X) := Lib.hid fun X hX => hb.trans (hX.mono (by omega))
  have HA : Hid (atG L p = (pos L p : Int)) := Lib.hid (atG_yes hh)
  have HH := Lib.hid hh
  clear hh
  generalize pos L p = j at *
  have hw1 : ¬ wt < 1 := by omega
  have hw2 : ¬ 10000 < wt := by omega
  clear hw
  have hd2 := beq_ff hd
  have hf2 := beq_ff hf
  have hl2 : ((L.length : Int) == r) = true := beq_tt (by omega)
  clear hd hf hl
  have HX1 := Lib.hid (Below.refl w.heap.size w)
  clear hc h ok hm hR
  unfold cellsF
  go_enter Try.func24, Try.ntmps24
  go_wp2_with (first | (have hgd := hx0; refine wpList_alloc30 rfl rfl ?_; clear hgd; generalize ((w.alloc (.cells #[.int .i64 r, .int .i64 m, .slice a L.length c] 30)).alloc (.cells #[.int .i64 0, .int .i64 0, .slice none 0 0] 30)) = w3 at *; have hbi := Below.refl w3.heap.size w3; clear hx0 hZ0 hb) | (go_at_call 50; refine (HR.out.at' _ _ (by assumption)).mono ?_; rw [HA.out]; rintro e wi ⟨rfl, hbi⟩; have hX2 := HXB.out wi hbi; have f0 := cF0 hX2; have f1 := cF1 hX2; have f2 := cF2 hX2; clear hX2) | (go_at_call 34; refine (HR.out.dep _ _ HH.out (by assumption)).mono ?_; rintro e wi ⟨rfl, hbi⟩; have hX2 := HXB.out wi hbi; have f0 := cF0 hX2; have f1 := cF1 hX2; have f2 := cF2 hX2; clear hX2) | (go_at_call 51; refine (HR.out.fan _ _ HH.out (by assumption)).mono ?_; rintro e wi ⟨rfl, hbi⟩; have hX2 := HXB.out wi hbi; have f0 := cF0 hX2; have f1 := cF1 hX2; have f2 := cF2 hX2; clear hX2) | (refine wpList_load30 rfl _ rfl w.heap.size r m (.slice a L.length c) rfl (HXB.out _ (by assumption)) ?_) | (refine wpList_store30 rfl _ _ rfl (w.heap.size + 1) r m (.slice a L.length c) rfl rfl (HZB.out _ (by assumption)) rfl rfl ?_; intro wz hZ9 t9))
  refine bodyPost_ret (resultsF_ctt rfl _ wz (w.heap.size + 1) r m (.slice a L.length c) _ _ rfl rfl rfl hZ9) rfl ?_
  rw [HC.out.1, HC.out.2.1, HC.out.2.2, HN.out]
  exact ⟨⟨_, rfl, a, c, rfl, (HR.out.row _ hbi).turn t9 (HZB.out _ hbi) (by decide)⟩, (HFin.out _ hbi).trans (t9.below (by omega))⟩
set_option maxRecDepth 100000 in
set_option maxHeartbeats 4000000 in
theorem rAdd_yes (p wt : Int) (R : Nat) (hR : r = (R : Int)) (hm : 0 ≤ m ∧ m < 1000) (m0 k : Int) (w : World) (h : RowG w (.slice a L.length c) L) (ok : Ok L m0 k) (hh : has L p = true) (hw : 1 ≤ wt ∧ wt ≤ 10000) (hd : ¬ dep L p = 8) (hf : ¬ fanI L p = 32) (hl : ¬ L.length = R) :
    Calls Try.prog 24 #[.agg (cellsF r m (.slice a L.length c)), .int .i64 p, .int .i64 wt] w fun e w' => (∃ v, e = .returned (.tuple #[v, .int .i64 (nextI (addC L R p wt) m), .int .i64 (addC L R p wt)]) ∧ DocF w' v r (lastI (addC L R p wt) m) (addN L R m p wt)) ∧ Below w.heap.size w w' := by
  have hc : addC L R p wt = 0 := by unfold addC; rw [if_neg (by rw [hh]; decide), if_neg (fun e => e hw), if_neg hd, if_neg (fun e => e.elim hf hl)]
  have HC : Hid (nextI (addC L R p wt) m = m + 1 ∧ lastI (addC L R p wt) m = m + 1 ∧ addC L R p wt = 0) := Lib.hid (by rw [hc]; exact ⟨rfl, rfl, rfl⟩)
  have HN : Hid (addN L R m p wt = addG L m p wt) := Lib.hid (by unfold addN; rw [hc]; rfl)
  have HM : Hid (0 ≤ m ∧ m ≤ 1000) := Lib.hid (by omega)
  have hx0 : Blk ((w.alloc (.cells #[.int .i64 r, .int .i64 m, .slice a L.length c] 30)).alloc (.cells #[.int .i64 0, .int .i64 0, .slice none 0 0] 30)) w.heap.size 30 (cellsF r m (.slice a L.length c)) := (Blk.new w 30 _).alloc _
  have hZ0 : Blk ((w.alloc (.cells #[.int .i64 r, .int .i64 m, .slice a L.length c] 30)).alloc (.cells #[.int .i64 0, .int .i64 0, .slice none 0 0] 30)) (w.heap.size + 1) 30 (cellsF 0 0 (.slice none 0 0)) := by
    have := Blk.new (w.alloc (.cells #[.int .i64 r, .int .i64 m, .slice a L.length c] 30)) 30 (cellsF 0 0 (.slice none 0 0))
    have e : (w.alloc (.cells #[.int .i64 r, .int .i64 m, .slice a L.length c] 30)).heap.size = w.heap.size + 1 := by simp
    rw [e] at this
    exact this
  have hb : Below w.heap.size w ((w.alloc (.cells #[.int .i64 r, .int .i64 m, .slice a L.length c] 30)).alloc (.cells #[.int .i64 0, .int .i64 0, .slice none 0 0] 30)) := ((Below.refl _ w).alloc (Nat.le_refl _) _).alloc (by simp) _
  have hsz : w.heap.size + 2 ≤ ((w.alloc (.cells #[.int .i64 r, .int .i64 m, .slice a L.length c] 30)).alloc (.cells #[.int .i64 0, .int .i64 0, .slice none 0 0] 30)).heap.size := by simp
  have HR : Hid (Rdw ((w.alloc (.cells #[.int .i64 r, .int .i64 m, .slice a L.length c] 30)).alloc (.cells #[.int .i64 0, .int .i64 0, .slice none 0 0] 30)) r m a c L) := Lib.hid (Rdw.of h ok hb)
  have HXB : Hid (∀ X, Below ((w.alloc (.cells #[.int .i64 r, .int .i64 m, .slice a L.length c] 30)).alloc (.cells #[.int .i64 0, .int .i64 0, .slice none 0 0] 30)).heap.size ((w.alloc (.cells #[.int .i64 r, .int .i64 m, .slice a L.length c] 30)).alloc (.cells #[.int .i64 0, .int .i64 0, .slice none 0 0] 30)) X → Blk X w.heap.size 30 (cellsF r m (.slice a L.length c))) := Lib.hid fun X hX => hx0.below hX
  have HZB : Hid (∀ X, Below ((w.alloc (.cells #[.int .i64 r, .int .i64 m, .slice a L.length c] 30)).alloc (.cells #[.int .i64 0, .int .i64 0, .slice none 0 0] 30)).heap.size ((w.alloc (.cells #[.int .i64 r, .int .i64 m, .slice a L.length c] 30)).alloc (.cells #[.int .i64 0, .int .i64 0, .slice none 0 0] 30)) X → Blk X (w.heap.size + 1) 30 (cellsF 0 0 (.slice none 0 0))) := Lib.hid fun X hX => hZ0.below hX
  have HFin : Hid (∀ X, Below ((w.alloc (.cells #[.int .i64 r, .int .i64 m, .slice a L.length c] 30)).alloc (.cells #[.int .i64 0, .int .i64 0, .slice none 0 0] 30)).heap.size ((w.alloc (.cells #[.int .i64 r, .int .i64 m, .slice a L.length c] 30)).alloc (.cells #[.int .i64 0, .int .i64 0, .slice none 0 0] 30)) X → Below w.heap.size w X) := Lib.hid fun X hX => hb.trans (hX.mono (by omega))
  have HA : Hid (atG L p = (pos L p : Int)) := Lib.hid (atG_yes hh)
  have HH := Lib.hid hh
  clear hh
  generalize pos L p = j at *
  have hw1 : ¬ wt < 1 := by omega
  have hw2 : ¬ 10000 < wt := by omega
  clear hw
  have hd2 := beq_ff hd
  have hf2 := beq_ff hf
  have hl2 : ((L.length : Int) == r) = false := beq_ff (by omega)
  clear hd hf hl
  have HX1 := Lib.hid (Below.refl w.heap.size w)
  clear hc h ok hm hR
  unfold cellsF
  go_enter Try.func24, Try.ntmps24
  go_wp2_with (first | (have hgd := hx0; refine wpList_alloc30 rfl rfl ?_; clear hgd; generalize ((w.alloc (.cells #[.int .i64 r, .int .i64 m, .slice a L.length c] 30)).alloc (.cells #[.int .i64 0, .int .i64 0, .slice none 0 0] 30)) = w3 at *; have hbi := Below.refl w3.heap.size w3; clear hx0 hZ0 hb) | (go_at_call 50; refine (HR.out.at' _ _ (by assumption)).mono ?_; rw [HA.out]; rintro e wi ⟨rfl, hbi⟩; have hX2 := HXB.out wi hbi; have f0 := cF0 hX2; have f1 := cF1 hX2; have f2 := cF2 hX2; clear hX2) | (go_at_call 34; refine (HR.out.dep _ _ HH.out (by assumption)).mono ?_; rintro e wi ⟨rfl, hbi⟩; have hX2 := HXB.out wi hbi; have f0 := cF0 hX2; have f1 := cF1 hX2; have f2 := cF2 hX2; clear hX2) | (go_at_call 51; refine (HR.out.fan _ _ HH.out (by assumption)).mono ?_; rintro e wi ⟨rfl, hbi⟩; have hX2 := HXB.out wi hbi; have f0 := cF0 hX2; have f1 := cF1 hX2; have f2 := cF2 hX2; clear hX2) | (refine wpList_load30 rfl _ rfl w.heap.size r m (.slice a L.length c) rfl (HXB.out _ (by assumption)) ?_) | (go_at_call 49; refine (HR.out.more _ _ _ HM.out (by assumption)).mono ?_; rintro e wi ⟨⟨a', c', rfl, hr9⟩, hbi⟩) | (refine wpList_alloc30 rfl rfl ?_; have hZg := Blk.new wi 30 #[.int .i64 0, .int .i64 0, .slice none 0 0]; have hbg := Below.allocS hbi (.cells #[.int .i64 0, .int .i64 0, .slice none 0 0] 30); have hleg := hbi.size; have hr5 := hr9.alloc (.cells #[.int .i64 0, .int .i64 0, .slice none 0 0] 30); generalize wi.alloc (.cells #[.int .i64 0, .int .i64 0, .slice none 0 0] 30) = wg at *) | (refine wpList_store30 rfl _ _ rfl wi.heap.size r (m + 1) (.slice a' (addG L m p wt).length c') rfl rfl hZg rfl rfl ?_; intro wh hZh th; have hbh : Below w3.heap.size w3 wh := hbg.trans (th.below hleg); have hr6 := hr5.turn th hZg (by decide)) | (refine wpList_load30 rfl _ rfl wi.heap.size r (m + 1) (.slice a' (addG L m p wt).length c') rfl hZh ?_) | (refine wpList_store30 rfl _ _ rfl (w.heap.size + 1) r (m + 1) (.slice a' (addG L m p wt).length c') rfl rfl (HZB.out _ hbh) rfl rfl ?_; intro wz hZ9 t9))
  refine bodyPost_ret (resultsF_ctt rfl _ wz (w.heap.size + 1) r (m + 1) (.slice a' (addG L m p wt).length c') _ _ rfl rfl rfl hZ9) rfl ?_
  rw [HC.out.1, HC.out.2.1, HC.out.2.2, HN.out]
  exact ⟨⟨_, rfl, a', c', rfl, hr6.turn t9 (HZB.out _ hbh) (by decide)⟩, (HFin.out _ hbh).trans (t9.below (by omega))⟩
theorem rRootN_any (R : Nat) (hR : r = (R : Int)) (hm : 0 ≤ m ∧ m < 1000) (m0 k : Int) (w : World) (h : RowG w (.slice a L.length c) L) (ok : Ok L m0 k) :
    Calls Try.prog 23 #[.agg (cellsF r m (.slice a L.length c))] w fun e w' => (∃ v, e = .returned (.tuple #[v, .int .i64 (nextI (rootC L R) m), .int .i64 (rootC L R)]) ∧ DocF w' v r (lastI (rootC L R) m) (rootN L R m)) ∧ Below w.heap.size w w' := by
  by_cases hl : L.length = R
  · exact rRoot_full r m a c L R hR hm m0 k w h ok hl
  · exact rRoot_yes r m a c L R hR hm m0 k w h ok hl
theorem rAdd_any (p wt : Int) (R : Nat) (hR : r = (R : Int)) (hm : 0 ≤ m ∧ m < 1000) (m0 k : Int) (w : World) (h : RowG w (.slice a L.length c) L) (ok : Ok L m0 k) :
    Calls Try.prog 24 #[.agg (cellsF r m (.slice a L.length c)), .int .i64 p, .int .i64 wt] w fun e w' => (∃ v, e = .returned (.tuple #[v, .int .i64 (nextI (addC L R p wt) m), .int .i64 (addC L R p wt)]) ∧ DocF w' v r (lastI (addC L R p wt) m) (addN L R m p wt)) ∧ Below w.heap.size w w' := by
  cases hh : has L p with
  | false => exact rAdd_no r m a c L p wt R hm m0 k w h ok hh
  | true =>
  by_cases h1 : wt < 1
  · exact rAdd_bad1 r m a c L p wt R hm m0 k w h ok hh h1
  by_cases h2 : 10000 < wt
  · exact rAdd_bad2 r m a c L p wt R hm m0 k w h ok hh h2
  have hw : 1 ≤ wt ∧ wt ≤ 10000 := by omega
  by_cases hd : dep L p = 8
  · exact rAdd_deep r m a c L p wt R hm m0 k w h ok hh hw hd
  by_cases hf : fanI L p = 32
  · exact rAdd_wide r m a c L p wt R hm m0 k w h ok hh hw hd hf
  by_cases hl : L.length = R
  · exact rAdd_full r m a c L p wt R hR hm m0 k w h ok hh hw hd hf hl
  · exact rAdd_yes r m a c L p wt R hR hm m0 k w h ok hh hw hd hf hl
end
end Go.Proofs.Ythndfhkkaichiaa
