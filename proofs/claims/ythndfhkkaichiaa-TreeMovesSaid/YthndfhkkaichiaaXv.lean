/-
  The document's Drop. Condition: the groups are a forest.
-/
import Derived.Test.YthndfhkkaichiaaXs
namespace Go.Proofs.Ythndfhkkaichiaa
open Go.RowKit Go.Maps

theorem Cl.head {w : World} {b k : Nat} {L : List Gr} (h : Cl w b 0 L) : Cl w b 0 (L.take k) := by
  refine ⟨h.1, fun j v hj => h.2 j v ?_⟩
  have e : encG L = encG (L.take k) ++ encG (L.drop k) := by rw [← encG_app, List.take_append_drop]
  rw [e, List.getElem?_append_left (List.getElem?_eq_some_iff.1 hj).1]
  exact hj
theorem Cl.tail {w : World} {b k : Nat} {L : List Gr} (h : Cl w b 0 L) (hk : k ≤ L.length) : Cl w b (k * 5) (L.drop k) := by
  refine ⟨h.1, fun j v hj => ?_⟩
  have e : encG L = encG (L.take k) ++ encG (L.drop k) := by rw [← encG_app, List.take_append_drop]
  have hl : (encG (L.take k)).length = k * 5 := by rw [encG_len, List.length_take]; omega
  have := h.2 (k * 5 + j) v (by rw [e, List.getElem?_append_right (by omega), hl, show k * 5 + j - k * 5 = j by omega]; exact hj)
  rwa [Nat.zero_add] at this
section
variable (r m : Int) (a : Option Addr) (c : Nat) (L : List Gr)
set_option maxRecDepth 100000 in
set_option maxHeartbeats 4000000 in
theorem rDrop_no (x : Int) (m0 k : Int) (w : World) (h : RowG w (.slice a L.length c) L) (ok : Ok L m0 k) (hh : has L x = false) :
    Calls Try.prog 26 #[.agg (cellsF r m (.slice a L.length c)), .int .i64 x] w fun e w' => (∃ v, e = .returned (.tuple #[v, .int .i64 (dropC L x)]) ∧ DocF w' v r m (dropN L x)) ∧ Below w.heap.size w w' := by
  have hc : dropC L x = 4 := by unfold dropC; rw [if_pos hh]
  have HC := Lib.hid hc
  have HN : Hid (dropN L x = L) := Lib.hid (by unfold dropN; rw [hc]; rfl)
  have hx0 : Blk ((w.alloc (.cells #[.int .i64 r, .int .i64 m, .slice a L.length c] 30)).alloc (.cells #[.int .i64 0, .int .i64 0, .slice none 0 0] 30)) w.heap.size 30 (cellsF r m (.slice a L.length c)) := (Blk.new w 30 _).alloc _
  have hZ0 : Blk ((w.alloc (.cells #[.int .i64 r, .int .i64 m, .slice a L.length c] 30)).alloc (.cells #[.int .i64 0, .int .i64 0, .slice none 0 0] 30)) (w.heap.size + 1) 30 (cellsF 0 0 (.slice none 0 0)) := by
    have := Blk.new (w.alloc (.cells #[.int .i64 r, .int .i64 m, .slice a L.length c] 30)) 30 (cellsF 0 0 (.slice none 0 0))
    have e : (w.alloc (.cells #[.int .i64 r, .int .i64 m, .slice a L.length c] 30)).heap.size = w.heap.size + 1 := by simp
    rw [e] at this
    exact this
  have hb : Below w.heap.size w ((w.alloc (.cells #[.int .i64 r, .int .i64 m, .slice a L.length c] 30)).alloc (.cells #[.int .i64 0, .int .i64 0, .slice none 0 0] 30)) := ((Below.refl _ w).alloc (Nat.le_refl _) _).alloc (by simp) _
  have hsz : w.heap.size + 2 ≤ ((w.alloc (.cells #[.int .i64 r, .int .i64 m, .slice a L.length c] 30)).alloc (.cells #[.int .i64 0, .int .i64 0, .slice none 0 0] 30)).heap.size := by simp
  have HR : Hid (Rdw ((w.alloc (.cells #[.int .i64 r, .int .i64 m, .slice a L.length c] 30)).alloc (.cells #[.int .i64 0, .int .i64 0, .slice none 0 0] 30)) r m a c L) := Lib.hid (Rdw.of h ok hb)
  have HXB : Hid (∀ X, Below ((w.alloc (.cells #[.int .i64 r, .int .i64 m, .slice a L.length c] 30)).alloc (.cells #[.int .i64 0, .int .i64 0, .slice none 0 0] 30)).heap.size ((w.alloc (.cells #[.int .i64 r, .int .i64 m, .slice a L.length c] 30)).alloc (.cells #[.int .i64 0, .int .i64 0, .slice none 0 0] 30)) X → Blk X w.heap.size 30 (cellsF r m (.slice a L.length c))) := Lib.hid fun X hX => hx0.below hX
  have HZB : Hid (∀ X, Below ((w.alloc (.cells #[.int .i64 r, .int .i64 m, .slice a L.length c] 30)).alloc (.cells #[.int .i64 0, .int .i64 0, .slice none 0 0] 30)).heap.size ((w.alloc (.cells #[.int .i64 r, .int .i64 m, .slice a L.length c] 30)).alloc (.cells #[.int .i64 0, .int .i64 0, .slice none 0 0] 30)) X → Blk X (w.heap.size + 1) 30 (cellsF 0 0 (.slice none 0 0))) := Lib.hid fun X hX => hZ0.below hX
  have HFin : Hid (∀ X, Below ((w.alloc (.cells #[.int .i64 r, .int .i64 m, .slice a L.length c] 30)).alloc (.cells #[.int .i64 0, .int .i64 0, .slice none 0 0] 30)).heap.size ((w.alloc (.cells #[.int .i64 r, .int .i64 m, .slice a L.length c] 30)).alloc (.cells #[.int .i64 0, .int .i64 0, .slice none 0 0] 30)) X → Below w.heap.size w X) := Lib.hid fun X hX => hb.trans (hX.mono (by omega))
  have HA : Hid (atG L x = -1) := Lib.hid (atG_no hh)
  clear hh
  clear hc h ok
  unfold cellsF
  go_enter Try.func26, Try.ntmps26
  go_wp2_with (first | (have hgd := hx0; refine wpList_alloc30 rfl rfl ?_; clear hgd; generalize ((w.alloc (.cells #[.int .i64 r, .int .i64 m, .slice a L.length c] 30)).alloc (.cells #[.int .i64 0, .int .i64 0, .slice none 0 0] 30)) = w3 at *; have hbi := Below.refl w3.heap.size w3; clear hx0 hZ0 hb) | (go_at_call 50; refine (HR.out.at' _ _ (by assumption)).mono ?_; rw [HA.out]; rintro e wi ⟨rfl, hbi⟩; have hX2 := HXB.out wi hbi; have f0 := cF0 hX2; have f1 := cF1 hX2; have f2 := cF2 hX2; clear hX2) | (refine wpList_load30 rfl _ rfl w.heap.size r m (.slice a L.length c) rfl (HXB.out _ (by assumption)) ?_) | (refine wpList_store30 rfl _ _ rfl (w.heap.size + 1) r m (.slice a L.length c) rfl rfl (HZB.out _ (by assumption)) rfl rfl ?_; intro wz hZ9 t9))
  refine bodyPost_ret (resultsF_ct rfl _ wz (w.heap.size + 1) r m (.slice a L.length c) _ rfl rfl hZ9) rfl ?_
  rw [HC.out, HN.out]
  exact ⟨⟨_, rfl, a, c, rfl, (HR.out.row _ hbi).turn t9 (HZB.out _ hbi) (by decide)⟩, (HFin.out _ hbi).trans (t9.below (by omega))⟩
set_option maxRecDepth 100000 in
set_option maxHeartbeats 4000000 in
theorem rDrop_root (x : Int) (m0 k : Int) (w : World) (h : RowG w (.slice a L.length c) L) (ok : Ok L m0 k) (hh : has L x = true) (hp : (gr L x).pa = -1) :
    Calls Try.prog 26 #[.agg (cellsF r m (.slice a L.length c)), .int .i64 x] w fun e w' => (∃ v, e = .returned (.tuple #[v, .int .i64 (dropC L x)]) ∧ DocF w' v r m (dropN L x)) ∧ Below w.heap.size w w' := by
  have hc : dropC L x = 15 := by unfold dropC; rw [if_neg (by rw [hh]; decide), if_pos (by omega)]
  have HC := Lib.hid hc
  have HN : Hid (dropN L x = L) := Lib.hid (by unfold dropN; rw [hc]; rfl)
  have hx0 : Blk ((w.alloc (.cells #[.int .i64 r, .int .i64 m, .slice a L.length c] 30)).alloc (.cells #[.int .i64 0, .int .i64 0, .slice none 0 0] 30)) w.heap.size 30 (cellsF r m (.slice a L.length c)) := (Blk.new w 30 _).alloc _
  have hZ0 : Blk ((w.alloc (.cells #[.int .i64 r, .int .i64 m, .slice a L.length c] 30)).alloc (.cells #[.int .i64 0, .int .i64 0, .slice none 0 0] 30)) (w.heap.size + 1) 30 (cellsF 0 0 (.slice none 0 0)) := by
    have := Blk.new (w.alloc (.cells #[.int .i64 r, .int .i64 m, .slice a L.length c] 30)) 30 (cellsF 0 0 (.slice none 0 0))
    have e : (w.alloc (.cells #[.int .i64 r, .int .i64 m, .slice a L.length c] 30)).heap.size = w.heap.size + 1 := by simp
    rw [e] at this
    exact this
  have hb : Below w.heap.size w ((w.alloc (.cells #[.int .i64 r, .int .i64 m, .slice a L.length c] 30)).alloc (.cells #[.int .i64 0, .int .i64 0, .slice none 0 0] 30)) := ((Below.refl _ w).alloc (Nat.le_refl _) _).alloc (by simp) _
  have hsz : w.heap.size + 2 ≤ ((w.alloc (.cells #[.int .i64 r, .int .i64 m, .slice a L.length c] 30)).alloc (.cells #[.int .i64 0, .int .i64 0, .slice none 0 0] 30)).heap.size := by simp
  have HR : Hid (Rdw ((w.alloc (.cells #[.int .i64 r, .int .i64 m, .slice a L.length c] 30)).alloc (.cells #[.int .i64 0, .int .i64 0, .slice none 0 0] 30)) r m a c L) := Lib.hid (Rdw.of h ok hb)
  have HXB : Hid (∀ X, Below ((w.alloc (.cells #[.int .i64 r, .int .i64 m, .slice a L.length c] 30)).alloc (.cells #[.int .i64 0, .int .i64 0, .slice none 0 0] 30)).heap.size ((w.alloc (.cells #[.int .i64 r, .int .i64 m, .slice a L.length c] 30)).alloc (.cells #[.int .i64 0, .int .i64 0, .slice none 0 0] 30)) X → Blk X w.heap.size 30 (cellsF r m (.slice a L.length c))) := Lib.hid fun X hX => hx0.below hX
  have HZB : Hid (∀ X, Below ((w.alloc (.cells #[.int .i64 r, .int .i64 m, .slice a L.length c] 30)).alloc (.cells #[.int .i64 0, .int .i64 0, .slice none 0 0] 30)).heap.size ((w.alloc (.cells #[.int .i64 r, .int .i64 m, .slice a L.length c] 30)).alloc (.cells #[.int .i64 0, .int .i64 0, .slice none 0 0] 30)) X → Blk X (w.heap.size + 1) 30 (cellsF 0 0 (.slice none 0 0))) := Lib.hid fun X hX => hZ0.below hX
  have HFin : Hid (∀ X, Below ((w.alloc (.cells #[.int .i64 r, .int .i64 m, .slice a L.length c] 30)).alloc (.cells #[.int .i64 0, .int .i64 0, .slice none 0 0] 30)).heap.size ((w.alloc (.cells #[.int .i64 r, .int .i64 m, .slice a L.length c] 30)).alloc (.cells #[.int .i64 0, .int .i64 0, .slice none 0 0] 30)) X → Below w.heap.size w X) := Lib.hid fun X hX => hb.trans (hX.mono (by omega))
  have HA : Hid (atG L x = (pos L x : Int)) := Lib.hid (atG_yes hh)
  have HH := Lib.hid hh
  have hj := has_pos hh
  obtain ⟨b, rfl, hcl⟩ := h.at hj
  have HCL : Hid (∀ X, Below ((w.alloc (.cells #[.int .i64 r, .int .i64 m, .slice (some ⟨b, 0, none⟩) L.length c] 30)).alloc (.cells #[.int .i64 0, .int .i64 0, .slice none 0 0] 30)).heap.size ((w.alloc (.cells #[.int .i64 r, .int .i64 m, .slice (some ⟨b, 0, none⟩) L.length c] 30)).alloc (.cells #[.int .i64 0, .int .i64 0, .slice none 0 0] 30)) X → X.cell? ⟨b, pos L x * 5 + 1, none⟩ = some (.int .i64 (gr L x).pa) ∧ X.rangeAt b (pos L x * 5) (cellsE (gr L x)).toList) := Lib.hid fun X hX => ⟨((hcl.below hb).below hX).pa hj, ((hcl.below hb).below hX).range hj⟩
  rw [hp] at HCL
  clear hh hp
  generalize pos L x = j at *
  clear hc h ok
  unfold cellsF
  go_enter Try.func26, Try.ntmps26
  go_wp2_with (first | (have hgd := hx0; refine wpList_alloc30 rfl rfl ?_; clear hgd; generalize ((w.alloc (.cells #[.int .i64 r, .int .i64 m, .slice (some ⟨b, 0, none⟩) L.length c] 30)).alloc (.cells #[.int .i64 0, .int .i64 0, .slice none 0 0] 30)) = w3 at *; have hbi := Below.refl w3.heap.size w3; clear hx0 hZ0 hb) | (go_at_call 50; refine (HR.out.at' _ _ (by assumption)).mono ?_; rw [HA.out]; rintro e wi ⟨rfl, hbi⟩; have hX2 := HXB.out wi hbi; have f0 := cF0 hX2; have f1 := cF1 hX2; have f2 := cF2 hX2; clear hX2; have g1 := (HCL.out wi hbi).1) | (refine wpList_load30 rfl _ rfl w.heap.size r m (.slice (some ⟨b, 0, none⟩) L.length c) rfl (HXB.out _ (by assumption)) ?_) | (refine wpList_store30 rfl _ _ rfl (w.heap.size + 1) r m (.slice (some ⟨b, 0, none⟩) L.length c) rfl rfl (HZB.out _ (by assumption)) rfl rfl ?_; intro wz hZ9 t9))
  refine bodyPost_ret (resultsF_ct rfl _ wz (w.heap.size + 1) r m (.slice (some ⟨b, 0, none⟩) L.length c) _ rfl rfl hZ9) rfl ?_
  rw [HC.out, HN.out]
  exact ⟨⟨_, rfl, some ⟨b, 0, none⟩, c, rfl, (HR.out.row _ hbi).turn t9 (HZB.out _ hbi) (by decide)⟩, (HFin.out _ hbi).trans (t9.below (by omega))⟩
set_option maxRecDepth 100000 in
set_option maxHeartbeats 4000000 in
theorem rDrop_busy (x : Int) (m0 k : Int) (w : World) (h : RowG w (.slice a L.length c) L) (ok : Ok L m0 k) (hh : has L x = true) (hp : 0 ≤ (gr L x).pa) (hf : 0 < fanI L x) :
    Calls Try.prog 26 #[.agg (cellsF r m (.slice a L.length c)), .int .i64 x] w fun e w' => (∃ v, e = .returned (.tuple #[v, .int .i64 (dropC L x)]) ∧ DocF w' v r m (dropN L x)) ∧ Below w.heap.size w w' := by
  have hc : dropC L x = 11 := by unfold dropC; rw [if_neg (by rw [hh]; decide), if_neg (by omega), if_pos hf]
  have HC := Lib.hid hc
  have HN : Hid (dropN L x = L) := Lib.hid (by unfold dropN; rw [hc]; rfl)
  have hx0 : Blk ((w.alloc (.cells #[.int .i64 r, .int .i64 m, .slice a L.length c] 30)).alloc (.cells #[.int .i64 0, .int .i64 0, .slice none 0 0] 30)) w.heap.size 30 (cellsF r m (.slice a L.length c)) := (Blk.new w 30 _).alloc _
  have hZ0 : Blk ((w.alloc (.cells #[.int .i64 r, .int .i64 m, .slice a L.length c] 30)).alloc (.cells #[.int .i64 0, .int .i64 0, .slice none 0 0] 30)) (w.heap.size + 1) 30 (cellsF 0 0 (.slice none 0 0)) := by
    have := Blk.new (w.alloc (.cells #[.int .i64 r, .int .i64 m, .slice a L.length c] 30)) 30 (cellsF 0 0 (.slice none 0 0))
    have e : (w.alloc (.cells #[.int .i64 r, .int .i64 m, .slice a L.length c] 30)).heap.size = w.heap.size + 1 := by simp
    rw [e] at this
    exact this
  have hb : Below w.heap.size w ((w.alloc (.cells #[.int .i64 r, .int .i64 m, .slice a L.length c] 30)).alloc (.cells #[.int .i64 0, .int .i64 0, .slice none 0 0] 30)) := ((Below.refl _ w).alloc (Nat.le_refl _) _).alloc (by simp) _
  have hsz : w.heap.size + 2 ≤ ((w.alloc (.cells #[.int .i64 r, .int .i64 m, .slice a L.length c] 30)).alloc (.cells #[.int .i64 0, .int .i64 0, .slice none 0 0] 30)).heap.size := by simp
  have HR : Hid (Rdw ((w.alloc (.cells #[.int .i64 r, .int .i64 m, .slice a L.length c] 30)).alloc (.cells #[.int .i64 0, .int .i64 0, .slice none 0 0] 30)) r m a c L) := Lib.hid (Rdw.of h ok hb)
  have HXB : Hid (∀ X, Below ((w.alloc (.cells #[.int .i64 r, .int .i64 m, .slice a L.length c] 30)).alloc (.cells #[.int .i64 0, .int .i64 0, .slice none 0 0] 30)).heap.size ((w.alloc (.cells #[.int .i64 r, .int .i64 m, .slice a L.length c] 30)).alloc (.cells #[.int .i64 0, .int .i64 0, .slice none 0 0] 30)) X → Blk X w.heap.size 30 (cellsF r m (.slice a L.length c))) := Lib.hid fun X hX => hx0.below hX
  have HZB : Hid (∀ X, Below ((w.alloc (.cells #[.int .i64 r, .int .i64 m, .slice a L.length c] 30)).alloc (.cells #[.int .i64 0, .int .i64 0, .slice none 0 0] 30)).heap.size ((w.alloc (.cells #[.int .i64 r, .int .i64 m, .slice a L.length c] 30)).alloc (.cells #[.int .i64 0, .int .i64 0, .slice none 0 0] 30)) X → Blk X (w.heap.size + 1) 30 (cellsF 0 0 (.slice none 0 0))) := Lib.hid fun X hX => hZ0.below hX
  have HFin : Hid (∀ X, Below ((w.alloc (.cells #[.int .i64 r, .int .i64 m, .slice a L.length c] 30)).alloc (.cells #[.int .i64 0, .int .i64 0, .slice none 0 0] 30)).heap.size ((w.alloc (.cells #[.int .i64 r, .int .i64 m, .slice a L.length c] 30)).alloc (.cells #[.int .i64 0, .int .i64 0, .slice none 0 0] 30)) X → Below w.heap.size w X) := Lib.hid fun X hX => hb.trans (hX.mono (by omega))
  have HA : Hid (atG L x = (pos L x : Int)) := Lib.hid (atG_yes hh)
  have HH := Lib.hid hh
  have hj := has_pos hh
  obtain ⟨b, rfl, hcl⟩ := h.at hj
  have HCL : Hid (∀ X, Below ((w.alloc (.cells #[.int .i64 r, .int .i64 m, .slice (some ⟨b, 0, none⟩) L.length c] 30)).alloc (.cells #[.int .i64 0, .int .i64 0, .slice none 0 0] 30)).heap.size ((w.alloc (.cells #[.int .i64 r, .int .i64 m, .slice (some ⟨b, 0, none⟩) L.length c] 30)).alloc (.cells #[.int .i64 0, .int .i64 0, .slice none 0 0] 30)) X → X.cell? ⟨b, pos L x * 5 + 1, none⟩ = some (.int .i64 (gr L x).pa) ∧ X.rangeAt b (pos L x * 5) (cellsE (gr L x)).toList) := Lib.hid fun X hX => ⟨((hcl.below hb).below hX).pa hj, ((hcl.below hb).below hX).range hj⟩
  clear hh
  generalize (gr L x).pa = pa at *
  generalize pos L x = j at *
  clear hc h ok
  unfold cellsF
  go_enter Try.func26, Try.ntmps26
  go_wp2_with (first | (have hgd := hx0; refine wpList_alloc30 rfl rfl ?_; clear hgd; generalize ((w.alloc (.cells #[.int .i64 r, .int .i64 m, .slice (some ⟨b, 0, none⟩) L.length c] 30)).alloc (.cells #[.int .i64 0, .int .i64 0, .slice none 0 0] 30)) = w3 at *; have hbi := Below.refl w3.heap.size w3; clear hx0 hZ0 hb) | (go_at_call 50; refine (HR.out.at' _ _ (by assumption)).mono ?_; rw [HA.out]; rintro e wi ⟨rfl, hbi⟩; have hX2 := HXB.out wi hbi; have f0 := cF0 hX2; have f1 := cF1 hX2; have f2 := cF2 hX2; clear hX2; have g1 := (HCL.out wi hbi).1) | (go_at_call 51; refine (HR.out.fan _ _ HH.out (by assumption)).mono ?_; rintro e wi ⟨rfl, hbi⟩; have hX2 := HXB.out wi hbi; have f0 := cF0 hX2; have f1 := cF1 hX2; have f2 := cF2 hX2; clear hX2) | (refine wpList_load30 rfl _ rfl w.heap.size r m (.slice (some ⟨b, 0, none⟩) L.length c) rfl (HXB.out _ (by assumption)) ?_) | (refine wpList_store30 rfl _ _ rfl (w.heap.size + 1) r m (.slice (some ⟨b, 0, none⟩) L.length c) rfl rfl (HZB.out _ (by assumption)) rfl rfl ?_; intro wz hZ9 t9))
  refine bodyPost_ret (resultsF_ct rfl _ wz (w.heap.size + 1) r m (.slice (some ⟨b, 0, none⟩) L.length c) _ rfl rfl hZ9) rfl ?_
  rw [HC.out, HN.out]
  exact ⟨⟨_, rfl, some ⟨b, 0, none⟩, c, rfl, (HR.out.row _ hbi).turn t9 (HZB.out _ hbi) (by decide)⟩, (HFin.out _ hbi).trans (t9.below (by omega))⟩
set_option maxRecDepth 100000 in
set_option maxHeartbeats 4000000 in
theorem rDrop_yes (x : Int) (m0 k : Int) (w : World) (h : RowG w (.slice a L.length c) L) (ok : Ok L m0 k) (hh : has L x = true) (hp : 0 ≤ (gr L x).pa) (hf : ¬ 0 < fanI L x) :
    Calls Try.prog 26 #[.agg (cellsF r m (.slice a L.length c)), .int .i64 x] w fun e w' => (∃ v, e = .returned (.tuple #[v, .int .i64 (dropC L x)]) ∧ DocF w' v r m (dropN L x)) ∧ Below w.heap.size w w' := by
  have hc : dropC L x = 0 := by unfold dropC; rw [if_neg (by rw [hh]; decide), if_neg (by omega), if_neg hf]
  have HC := Lib.hid hc
  have HN : Hid (dropN L x = L.take (pos L x) ++ L.drop (pos L x + 1)) := Lib.hid (by unfold dropN; rw [hc]; rfl)
  have hx0 : Blk ((w.alloc (.cells #[.int .i64 r, .int .i64 m, .slice a L.length c] 30)).alloc (.cells #[.int .i64 0, .int .i64 0, .slice none 0 0] 30)) w.heap.size 30 (cellsF r m (.slice a L.length c)) := (Blk.new w 30 _).alloc _
  have hZ0 : Blk ((w.alloc (.cells #[.int .i64 r, .int .i64 m, .slice a L.length c] 30)).alloc (.cells #[.int .i64 0, .int .i64 0, .slice none 0 0] 30)) (w.heap.size + 1) 30 (cellsF 0 0 (.slice none 0 0)) := by
    have := Blk.new (w.alloc (.cells #[.int .i64 r, .int .i64 m, .slice a L.length c] 30)) 30 (cellsF 0 0 (.slice none 0 0))
    have e : (w.alloc (.cells #[.int .i64 r, .int .i64 m, .slice a L.length c] 30)).heap.size = w.heap.size + 1 := by simp
    rw [e] at this
    exact this
  have hb : Below w.heap.size w ((w.alloc (.cells #[.int .i64 r, .int .i64 m, .slice a L.length c] 30)).alloc (.cells #[.int .i64 0, .int .i64 0, .slice none 0 0] 30)) := ((Below.refl _ w).alloc (Nat.le_refl _) _).alloc (by simp) _
  have hsz : w.heap.size + 2 ≤ ((w.alloc (.cells #[.int .i64 r, .int .i64 m, .slice a L.length c] 30)).alloc (.cells #[.int .i64 0, .int .i64 0, .slice none 0 0] 30)).heap.size := by simp
  have HR : Hid (Rdw ((w.alloc (.cells #[.int .i64 r, .int .i64 m, .slice a L.length c] 30)).alloc (.cells #[.int .i64 0, .int .i64 0, .slice none 0 0] 30)) r m a c L) := Lib.hid (Rdw.of h ok hb)
  have HXB : Hid (∀ X, Below ((w.alloc (.cells #[.int .i64 r, .int .i64 m, .slice a L.length c] 30)).alloc (.cells #[.int .i64 0, .int .i64 0, .slice none 0 0] 30)).heap.size ((w.alloc (.cells #[.int .i64 r, .int .i64 m, .slice a L.length c] 30)).alloc (.cells #[.int .i64 0, .int .i64 0, .slice none 0 0] 30)) X → Blk X w.heap.size 30 (cellsF r m (.slice a L.length c))) := Lib.hid fun X hX => hx0.below hX
  have HZB : Hid (∀ X, Below ((w.alloc (.cells #[.int .i64 r, .int .i64 m, .slice a L.length c] 30)).alloc (.cells #[.int .i64 0, .int .i64 0, .slice none 0 0] 30)).heap.size ((w.alloc (.cells #[.int .i64 r, .int .i64 m, .slice a L.length c] 30)).alloc (.cells #[.int .i64 0, .int .i64 0, .slice none 0 0] 30)) X → Blk X (w.heap.size + 1) 30 (cellsF 0 0 (.slice none 0 0))) := Lib.hid fun X hX => hZ0.below hX
  have HFin : Hid (∀ X, Below ((w.alloc (.cells #[.int .i64 r, .int .i64 m, .slice a L.length c] 30)).alloc (.cells #[.int .i64 0, .int .i64 0, .slice none 0 0] 30)).heap.size ((w.alloc (.cells #[.int .i64 r, .int .i64 m, .slice a L.length c] 30)).alloc (.cells #[.int .i64 0, .int .i64 0, .slice none 0 0] 30)) X → Below w.heap.size w X) := Lib.hid fun X hX => hb.trans (hX.mono (by omega))
  have HA : Hid (atG L x = (pos L x : Int)) := Lib.hid (atG_yes hh)
  have HH := Lib.hid hh
  have hj := has_pos hh
  obtain ⟨b, rfl, hcl⟩ := h.at hj
  have HCL : Hid (∀ X, Below ((w.alloc (.cells #[.int .i64 r, .int .i64 m, .slice (some ⟨b, 0, none⟩) L.length c] 30)).alloc (.cells #[.int .i64 0, .int .i64 0, .slice none 0 0] 30)).heap.size ((w.alloc (.cells #[.int .i64 r, .int .i64 m, .slice (some ⟨b, 0, none⟩) L.length c] 30)).alloc (.cells #[.int .i64 0, .int .i64 0, .slice none 0 0] 30)) X → X.cell? ⟨b, pos L x * 5 + 1, none⟩ = some (.int .i64 (gr L x).pa) ∧ X.rangeAt b (pos L x * 5) (cellsE (gr L x)).toList) := Lib.hid fun X hX => ⟨((hcl.below hb).below hX).pa hj, ((hcl.below hb).below hX).range hj⟩
  have hlc := h.form.2.1
  have HCC : Hid (∀ X, Below ((w.alloc (.cells #[.int .i64 r, .int .i64 m, .slice (some ⟨b, 0, none⟩) L.length c] 30)).alloc (.cells #[.int .i64 0, .int .i64 0, .slice none 0 0] 30)).heap.size ((w.alloc (.cells #[.int .i64 r, .int .i64 m, .slice (some ⟨b, 0, none⟩) L.length c] 30)).alloc (.cells #[.int .i64 0, .int .i64 0, .slice none 0 0] 30)) X → Cl X b 0 L) := Lib.hid fun X hX => (hcl.below hb).below hX
  have hn64 := ok.n64
  clear hh
  generalize (gr L x).pa = pa at *
  generalize pos L x = j at *
  clear hc h ok
  unfold cellsF
  go_enter Try.func26, Try.ntmps26
  go_wp2_with (first | (have hgd := hx0; refine wpList_alloc30 rfl rfl ?_; clear hgd; generalize ((w.alloc (.cells #[.int .i64 r, .int .i64 m, .slice (some ⟨b, 0, none⟩) L.length c] 30)).alloc (.cells #[.int .i64 0, .int .i64 0, .slice none 0 0] 30)) = w3 at *; have hbi := Below.refl w3.heap.size w3; clear hx0 hZ0 hb) | (go_at_call 50; refine (HR.out.at' _ _ (by assumption)).mono ?_; rw [HA.out]; rintro e wi ⟨rfl, hbi⟩; have hX2 := HXB.out wi hbi; have f0 := cF0 hX2; have f1 := cF1 hX2; have f2 := cF2 hX2; clear hX2; have g1 := (HCL.out wi hbi).1) | (go_at_call 51; refine (HR.out.fan _ _ HH.out (by assumption)).mono ?_; rintro e wi ⟨rfl, hbi⟩; have hX2 := HXB.out wi hbi; have f0 := cF0 hX2; have f1 := cF1 hX2; have f2 := cF2 hX2; clear hX2) | (refine wpList_load30 rfl _ rfl w.heap.size r m (.slice (some ⟨b, 0, none⟩) L.length c) rfl (HXB.out _ (by assumption)) ?_) | (refine wpList_store30 rfl _ _ rfl (w.heap.size + 1) r m (.slice (some ⟨b, 0, none⟩) L.length c) rfl rfl (HZB.out _ (by assumption)) rfl rfl ?_; intro wz hZ9 t9))
  have hX4 := HXB.out wi hbi
  have hZ4 := HZB.out wi hbi
  have hC4 := HCC.out wi hbi
  have hF4 := HFin.out wi hbi
  have hs4 := hbi.size
  have hx := hX4.drew
  have hZ := hZ4.drew
  have hF5 : Below w.heap.size w wi.drew := Below.drewS hF4
  have hC5 : Cl wi.drew b 0 L := hC4
  have hs5 : w.heap.size + 2 ≤ wi.drew.heap.size := by show _ ≤ wi.heap.size; omega
  have hfan : ¬ 0 < fanI L x := by omega
  go_wp2_with fail
  refine Rd.region (fun X => Blk X w.heap.size 30 (cellsF r m (.slice (some ⟨b, 0, none⟩) L.length c))) 19 [0, 1, 2, 3, 5, 6, 7, 8, 10, 11, 12, 13, 14, 16, 18] [0, 1, 2, 3, 5, 6, 7, 8, 10, 11, 12, 13, 14, 4, 9, 15, 16, 17, 18] (by kernel_rfl) (by kernel_rfl) (by kernel_rfl) (by kernel_rfl) rfl hx ?_
  clear hX4 hZ4 hC4 hF4 hs4 hbi f0 f1 f2 g1
  generalize wi.drew = w4 at *
  have HS1 : Hid (SrcG w4 (.slice (some ⟨b, 0, none⟩) j c) (L.take j)) := Lib.hid ⟨_, c, by rw [List.length_take, Nat.min_eq_left (by omega)], fun _ => ⟨b, 0, rfl, hC5.head⟩⟩
  generalize hvt : Value.slice (if c = j + 1 then some ⟨b, 0, none⟩ else some ⟨b, (j + 1) * 5, none⟩) (L.length - (j + 1)) (c - (j + 1)) = VT
  have HV := Lib.hid hvt.symm
  have HS2 : Hid (SrcG w4 VT (L.drop (j + 1))) := Lib.hid (by
    rw [HV.out]
    refine ⟨_, _, by rw [List.length_drop], fun hne => ⟨b, (j + 1) * 5, ?_, hC5.tail (by omega)⟩⟩
    have : 0 < (L.drop (j + 1)).length := List.length_pos_iff.2 hne
    rw [List.length_drop] at this
    rw [if_neg (by omega)])
  clear hvt
  have HW13 : Hid (IntKind.i64.wrap ((j : Int) + 1) = (j : Int) + 1) := Lib.hid (IntWalk.i64_in _ (by omega))
  have hcj1 : j ≤ c := by omega
  have hcj2 : j + 1 ≤ c := by omega
  have hcj3 : ¬ c < j + 1 := by omega
  refine Rd.seq_float (.pointer (some ⟨w.heap.size, 0, none⟩)) (by simp only [List.getElem?_toArray, List.getElem?_cons_zero]; rfl) rfl (by rfl) (fun X _ => by go_simp) ?_
  simp only [Act.put, List.setIfInBounds_toArray, List.set_cons_succ, List.set_cons_zero]
  refine Rd.seq_float (.int .i64 r) (by simp only [List.getElem?_toArray, List.getElem?_cons_succ, List.getElem?_cons_zero]; rfl) rfl (by rfl) (fun X hX => by have e0 := cF0 hX; have e1 := cF1 hX; have e2 := cF2 hX; go_simp) ?_
  simp only [Act.put, List.setIfInBounds_toArray, List.set_cons_succ, List.set_cons_zero]
  refine Rd.seq_float (.pointer (some ⟨w.heap.size, 1, none⟩)) (by simp only [List.getElem?_toArray, List.getElem?_cons_succ, List.getElem?_cons_zero]; rfl) rfl (by rfl) (fun X _ => by go_simp) ?_
  simp only [Act.put, List.setIfInBounds_toArray, List.set_cons_succ, List.set_cons_zero]
  refine Rd.seq_float (.int .i64 m) (by simp only [List.getElem?_toArray, List.getElem?_cons_succ, List.getElem?_cons_zero]; rfl) rfl (by rfl) (fun X hX => by have e0 := cF0 hX; have e1 := cF1 hX; have e2 := cF2 hX; go_simp) ?_
  simp only [Act.put, List.setIfInBounds_toArray, List.set_cons_succ, List.set_cons_zero]
  refine Rd.seq_float (.pointer (some ⟨w.heap.size, 2, none⟩)) (by simp only [List.getElem?_toArray, List.getElem?_cons_succ, List.getElem?_cons_zero]; rfl) rfl (by rfl) (fun X _ => by go_simp) ?_
  simp only [Act.put, List.setIfInBounds_toArray, List.set_cons_succ, List.set_cons_zero]
  refine Rd.seq_float (.slice (some ⟨b, 0, none⟩) L.length c) (by simp only [List.getElem?_toArray, List.getElem?_cons_succ, List.getElem?_cons_zero]; rfl) rfl (by rfl) (fun X hX => by have e0 := cF0 hX; have e1 := cF1 hX; have e2 := cF2 hX; go_simp) ?_
  simp only [Act.put, List.setIfInBounds_toArray, List.set_cons_succ, List.set_cons_zero]
  refine Rd.seq_float (.int .i64 (j : Int)) (by simp only [List.getElem?_toArray, List.getElem?_cons_succ, List.getElem?_cons_zero]; rfl) rfl (by rfl) (fun X _ => by go_simp) ?_
  simp only [Act.put, List.setIfInBounds_toArray, List.set_cons_succ, List.set_cons_zero]
  refine Rd.seq_float (.slice (some ⟨b, 0, none⟩) j c) (by simp only [List.getElem?_toArray, List.getElem?_cons_succ, List.getElem?_cons_zero]; rfl) rfl (by rfl) (fun X _ => by go_simp) ?_
  simp only [Act.put, List.setIfInBounds_toArray, List.set_cons_succ, List.set_cons_zero]
  refine Rd.seq_float (.pointer (some ⟨w.heap.size, 2, none⟩)) (by simp only [List.getElem?_toArray, List.getElem?_cons_succ, List.getElem?_cons_zero]; rfl) rfl (by rfl) (fun X _ => by go_simp) ?_
  simp only [Act.put, List.setIfInBounds_toArray, List.set_cons_succ, List.set_cons_zero]
  refine Rd.seq_float (.slice (some ⟨b, 0, none⟩) L.length c) (by simp only [List.getElem?_toArray, List.getElem?_cons_succ, List.getElem?_cons_zero]; rfl) rfl (by rfl) (fun X hX => by have e0 := cF0 hX; have e1 := cF1 hX; have e2 := cF2 hX; go_simp) ?_
  simp only [Act.put, List.setIfInBounds_toArray, List.set_cons_succ, List.set_cons_zero]
  refine Rd.seq_float (.int .i64 (j : Int)) (by simp only [List.getElem?_toArray, List.getElem?_cons_succ, List.getElem?_cons_zero]; rfl) rfl (by rfl) (fun X _ => by go_simp) ?_
  simp only [Act.put, List.setIfInBounds_toArray, List.set_cons_succ, List.set_cons_zero]
  refine Rd.seq_float (.int .i64 ((j : Int) + 1)) (by simp only [List.getElem?_toArray, List.getElem?_cons_succ, List.getElem?_cons_zero]; rfl) rfl (by rfl) (fun X _ => by go_simp; exact HW13.out) ?_
  simp only [Act.put, List.setIfInBounds_toArray, List.set_cons_succ, List.set_cons_zero]
  refine Rd.seq_float (VT) (by simp only [List.getElem?_toArray, List.getElem?_cons_succ, List.getElem?_cons_zero]; rfl) rfl (by rfl) (fun X _ => by rw [HV.out]; by_cases hcj : c = j + 1 <;> (go_simp; intro hq; exfalso; omega)) ?_
  simp only [Act.put, List.setIfInBounds_toArray, List.set_cons_succ, List.set_cons_zero]
  refine Rd.seq_move (by simp only [List.getElem?_toArray, List.getElem?_cons_succ, List.getElem?_cons_zero]; rfl) rfl (by rfl) (fun K hK => ?_)
  go_simp
  have hE := RowH.empty w4 w4.heap.size (Nat.le_refl _)
  have hB : Below w4.heap.size w4 (w4.alloc (.cells #[] 70)) := (Below.refl _ _).alloc (Nat.le_refl _) _
  generalize w4.alloc (.cells #[] 70) = z1 at *
  refine hK _ _ (fun _ => hx.below hB) ?_
  clear hK K
  refine Rd.seq_move (by simp only [List.getElem?_toArray, List.getElem?_cons_succ, List.getElem?_cons_zero]; rfl) rfl (by rfl) (fun K hK => ?_)
  refine wp_appendG _ _ rfl w4.heap.size _ _ [] (L.take j) rfl rfl hB.size hE (HS1.out.below hB) (by simp; omega) ?_
  intro v2 z2 h2 gr2
  rw [List.nil_append] at h2
  have hB2 := hB.trans (hE.grown hB.size gr2)
  refine hK _ _ (fun _ => hx.below hB2) ?_
  clear hK K
  refine Rd.seq_move (by simp only [List.getElem?_toArray, List.getElem?_cons_succ, List.getElem?_cons_zero]; rfl) rfl (by rfl) (fun K hK => ?_)
  refine wp_appendG _ _ rfl w4.heap.size _ _ (L.take j) (L.drop (j + 1)) rfl rfl hB2.size h2 (HS2.out.below hB2) (by simp; omega) ?_
  intro v5 z5 h5 gr5
  have hB5 := hB2.trans (h2.grown hB2.size gr5)
  obtain ⟨a5, c5, rfl⟩ := h5.sl
  refine hK _ _ (fun _ => hx.below hB5) ?_
  clear hK K
  refine Rd.seq_float (.agg #[.int .i64 r, .int .i64 m, .slice a5 (L.take j ++ L.drop (j + 1)).length c5]) (by simp only [List.getElem?_toArray, List.getElem?_cons_succ, List.getElem?_cons_zero]; rfl) rfl (by rfl) (fun X _ => by kernel_rfl) ?_
  simp only [Act.put, List.setIfInBounds_toArray, List.set_cons_succ, List.set_cons_zero]
  refine Rd.seq_move (by simp only [List.getElem?_toArray, List.getElem?_cons_succ, List.getElem?_cons_zero]; rfl) rfl (by rfl) (fun K hK => ?_)
  refine wp_store30 _ _ rfl (w.heap.size + 1) r m (.slice a5 (L.take j ++ L.drop (j + 1)).length c5) rfl rfl (hZ.below hB5) rfl rfl ?_
  intro wz hZ9 t9
  refine hK _ _ (fun _ => (hx.below hB5).turn t9 (by omega)) ?_
  clear hK K
  refine Rd.seq_float (.int .i64 0) (by simp only [List.getElem?_toArray, List.getElem?_cons_succ, List.getElem?_cons_zero]; rfl) rfl (by rfl) (fun X _ => by go_simp) ?_
  simp only [Act.put, List.setIfInBounds_toArray, List.set_cons_succ, List.set_cons_zero]
  refine Rd.seq_end ?_
  go_wp2_with fail
  refine bodyPost_ret (resultsF_ct rfl _ wz (w.heap.size + 1) r m _ _ rfl rfl hZ9) rfl ?_
  rw [HC.out, HN.out]
  exact ⟨⟨_, rfl, a5, c5, rfl, h5.row.turn t9 (hZ.below hB5) (by decide)⟩, (hF5.trans (hB5.mono (by omega))).trans (t9.below (by omega))⟩
theorem rDrop_any (x : Int) (m0 k : Int) (w : World) (h : RowG w (.slice a L.length c) L) (ok : Ok L m0 k) :
    Calls Try.prog 26 #[.agg (cellsF r m (.slice a L.length c)), .int .i64 x] w fun e w' => (∃ v, e = .returned (.tuple #[v, .int .i64 (dropC L x)]) ∧ DocF w' v r m (dropN L x)) ∧ Below w.heap.size w w' := by
  cases hh : has L x with
  | false => exact rDrop_no r m a c L x m0 k w h ok hh
  | true =>
  rcases ok.pa hh with hp | hp
  · exact rDrop_root r m a c L x m0 k w h ok hh hp
  have hp2 : 0 ≤ (gr L x).pa := by have := ok.id hp; omega
  by_cases hf : 0 < fanI L x
  · exact rDrop_busy r m a c L x m0 k w h ok hh hp2 hf
  · exact rDrop_yes r m a c L x m0 k w h ok hh hp2 hf
end
end Go.Proofs.Ythndfhkkaichiaa
