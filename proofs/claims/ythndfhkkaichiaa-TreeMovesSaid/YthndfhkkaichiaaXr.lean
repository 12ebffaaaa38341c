/-
  The document's set, New, AddRoot, Add, SetWeight, Count. Condition: the groups are a forest.
-/
import Derived.Test.YthndfhkkaichiaaXq
namespace Go.Proofs.Ythndfhkkaichiaa
open Go.RowKit Go.Maps

theorem encG_set : ∀ {L : List Gr} {i : Nat} (g : Gr), i < L.length → encG (L.set i g) = (((((encG L).set (i * 5) (.int .i64 g.id)).set (i * 5 + 1) (.int .i64 g.pa)).set (i * 5 + 2) (.int .i64 g.wt)).set (i * 5 + 3) (.int .i64 g.me)).set (i * 5 + 4) (.int .i64 g.aw)
  | [], _, _, h => by simp at h
  | y :: r, 0, g, _ => by
    rw [List.set_cons_zero, encG_cons, encG_cons]
    rfl
  | y :: r, i + 1, g, h => by
    have ih := encG_set (L := r) (i := i) g (by simpa using h)
    rw [List.set_cons_succ, encG_cons, ih, encG_cons]
    have e0 : (i + 1) * 5 = i * 5 + 5 := by omega
    rw [e0]
    have st : ∀ (k : Nat) (v : Value) (xs : List Value), ((cellsE y).toList ++ xs).set (k + 5) v = (cellsE y).toList ++ xs.set k v := fun k v xs => rfl
    rw [st, show i * 5 + 5 + 1 = i * 5 + 1 + 5 by omega, st, show i * 5 + 5 + 2 = i * 5 + 2 + 5 by omega, st, show i * 5 + 5 + 3 = i * 5 + 3 + 5 by omega, st, show i * 5 + 5 + 4 = i * 5 + 4 + 5 by omega, st]
theorem rowC_put {w : World} {B b n c k : Nat} {xs : List Value} (h : w.ownsRow B 70 5 (.slice (some ⟨b, 0, none⟩) n c) k xs) (i : Nat) (x : Value) : (w.setCell ⟨b, i, none⟩ x).ownsRow B 70 5 (.slice (some ⟨b, 0, none⟩) n c) k (xs.set i x) := by
  have hl := h.1
  rcases h.2 with ⟨h0, _⟩ | ⟨g, cap, cur, e, hbg, hg, h3, h4, h5, htake⟩
  · cases h0
  · cases e
    refine ⟨by rw [List.length_set]; exact hl, .inr ⟨b, c, _, rfl, hbg, heap_setCell_same w b i _ 70 _ hg, h3, h4, by rw [Array.size_setIfInBounds]; exact h5, ?_⟩⟩
    rw [Array.toList_setIfInBounds, List.take_set, htake]
theorem RowH.set {w : World} {B b n c i : Nat} {L : List Gr} (h : RowH w B (.slice (some ⟨b, 0, none⟩) n c) L) (hi : i < L.length) (g : Gr) : RowH (w.setCells b (i * 5) (cellsE g).toList) B (.slice (some ⟨b, 0, none⟩) n c) (L.set i g) := by
  have h5 := rowC_put (rowC_put (rowC_put (rowC_put (rowC_put h (i * 5) (.int .i64 g.id)) (i * 5 + 1) (.int .i64 g.pa)) (i * 5 + 2) (.int .i64 g.wt)) (i * 5 + 3) (.int .i64 g.me)) (i * 5 + 4) (.int .i64 g.aw)
  unfold RowH
  rw [List.length_set, encG_set g hi]
  exact h5
theorem RowH.there {w : World} {B b n c i : Nat} {L : List Gr} (h : RowH w B (.slice (some ⟨b, 0, none⟩) n c) L) (hi : i < L.length) : w.there b (i * 5) 5 := by
  intro j hj
  obtain ⟨b', e, hc⟩ := h.row.at hi
  cases e
  rcases h.2 with ⟨h0, _⟩ | ⟨g, cap, cur, e, hbg, hg, _⟩
  · cases h0
  · cases e
    refine ⟨?_, frozen_of_row w b _ _ 70 hg⟩
    rw [hc.at hi hj]
    match j, hj with
    | 0, _ => rfl
    | 1, _ => rfl
    | 2, _ => rfl
    | 3, _ => rfl
    | 4, _ => rfl
theorem b4_ge {w : World} {B b n c : Nat} {L : List Gr} (h : RowH w B (.slice (some ⟨b, 0, none⟩) n c) L) : B ≤ b := by
  rcases h.2 with ⟨h0, _⟩ | ⟨g, cap, cur, e, hbg, _⟩
  · cases h0
  · cases e; exact hbg
theorem setCells_turn (w : World) (b o : Nat) (g : Gr) : Turn b w (w.setCells b o (cellsE g).toList) := by
  have t : ∀ {w w' w'' : World}, Turn b w w' → Turn b w' w'' → Turn b w w'' := fun h h' => ⟨h'.os.trans h.os, h'.tape.trans h.tape, h'.output.trans h.output, h'.size.trans h.size, fun k hk => (h'.block k hk).trans (h.block k hk)⟩
  exact t (t (t (t (Turn.setCell w b o _) (Turn.setCell _ b (o + 1) _)) (Turn.setCell _ b (o + 2) _)) (Turn.setCell _ b (o + 3) _)) (Turn.setCell _ b (o + 4) _)
section
variable (r m : Int) (a : Option Addr) (c : Nat) (L : List Gr)
set_option maxRecDepth 100000 in
set_option maxHeartbeats 4000000 in
theorem rset_any (i : Nat) (g : Gr) (w : World) (h : RowG w (.slice a L.length c) L) (hl : L.length ≤ 64) (hi : i < L.length) :
    Calls Try.prog 54 #[.agg (cellsF r m (.slice a L.length c)), .int .i64 (i : Int), .agg (cellsE g)] w fun e w' => (∃ v, e = .returned v ∧ DocF w' v r m (L.set i g)) ∧ Below w.heap.size w w' := by
  have hs1 : (w.alloc (.cells #[.int .i64 r, .int .i64 m, .slice a L.length c] 30)).heap.size = w.heap.size + 1 := by simp
  have hs2 : ((w.alloc (.cells #[.int .i64 r, .int .i64 m, .slice a L.length c] 30)).alloc (.cells #[.int .i64 g.id, .int .i64 g.pa, .int .i64 g.wt, .int .i64 g.me, .int .i64 g.aw] 70)).heap.size = w.heap.size + 2 := by simp
  have hx0 : Blk (((w.alloc (.cells #[.int .i64 r, .int .i64 m, .slice a L.length c] 30)).alloc (.cells #[.int .i64 g.id, .int .i64 g.pa, .int .i64 g.wt, .int .i64 g.me, .int .i64 g.aw] 70)).alloc (.cells #[.int .i64 0, .int .i64 0, .slice none 0 0] 30)) w.heap.size 30 (cellsF r m (.slice a L.length c)) := ((Blk.new w 30 _).alloc _).alloc _
  have hg0 : Blk (((w.alloc (.cells #[.int .i64 r, .int .i64 m, .slice a L.length c] 30)).alloc (.cells #[.int .i64 g.id, .int .i64 g.pa, .int .i64 g.wt, .int .i64 g.me, .int .i64 g.aw] 70)).alloc (.cells #[.int .i64 0, .int .i64 0, .slice none 0 0] 30)) (w.heap.size + 1) 70 (cellsE g) := by
    have := (Blk.new (w.alloc (.cells #[.int .i64 r, .int .i64 m, .slice a L.length c] 30)) 70 (cellsE g)).alloc (.cells #[.int .i64 0, .int .i64 0, .slice none 0 0] 30)
    rw [hs1] at this
    exact this
  have hZ0 : Blk (((w.alloc (.cells #[.int .i64 r, .int .i64 m, .slice a L.length c] 30)).alloc (.cells #[.int .i64 g.id, .int .i64 g.pa, .int .i64 g.wt, .int .i64 g.me, .int .i64 g.aw] 70)).alloc (.cells #[.int .i64 0, .int .i64 0, .slice none 0 0] 30)) (w.heap.size + 2) 30 (cellsF 0 0 (.slice none 0 0)) := by
    have := Blk.new ((w.alloc (.cells #[.int .i64 r, .int .i64 m, .slice a L.length c] 30)).alloc (.cells #[.int .i64 g.id, .int .i64 g.pa, .int .i64 g.wt, .int .i64 g.me, .int .i64 g.aw] 70)) 30 (cellsF 0 0 (.slice none 0 0))
    rw [hs2] at this
    exact this
  have hb : Below w.heap.size w (((w.alloc (.cells #[.int .i64 r, .int .i64 m, .slice a L.length c] 30)).alloc (.cells #[.int .i64 g.id, .int .i64 g.pa, .int .i64 g.wt, .int .i64 g.me, .int .i64 g.aw] 70)).alloc (.cells #[.int .i64 0, .int .i64 0, .slice none 0 0] 30)) := (((Below.refl _ w).alloc (Nat.le_refl _) _).alloc (by simp) _).alloc (by simp; omega) _
  have hsz : w.heap.size + 3 ≤ (((w.alloc (.cells #[.int .i64 r, .int .i64 m, .slice a L.length c] 30)).alloc (.cells #[.int .i64 g.id, .int .i64 g.pa, .int .i64 g.wt, .int .i64 g.me, .int .i64 g.aw] 70)).alloc (.cells #[.int .i64 0, .int .i64 0, .slice none 0 0] 30)).heap.size := by simp
  have HS := Lib.hid (h.src.below hb)
  have e2 := cF2 hx0
  clear h hs1 hs2
  unfold cellsF cellsE
  go_enter Try.func54, Try.ntmps54
  go_wp2_with (first | (refine wpList_alloc30 rfl rfl ?_; generalize (((w.alloc (.cells #[.int .i64 r, .int .i64 m, .slice a L.length c] 30)).alloc (.cells #[.int .i64 g.id, .int .i64 g.pa, .int .i64 g.wt, .int .i64 g.me, .int .i64 g.aw] 70)).alloc (.cells #[.int .i64 0, .int .i64 0, .slice none 0 0] 30)) = w3 at *; have hE := RowH.empty w3 w3.heap.size (Nat.le_refl _); have hbE : Below w3.heap.size w3 (w3.alloc (.cells #[] 70)) := (Below.refl _ w3).alloc (Nat.le_refl _) _; have e3 := cF2 (hx0.below hbE)) | (refine wpList_appendG rfl _ _ rfl w3.heap.size (.slice (some ⟨w3.heap.size, 0, none⟩) 0 0) _ [] L rfl rfl (by simp) hE (HS.out.below hbE) (by simp; omega) ?_; intro v4 w4 hr4 hg4; rw [List.nil_append] at hr4; have hb4 := hbE.trans (hE.grown (by simp) hg4); obtain ⟨a4, c4, rfl⟩ := hr4.sl; obtain ⟨b4, rfl, hc4⟩ := hr4.row.at hi; have hg4' := hg0.below hb4; have hx4 := hx0.below hb4; have hZ4 := hZ0.below hb4; have ht4 := hr4.there hi) | (refine wpList_load70 rfl _ rfl (w.heap.size + 1) g rfl hg4' ?_) | (refine wpList_store_mid rfl 70 _ _ rfl b4 (i * 5) (cellsE g) rfl rfl ht4 Try.info70 (by simp [cellsE, Value.oneCell']) ?_; have t5 := setCells_turn w4 b4 (i * 5) g; have hr5 := hr4.set hi g; have hne5 : w3.heap.size ≤ b4 := b4_ge hr4; have hx5 := hx4.turn t5 (by omega); have hZ5 := hZ4.turn t5 (by omega); have hb5 : Below w3.heap.size w3 (w4.setCells b4 (i * 5) (cellsE g).toList) := hb4.trans (t5.below hne5); generalize w4.setCells b4 (i * 5) (cellsE g).toList = w5 at *; have q0 := cF0 hx5; have q1 := cF1 hx5) | (refine wpList_store30 rfl _ _ rfl (w.heap.size + 2) r m (.slice (some ⟨b4, 0, none⟩) L.length c4) rfl rfl hZ5 rfl rfl ?_; intro w6 hZ6 t6))
  refine bodyPost_ret (resultsF_c rfl _ w6 (w.heap.size + 2) r m _ rfl hZ6) rfl ?_
  have hlen : (L.set i g).length = L.length := List.length_set
  refine ⟨⟨_, rfl, some ⟨b4, 0, none⟩, c4, by rw [hlen], by rw [hlen]; exact hr5.row.turn t6 hZ5 (by decide)⟩, (hb.trans (hb5.mono (by omega))).trans (t6.below (by omega))⟩
end
end Go.Proofs.Ythndfhkkaichiaa
