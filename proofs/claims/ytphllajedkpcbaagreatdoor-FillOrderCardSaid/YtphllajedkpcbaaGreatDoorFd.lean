/-
  The children of a filling, as a slice of pairs. Condition: not more than a hundred.
-/
import Derived.Test.YtphllajedkpcbaaGreatDoorFb
import Derived.OwnWalk
import Derived.OwnWalkIn
namespace Go.Proofs.YtphllajedkpcbaaGreatDoor
open Go.RowKit Go.Dig Go.Shelf Go.Proofs Go.Rq

/-- a block's cells, all of them. -/
def Blk (w : World) (B : Nat) (cs : List Value) (t : TypeId) : Prop := w.heap[B]? = some (.cells cs.toArray t)
section
variable {w w' : World} {B : Nat} {cs : List Value} {t : TypeId}
theorem Blk.lt (h : Blk w B cs t) : B < w.heap.size := (Array.getElem?_eq_some_iff.1 h).1
theorem Blk.cell (h : Blk w B cs t) {j : Nat} {v : Value} (hj : cs[j]? = some v) : w.cell? ⟨B, j, none⟩ = some v := by
  simp [World.cell?, show w.heap[B]? = _ from h, hj]
theorem Blk.frozen (h : Blk w B cs t) (j : Nat) : w.frozen? ⟨B, j, none⟩ = false := by
  simp [World.frozen?, show w.heap[B]? = _ from h]
theorem Blk.set (h : Blk w B cs t) (j : Nat) (x : Value) : Blk (w.setCell ⟨B, j, none⟩ x) B (cs.set j x) t := by
  have h2 := cell_set w B j x _ _ _ _ h rfl
  unfold Blk
  rw [h2, List.setIfInBounds_toArray]
theorem Blk.below (h : Blk w B cs t) (hb : Below w.heap.size w w') : Blk w' B cs t := (hb.block B h.lt).trans h
theorem Blk.other (h : Blk w B cs t) {C : Nat} (hne : B ≠ C) (j : Nat) (x : Value) : Blk (w.setCell ⟨C, j, none⟩ x) B cs t := (Below.heap_setCell _ _ _ _ hne).trans h
theorem Blk.of_owns {base n : Nat} {size : Nat} {xs : List Value} (h : w.ownsRow base t size (.slice (some ⟨B, 0, none⟩) n n) n xs) : Blk w B xs t := by
  obtain ⟨h1, h2⟩ := h
  rcases h2 with ⟨e, _⟩ | ⟨g, cap, cur, e, _, hg, _, _, hs, ht⟩
  · cases e
  · cases e
    have e2 : cur.toList = xs := by rw [← ht, List.take_of_length_le (by rw [Array.length_toList, hs]; exact Nat.le_refl _)]
    unfold Blk
    rw [hg, ← e2]
end
/-- children lie in a block, a weight and a cap each. -/
def KB (w : World) (B : Nat) (ks : List Kid) : Prop :=
  B < w.heap.size ∧ ∀ j, j < ks.length → (w.cell? ⟨B, j * 2, none⟩ = some (.int .i64 ((ks.getD j (0, 0)).1 : Int)) ∧ w.frozen? ⟨B, j * 2, none⟩ = false) ∧ (w.cell? ⟨B, j * 2 + 1, none⟩ = some (.int .i64 ((ks.getD j (0, 0)).2 : Int)) ∧ w.frozen? ⟨B, j * 2 + 1, none⟩ = false)
theorem KB.below {w w' : World} {B : Nat} {ks : List Kid} (h : KB w B ks) (hb : Below w.heap.size w w') : KB w' B ks :=
  ⟨Nat.lt_of_lt_of_le h.1 hb.size, fun j hj => by
    have h1 := h.2 j hj
    have e := hb.block B h.1
    rw [World.cell?_of_block (w := w) (a := ⟨B, j * 2, none⟩) e, World.cell?_of_block (w := w) (a := ⟨B, j * 2 + 1, none⟩) e, World.frozen?_of_block (w := w) (a := ⟨B, j * 2, none⟩) e, World.frozen?_of_block (w := w) (a := ⟨B, j * 2 + 1, none⟩) e]
    exact h1⟩
theorem KB.lt {w : World} {B : Nat} {ks : List Kid} (h : KB w B ks) : B < w.heap.size := h.1
theorem KB.of_blk {w : World} {B : Nat} {ks : List Kid} {cs : List Value} {t : TypeId} (h : Blk w B cs t) (hc : ∀ j, j < ks.length → cs[j * 2]? = some (.int .i64 ((ks.getD j (0, 0)).1 : Int)) ∧ cs[j * 2 + 1]? = some (.int .i64 ((ks.getD j (0, 0)).2 : Int))) : KB w B ks :=
  ⟨h.lt, fun j hj => ⟨⟨h.cell (hc j hj).1, h.frozen _⟩, ⟨h.cell (hc j hj).2, h.frozen _⟩⟩⟩
theorem map_getD {ks : List Kid} (f : Kid → Int) {j : Nat} (h : j < ks.length) : (ks.map f).getD j 0 = f (ks.getD j (0, 0)) := by
  simp [List.getD_eq_getElem?_getD, h]
theorem Tryz.info62 : (Tryz.prog.info? 62).map (fun i => (i.zero, i.size, i.bytes)) = some (some (.agg #[.int .i64 0, .int .i64 0]), 2, 16) := by kernel_rfl
theorem made_two {n i : Nat} (h : i < n) : (madeCells (Value.agg #[.int .i64 0, .int .i64 0]).cells n).toList[i]? = some (.int .i64 0) := by
  have e : (Value.agg #[.int .i64 0, .int .i64 0]).cells = #[.int .i64 0, .int .i64 0] := by rfl
  rw [e]
  simp only [madeCells, Array.toList_map, Array.toList_range, List.getElem?_map, List.getElem?_range h, Option.map_some]
  have h2 : i % 2 < 2 := Nat.mod_lt _ (by omega)
  show some (#[Value.int .i64 0, Value.int .i64 0][i % 2]!) = _
  generalize i % 2 = r at h2
  match r, h2 with
  | 0, _ => rfl
  | 1, _ => rfl
theorem set_two {cs : List Value} {n k : Nat} (hlen : cs.length = n * 2) (hk : k < n) (ks : List Kid) (x y : Int) (hx : x = ((ks.getD k (0, 0)).1 : Int)) (hy : y = ((ks.getD k (0, 0)).2 : Int))
    (h : ∀ j, j < k → cs[j * 2]? = some (.int .i64 ((ks.getD j (0, 0)).1 : Int)) ∧ cs[j * 2 + 1]? = some (.int .i64 ((ks.getD j (0, 0)).2 : Int))) :
    ∀ j, j < k + 1 → ((cs.set (k * 2) (.int .i64 x)).set (k * 2 + 1) (.int .i64 y))[j * 2]? = some (.int .i64 ((ks.getD j (0, 0)).1 : Int)) ∧ ((cs.set (k * 2) (.int .i64 x)).set (k * 2 + 1) (.int .i64 y))[j * 2 + 1]? = some (.int .i64 ((ks.getD j (0, 0)).2 : Int)) := by
  intro j hj
  by_cases e : j = k
  · subst e
    refine ⟨?_, ?_⟩
    · rw [List.getElem?_set_ne (by omega), List.getElem?_set_self (by omega), hx]
    · rw [List.getElem?_set_self (by rw [List.length_set]; omega), hy]
  · have h1 := h j (by omega)
    refine ⟨?_, ?_⟩
    · rw [List.getElem?_set_ne (by omega), List.getElem?_set_ne (by omega)]; exact h1.1
    · rw [List.getElem?_set_ne (by omega), List.getElem?_set_ne (by omega)]; exact h1.2
theorem set_ints {cs : List Value} {m i : Nat} {x : Int} (hlen : cs.length = m) (h : ∀ j, j < m → ∃ z : Int, cs[j]? = some (.int .i64 z)) : ∀ j, j < m → ∃ z : Int, (cs.set i (.int .i64 x))[j]? = some (.int .i64 z) := by
  intro j hj
  by_cases e : i = j
  · subst e
    exact ⟨x, List.getElem?_set_self (by omega)⟩
  · rw [List.getElem?_set_ne e]
    exact h j hj
set_option maxRecDepth 100000 in
set_option maxHeartbeats 4000000 in
theorem children_none (p q : Sl) (w : World) (ep : p.n = 0) (eq : q.n = 0) :
    Calls Tryz.prog 24 #[.slice p.a p.n p.c, .slice q.a q.n q.c] w fun e w' => ∃ B, e = .returned (.slice (some ⟨B, 0, none⟩) 0 0) ∧ w.heap.size ≤ B ∧ KB w' B [] ∧ Below w.heap.size w w' := by
  obtain ⟨i0, hi, hz0, hz1, hz2⟩ := info_parts Tryz.info62
  rw [ep, eq]
  clear ep eq
  go_enter Tryz.func24, Tryz.ntmps24
  go_wp2_with (at_make; refine wpList_make_full _ rfl _ _ 59 rfl w.heap.size 62 i0 _ 2 Tryz.underlying59 hi hz0 hz1 .i64 .i64 _ _ 0 rfl rfl rfl rfl (by rw [hz2]; omega) (by unfold maxLen; omega) (Nat.le_refl _) ?_; intro w1 hown hgrow)
  refine wp_loop_rounds 1 ?_
  rw [rounds_succ]
  go_wp2_with fail
  go_ret
  have hk := Blk.of_owns hown
  refine ⟨w.heap.size, rfl, Nat.le_refl _, KB.of_blk hk (fun j hj => by simp at hj), ?_⟩
  exact (Below.refl _ _).grown hgrow (Nat.le_refl _) (fun j ej => by cases ej)
set_option maxRecDepth 100000 in
set_option maxHeartbeats 4000000 in
theorem children_some (p q : Sl) (ks : List Kid) (w : World) (hp : RI w p (ks.map fun k => (k.1 : Int))) (hq : RI w q (ks.map fun k => (k.2 : Int))) (hl : ks.length ≤ 100) (hne : ks ≠ []) :
    Calls Tryz.prog 24 #[.slice p.a p.n p.c, .slice q.a q.n q.c] w fun e w' => ∃ B, e = .returned (.slice (some ⟨B, 0, none⟩) ks.length ks.length) ∧ w.heap.size ≤ B ∧ KB w' B ks ∧ Below w.heap.size w w' := by
  obtain ⟨i0, hi, hz0, hz1, hz2⟩ := info_parts Tryz.info62
  have ep := hp.len
  have eq := hq.len
  rw [List.length_map] at ep eq
  obtain ⟨b1, o1, ea1, hb1, hc1⟩ := hp.open (by simpa using hne)
  obtain ⟨b2, o2, ea2, hb2, hc2⟩ := hq.open (by simpa using hne)
  rw [ep, eq, ea1, ea2]
  have HC1 : Hid (∀ j, j < ks.length → w.cell? ⟨b1, o1 + j, none⟩ = some (.int .i64 ((ks.getD j (0, 0)).1 : Int))) := Lib.hid (fun j hj => by rw [hc1 j (by simpa using hj), map_getD _ hj])
  have HC2 : Hid (∀ j, j < ks.length → w.cell? ⟨b2, o2 + j, none⟩ = some (.int .i64 ((ks.getD j (0, 0)).2 : Int))) := Lib.hid (fun j hj => by rw [hc2 j (by simpa using hj), map_getD _ hj])
  clear hp hq ep eq ea1 ea2 hc1 hc2 hne
  go_enter Tryz.func24, Tryz.ntmps24
  go_wp2_with (at_make; refine wpList_make_full _ rfl _ _ 59 rfl w.heap.size 62 i0 _ 2 Tryz.underlying59 hi hz0 hz1 .i64 .i64 _ _ ks.length rfl rfl rfl rfl (by rw [hz2]; omega) (by unfold maxLen; omega) (Nat.le_refl _) ?_; intro w1 hown hgrow)
  have hk := Blk.of_owns hown
  have hB : Below w.heap.size w w1 := (Below.refl _ _).grown hgrow (Nat.le_refl _) (fun j ej => by cases ej)
  have hm : ∀ j, j < ks.length * 2 → ∃ z : Int, (madeCells (Value.agg #[.int .i64 0, .int .i64 0]).cells (ks.length * 2)).toList[j]? = some (.int .i64 z) := fun j hj => ⟨0, made_two hj⟩
  have hlen : (madeCells (Value.agg #[.int .i64 0, .int .i64 0]).cells (ks.length * 2)).toList.length = ks.length * 2 := by simp [size_madeCells]
  clear hown hgrow hi hz0 hz1 hz2
  generalize (madeCells (Value.agg #[.int .i64 0, .int .i64 0]).cells (ks.length * 2)).toList = cs0 at hk hm hlen
  have HK := Lib.hid hk
  have HM := Lib.hid hm
  have HLn := Lib.hid hlen
  clear hk hm hlen
  obtain ⟨B, hBe⟩ : ∃ B, B = w.heap.size := ⟨_, rfl⟩
  have hBd := Nat.le_of_eq hBe.symm
  rw [← hBe] at HK ⊢
  have HBe := Lib.hid hBe
  clear hBe
  have HBw := Lib.hid hB
  clear hB
  go_loopw [13] (fun i wr => ∃ (k : Nat) (cs : List Value), k ≤ ks.length ∧ i = .int .i64 (k : Int) ∧ Hid (Blk wr B cs 62) ∧ Hid (cs.length = ks.length * 2) ∧ Hid (∀ j, j < ks.length * 2 → ∃ z : Int, cs[j]? = some (.int .i64 z)) ∧ Hid (∀ j, j < k → cs[j * 2]? = some (.int .i64 ((ks.getD j (0, 0)).1 : Int)) ∧ cs[j * 2 + 1]? = some (.int .i64 ((ks.getD j (0, 0)).2 : Int))) ∧ Hid (Below w.heap.size w wr)) (fun i _ => ks.length - (intOf i).toNat)
  case atStart => exact ⟨0, cs0, Nat.zero_le _, rfl, HK, HLn, HM, Lib.hid (fun j hj => absurd hj (by omega)), HBw⟩
  case round =>
    obtain ⟨k, cs, hk, rfl, HK1, HL1, HM1, HD, HB1⟩ := hrel
    by_cases hlt : k < ks.length
    · have c1 := (HB1.out.cell (p := ⟨b1, o1 + k, none⟩) hb1).trans (HC1.out k hlt)
      have c2 := (HB1.out.cell (p := ⟨b2, o2 + k, none⟩) hb2).trans (HC2.out k hlt)
      obtain ⟨z1, hz1⟩ := HM1.out (k * 2) (by omega)
      obtain ⟨z2, hz2⟩ := HM1.out (k * 2 + 1) (by omega)
      have c3 := HK1.out.cell hz1
      have c4 := HK1.out.cell hz2
      have f3 := HK1.out.frozen (k * 2)
      have f4 := HK1.out.frozen (k * 2 + 1)
      obtain ⟨x, hx⟩ : ∃ x : Int, x = ((ks.getD k (0, 0)).1 : Int) := ⟨_, rfl⟩
      obtain ⟨y, hy⟩ : ∃ y : Int, y = ((ks.getD k (0, 0)).2 : Int) := ⟨_, rfl⟩
      rw [← hx] at c1
      rw [← hy] at c2
      have HX := Lib.hid hx
      have HY := Lib.hid hy
      clear hx hy hz1 hz2
      go_wp2_with fail
      go_round
      case rel =>
        refine ⟨k + 1, (cs.set (k * 2) (.int .i64 x)).set (k * 2 + 1) (.int .i64 y), by omega, by go_num, ?_, ?_, ?_, ?_, ?_⟩
        · exact Lib.hid ((HK1.out.set _ _).set _ _)
        · exact Lib.hid (by rw [List.length_set, List.length_set]; exact HL1.out)
        · exact Lib.hid (set_ints (by rw [List.length_set]; exact HL1.out) (set_ints HL1.out HM1.out))
        · exact Lib.hid (set_two HL1.out hlt ks x y HX.out HY.out HD.out)
        · exact Lib.hid ((HB1.out.setCell (p := ⟨B, k * 2, none⟩) hBd _).setCell (p := ⟨B, k * 2 + 1, none⟩) hBd _)
      case measure => simp [intOf]; omega
    · go_wp2_with fail
      go_ret
      exact ⟨B, rfl, hBd, KB.of_blk HK1.out (fun j hj => HD.out j (by omega)), HB1.out⟩
theorem children_any (p q : Sl) (ks : List Kid) (w : World) (hp : RI w p (ks.map fun k => (k.1 : Int))) (hq : RI w q (ks.map fun k => (k.2 : Int))) (hl : ks.length ≤ 100) :
    Calls Tryz.prog 24 #[.slice p.a p.n p.c, .slice q.a q.n q.c] w fun e w' => ∃ B, e = .returned (.slice (some ⟨B, 0, none⟩) ks.length ks.length) ∧ w.heap.size ≤ B ∧ KB w' B ks ∧ Below w.heap.size w w' := by
  by_cases hne : ks = []
  · subst hne
    exact children_none p q w (by rw [hp.len]; rfl) (by rw [hq.len]; rfl)
  · exact children_some p q ks w hp hq hl hne
end Go.Proofs.YtphllajedkpcbaaGreatDoor
