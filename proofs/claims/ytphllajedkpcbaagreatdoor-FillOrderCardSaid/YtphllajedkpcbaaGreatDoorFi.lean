/-
  Rows of ratios: those that a call makes by append, and those that are answered. What is wrong with weights and caps, as a number. Condition: not more than a thousand.
-/
import Derived.Test.YtphllajedkpcbaaGreatDoorFh
import Derived.Deep.DeepAppendRoom
import Derived.Deep.DeepAppendWide
namespace Go.Proofs.YtphllajedkpcbaaGreatDoor
open Go.RowKit Go.Dig Go.Shelf Go.Proofs Go.Rq

def isSl (u : Value) : Prop := ∃ a n c, u = .slice a n c
/-- a row of pairs of slices that the call made. -/
def OwnS (w : World) (base : Nat) (e : TypeId) (v : Value) (n : Nat) (xs : List Value) : Prop :=
  xs.length = n * 2 ∧ ((v = .slice none 0 0 ∧ n = 0) ∨ ∃ g cap cur, v = .slice (some ⟨g, 0, none⟩) n cap ∧ base ≤ g ∧ w.heap[g]? = some (.cells cur e (0, 0)) ∧ n ≤ cap ∧ cap ≤ maxLen ∧ cur.size = cap * 2 ∧ cur.toList.take (n * 2) = xs ∧ ∀ u ∈ cur.toList, isSl u)
theorem OwnS.nil (w : World) (base : Nat) (e : TypeId) : OwnS w base e (.slice none 0 0) 0 [] := ⟨by simp, .inl ⟨rfl, rfl⟩⟩
section
variable {P : Program} {w w' : World} {base : Nat} {e : TypeId} {v : Value} {n : Nat} {xs : List Value}
theorem OwnS.lt (h : OwnS w base e v n xs) : ∀ k, v.ownBlock = some k → base ≤ k ∧ k < w.heap.size := by
  intro k hk
  rcases h.2 with ⟨rfl, _⟩ | ⟨g, cap, cur, rfl, hb, hg, _⟩
  · cases hk
  · cases hk
    exact ⟨hb, (Array.getElem?_eq_some_iff.1 hg).1⟩
theorem OwnS.below (h : OwnS w base e v n xs) (hb : Below w.heap.size w w') : OwnS w' base e v n xs := by
  refine ⟨h.1, ?_⟩
  rcases h.2 with h2 | ⟨g, cap, cur, e1, hbg, hg, h3⟩
  · exact .inl h2
  · exact .inr ⟨g, cap, cur, e1, hbg, (hb.block g (Array.getElem?_eq_some_iff.1 hg).1).trans hg, h3⟩
theorem zeros_sl {m : Nat} : ∀ u ∈ (Builtin.zeroCells (Value.agg #[.slice none 0 0, .slice none 0 0]).cells m).toList, isSl u := by
  intro u hu
  have e1 : (Value.agg #[.slice none 0 0, .slice none 0 0]).cells = #[.slice none 0 0, .slice none 0 0] := by rfl
  rw [e1] at hu
  simp [Builtin.zeroCells] at hu
  obtain ⟨a, _, rfl⟩ := hu
  have h2 : a % 2 < 2 := Nat.mod_lt _ (by omega)
  generalize a % 2 = r at h2
  match r, h2 with
  | 0, _ => exact ⟨none, 0, 0, rfl⟩
  | 1, _ => exact ⟨none, 0, 0, rfl⟩
theorem made_sl {m : Nat} : ∀ u ∈ (madeCells (Value.agg #[.slice none 0 0, .slice none 0 0]).cells m).toList, isSl u := by
  intro u hu
  have e1 : (Value.agg #[.slice none 0 0, .slice none 0 0]).cells = #[.slice none 0 0, .slice none 0 0] := by rfl
  rw [e1] at hu
  simp [madeCells] at hu
  obtain ⟨a, _, rfl⟩ := hu
  have h2 : a % 2 < 2 := Nat.mod_lt _ (by omega)
  generalize a % 2 = r at h2
  match r, h2 with
  | 0, _ => exact ⟨none, 0, 0, rfl⟩
  | 1, _ => exact ⟨none, 0, 0, rfl⟩
theorem run_append_S (t ty : TypeId) (i : TypeInfo) (ht : P.underlying t = some (.slice e)) (hi : P.info? e = some i) (hz : i.zero = some (.agg #[.slice none 0 0, .slice none 0 0]))
    (hsize : i.size = 2) (hby : i.bytes = 48) (hown : OwnS w base e v n xs) (a : Addr) (c : Nat) (x y : Value) (hx : isSl x) (hy : isSl y) (hnews : ∀ j u, [x, y][j]? = some u → w.cell? (a.add j) = some u)
    (hn : n ≤ 1000) (hbase : base ≤ w.heap.size) :
    ∃ v' w', (Builtin.append_ #[t, t] ty #[v, .slice (some a) 1 c]).run P w = .ok v' w' ∧ OwnS w' base e v' (n + 1) (xs ++ [x, y]) ∧ w.grownBy w' v.ownBlock := by
  have h1 : ∀ u ∈ [x, y], u.oneCell' = true := by
    intro u hu
    obtain ⟨_, _, _, rfl⟩ := hx
    obtain ⟨_, _, _, rfl⟩ := hy
    simp at hu
    rcases hu with rfl | rfl <;> rfl
  have hsl : ∀ u ∈ [x, y], isSl u := by
    intro u hu
    simp at hu
    rcases hu with rfl | rfl
    · exact hx
    · exact hy
  have hl : [x, y].length = 1 * i.size := by rw [hsize]; rfl
  have hlen : (xs ++ [x, y]).length = (n + 1) * 2 := by rw [List.length_append, hown.1]; simp; omega
  have h63 : n + 1 ≤ maxLen := by unfold maxLen; omega
  have hz2 : (Value.agg #[.slice none 0 0, .slice none 0 0]).cells.size = 2 := by rfl
  have hzx : ∀ u ∈ xs, isSl u := by
    rcases hown.2 with ⟨_, h0⟩ | ⟨g, cap, cur, _, _, _, _, _, _, h6, h7⟩
    · have : xs = [] := List.eq_nil_of_length_eq_zero (by rw [hown.1, h0])
      rw [this]; intro u hu; simp at hu
    · intro u hu
      rw [← h6] at hu
      exact h7 u (List.mem_of_mem_take hu)
  have grown : ∀ (old : Nat) (row : Option Nat),
      OwnS (w.drew.alloc (.cells (xs.toArray ++ [x, y].toArray ++ Builtin.zeroCells (Value.agg #[.slice none 0 0, .slice none 0 0]).cells (grownCap w (n + 1) old e - (n + 1))) e)) base e
        (.slice (some ⟨w.heap.size, 0, none⟩) (n + 1) (grownCap w (n + 1) old e)) (n + 1) (xs ++ [x, y]) ∧
      w.grownBy (w.drew.alloc (.cells (xs.toArray ++ [x, y].toArray ++ Builtin.zeroCells (Value.agg #[.slice none 0 0, .slice none 0 0]).cells (grownCap w (n + 1) old e - (n + 1))) e)) row := by
    intro old row
    have hge := grownCap_ge w (n + 1) old e
    have hcm : grownCap w (n + 1) old e ≤ maxLen := grownCap_le_maxLen w (n + 1) old e h63
    refine ⟨⟨hlen, .inr ⟨w.heap.size, _, _, rfl, hbase, heap_alloc_new w.drew _, hge, hcm, ?_, ?_, ?_⟩⟩, ⟨rfl, rfl, rfl, by simp, fun k hk _ => heap_alloc_old w.drew _ hk⟩⟩
    · simp only [Array.size_append, List.size_toArray, size_zeroCells, hz2, hown.1]
      simp
      omega
    · simp only [Array.toList_append, List.append_assoc]
      rw [← List.append_assoc, ← hlen]
      exact List.take_left
    · intro u hu
      simp only [Array.toList_append, List.mem_append] at hu
      rcases hu with (hu | hu) | hu
      · exact hzx u hu
      · exact hsl u hu
      · exact zeros_sl u hu
  rcases hown.2 with ⟨rfl, rfl⟩ | ⟨g, cap, cur, rfl, hbg, hg, hnc, hcm, hcs, htake, hall⟩
  · have hx0 : xs = [] := List.eq_nil_of_length_eq_zero (by simpa using hown.1)
    subst hx0
    have hr := run_append_nil (P := P) w t ty e i _ ht hi hz a 1 c [x, y] hl hnews (by omega) (by omega) (by rw [hby]; omega)
    have hgr := grown 0 (Value.ownBlock (.slice none 0 0))
    simp only [Nat.zero_add, List.nil_append, Array.empty_append] at hgr ⊢
    exact ⟨_, _, hr, hgr.1, hgr.2⟩
  · by_cases hroom : n + 1 ≤ cap
    · have hfit : n * i.size + [x, y].length ≤ cur.size := by rw [hsize, hcs]; simp; omega
      have hr := run_append_room (P := P) w t ty e i ht hi g n cap cur hg a 1 c [x, y] hl hnews h1 hroom hfit
      rw [hsize] at hr
      refine ⟨_, _, hr, ⟨hlen, .inr ⟨g, cap, _, rfl, hbg, setRow_heap w g cur _ e _ hg, hroom, hcm, ?_, ?_, ?_⟩⟩, ⟨rfl, rfl, rfl, by simp, fun k _ hk => setRow_other w g k _ (fun e => hk (by simp [Value.ownBlock, e]))⟩⟩
      · simp only [List.size_toArray, List.length_append, List.length_take, List.length_drop, Array.length_toList]
        rw [hcs]
        simp
        omega
      · rw [htake, ← hlen]
        exact List.take_left
      · intro u hu
        simp only [List.mem_append] at hu
        rcases hu with (hu | hu) | hu
        · exact hall u (List.mem_of_mem_take hu)
        · exact hsl u hu
        · exact hall u (List.mem_of_mem_drop hu)
    · have holds : ∀ j u, xs[j]? = some u → w.cell? ((⟨g, 0, none⟩ : Addr).add j) = some u := by
        intro j u hj
        rw [← htake, List.getElem?_take] at hj
        split at hj
        · simp only [Addr.add_lit, Nat.zero_add, World.cell?, hg]
          simpa using hj
        · cases hj
      have hr := run_append_grow (P := P) w t ty e i _ ht hi hz ⟨g, 0, none⟩ n cap xs (by rw [hsize]; exact hown.1) holds a 1 c [x, y] hl hnews (by omega) (by omega) (growslice_fits_wide (by omega) (by rw [hby]; omega))
      have hgr := grown cap (Value.ownBlock (.slice (some ⟨g, 0, none⟩) n cap))
      exact ⟨_, _, hr, hgr.1, hgr.2⟩
theorem wpList_append_S {ops : Array Oper} {rest : List Oper} {o : Oper} {a : Act} {Q : Exit → Act → World → Prop} (hgd : o.guard = none) (s x : Operand) (t : TypeId)
    (ho : o.op = .call { callee := .builtin .append, args := #[s, x], argTypes := #[t, t] })
    (i : TypeInfo) (ht : P.underlying t = some (.slice e)) (hi : P.info? e = some i) (hz : i.zero = some (.agg #[.slice none 0 0, .slice none 0 0])) (hsize : i.size = 2) (hby : i.bytes = 48)
    (hs : a.eval s = v) (hown : OwnS w base e v n xs) (ad : Addr) (c : Nat) (y z : Value) (hx : a.eval x = .slice (some ad) 1 c) (hy : isSl y) (hz' : isSl z) (hnews : ∀ j u, [y, z][j]? = some u → w.cell? (ad.add j) = some u)
    (hn : n ≤ 1000) (hbase : base ≤ w.heap.size)
    (h : ∀ v' w', OwnS w' base e v' (n + 1) (xs ++ [y, z]) → w.grownBy w' v.ownBlock → wpList P ops Q rest (a.put o.dst v') w') : wpList P ops Q (o :: rest) a w := by
  refine wpList_plain hgd fun K hK => ?_
  obtain ⟨v', w', hr, h2, h3⟩ := run_append_S (P := P) t o.type i ht hi hz hsize hby hown ad c y z hy hz' hnews hn hbase
  unfold Oper.wp execOp
  simp only [ho, resolve, invoke, builtin, Sem.run_bind, Sem.run_pure, Result.andThen_ok, List.map_toArray, List.map_cons, List.map_nil, hs, hx, hr]
  exact hK _ _ (h v' w' h2 h3)
/-- rows of numbers stay where a row of slices grows. -/
theorem Lim.grownS {q : IntKind} {u : Value} {l : List Nat} (h : Lim q w u l) (ho : OwnS w base e v n xs) (hg : w.grownBy w' v.ownBlock) : Lim q w' u l := by
  obtain ⟨ad, cap, e1, h1, h2⟩ := h
  refine ⟨ad, cap, e1, h1, fun hne => ?_⟩
  obtain ⟨b, off, rfl, hb, hc⟩ := h2 hne
  have hne2 : some b ≠ v.ownBlock := by
    intro eb
    have h3 := hc 0 (List.length_pos_iff.2 hne)
    rcases ho.2 with ⟨rfl, _⟩ | ⟨g, cap2, cur, rfl, _, hgr, _, _, _, _, hall⟩
    · cases eb
    · cases eb
      simp only [World.cell?, hgr, Nat.add_zero] at h3
      obtain ⟨h4, h5⟩ := Array.getElem?_eq_some_iff.1 h3
      obtain ⟨_, _, _, h6⟩ := hall _ (Array.getElem_mem_toList h4)
      rw [h5] at h6
      cases h6
  exact ⟨b, off, rfl, Nat.lt_of_lt_of_le hb hg.size, fun j hj => (World.cell?_of_block (w := w) (a := ⟨b, off + j, none⟩) (hg.block b hb hne2)).trans (hc j hj)⟩
theorem RQ.grownS {p q : Sl} {r : Rat} (h : RQ w p q r) (ho : OwnS w base e v n xs) (hg : w.grownBy w' v.ownBlock) : RQ w' p q r := ⟨h.1, h.2.1.grownS ho hg, h.2.2.grownS ho hg⟩
theorem RK.grownS {p q : Sl} {r : Rat} (h : RK w p q r) (ho : OwnS w base e v n xs) (hg : w.grownBy w' v.ownBlock) : RK w' p q r := ⟨h.1, h.2.1.grownS ho hg, h.2.2.grownS ho hg⟩
theorem wpList_make_S {ops : Array Oper} {rest : List Oper} {o : Oper} {a : Act} {Q : Exit → Act → World → Prop} (hgd : o.guard = none) (l c : Operand) (t : TypeId) (hop : o.op = Op.makeSlice t l c)
    (i : TypeInfo) (ht : P.underlying t = some (.slice e)) (hi : P.info? e = some i) (hz : i.zero = some (.agg #[.slice none 0 0, .slice none 0 0])) (hsize : i.size = 2) (hby : i.bytes = 48)
    (m : Nat) (hl : a.eval l = .int .i64 0) (hc : a.eval c = .int .i64 (m : Int)) (hm : m ≤ 1000) (hbase : base ≤ w.heap.size)
    (h : ∀ w', OwnS w' base e (.slice (some ⟨w.heap.size, 0, none⟩) 0 m) 0 [] → w.grownBy w' none → wpList P ops Q rest (a.put o.dst (.slice (some ⟨w.heap.size, 0, none⟩) 0 m)) w') : wpList P ops Q (o :: rest) a w := by
  refine wpList_plain hgd fun K hK' => ?_
  have hr := run_make (P := P) w t e i _ ht hi hz .i64 .i64 0 (m : Int) (Int.le_refl _) (by omega) (by rw [hby]; omega) (by omega)
  simp only [Int.toNat_zero, Int.toNat_natCast] at hr
  unfold Oper.wp
  simp [execOp, hop, hl, hc, hr, Result.andThen]
  refine hK' _ _ (h _ ⟨rfl, .inr ⟨w.heap.size, m, _, rfl, hbase, heap_alloc_new w _, Nat.zero_le _, by unfold maxLen; omega, by rw [size_madeCells, hsize], by simp, made_sl⟩⟩ (World.grownBy_alloc w _ none))
theorem Pair.grownS {B : Nat} {t : TypeId} {x y : Value} (h : Pair w B t x y) (ho : OwnS w base e v n xs) (hB : B < base) (hg : w.grownBy w' v.ownBlock) : Pair w' B t x y :=
  (hg.block B h.lt (fun eb => by have := ho.lt B eb.symm; omega)).trans h
theorem KB.grownS {C : Nat} {ks : List Kid} (h : KB w C ks) (ho : OwnS w base e v n xs) (hg : w.grownBy w' v.ownBlock) : KB w' C ks := by
  refine ⟨Nat.lt_of_lt_of_le h.1 hg.size, fun j hj => ?_⟩
  have hne : some C ≠ v.ownBlock := by
    intro eb
    have h3 := (h.2 0 (Nat.lt_of_le_of_lt (Nat.zero_le _) hj)).1.1
    rcases ho.2 with ⟨rfl, _⟩ | ⟨g, cap2, cur, rfl, _, hgr, _, _, _, _, hall⟩
    · cases eb
    · cases eb
      simp only [World.cell?, hgr, Nat.zero_mul] at h3
      obtain ⟨h4, h5⟩ := Array.getElem?_eq_some_iff.1 h3
      obtain ⟨_, _, _, h6⟩ := hall _ (Array.getElem_mem_toList h4)
      rw [h5] at h6
      cases h6
  have e1 := hg.block C h.1 hne
  rw [World.cell?_of_block (w := w) (a := ⟨C, j * 2, none⟩) e1, World.cell?_of_block (w := w) (a := ⟨C, j * 2 + 1, none⟩) e1, World.frozen?_of_block (w := w) (a := ⟨C, j * 2, none⟩) e1, World.frozen?_of_block (w := w) (a := ⟨C, j * 2 + 1, none⟩) e1]
  exact h.2 j hj
end
/-- ratios, as pairs of slices, one behind the other. -/
def Gets (K : World → Sl → Sl → Rat → Prop) (w : World) (xs : List Value) (rs : List Rat) : Prop :=
  xs.length = rs.length * 2 ∧ ∀ j, j < rs.length → ∃ p q : Sl, xs[j * 2]? = some (.slice p.a p.n p.c) ∧ xs[j * 2 + 1]? = some (.slice q.a q.n q.c) ∧ K w p q (rs.getD j 0)
theorem Gets.nil (K : World → Sl → Sl → Rat → Prop) (w : World) : Gets K w [] [] := ⟨rfl, fun j hj => by simp at hj⟩
theorem Gets.move {K : World → Sl → Sl → Rat → Prop} {w w' : World} {xs : List Value} {rs : List Rat} (h : Gets K w xs rs) (hm : ∀ p q r, K w p q r → K w' p q r) : Gets K w' xs rs :=
  ⟨h.1, fun j hj => by obtain ⟨p, q, h1, h2, h3⟩ := h.2 j hj; exact ⟨p, q, h1, h2, hm _ _ _ h3⟩⟩
theorem Gets.snoc {K : World → Sl → Sl → Rat → Prop} {w : World} {xs : List Value} {rs : List Rat} {p q : Sl} {r : Rat} (h : Gets K w xs rs) (hr : K w p q r) : Gets K w (xs ++ [.slice p.a p.n p.c, .slice q.a q.n q.c]) (rs ++ [r]) := by
  refine ⟨by rw [List.length_append, h.1, List.length_append]; simp; omega, fun j hj => ?_⟩
  have h1 := h.1
  rw [List.length_append] at hj
  simp only [List.length_cons, List.length_nil] at hj
  by_cases e : j < rs.length
  · obtain ⟨p', q', a1, a2, a3⟩ := h.2 j e
    refine ⟨p', q', ?_, ?_, ?_⟩
    · rw [List.getElem?_append_left (by omega)]; exact a1
    · rw [List.getElem?_append_left (by omega)]; exact a2
    · rw [show (rs ++ [r]).getD j 0 = rs.getD j 0 from by simp [List.getD_eq_getElem?_getD, List.getElem?_append_left e]]; exact a3
  · have ej : j = rs.length := by omega
    subst ej
    refine ⟨p, q, ?_, ?_, ?_⟩
    · rw [List.getElem?_append_right (by omega), h1]; simp
    · rw [List.getElem?_append_right (by omega), h1]; simp
    · rw [show (rs ++ [r]).getD rs.length 0 = r from by simp [List.getD_eq_getElem?_getD]]; exact hr
/-- a slice of ratios. -/
def RowX (K : World → Sl → Sl → Rat → Prop) (w : World) (v : Value) (rs : List Rat) : Prop :=
  ∃ ad cap, v = .slice ad rs.length cap ∧ (rs ≠ [] → ∃ B, ad = some ⟨B, 0, none⟩ ∧ B < w.heap.size ∧ ∀ j, j < rs.length → ∃ p q : Sl, w.cell? ⟨B, j * 2, none⟩ = some (.slice p.a p.n p.c) ∧ w.cell? ⟨B, j * 2 + 1, none⟩ = some (.slice q.a q.n q.c) ∧ K w p q (rs.getD j 0))
theorem RowX.of_own {K : World → Sl → Sl → Rat → Prop} {w : World} {base : Nat} {e : TypeId} {v : Value} {xs : List Value} {rs : List Rat} (h : OwnS w base e v rs.length xs) (hg : Gets K w xs rs) : RowX K w v rs := by
  rcases h.2 with ⟨rfl, h0⟩ | ⟨g, cap, cur, rfl, _, hgr, _, _, _, ht, _⟩
  · exact ⟨none, 0, by rw [h0], fun hne => absurd (List.eq_nil_of_length_eq_zero h0) hne⟩
  · refine ⟨_, _, rfl, fun _ => ⟨g, rfl, (Array.getElem?_eq_some_iff.1 hgr).1, fun j hj => ?_⟩⟩
    obtain ⟨p, q, h1, h2, h3⟩ := hg.2 j hj
    have hc : ∀ i u, xs[i]? = some u → w.cell? ⟨g, i, none⟩ = some u := by
      intro i u hi
      rw [← ht, List.getElem?_take] at hi
      split at hi
      · simp only [World.cell?, hgr]
        simpa using hi
      · cases hi
    exact ⟨p, q, hc _ _ h1, hc _ _ h2, h3⟩
theorem RowX.below {K : World → Sl → Sl → Rat → Prop} {w w' : World} {v : Value} {rs : List Rat} (h : RowX K w v rs) (hm : ∀ p q r, K w p q r → K w' p q r) (hb : Below w.heap.size w w') : RowX K w' v rs := by
  obtain ⟨ad, cap, e, h2⟩ := h
  refine ⟨ad, cap, e, fun hne => ?_⟩
  obtain ⟨B, rfl, hB, hc⟩ := h2 hne
  refine ⟨B, rfl, Nat.lt_of_lt_of_le hB hb.size, fun j hj => ?_⟩
  obtain ⟨p, q, h1, h2, h3⟩ := hc j hj
  exact ⟨p, q, (hb.cell (p := ⟨B, j * 2, none⟩) hB).trans h1, (hb.cell (p := ⟨B, j * 2 + 1, none⟩) hB).trans h2, hm _ _ _ h3⟩
theorem RowX.len {K : World → Sl → Sl → Rat → Prop} {w : World} {p : Sl} {rs : List Rat} (h : RowX K w (.slice p.a p.n p.c) rs) : p.n = rs.length := by
  obtain ⟨ad, cap, e, _⟩ := h
  injection e
theorem RowX.sl {K : World → Sl → Sl → Rat → Prop} {w : World} {v : Value} {rs : List Rat} (h : RowX K w v rs) : ∃ p : Sl, v = .slice p.a p.n p.c ∧ RowX K w (.slice p.a p.n p.c) rs := by
  obtain ⟨ad, cap, rfl, h2⟩ := h
  exact ⟨⟨ad, rs.length, cap⟩, rfl, ad, cap, rfl, h2⟩
abbrev RowQ := RowX RQ
abbrev RowK := RowX RK
/-- what is wrong with what is shared, weights and caps. -/
def errOf (x : Rat) (ws cs : List Int) : Int :=
  if ws.length ≠ cs.length then 17 else if 32 < ws.length then 6 else if ws.any noW = true then 13 else if cs.any noC = true then 14 else if ((cs.sum.toNat : Nat) : Rat) < x then 14 else 0
theorem noC_ok {cs : List Int} (h : cs.any noC = false) : ∀ z ∈ cs, 0 ≤ z ∧ z ≤ 64 := by
  intro z hz
  have h1 := List.any_eq_false.1 h z hz
  simp [noC] at h1
  omega
theorem noW_ok {ws : List Int} (h : ws.any noW = false) : ∀ z ∈ ws, 1 ≤ z ∧ z ≤ 10000 := by
  intro z hz
  have h1 := List.any_eq_false.1 h z hz
  simp [noW] at h1
  omega
theorem sum_bound : ∀ cs : List Int, (∀ z ∈ cs, 0 ≤ z ∧ z ≤ 64) → 0 ≤ cs.sum ∧ cs.sum ≤ 64 * cs.length
  | [], _ => by simp
  | c :: cs, h => by
    have h1 := sum_bound cs (fun z hz => h z (List.mem_cons_of_mem _ hz))
    have h2 := h c List.mem_cons_self
    rw [List.sum_cons, List.length_cons]
    omega
theorem check_any (p q a b : Sl) (x : Rat) (ws cs : List Int) (w : World) (hx : RQ w p q x) (ha : RI w a ws) (hc : RI w b cs) (hlw : ws.length ≤ 100) :
    Calls Tryz.prog 26 #[.agg #[.slice p.a p.n p.c, .slice q.a q.n q.c], .slice a.a a.n a.c, .slice b.a b.n b.c] w fun e w' => e = .returned (.int .i64 (errOf x ws cs)) ∧ Below w.heap.size w w' := by
  unfold errOf
  by_cases h1 : ws.length ≠ cs.length
  · rw [if_pos h1]; exact check_len p q a b x ws cs w hx ha hc hlw h1
  · have he : cs.length = ws.length := by omega
    rw [if_neg h1]
    by_cases h2 : 32 < ws.length
    · rw [if_pos h2]; exact check_full p q a b x ws cs w hx ha hc hlw he h2
    · rw [if_neg h2]
      by_cases h3 : ws.any noW = true
      · rw [if_pos h3]; exact check_weight p q a b x ws cs w hx ha hc hlw he (by omega) h3
      · rw [if_neg h3]
        have h3' : ws.any noW = false := by simpa using h3
        by_cases h4 : cs.any noC = true
        · rw [if_pos h4]; exact check_cap p q a b x ws cs w hx ha hc hlw he (by omega) h3' h4
        · rw [if_neg h4]
          have h4' : cs.any noC = false := by simpa using h4
          have hb := sum_bound cs (noC_ok h4')
          have hs : cs.sum = ((cs.sum.toNat : Nat) : Int) := by omega
          have hC : ∀ z ∈ cs, 0 ≤ z ∧ z ≤ 10000 := fun z hz => by have := noC_ok h4' z hz; omega
          by_cases h5 : ((cs.sum.toNat : Nat) : Rat) < x
          · rw [if_pos h5]; exact check_high p q a b x ws cs w hx ha hc hlw he (by omega) h3' h4' cs.sum.toNat (by omega) (Lib.hid hs) (Lib.hid hC) (Lib.hid h5)
          · rw [if_neg h5]; exact check_ok p q a b x ws cs w hx ha hc hlw he (by omega) h3' h4' cs.sum.toNat (by omega) (Lib.hid hs) (Lib.hid hC) (Lib.hid h5)
theorem kids_of : ∀ (ws cs : List Int), cs.length = ws.length → (∀ z ∈ ws, 1 ≤ z ∧ z ≤ 10000) → (∀ z ∈ cs, 0 ≤ z ∧ z ≤ 64) → ∃ ks : List Kid, ws = ks.map (fun k => (k.1 : Int)) ∧ cs = ks.map (fun k => (k.2 : Int)) ∧ ∀ k ∈ ks, okKid k
  | [], [], _, _, _ => ⟨[], rfl, rfl, fun k hk => by simp at hk⟩
  | [], c :: cs, h, _, _ => by simp at h
  | a :: ws, [], h, _, _ => by simp at h
  | a :: ws, c :: cs, h, hw, hc => by
    obtain ⟨ks, e1, e2, h3⟩ := kids_of ws cs (by simpa using h) (fun z hz => hw z (List.mem_cons_of_mem _ hz)) (fun z hz => hc z (List.mem_cons_of_mem _ hz))
    have ha := hw a List.mem_cons_self
    have hcc := hc c List.mem_cons_self
    refine ⟨(a.toNat, c.toNat) :: ks, ?_, ?_, ?_⟩
    · rw [List.map_cons, ← e1]; congr 1; simp; omega
    · rw [List.map_cons, ← e2]; congr 1; simp; omega
    · intro k hk
      rcases List.mem_cons.1 hk with rfl | hk
      · refine ⟨?_, ?_, ?_⟩ <;> simp <;> omega
      · exact h3 k hk
theorem err_kids {x : Rat} {ws cs : List Int} (h : errOf x ws cs = 0) : ∃ ks : List Kid, ws = ks.map (fun k => (k.1 : Int)) ∧ cs = ks.map (fun k => (k.2 : Int)) ∧ (∀ k ∈ ks, okKid k) ∧ ks.length ≤ 32 ∧ x ≤ ((caps ks : Nat) : Rat) := by
  unfold errOf at h
  by_cases h1 : ws.length ≠ cs.length
  · rw [if_pos h1] at h; cases h
  · rw [if_neg h1] at h
    by_cases h2 : 32 < ws.length
    · rw [if_pos h2] at h; cases h
    · rw [if_neg h2] at h
      by_cases h3 : ws.any noW = true
      · rw [if_pos h3] at h; cases h
      · rw [if_neg h3] at h
        by_cases h4 : cs.any noC = true
        · rw [if_pos h4] at h; cases h
        · rw [if_neg h4] at h
          by_cases h5 : ((cs.sum.toNat : Nat) : Rat) < x
          · rw [if_pos h5] at h; cases h
          · obtain ⟨ks, e1, e2, h6⟩ := kids_of ws cs (by omega) (noW_ok (by simpa using h3)) (noC_ok (by simpa using h4))
            refine ⟨ks, e1, e2, h6, by have := congrArg List.length e1; rw [List.length_map] at this; omega, ?_⟩
            rw [e2, sum_caps_int] at h5
            simpa using Rat.not_lt.1 h5
end Go.Proofs.YtphllajedkpcbaaGreatDoor
