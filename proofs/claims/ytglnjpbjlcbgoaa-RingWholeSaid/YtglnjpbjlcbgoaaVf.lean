/-
  Contract of the program's New. No condition.
-/
import Derived.Test.YtglnjpbjlcbgoaaVe
namespace Go.Proofs.Ytglnjpbjlcbgoaa
open Go.RowKit

/-- links as cells. -/
def encT : List (Int × Int × Int) → List Value
  | [] => []
  | t :: r => .int .i64 t.1 :: .int .i64 t.2.1 :: .int .i64 t.2.2 :: encT r
theorem encT_len : ∀ ts : List (Int × Int × Int), (encT ts).length = ts.length * 3
  | [] => rfl
  | t :: r => by simp [encT, encT_len r]; omega
theorem encT_snoc (x : Int × Int × Int) : ∀ ts : List (Int × Int × Int), encT (ts ++ [x]) = encT ts ++ [.int .i64 x.1, .int .i64 x.2.1, .int .i64 x.2.2]
  | [] => rfl
  | t :: r => by simp [encT, encT_snoc x r]
theorem encT_get : ∀ (ts : List (Int × Int × Int)) (j : Nat) (t : Int × Int × Int), ts[j]? = some t → (encT ts)[j * 3]? = some (.int .i64 t.1) ∧ (encT ts)[j * 3 + 1]? = some (.int .i64 t.2.1) ∧ (encT ts)[j * 3 + 2]? = some (.int .i64 t.2.2)
  | [], j, t, h => by simp at h
  | x :: r, 0, t, h => by simp at h; subst h; exact ⟨rfl, rfl, rfl⟩
  | x :: r, j + 1, t, h => by
    simp at h
    have := encT_get r j t h
    rw [show (j + 1) * 3 = j * 3 + 1 + 1 + 1 by omega]
    exact this
/-- the ring set while it is made: its lists not yet there. -/
def IsP (w : World) (p : Nat) (N : Nat) (v : Value) : Prop := w.heap[p]? = some (.cells #[.int .i64 (N : Int), v] 53 (0, 0))
section
variable {w w' : World} {p N : Nat} {v : Value}
theorem IsP.lt (h : IsP w p N v) : p < w.heap.size := (Array.getElem?_eq_some_iff.1 h).1
theorem IsP.belowS (h : IsP w p N v) (hb : Below w.heap.size w w') : IsP w' p N v := (hb.block p h.lt).trans h
theorem IsP.alloc (h : IsP w p N v) (o : Obj) : IsP (w.alloc o) p N v := (heap_alloc_old w o _ h.lt).trans h
theorem IsP.grown {row : Option Nat} (h : IsP w p N v) (hg : w.grownBy w' row) (hr : ∀ k, row = some k → p < k) : IsP w' p N v := (((Below.refl (p + 1) w).grown hg h.lt (fun k e => hr k e)).block p (by omega)).trans h
theorem IsP.c1 (h : IsP w p N v) : w.cell? ⟨p, 1, none⟩ = some v := by rw [cell_of_row w p 1 _ 53 (0, 0) h]; rfl
theorem IsP.f (h : IsP w p N v) (i : Nat) : w.frozen? ⟨p, i, none⟩ = false := frozen_of_row w p i _ 53 h
theorem IsP.put (h : IsP w p N v) (v' : Value) : IsP (w.setCell ⟨p, 1, none⟩ v') p N v' := by
  unfold IsP
  rw [heap_setCell_same w p 1 _ 53 _ h]; rfl
theorem IsP.drew (h : IsP w p N v) : IsP w.drew p N v := h
end
/-- links that lie in a block of their own. -/
def RowL (w : World) (B : Nat) (v : Value) (ts : List (Int × Int × Int)) : Prop := w.ownsRow B 55 3 v ts.length (encT ts)
section
variable {w w' : World} {B : Nat} {v : Value} {ts : List (Int × Int × Int)}
theorem RowL.sl (h : RowL w B v ts) : ∃ a c, v = .slice a ts.length c := by
  rcases h.2 with ⟨rfl, h1⟩ | ⟨g, cap, cur, rfl, _⟩
  · exact ⟨none, 0, by rw [h1]⟩
  · exact ⟨_, cap, rfl⟩
theorem RowL.own (h : RowL w B v ts) : ∀ k, v.ownBlock = some k → B ≤ k := by
  rcases h.2 with ⟨rfl, h1⟩ | ⟨g, cap, cur, rfl, hb, _⟩
  · intro k e; cases e
  · intro k e; cases e; exact hb
theorem RowL.same (h : RowL w B v ts) (hs : ∀ b cur, w.heap[b]? = some (.cells cur 55 (0, 0)) → B ≤ b → w'.heap[b]? = w.heap[b]?) : RowL w' B v ts := by
  refine ⟨h.1, ?_⟩
  rcases h.2 with ⟨rfl, h1⟩ | ⟨g, cap, cur, rfl, hbg, hg, h3⟩
  · exact .inl ⟨rfl, h1⟩
  · exact .inr ⟨g, cap, cur, rfl, hbg, by rw [hs g cur hg hbg]; exact hg, h3⟩
theorem RowL.belowS (h : RowL w B v ts) (hb : Below w.heap.size w w') : RowL w' B v ts := h.same fun b _ hg _ => hb.block b (Array.getElem?_eq_some_iff.1 hg).1
theorem RowL.put {p : Nat} (h : RowL w B v ts) (hp : p < B) (i : Nat) (x : Value) : RowL (w.setCell ⟨p, i, none⟩ x) B v ts := h.same fun b _ _ hB => heap_setCell_other w ⟨p, i, none⟩ b x (by simp; omega)
theorem RowL.nil (w : World) (B : Nat) : RowL w B (.slice none 0 0) [] := World.ownsRow_nil _ _ _ _
theorem RowL.drew (h : RowL w B v ts) : RowL w.drew B v ts := h
end
section
variable {ops : Array Oper} {rest : List Oper} {o : Oper} {a : Act} {w : World} {Q : Exit → Act → World → Prop} {K : Act → World → Prop}
theorem wp_append55 (s x : Operand) (ho : o.op = .call { callee := .builtin .append, args := #[s, x], argTypes := #[51, 51] }) (B : Nat) (v : Value) (ts : List (Int × Int × Int)) (g c : Nat) (y : Int × Int × Int) (hs : a.eval s = v) (hx : a.eval x = .slice (some ⟨g, 0, none⟩) 1 c)
    (hB : B ≤ w.heap.size) (h1 : RowL w B v ts) (h2 : IsK w g y.1 y.2.1 y.2.2) (hl : ts.length ≤ 1000) (h : ∀ v' w', RowL w' B v' (ts ++ [y]) → w.grownBy w' v.ownBlock → K (a.put o.dst v') w') : o.wp Try.prog a w K Q := by
  obtain ⟨i0, hi, hz0, hz1, hz2⟩ := info_parts Try.info55
  have hnews : ∀ j u, [Value.int .i64 y.1, .int .i64 y.2.1, .int .i64 y.2.2][j]? = some u → w.cell? ((⟨g, 0, none⟩ : Addr).add j) = some u := by
    intro j u hu
    rw [Addr.add_lit, Nat.zero_add]
    match j with
    | 0 => simp at hu; subst hu; exact h2.c0
    | 1 => simp at hu; subst hu; exact h2.c1
    | 2 => simp at hu; subst hu; exact h2.c2
    | n + 3 => simp at hu
  obtain ⟨v', w', hr, ho', hg, _⟩ := run_append_own (P := Try.prog) w B 51 o.type 55 i0 (.agg #[.int .i64 0, .int .i64 0, .int .i64 0]) 3 24 Try.underlying51 hi hz0 hz1 hz2 rfl (by decide) v ts.length _ h1 ⟨g, 0, none⟩ 1 c [.int .i64 y.1, .int .i64 y.2.1, .int .i64 y.2.2] rfl hnews (by intro u hu; simp at hu; rcases hu with rfl | rfl | rfl <;> rfl) (by unfold maxLen; omega) (by omega) hB
  unfold Oper.wp execOp
  simp only [ho, resolve, invoke, builtin, Sem.run_bind, Sem.run_pure, Result.andThen_ok, List.map_toArray, List.map_cons, List.map_nil, hs, hx, hr]
  refine h v' w' ?_ hg
  unfold RowL
  rw [List.length_append, encT_snoc]
  exact ho'
theorem wpList_append55 (hg : o.guard = none) (s x : Operand) (ho : o.op = .call { callee := .builtin .append, args := #[s, x], argTypes := #[51, 51] }) (B : Nat) (v : Value) (ts : List (Int × Int × Int)) (g c : Nat) (y : Int × Int × Int) (hs : a.eval s = v) (hx : a.eval x = .slice (some ⟨g, 0, none⟩) 1 c)
    (hB : B ≤ w.heap.size) (h1 : RowL w B v ts) (h2 : IsK w g y.1 y.2.1 y.2.2) (hl : ts.length ≤ 1000) (h : ∀ v' w', RowL w' B v' (ts ++ [y]) → w.grownBy w' v.ownBlock → wpList Try.prog ops Q rest (a.put o.dst v') w') : wpList Try.prog ops Q (o :: rest) a w :=
  wpList_plain hg fun _ hK => wp_append55 s x ho B v ts g c y hs hx hB h1 h2 hl fun v' w' h3 h4 => hK _ _ (h v' w' h3 h4)
end
set_option maxRecDepth 100000 in
set_option maxHeartbeats 4000000 in
theorem New_no (n m : Int) (w : World) (hn : ¬ (1 ≤ n ∧ n ≤ 64 ∧ 1 ≤ m ∧ m ≤ 64)) :
    Calls Try.prog 8 #[.int .i64 n, .int .i64 m] w fun e w' => e = .returned (.tuple #[.pointer none, .int .i64 14]) ∧ w = w' := by
  by_cases h1 : n < 1
  · clear hn
    go_enter Try.func8, Try.ntmps8
    go_wp2_with fail
    go_ret2
    exact ⟨rfl, rfl⟩
  · by_cases h2 : 64 < n
    · clear hn
      go_enter Try.func8, Try.ntmps8
      go_wp2_with fail
      go_ret2
      exact ⟨rfl, rfl⟩
    · by_cases h3 : m < 1
      · clear hn
        go_enter Try.func8, Try.ntmps8
        go_wp2_with fail
        go_ret2
        exact ⟨rfl, rfl⟩
      · have h4 : 64 < m := by omega
        clear hn
        go_enter Try.func8, Try.ntmps8
        go_wp2_with fail
        go_ret2
        exact ⟨rfl, rfl⟩
/-- the links of lists without nodes. -/
def ln0 (N : Nat) : Nat → Int × Int × Int := fun j => if j < N then (-1, -1, -1) else ((j : Int), (j : Int), (j : Int) - N)
def lns (N k : Nat) : List (Int × Int × Int) := (List.range k).map (ln0 N)
theorem lns_len (N k : Nat) : (lns N k).length = k := by simp [lns]
theorem lns_snoc (N k : Nat) : lns N (k + 1) = lns N k ++ [ln0 N k] := by simp [lns, List.range_succ]
theorem lns_get (N k j : Nat) (h : j < k) : (lns N k)[j]? = some (ln0 N j) := by simp [lns, h]
def S0 (N : Nat) : Ln := ⟨fun j => (ln0 N j).1, fun j => (ln0 N j).2.1, fun j => (ln0 N j).2.2⟩
theorem isR_of {w : World} {p B : Nat} {v : Value} {N M : Nat} (hp : IsP w p N v) (hr : RowL w B v (lns N (N + M))) (hB : p < B) (h1 : 1 ≤ N) : ∃ g c, B ≤ g ∧ IsR w p g c N M (S0 N) := by
  have hl := lns_len N (N + M)
  unfold RowL at hr
  rw [hl] at hr
  rcases hr.2 with ⟨_, h2⟩ | ⟨g, cap, cur, rfl, hbg, hg, hnc, _, hcs, htake⟩
  · omega
  · refine ⟨g, cap, hbg, hp, ⟨cur, hg, by omega, fun j hj => ?_⟩, by omega, hnc⟩
    have h3 := encT_get _ j _ (lns_get N (N + M) j hj)
    rw [← htake] at h3
    rw [List.getElem?_take_of_lt (by omega), List.getElem?_take_of_lt (by omega), List.getElem?_take_of_lt (by omega)] at h3
    simpa [S0] using h3
set_option maxRecDepth 100000 in
set_option maxHeartbeats 4000000 in
theorem New_yes (N M : Nat) (w : World) (h1 : 1 ≤ N) (h2 : N ≤ 64) (h3 : 1 ≤ M) (h4 : M ≤ 64) :
    Calls Try.prog 8 #[.int .i64 (N : Int), .int .i64 (M : Int)] w fun e w' => (∃ p g c, e = .returned (.tuple #[.pointer (some ⟨p, 0, none⟩), .int .i64 0]) ∧ IsR w' p g c N M (S0 N) ∧ w.heap.size ≤ p ∧ w.heap.size ≤ g) ∧ Below w.heap.size w w' := by
  have e1 : ¬ (N : Int) < 1 := by omega
  have e2 : ¬ 64 < (N : Int) := by omega
  have e3 : ¬ (M : Int) < 1 := by omega
  have e4 : ¬ 64 < (M : Int) := by omega
  have hb : Below w.heap.size w (w.alloc (.cells #[.int .i64 (N : Int), .slice none 0 0] 53)) := (Below.refl _ w).alloc (Nat.le_refl _) _
  have hp0 : IsP (w.alloc (.cells #[.int .i64 (N : Int), .slice none 0 0] 53)) w.heap.size N (.slice none 0 0) := heap_alloc_new w _
  have hr0 := RowL.nil (w.alloc (.cells #[.int .i64 (N : Int), .slice none 0 0] 53)) (w.heap.size + 1)
  go_enter Try.func8, Try.ntmps8
  go_wp2_with fail
  generalize w.alloc (.cells #[.int .i64 (N : Int), .slice none 0 0] 53) = w1 at *
  have hp0 := Lib.hid hp0
  have hr0 := Lib.hid hr0
  have hb := Lib.hid hb
  go_loopw [27] (fun i wr => ∃ (k : Nat) (a : Option Addr) (c : Nat), k ≤ N ∧ i = .int .i64 (k : Int) ∧ Hid (IsP wr w.heap.size N (.slice a k c)) ∧ Hid (RowL wr (w.heap.size + 1) (.slice a k c) (lns N k)) ∧ Hid (Below w.heap.size w wr)) (fun i _ => N - (intOf i).toNat)
  case atStart => exact ⟨0, none, 0, by omega, rfl, hp0, hr0, hb⟩
  case round =>
    obtain ⟨k, a, c, hk, rfl, HP, HR, HB⟩ := hrel
    by_cases hlt : k < N
    · go_wp2_with fail
      have hp := HP.out.drew
      have hr := HR.out.drew
      have hB := HB.out.trans ((Same.drew wr).below _)
      have hs2 := hB.size
      have HkN := Lib.hid hlt
      have hpl := hp.lt
      refine Rd.regionK (fun X => X.cell? ⟨w.heap.size, 1, none⟩ = some (.slice a k c)) 10 [0, 1, 2, 3, 8, 9] [4] [0, 1, 2, 3, 4, 5, 6, 7, 8, 9, 10] (by kernel_rfl) (by kernel_rfl) (by kernel_rfl) (by kernel_rfl) rfl hp.c1 ?_
      clear HP HR HB hb hp0 hr0
      generalize wr.drew = w2 at *
      refine Rd.seqK_plain (.pointer (some ⟨w.heap.size, 0, none⟩)) (by simp only [List.getElem?_toArray, List.getElem?_cons_zero]; rfl) rfl (by rfl) (fun X => by go_simp) ?_
      simp only [Act.put, List.setIfInBounds_toArray, List.set_cons_succ, List.set_cons_zero]
      refine Rd.seqK_plain (.pointer (some ⟨w.heap.size, 0, none⟩)) (by simp only [List.getElem?_toArray, List.getElem?_cons_succ, List.getElem?_cons_zero]; rfl) rfl (by rfl) (fun X => by go_simp) ?_
      simp only [Act.put, List.setIfInBounds_toArray, List.set_cons_succ, List.set_cons_zero]
      refine Rd.seqK_plain (.pointer (some ⟨w.heap.size, 0, none⟩)) (by simp only [List.getElem?_toArray, List.getElem?_cons_succ, List.getElem?_cons_zero]; rfl) rfl (by rfl) (fun X => by go_simp) ?_
      simp only [Act.put, List.setIfInBounds_toArray, List.set_cons_succ, List.set_cons_zero]
      refine Rd.seqK_plain (.pointer (some ⟨w.heap.size, 1, none⟩)) (by simp only [List.getElem?_toArray, List.getElem?_cons_succ, List.getElem?_cons_zero]; rfl) rfl (by rfl) (fun X => by go_simp) ?_
      simp only [Act.put, List.setIfInBounds_toArray, List.set_cons_succ, List.set_cons_zero]
      refine Rd.seqK_float (.slice a k c) (by simp only [List.getElem?_toArray, List.getElem?_cons_succ, List.getElem?_cons_zero]; rfl) rfl rfl (by rfl) (fun X hX => by have e1 := hX; go_simp) ?_
      simp only [Act.put, List.setIfInBounds_toArray, List.set_cons_succ, List.set_cons_zero]
      refine Rd.seqK_move (by simp only [List.getElem?_toArray, List.getElem?_cons_succ, List.getElem?_cons_zero]; rfl) rfl rfl (by rfl) (fun K hK => ?_)
      go_simp
      refine (loose_any w2).mono ?_
      rintro e w3 ⟨rfl, hb3⟩
      have hp3 := hp.belowS hb3
      have hr3 := hr.belowS hb3
      have hB3 := Below.trans hB (hb3.mono hs2)
      have hs3 := hb3.size
      refine hK _ _ (fun _ => hp3.c1) ?_
      clear hp hr hB hb3
      clear hK K
      refine Rd.seqK_move (by simp only [List.getElem?_toArray, List.getElem?_cons_succ, List.getElem?_cons_zero]; rfl) rfl rfl (by rfl) (fun K hK => ?_)
      go_simp
      have hb4 : Below w3.heap.size w3 (w3.alloc (.cells #[.int .i64 (-1), .int .i64 (-1), .int .i64 (-1)] 55)) := (Below.refl _ w3).alloc (Nat.le_refl _) _
      have hp4 := hp3.belowS hb4
      have hr4 := hr3.belowS hb4
      have hB4 := Below.trans hB3 (hb4.mono (by omega))
      have hk4 := IsK.new w3 (-1) (-1) (-1)
      refine hK _ _ (fun _ => hp4.c1) ?_
      have hs4 := hb4.size
      generalize w3.alloc (.cells #[.int .i64 (-1), .int .i64 (-1), .int .i64 (-1)] 55) = w4 at *
      clear hp3 hr3 hB3 hb4
      clear hK K
      refine Rd.seqK_move (by simp only [List.getElem?_toArray, List.getElem?_cons_succ, List.getElem?_cons_zero]; rfl) rfl rfl (by rfl) (fun K hK => ?_)
      refine wp_append55 _ _ rfl (w.heap.size + 1) _ (lns N k) _ _ (-1, -1, -1) rfl rfl (by omega) hr4 hk4 (by rw [lns_len]; omega) ?_
      intro v5 w5 hr5 hg5
      have hp5 := hp4.grown hg5 (fun b e => hr4.own b e)
      have hB5 := hB4.grown hg5 (by omega) (fun b e => by have := hr4.own b e; omega)
      rw [show lns N k ++ [(-1, -1, -1)] = lns N (k + 1) by rw [lns_snoc]; simp [ln0, HkN.out]] at hr5
      obtain ⟨a5, c5, e5⟩ := hr5.sl
      rw [lns_len] at e5
      subst e5
      have hc5 := hp5.c1
      have hf5 := hp5.f 1
      have hs5 := hB5.size
      refine hK _ _ (fun _ => hp5.c1) ?_
      clear hK K
      refine Rd.seqK_plain (.pointer (some ⟨w.heap.size, 0, none⟩)) (by simp only [List.getElem?_toArray, List.getElem?_cons_succ, List.getElem?_cons_zero]; rfl) rfl (by rfl) (fun X => by go_simp) ?_
      simp only [Act.put, List.setIfInBounds_toArray, List.set_cons_succ, List.set_cons_zero]
      refine Rd.seqK_plain (.pointer (some ⟨w.heap.size, 1, none⟩)) (by simp only [List.getElem?_toArray, List.getElem?_cons_succ, List.getElem?_cons_zero]; rfl) rfl (by rfl) (fun X => by go_simp) ?_
      simp only [Act.put, List.setIfInBounds_toArray, List.set_cons_succ, List.set_cons_zero]
      refine Rd.seqK_move (by simp only [List.getElem?_toArray, List.getElem?_cons_succ, List.getElem?_cons_zero]; rfl) rfl rfl (by rfl) (fun K hK => ?_)
      go_simp
      refine hK _ _ (fun h => absurd h (by decide)) ?_
      refine Rd.seqK_end ?_
      have hp6 := hp5.put (.slice a5 (k + 1) c5)
      have hr6 := hr5.put (p := w.heap.size) (by omega) 1 (.slice a5 (k + 1) c5)
      have hB6 := hB5.trans ((Turn.setCell w5 w.heap.size 1 (.slice a5 (k + 1) c5)).below (Nat.le_refl _))
      clear hp5 hr5 hB5 hc5 hf5 hg5 hp4 hr4 hB4 hk4 hs3 hs4
      generalize w5.setCell ⟨w.heap.size, 1, none⟩ (.slice a5 (k + 1) c5) = w6 at *
      go_wp2_with fail
      go_roundw
      case rel => exact ⟨k + 1, a5, c5, by omega, by go_num, Lib.hid hp6, Lib.hid hr6, Lib.hid hB6⟩
      case measure => simp [intOf]; omega
    · obtain rfl : k = N := by omega
      clear hp0 hr0 hb
      go_wp2_with fail
      go_loopw [41] (fun i wr => ∃ (j : Nat) (a : Option Addr) (c : Nat), j ≤ M ∧ i = .int .i64 (j : Int) ∧ Hid (IsP wr w.heap.size k (.slice a (k + j) c)) ∧ Hid (RowL wr (w.heap.size + 1) (.slice a (k + j) c) (lns k (k + j))) ∧ Hid (Below w.heap.size w wr)) (fun i _ => M - (intOf i).toNat)
      case atStart => exact ⟨0, a, c, by omega, rfl, HP, HR, HB⟩
      case round =>
        clear HP HR HB
        obtain ⟨j, a, c, hj, rfl, HP, HR, HB⟩ := hrel
        by_cases hlt2 : j < M
        · have hp := HP.out
          have hr := HR.out
          have hB := HB.out
          have hs2 := hB.size
          have hpl := hp.lt
          have hc1 := hp.c1
          have HJ := Lib.hid (show lns k (k + j) ++ [((k : Int) + (j : Int), (k : Int) + (j : Int), (j : Int))] = lns k (k + (j + 1)) by
            rw [show k + (j + 1) = k + j + 1 by omega, lns_snoc]
            simp [ln0, show ¬ k + j < k by omega]
            omega)
          clear HP HR HB
          go_wp2_with (first | (at_builtin; refine wpList_append55 rfl _ _ rfl (w.heap.size + 1) _ (lns k (k + j)) wr.heap.size 1 ((k : Int) + (j : Int), (k : Int) + (j : Int), (j : Int)) rfl rfl (by simp; omega) (hr.belowS ((Below.refl _ wr).alloc (Nat.le_refl _) _)) (IsK.new wr _ _ _) (by rw [lns_len]; omega) ?_; intro v5 w5 hr5 hg5; have hp5 := (hp.alloc _).grown hg5 (fun b e => hr.own b e); have hB5 := (hB.alloc hs2 _).grown hg5 (by simp; omega) (fun b e => by have := hr.own b e; omega); rw [HJ.out] at hr5; obtain ⟨a5, c5, e5⟩ := hr5.sl; rw [lns_len] at e5; subst e5; have hc5 := hp5.c1; have hf5 := hp5.f 1; have hs5 := hB5.size; have hp6 := hp5.put (.slice a5 (k + (j + 1)) c5); have hr6 := hr5.put (p := w.heap.size) (by omega) 1 (.slice a5 (k + (j + 1)) c5); have hB6 := hB5.trans ((Turn.setCell w5 w.heap.size 1 (.slice a5 (k + (j + 1)) c5)).below (Nat.le_refl _))))
          go_roundw
          case rel => exact ⟨j + 1, a5, c5, by omega, by go_num, Lib.hid hp6, Lib.hid hr6, Lib.hid hB6⟩
          case measure => simp [intOf]; omega
        · obtain rfl : j = M := by omega
          go_wp2_with fail
          obtain ⟨g, c', hg, hr⟩ := isR_of HP.out HR.out (by omega) h1
          go_ret2
          exact ⟨⟨_, g, c', rfl, hr, Nat.le_refl _, by omega⟩, HB.out⟩
end Go.Proofs.Ytglnjpbjlcbgoaa
