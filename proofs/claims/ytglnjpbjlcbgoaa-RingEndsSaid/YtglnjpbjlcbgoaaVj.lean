/-
  One row put behind another; the document's Find and wrong. Condition: no node is in two places.
-/
import Derived.Test.YtglnjpbjlcbgoaaVb
import Derived.Test.YtglnjpbjlcbgoaaVg
import Derived.Laws.OwnMore
namespace Go.Proofs.Ytglnjpbjlcbgoaa
open Go.RowKit

/-- a slice of values of one cell, wherever. -/
def SrcV (w : World) (u : Value) (ys : List Value) : Prop :=
  ∃ ad c, u = .slice ad ys.length c ∧ (ys ≠ [] → ∃ b off, ad = some ⟨b, off, none⟩ ∧ b < w.heap.size ∧ ∀ j y, ys[j]? = some y → w.cell? ⟨b, off + j, none⟩ = some y)
theorem SrcV.below {w w' : World} {u : Value} {ys : List Value} (h : SrcV w u ys) (hb : Below w.heap.size w w') : SrcV w' u ys := by
  obtain ⟨ad, c, rfl, h2⟩ := h
  refine ⟨ad, c, rfl, fun hl => ?_⟩
  obtain ⟨b, off, rfl, h3, h4⟩ := h2 hl
  exact ⟨b, off, rfl, Nat.lt_of_lt_of_le h3 hb.size, fun j y hj => (hb.cell (p := ⟨b, off + j, none⟩) h3).trans (h4 j y hj)⟩
theorem RowV.src {w : World} {B e : Nat} {v : Value} {xs : List Value} (h : RowV w B e v xs) : SrcV w v xs := by
  obtain ⟨a, c, rfl⟩ := h.sl
  refine ⟨a, c, rfl, fun hl => ?_⟩
  obtain ⟨b, rfl, hB, hb, _⟩ := h.at (j := 0) (List.length_pos_iff.2 hl)
  refine ⟨b, 0, rfl, hb, fun j y hj => ?_⟩
  obtain ⟨b', e, _, _, hc, _⟩ := h.at (List.getElem?_eq_some_iff.1 hj).1
  cases e
  rw [Nat.zero_add, hc]; exact hj
theorem append_any {t e : TypeId} {i0 : TypeInfo} {z : Value} {bytes : Nat} (ht : Try.prog.underlying t = some (.slice e)) (hi : Try.prog.info? e = some i0) (hz0 : i0.zero = some z) (hz1 : i0.size = 1) (hz2 : i0.bytes = bytes) (hz3 : z.cells.size = 1) (hby : bytes ≤ 100)
    (w : World) (B : Nat) (v u : Value) (xs ys : List Value) (ty : TypeId) (hB : B ≤ w.heap.size) (h : RowV w B e v xs) (hs : SrcV w u ys) (h1 : ∀ y ∈ ys, y.oneCell' = true) (hl : xs.length + ys.length ≤ 1000) :
    ∃ v' w', (Builtin.append_ #[t, t] ty #[v, u]).run Try.prog w = .ok v' w' ∧ RowV w' B e v' (xs ++ ys) ∧ w.grownBy w' v.ownBlock := by
  obtain ⟨ad, c, rfl, h2⟩ := hs
  cases had : ad with
  | none =>
    have : ys = [] := by
      by_cases hne : ys = []
      · exact hne
      · obtain ⟨b, off, e, _⟩ := h2 hne
        rw [had] at e; cases e
    subst this
    by_cases hc : c = 0
    · subst hc
      exact ⟨v, w, run_append_owned_none w B t ty e i0 1 ht hi v xs.length _ h, by rw [List.append_nil]; exact h, World.grownBy.refl _ _⟩
    · refine ⟨v, w, ?_, by rw [List.append_nil]; exact h, World.grownBy.refl _ _⟩
      rcases h.2 with ⟨rfl, h1⟩ | ⟨g, cap, cur, rfl, _, _, hnc, _⟩
      · simp [Builtin.append_, run_underlying ht, sizeOf, typeInfo, hi, Builtin.lenOf, Builtin.firstCells]
      · simp [Builtin.append_, run_underlying ht, sizeOf, typeInfo, hi, Builtin.lenOf, Builtin.firstCells, hnc, storeCells]
  | some a =>
    have hnews : ∀ j x, ys[j]? = some x → w.cell? (a.add j) = some x := by
      intro j x hx
      obtain ⟨b, off, e, _, hc⟩ := h2 (by rintro rfl; simp at hx)
      rw [had] at e
      cases e
      rw [Addr.add_lit]
      exact hc j x hx
    have hb2 : (xs.length + ys.length) * bytes ≤ 140737488355328 := by
      have := Nat.mul_le_mul hl hby
      omega
    obtain ⟨v', w', hr, ho, hg, _⟩ := run_append_own (P := Try.prog) w B t ty e i0 z 1 bytes ht hi hz0 hz1 hz2 hz3 (by decide) v xs.length _ h a ys.length c ys (by simp) hnews h1 (by unfold maxLen; omega) hb2 hB
    refine ⟨v', w', hr, ?_, hg⟩
    unfold RowV
    rw [List.length_append]
    exact ho
section
variable {ops : Array Oper} {rest : List Oper} {o : Oper} {a : Act} {w : World} {Q : Exit → Act → World → Prop} {K : Act → World → Prop}
theorem wp_appendI (s x : Operand) (ho : o.op = .call { callee := .builtin .append, args := #[s, x], argTypes := #[43, 43] }) (B : Nat) (v u : Value) (xs ys : List Nat) (hs : a.eval s = v) (hx : a.eval x = u)
    (hB : B ≤ w.heap.size) (h1 : RowO w B v xs) (h2 : SrcV w u (encI ys)) (hl : xs.length + ys.length ≤ 1000) (h : ∀ v' w', RowO w' B v' (xs ++ ys) → w.grownBy w' v.ownBlock → K (a.put o.dst v') w') : o.wp Try.prog a w K Q := by
  obtain ⟨i0, hi, hz0, hz1, hz2⟩ := info_parts Try.info3
  obtain ⟨v', w', hr, ho', hg⟩ := append_any Try.underlying43 hi hz0 hz1 hz2 rfl (by omega) w B v u _ _ o.type hB h1 h2 (encI_one ys) (by rw [encI_len, encI_len]; exact hl)
  unfold Oper.wp execOp
  simp only [ho, resolve, invoke, builtin, Sem.run_bind, Sem.run_pure, Result.andThen_ok, List.map_toArray, List.map_cons, List.map_nil, hs, hx, hr]
  refine h v' w' ?_ hg
  unfold RowO encI
  rw [List.map_append]; exact ho'
theorem wp_appendS (s x : Operand) (ho : o.op = .call { callee := .builtin .append, args := #[s, x], argTypes := #[28, 28] }) (B : Nat) (v u : Value) (xs ys : List Value) (hs : a.eval s = v) (hx : a.eval x = u)
    (hB : B ≤ w.heap.size) (h1 : RowV w B 43 v xs) (h2 : SrcV w u ys) (hy : ∀ y ∈ ys, y.oneCell' = true) (hl : xs.length + ys.length ≤ 1000) (h : ∀ v' w', RowV w' B 43 v' (xs ++ ys) → w.grownBy w' v.ownBlock → K (a.put o.dst v') w') : o.wp Try.prog a w K Q := by
  obtain ⟨i0, hi, hz0, hz1, hz2⟩ := info_parts Try.info43
  obtain ⟨v', w', hr, ho', hg⟩ := append_any Try.underlying28 hi hz0 hz1 hz2 rfl (by omega) w B v u _ _ o.type hB h1 h2 hy hl
  unfold Oper.wp execOp
  simp only [ho, resolve, invoke, builtin, Sem.run_bind, Sem.run_pure, Result.andThen_ok, List.map_toArray, List.map_cons, List.map_nil, hs, hx, hr]
  exact h v' w' ho' hg
theorem wpList_appendS (hg : o.guard = none) (s x : Operand) (ho : o.op = .call { callee := .builtin .append, args := #[s, x], argTypes := #[28, 28] }) (B : Nat) (v u : Value) (xs ys : List Value) (hs : a.eval s = v) (hx : a.eval x = u)
    (hB : B ≤ w.heap.size) (h1 : RowV w B 43 v xs) (h2 : SrcV w u ys) (hy : ∀ y ∈ ys, y.oneCell' = true) (hl : xs.length + ys.length ≤ 1000) (h : ∀ v' w', RowV w' B 43 v' (xs ++ ys) → w.grownBy w' v.ownBlock → wpList Try.prog ops Q rest (a.put o.dst v') w') : wpList Try.prog ops Q (o :: rest) a w :=
  wpList_plain hg fun _ hK => wp_appendS s x ho B v u xs ys hs hx hB h1 h2 hy hl fun v' w' h3 h4 => hK _ _ (h v' w' h3 h4)
end
set_option maxRecDepth 100000 in
set_option maxHeartbeats 4000000 in
theorem Find_any (B N : Nat) (dv : Value) (ls : List (List Nat)) (n : Int) (w : World) (h : Doc w B dv ls) (ok : OkL N ls) :
    Calls Try.prog 30 #[.agg #[.int .i64 (N : Int), dv], .int .i64 n] w fun e w' => e = .returned (.tuple #[.int .i64 (listI ls n), .int .i64 (posI ls n)]) ∧ Below w.heap.size w w' := by
  have hb : Below w.heap.size w (w.alloc (.cells #[.int .i64 (N : Int), dv] 30)) := (Below.refl _ w).alloc (Nat.le_refl _) _
  have HD := Lib.hid (h.alloc (.cells #[.int .i64 (N : Int), dv] 30))
  obtain ⟨a, c, rfl⟩ := h.sl
  have h1 := (IsT.new w (N : Int) (.slice a ls.length c)).c1
  have hm := ok.m64
  have HL := Lib.hid (fun k => ok.len64 k)
  have HN : Hid ((∀ k i x : Nat, At ls k i x → (x : Int) ≠ n) → listI ls n = -1 ∧ posI ls n = -1) := Lib.hid (fun hn => by
    have := no_hasB (ls := ls) (n := n) fun k i x hx e => hn k i x hx e.symm
    simp [listI, posI, this])
  have HY : Hid (∀ k i x : Nat, At ls k i x → (x : Int) = n → listI ls n = k ∧ posI ls n = i) := Lib.hid (fun k i x hx e => by
    subst e
    obtain ⟨e1, e2⟩ := at_find ok hx
    simp [listI, posI, at_hasB hx, e1, e2])
  clear h ok
  go_enter Try.func30, Try.ntmps30
  go_wp2_with fail
  generalize w.alloc (.cells #[.int .i64 (N : Int), .slice a ls.length c] 30) = w1 at *
  go_loop [11] (fun i => ∃ k : Nat, k ≤ ls.length ∧ i = .int .i64 k ∧ Hid (∀ k' i x : Nat, k' < k → At ls k' i x → (x : Int) ≠ n)) (fun i => ls.length - (intOf i).toNat)
  case atStart => exact ⟨0, by omega, rfl, Lib.hid (fun k' _ _ hk => absurd hk (Nat.not_lt_zero _))⟩
  case round =>
    obtain ⟨k, hk, rfl, HB⟩ := hrel
    by_cases hlt : k < ls.length
    · obtain ⟨b, a', c', rfl, -, hc, hlc, hcm, hro⟩ := HD.out.at hlt
      have HR := Lib.hid hro
      have hl64 := HL.out k
      have HRL : Hid (∀ i, i < (row ls k).length → At ls k i ((row ls k).getD i 0)) := Lib.hid (fun i hi => At.of_lt hi)
      have HRN : Hid (∀ i x, At ls k i x → i < (row ls k).length) := Lib.hid (fun i x hx => hx.len)
      clear hro
      generalize hrow : row ls k = r at *
      clear hrow
      go_wp2_with fail
      go_loop [20] (fun i => ∃ j : Nat, j ≤ r.length ∧ i = .int .i64 j ∧ Hid (∀ i x : Nat, i < j → At ls k i x → (x : Int) ≠ n)) (fun i => r.length - (intOf i).toNat)
      case atStart => exact ⟨0, by omega, rfl, Lib.hid (fun i _ hi => absurd hi (Nat.not_lt_zero _))⟩
      case round =>
        obtain ⟨j, hj, rfl, HC⟩ := hrel
        by_cases hlt2 : j < r.length
        · obtain ⟨b', rfl, hx⟩ := RowV.atI HR.out hlt2
          have HX := Lib.hid (HRL.out j hlt2)
          generalize r.getD j 0 = y at *
          by_cases he : (y : Int) = n
          · have h6 := beq_tt he
            have HE := Lib.hid (HY.out k j y HX.out he)
            clear he
            go_wp2_with fail
            go_ret2
            exact ⟨by rw [HE.out.1, HE.out.2]; rfl, hb⟩
          · have h6 := beq_ff he
            have HE := Lib.hid he
            clear he
            go_wp2_with fail
            refine ⟨⟨j + 1, by omega, by go_num, Lib.hid (fun i x hi hx' => ?_)⟩, by simp [intOf]; omega⟩
            by_cases e : i = j
            · subst e; rw [At.eq hx' HX.out]; exact HE.out
            · exact HC.out i x (by omega) hx'
        · obtain rfl : j = r.length := by omega
          go_wp2_with fail
          refine ⟨⟨k + 1, by omega, by go_num, Lib.hid (fun k' i x hi hx' => ?_)⟩, by simp [intOf]; omega⟩
          by_cases e : k' = k
          · subst e; exact HC.out i x (HRN.out i x hx') hx'
          · exact HB.out k' i x (by omega) hx'
    · obtain rfl : k = ls.length := by omega
      have HE := Lib.hid (HN.out fun k' i x hx => HB.out k' i x hx.lists hx)
      go_wp2_with fail
      go_ret2
      exact ⟨by rw [HE.out.1, HE.out.2]; rfl, hb⟩
end Go.Proofs.Ytglnjpbjlcbgoaa
