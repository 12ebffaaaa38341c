/-
  RingOrder: nodes that are pushed stand in the order in which they were, those that lead in the other one; one that goes leaves the others as they stand. No condition.
-/
import Derived.Test.YtglnjpbjlcbgoaaVt
import Derived.ArgAppend
namespace Go.Proofs.Ytglnjpbjlcbgoaa
open Go.RowKit

theorem two_no {xs : List Nat} {x : Nat} (h : ¬ x ∈ xs) : hasB [[], xs] (x : Int) = false := by
  refine no_hasB fun k i y hy e => ?_
  obtain rfl : x = y := by omega
  unfold At at hy
  match k with
  | 0 => simp [row] at hy
  | 1 => exact h (List.mem_of_getElem? hy)
  | n + 2 => simp [row] at hy
theorem two_push {xs : List Nat} {x : Nat} (h : ¬ x ∈ xs) (hx : x < 64) : pushI 64 [[], xs] 1 x = 0 := by
  have h1 := two_no h
  have h2 : inN 64 (x : Int) = true := by rw [inN_iff]; omega
  have h3 : inN ([[], xs] : List (List Nat)).length 1 = true := by simp [inN]
  simp only [pushI, wrongI, h1, h2, h3, if_true]
theorem two_last {xs : List Nat} {x : Nat} (h : ¬ x ∈ xs) (hx : x < 64) : pushL 64 [[], xs] 1 x false = [[], xs ++ [x]] := by
  unfold pushL
  rw [if_pos (two_push h hx)]
  simp [insL, row]
theorem two_first {xs : List Nat} {x : Nat} (h : ¬ x ∈ xs) (hx : x < 64) : pushL 64 [[], xs] 1 x true = [[], x :: xs] := by
  unfold pushL
  rw [if_pos (two_push h hx)]
  simp [insL, row]
theorem two_at {xs : List Nat} {i : Nat} (h : i < xs.length) : At [[], xs] 1 i (xs.getD i 0) := by
  unfold At
  simp [row, List.getD, List.getElem?_eq_getElem h]
theorem two_drop {xs : List Nat} {i : Nat} (ok : OkL 64 [[], xs]) (h : i < xs.length) : wrongI 64 [[], xs] (xs.getD i 0 : Nat) true = 0 ∧ dropL 64 [[], xs] (xs.getD i 0 : Nat) = [[], xs.take i ++ xs.drop (i + 1)] := by
  have ha := two_at h
  have h2 : inN 64 ((xs.getD i 0 : Nat) : Int) = true := by
    have := ok.lt _ _ _ ha
    rw [inN_iff]; omega
  obtain ⟨e1, e2⟩ := at_find ok ha
  have h3 : wrongI 64 [[], xs] (xs.getD i 0 : Nat) true = 0 := by simp only [wrongI, at_hasB ha, h2, if_true]
  refine ⟨h3, ?_⟩
  unfold dropL
  rw [if_pos h3, e1, e2]
  simp [delL, row]
theorem two_gone {xs : List Nat} {i : Nat} (ok : OkL 64 [[], xs]) (h : i < xs.length) : ¬ xs.getD i 0 ∈ xs.take i ++ xs.drop (i + 1) := by
  intro hm
  have ha := two_at h
  obtain ⟨j, hj⟩ := List.getElem?_of_mem hm
  rw [del_get xs (by omega)] at hj
  split at hj
  · have := (ok.inj 1 i 1 j _ ha (by unfold At; simpa [row] using hj)).2
    omega
  · have := (ok.inj 1 i 1 (j + 1) _ ha (by unfold At; simpa [row] using hj)).2
    omega
theorem two_put {xs : List Nat} {y : Nat} (h : ¬ y ∈ xs) (hy : y < 64) : pushI 64 [[], xs] 0 y = 0 ∧ pushL 64 [[], xs] 0 y false = [[y], xs] := by
  have h1 := two_no h
  have h2 : inN 64 (y : Int) = true := by rw [inN_iff]; omega
  have h4 : inN ([[], xs] : List (List Nat)).length 0 = true := by simp [inN]
  have h3 : pushI 64 [[], xs] 0 y = 0 := by simp only [pushI, wrongI, h1, h2, h4, if_true]
  refine ⟨h3, ?_⟩
  unfold pushL
  rw [if_pos h3]
  simp [insL, row]
theorem two_list (xs : List Nat) (y : Nat) : listI [[y], xs] (y : Int) = 0 := by
  have h1 : hasB [[y], xs] (y : Int) = true := by simp [hasB]
  have h2 : fk [[y], xs] (y : Int) = 0 := by simp [fk, List.findIdx_cons]
  simp [listI, h1, h2]
section
variable {ops : Array Oper} {rest : List Oper} {o : Oper} {a : Act} {w : World} {Q : Exit → Act → World → Prop}
theorem wpList_appendI (hg : o.guard = none) (s x : Operand) (ho : o.op = .call { callee := .builtin .append, args := #[s, x], argTypes := #[43, 43] }) (B : Nat) (v u : Value) (xs ys : List Nat) (hs : a.eval s = v) (hx : a.eval x = u)
    (hB : B ≤ w.heap.size) (h1 : RowO w B v xs) (h2 : SrcV w u (encI ys)) (hl : xs.length + ys.length ≤ 1000) (h : ∀ v' w', RowO w' B v' (xs ++ ys) → w.grownBy w' v.ownBlock → wpList Try.prog ops Q rest (a.put o.dst v') w') : wpList Try.prog ops Q (o :: rest) a w :=
  wpList_plain hg fun _ hK => wp_appendI s x ho B v u xs ys hs hx hB h1 h2 hl fun v' w' h3 h4 => hK _ _ (h v' w' h3 h4)
end
/-- a row without the node at k, put together behind a head that has no room. -/
theorem cut_append (w : World) (B g n c k : Nat) (xs : List Nat) (ty : TypeId) (h : RowO w B (.slice (some ⟨g, 0, none⟩) n c) xs) (hn : n = xs.length) (hl : n ≤ 64) (hk : k < n) (x : Value)
    (hx : x = .slice (if c = k + 1 then some ⟨g, 0, none⟩ else (some (⟨g, 0, none⟩ : Addr)).map fun p => p.add (k + 1)) (n - (k + 1)) (c - (k + 1))) :
    ∃ v' w', (Builtin.append_ #[43, 43] ty #[.slice (some ⟨g, 0, none⟩) k k, x]).run Try.prog w = .ok v' w' ∧ SrcV w' v' (encI (xs.take k ++ xs.drop (k + 1))) ∧ Below w.heap.size w w' := by
  subst hn
  obtain ⟨i0, hi, hz0, hz1, hz2⟩ := info_parts Try.info3
  have hs1 := head_src (j := k) h (by omega)
  have hs2 := tail_src (j := k + 1) h (by omega)
  rw [← hx] at hs2
  by_cases hm : xs.length - (k + 1) = 0
  · have hd : xs.drop (k + 1) = [] := List.drop_eq_nil_of_le (by omega)
    refine ⟨.slice (some ⟨g, 0, none⟩) k k, w, ?_, ?_, Below.refl _ _⟩
    · rw [hx, hm]
      by_cases hc : c = k + 1
      · simp [Builtin.append_, run_underlying Try.underlying43, sizeOf, typeInfo, hi, Builtin.lenOf, Builtin.firstCells, hc, storeCells, loadCells, loadCellsFrom]
      · simp [Builtin.append_, run_underlying Try.underlying43, sizeOf, typeInfo, hi, Builtin.lenOf, Builtin.firstCells, hc, storeCells, loadCells, loadCellsFrom]
    · rw [hd, List.append_nil]
      obtain ⟨ad, c2, e, h2⟩ := hs1
      injection e with e1 e2 e3
      subst e1
      exact ⟨_, k, by rw [← e2], h2⟩
  · obtain ⟨ad, c2, e, h2⟩ := hs2
    have hne : encI (xs.drop (k + 1)) ≠ [] := by
      intro e
      have := congrArg List.length e
      rw [encI_len, List.length_drop] at this
      simp at this
      omega
    obtain ⟨b, off, rfl, hb, hc⟩ := h2 hne
    rw [encI_len, List.length_drop] at e
    obtain ⟨v', w', hr, ho, hg⟩ := run_append_arg_grows (P := Try.prog) w 43 ty 3 i0 (.int .i64 0) 1 8 Try.underlying43 hi hz0 hz1 hz2 rfl (by decide) ⟨g, 0, none⟩ k k (encI (xs.take k)) (by rw [encI_len, List.length_take]; omega)
      (fun j u hj => by
        obtain ⟨ad, c3, e3, h3⟩ := hs1
        injection e3 with e31 e32 e33
        subst e31
        obtain ⟨b3, off3, e4, _, hc3⟩ := h3 (by rintro e; rw [e] at hj; simp at hj)
        cases e4
        have := hc3 j u hj
        rw [Addr.add_lit]
        exact this)
      ⟨b, off, none⟩ (xs.length - (k + 1)) c2 (encI (xs.drop (k + 1))) (by rw [encI_len, List.length_drop]; omega)
      (fun j u hj => by rw [Addr.add_lit]; exact hc j u hj) (by omega) (by unfold maxLen; omega) (by omega)
    refine ⟨v', w', by rw [e]; exact hr, ?_, (Below.refl _ w).grown hg (Nat.le_refl _) (fun _ e => by cases e)⟩
    have hrow : RowV w' w.heap.size 3 v' (encI (xs.take k ++ xs.drop (k + 1))) := by
      unfold RowV
      have e5 : encI (xs.take k ++ xs.drop (k + 1)) = encI (xs.take k) ++ encI (xs.drop (k + 1)) := by simp [encI]
      have e6 : (encI (xs.take k ++ xs.drop (k + 1))).length = k + (xs.length - (k + 1)) := by
        rw [encI_len, List.length_append, List.length_take, List.length_drop]; omega
      rw [e6, e5]
      exact ho
    exact hrow.src
section
variable {o : Oper} {a : Act} {w : World} {Q : Exit → Act → World → Prop} {K : Act → World → Prop}
theorem wp_cut (s x : Operand) (ho : o.op = .call { callee := .builtin .append, args := #[s, x], argTypes := #[43, 43] }) (B g n c k : Nat) (xs : List Nat) (u : Value) (hs : a.eval s = .slice (some ⟨g, 0, none⟩) k k) (hx : a.eval x = u)
    (h : RowO w B (.slice (some ⟨g, 0, none⟩) n c) xs) (hn : n = xs.length) (hl : n ≤ 64) (hk : k < n) (hu : u = .slice (if c = k + 1 then some ⟨g, 0, none⟩ else (some (⟨g, 0, none⟩ : Addr)).map fun p => p.add (k + 1)) (n - (k + 1)) (c - (k + 1)))
    (hK : ∀ v' w', SrcV w' v' (encI (xs.take k ++ xs.drop (k + 1))) → Below w.heap.size w w' → K (a.put o.dst v') w') : o.wp Try.prog a w K Q := by
  obtain ⟨v', w', hr, h1, h2⟩ := cut_append w B g n c k xs o.type h hn hl hk u hu
  unfold Oper.wp execOp
  simp only [ho, resolve, invoke, builtin, Sem.run_bind, Sem.run_pure, Result.andThen_ok, List.map_toArray, List.map_cons, List.map_nil, hs, hx, hr]
  exact hK v' w' h1 h2
end
theorem SrcV.box {w : World} {u x : Value} {ys : List Nat} {bw n c : Nat} {ad : Option Addr} (h : SrcV w u (encI ys)) (hb : Boxed w bw 43 (.slice ad n c)) : SrcV (w.setCell ⟨bw, 0, none⟩ x) u (encI ys) := by
  obtain ⟨a, c', rfl, h2⟩ := h
  refine ⟨a, c', rfl, fun hne => ?_⟩
  obtain ⟨b, off, rfl, hb2, hc⟩ := h2 hne
  refine ⟨b, off, rfl, by simpa [World.setCell] using hb2, fun j y hj => ?_⟩
  have h1 := hc j y hj
  by_cases e : b = bw
  · subst e
    exfalso
    have h3 : ∃ z : Nat, y = enc1 z := by
      unfold encI at hj
      rw [List.getElem?_map] at hj
      cases h4 : ys[j]? with
      | none => rw [h4] at hj; cases hj
      | some z => rw [h4] at hj; exact ⟨z, by simpa using hj.symm⟩
    obtain ⟨z, rfl⟩ := h3
    rw [cell_of_row w b (off + j) _ 43 (0, 0) hb] at h1
    rcases Nat.eq_zero_or_pos (off + j) with h0 | h0
    · rw [h0] at h1; simp [enc1] at h1
    · rw [Array.getElem?_eq_none (by simp; omega)] at h1; cases h1
  · rw [← h1]
    unfold World.cell?
    rw [heap_setCell_other w ⟨bw, 0, none⟩ b x e]
set_option maxRecDepth 100000 in
set_option maxHeartbeats 4000000 in
theorem told_src (bo bk bw i : Nat) (u : Value) (xs : List Nat) (W : World) (ho : Boxed W bo 4 (.bool true)) (hk : Boxed W bk 3 (.int .i64 (i : Int))) (hw : Boxed W bw 43 u) (hro : SrcV W u (encI xs)) (hi : i < xs.length) (hl : xs.length ≤ 64) (h1 : bo ≠ bk) :
    Calls Try.prog 23 #[.int .i64 (xs.getD i 0 : Nat), .pointer (some ⟨bo, 0, none⟩), .pointer (some ⟨bk, 0, none⟩), .pointer (some ⟨bw, 0, none⟩)] W
      fun e W' => e = .returned (.bool true) ∧ W' = (W.setCell ⟨bo, 0, none⟩ (.bool true)).setCell ⟨bk, 0, none⟩ (.int .i64 ((i : Int) + 1)) := by
  obtain ⟨a, c, rfl, h2⟩ := hro
  obtain ⟨b, off, rfl, _, hc⟩ := h2 (by intro e; have := congrArg List.length e; rw [encI_len, List.length_nil] at this; omega)
  have hx := hc i _ (encI_get hi)
  rw [encI_len] at hw
  have co := ho.cell
  have fo := ho.frozen
  have ck := hk.cell
  have fk' := hk.frozen
  have cw := hw.cell
  have hk1 := hk.other (B' := bo) (fun e => h1 e.symm) (.bool true)
  have ck1 := hk1.cell
  have fk1 := hk1.frozen
  have co2 := ((ho.set (.bool true)).other (B' := bk) h1 (.int .i64 ((i : Int) + 1))).cell
  clear ho hk hw hc h2 hk1
  generalize xs.getD i 0 = x at *
  go_enter Try.func23, Try.ntmps23
  go_wp2_with fail
  go_ret
  exact ⟨rfl, rfl⟩
set_option maxRecDepth 100000 in
set_option maxHeartbeats 4000000 in
theorem order_any (v : Value) (xs : List Bool) (m : Nat) (w : World) (hx : RowB w v xs) (hm : m < 256) :
    Calls Try.prog 6 #[v, .int .u8 (m : Int)] w fun e w' => e = .returned (.bool true) ∧ Below w.heap.size w w' := by
  obtain ⟨a1, c1, rfl⟩ := hx.sl
  have HX := Lib.hid hx
  clear hx
  have hB := Below.refl w.heap.size w
  by_cases hl0 : xs.length = 0
  · have h0 : ((xs.length : Int) == 0) = true := beq_tt (by omega)
    rw [hl0] at *
    go_enter Try.func6, Try.ntmps6
    go_wp2_with fail
    refine (awake_any _).mono ?_
    rintro e w1 ⟨rfl, hb⟩
    replace hB := hB.trans (hb.mono hB.size)
    clear hb
    go_wp2_with fail
    refine (awake_any _).mono ?_
    rintro e w2 ⟨rfl, hb⟩
    replace hB := hB.trans (hb.mono hB.size)
    clear hb
    go_wp2_with fail
    go_ret
    exact ⟨rfl, hB⟩
  · by_cases hlen : 40 < xs.length
    · have h0 : ((xs.length : Int) == 0) = false := beq_ff (by omega)
      have h1 : (40 : Int) < (xs.length : Int) := by omega
      clear hlen hl0
      go_enter Try.func6, Try.ntmps6
      go_wp2_with fail
      refine (awake_any _).mono ?_
      rintro e w1 ⟨rfl, hb⟩
      replace hB := hB.trans (hb.mono hB.size)
      clear hb
      go_wp2_with fail
      refine (awake_any _).mono ?_
      rintro e w2 ⟨rfl, hb⟩
      replace hB := hB.trans (hb.mono hB.size)
      clear hb
      go_wp2_with fail
      go_ret
      exact ⟨rfl, hB⟩
    · have h0 : ((xs.length : Int) == 0) = false := beq_ff (by omega)
      have h1 : ¬ (40 : Int) < (xs.length : Int) := by omega
      go_enter Try.func6, Try.ntmps6
      go_wp2_with fail
      refine (awake_any _).mono ?_
      rintro e w1 ⟨rfl, hb⟩
      replace hB := hB.trans (hb.mono hB.size)
      clear hb
      go_wp2_with fail
      refine (show Calls Try.prog 8 #[.int .i64 64, .int .i64 2] _ _ from New_ring 64 2 _ (by omega) (by omega) (by omega) (by omega)).mono ?_
      rintro e w2 ⟨⟨p, g, c, rfl, hP, hp, hg⟩, hb⟩
      have hs1 := hB.size
      replace hB := hB.trans (hb.mono hB.size)
      have hs2 := hB.size
      have hpl := hP.ltp
      have hgl := hP.ltg
      have hbw := Boxed.new w2 43 (.slice none 0 0)
      replace hB := hB.alloc hB.size (.cells #[.slice none 0 0] 43)
      replace hP := hP.alloc (.cells #[.slice none 0 0] 43)
      have hro : RowO (w2.alloc (.cells #[.slice none 0 0] 43)) (w2.heap.size + 1) (.slice none 0 0) [] := RowV.nil _ _ _
      go_wp2_with fail
      generalize w2.alloc (.cells #[.slice none 0 0] 43) = w3 at *
      have hgw : w.heap.size ≤ g := by omega
      have hpw : w.heap.size ≤ p := by omega
      generalize w2.heap.size = bw at *
      have HP0 : Hid (Ring w3 p g c 64 [[], []]) := Lib.hid hP
      have HBW := Lib.hid hbw
      have HRO := Lib.hid hro
      have HB := Lib.hid hB
      clear hP hbw hro hB hb hs1
      go_loopw [38] (fun i wr => ∃ (k : Nat) (ys : List Nat) (a : Option Addr) (c9 : Nat), k ≤ xs.length ∧ i = .int .i64 k ∧ Hid (ys.length = k ∧ ∀ y, y ∈ ys → y < k) ∧ Hid (Ring wr p g c 64 [[], ys]) ∧ Hid (Boxed wr bw 43 (.slice a ys.length c9)) ∧ Hid (RowO wr (bw + 1) (.slice a ys.length c9) ys) ∧ Hid (Below w.heap.size w wr)) (fun i _ => xs.length - (intOf i).toNat)
      case atStart => exact ⟨0, [], none, 0, by omega, rfl, Lib.hid ⟨rfl, fun y hy => by simp at hy⟩, HP0, HBW, HRO, HB⟩
      case round =>
        clear HP0 HBW HRO HB
        obtain ⟨k, ys, a, c9, hk, rfl, HL, HR, HBW, HRO, HB⟩ := hrel
        have hr := HR.out
        have hbw := HBW.out
        have hro := HRO.out
        have hBB := HB.out
        have hgl := hr.ltg
        have hbl := hbw.lt
        by_cases hlt : k < xs.length
        · obtain ⟨bx, off, rfl, hx0⟩ := (HX.out.below HB.out).at hlt
          have hnk : ¬ k ∈ ys := fun h => by have := HL.out.2 k h; omega
          have HP := Lib.hid (show _ ∧ _ ∧ _ from ⟨two_push hnk (by omega), two_last hnk (by omega), two_first hnk (by omega)⟩)
          have hyl : ys.length ≤ 40 := by have := HL.out.1; omega
          generalize xs.getD k false = bb at *
          clear hnk HR HBW HRO HB
          cases bb with
          | true =>
            go_wp2_with (first | (go_at_call 20; refine (Lead_any hr 1 (k : Int)).mono ?_; rw [HP.out.1, HP.out.2.2]; rintro e w2 ⟨rfl, hr2, ho2⟩; have hb2 := ho2.below (B := g) (Nat.le_of_lt hgl) (Nat.le_refl _); have hbw2 : Boxed w2 bw 43 (.slice a ys.length c9) := (ho2.block bw hbl (by omega)).trans hbw; obtain ⟨cur, hcur, -⟩ := hr.mem.choose_spec.1.row; have hro2 : RowO w2 (bw + 1) (.slice a ys.length c9) ys := hro.only ho2 hcur (by decide); have hB2 : Below w.heap.size w w2 := hBB.trans (ho2.below hBB.size hgw); have hs2 := ho2.size; have hcw0 := hbw2.cell; have hcw := (hbw2.alloc (.cells #[.int .i64 (k : Int)] 3)).cell; have hL := RowO.lit w2 (bw + 1) k (by omega); have hroA := hro2.alloc (.cells #[.int .i64 (k : Int)] 3); clear ho2 hcur hb2) | (at_builtin; refine wpList_appendI rfl _ _ rfl (bw + 1) _ _ [k] ys rfl rfl (by simp; omega) hL hroA.src (by simp; omega) ?_; intro v5 w5 h5 g5; have hb5 := grown_below hL (by simp; omega) g5; have hbA : Below w2.heap.size w2 (w2.alloc (.cells #[.int .i64 (k : Int)] 3)) := (Below.refl _ w2).alloc (Nat.le_refl _) _; have hbw5 : Boxed w5 bw 43 (.slice a ys.length c9) := (hb5.block bw (by omega)).trans ((hbA.block bw (by omega)).trans hbw2); have hr5 := (hr2.belowS hbA).below hb5 (by omega) (by omega); have hB5 : Below w.heap.size w w5 := (hB2.trans (hbA.mono (by omega))).trans (hb5.mono (by omega)); obtain ⟨a5, c5, rfl⟩ := h5.sl; rw [encI_len] at *; have hc5 := hbw5.cell; have hf5 := hbw5.frozen; have hbw6 := hbw5.set (.slice a5 ([k] ++ ys).length c5); have t6 := Turn.setCell w5 bw 0 (.slice a5 ([k] ++ ys).length c5); have h6 := h5.turn t6 hbw5 (by decide); have hr6 := hr5.turn t6 (by omega) (by omega); have hB6 : Below w.heap.size w _ := hB5.trans (t6.below (by omega))))
            refine ⟨⟨k + 1, [k] ++ ys, a5, c5, by omega, by go_num, ?_, Lib.hid hr6, Lib.hid hbw6, Lib.hid h6, Lib.hid hB6⟩, by simp [intOf]; omega⟩
            exact Lib.hid ⟨by simp [HL.out.1], fun y hy => by
              rcases List.mem_append.1 hy with hy | hy
              · have := List.mem_singleton.1 hy; omega
              · have := HL.out.2 y hy; omega⟩
          | false =>
            go_wp2_with (first | (go_at_call 21; refine (Push_any hr 1 (k : Int)).mono ?_; rw [HP.out.1, HP.out.2.1]; rintro e w2 ⟨rfl, hr2, ho2⟩; have hb2 := ho2.below (B := g) (Nat.le_of_lt hgl) (Nat.le_refl _); have hbw2 : Boxed w2 bw 43 (.slice a ys.length c9) := (ho2.block bw hbl (by omega)).trans hbw; obtain ⟨cur, hcur, -⟩ := hr.mem.choose_spec.1.row; have hro2 : RowO w2 (bw + 1) (.slice a ys.length c9) ys := hro.only ho2 hcur (by decide); have hB2 : Below w.heap.size w w2 := hBB.trans (ho2.below hBB.size hgw); have hs2 := ho2.size; have hcw0 := hbw2.cell; have hcw := (hbw2.alloc (.cells #[.int .i64 (k : Int)] 3)).cell; have hL := RowO.lit w2 (bw + 1) k (by omega); have hroA := hro2.alloc (.cells #[.int .i64 (k : Int)] 3); clear ho2 hcur hb2) | (at_builtin; refine wpList_appendI rfl _ _ rfl (bw + 1) _ _ ys [k] rfl rfl (by simp; omega) hroA hL.src (by simp; omega) ?_; intro v5 w5 h5 g5; have hb5 := grown_below hroA (by simp; omega) g5; have hbA : Below w2.heap.size w2 (w2.alloc (.cells #[.int .i64 (k : Int)] 3)) := (Below.refl _ w2).alloc (Nat.le_refl _) _; have hbw5 : Boxed w5 bw 43 (.slice a ys.length c9) := (hb5.block bw (by omega)).trans ((hbA.block bw (by omega)).trans hbw2); have hr5 := (hr2.belowS hbA).below hb5 (by omega) (by omega); have hB5 : Below w.heap.size w w5 := (hB2.trans (hbA.mono (by omega))).trans (hb5.mono (by omega)); obtain ⟨a5, c5, rfl⟩ := h5.sl; rw [encI_len] at *; have hc5 := hbw5.cell; have hf5 := hbw5.frozen; have hbw6 := hbw5.set (.slice a5 (ys ++ [k]).length c5); have t6 := Turn.setCell w5 bw 0 (.slice a5 (ys ++ [k]).length c5); have h6 := h5.turn t6 hbw5 (by decide); have hr6 := hr5.turn t6 (by omega) (by omega); have hB6 : Below w.heap.size w _ := hB5.trans (t6.below (by omega))))
            rw [show ys.length + 1 = (ys ++ [k]).length by simp]
            refine ⟨⟨k + 1, ys ++ [k], a5, c5, by omega, by go_num, ?_, Lib.hid hr6, Lib.hid hbw6, Lib.hid h6, Lib.hid hB6⟩, by simp [intOf]; omega⟩
            exact Lib.hid ⟨by simp [HL.out.1], fun y hy => by
              rcases List.mem_append.1 hy with hy | hy
              · have := HL.out.2 y hy; omega
              · have := List.mem_singleton.1 hy; omega⟩
        · obtain rfl : k = xs.length := by omega
          obtain ⟨n, hn9⟩ : ∃ n, n = xs.length := ⟨_, rfl⟩
          have hyn : ys.length = n := by rw [HL.out.1]; exact hn9.symm
          have hn0 : 0 < n := by omega
          have hn40 : n ≤ 40 := by omega
          obtain ⟨kk, hkk⟩ : ∃ kk, kk = m % n := ⟨_, rfl⟩
          have hkn : kk < n := by rw [hkk]; exact Nat.mod_lt _ hn0
          have hE : (m : Int).tmod (n : Int) = (kk : Int) := by rw [hkk, Int.tmod_eq_emod_of_nonneg (by omega)]; rfl
          have hW : IntKind.i64.wrap (m : Int) = (m : Int) := IntWalk.i64_in _ (by omega)
          have hn1 : ¬ (n : Int) = 0 := by omega
          obtain ⟨b, hab, hx0⟩ := RowV.atI hro (j := kk) (by omega)
          subst hab
          have hok := hr.ok
          have HY := Lib.hid (two_drop hok (i := kk) (by omega))
          have HG := Lib.hid (two_gone hok (i := kk) (by omega))
          have hylt := hok.lt _ _ _ (two_at (xs := ys) (i := kk) (by omega))
          obtain ⟨y, hy9⟩ : ∃ y, y = ys.getD kk 0 := ⟨_, rfl⟩
          rw [← hy9] at HY HG hylt hx0
          have HPU := Lib.hid (two_put HG.out hylt)
          have HLI := Lib.hid (two_list (ys.take kk ++ ys.drop (kk + 1)) y)
          obtain ⟨zs, hzs⟩ : ∃ zs, zs = ys.take kk ++ ys.drop (kk + 1) := ⟨_, rfl⟩
          have HZS := Lib.hid hzs
          have HZL : Hid (zs.length + 1 = n) := Lib.hid (by rw [hzs, List.length_append, List.length_take, List.length_drop]; omega)
          rw [← hzs] at HY HG HPU HLI
          rw [hyn] at *
          have HYN : Hid (ys.length = n) := Lib.hid (by rw [HL.out.1]; exact hn9.symm)
          have hcw := hbw.cell
          obtain ⟨cur, hcur, -⟩ := hr.mem.choose_spec.1.row
          have HBN : Hid (b ≠ g) := Lib.hid (by
            rintro rfl
            rcases hro.2 with ⟨e, _⟩ | ⟨g9, cap, cu, e, _, hg9, _⟩
            · cases e
            · injection e with e1 e2 e3
              injection e1 with e1
              injection e1 with e1
              subst e1
              exact ne_type hcur (by decide) hg9 rfl)
          have hne := HBN.out
          have hbg : bw ≠ g := by omega
          have hbbl := block_lt_of_cell hx0
          have HRW : Hid (∀ w' : World, Only g wr w' → RowO w' (bw + 1) (.slice (some ⟨b, 0, none⟩) n c9) ys) := Lib.hid (fun w' h => hro.only h hcur (by decide))
          have hnc : n ≤ c9 := by
            obtain ⟨_, _, e, h1, _⟩ := hro.cap
            rw [encI_len] at h1
            injection e with _ e2 e3
            have := HYN.out
            omega
          rw [← hn9] at *
          clear hkk hy9 hzs hro hok HR HBW HRO HB hcur hylt hn9
          go_wp2_with (first | (go_at_call 22; refine (Drop_any hr (y : Int)).mono ?_; rw [HY.out.1, HY.out.2]; rintro e w4 ⟨rfl, hr4, ho4⟩; replace hbw := (ho4.block bw hbl hbg).trans hbw; have hcw4 := Boxed.cell (show Boxed w4 bw 43 _ from hbw); have hx4 : w4.cell? ⟨b, kk, none⟩ = some (.int .i64 (y : Int)) := by { rw [← hx0]; unfold World.cell?; rw [ho4.block b hbbl hne] }; have HO4 := Lib.hid ho4; replace hBB := hBB.trans (ho4.below hBB.size hgw); have hs4 := ho4.size; clear ho4) | (go_at_call 21; refine (Push_any hr4 0 (y : Int)).mono ?_; rw [HPU.out.1, HPU.out.2]; rintro e w5 ⟨rfl, hr5, ho5⟩; replace hbw := (ho5.block bw (by omega) hbg).trans hbw; have hcw5 := Boxed.cell (show Boxed w5 bw 43 _ from hbw); have hx5 : w5.cell? ⟨b, kk, none⟩ = some (.int .i64 (y : Int)) := by { rw [← hx4]; unfold World.cell?; rw [ho5.block b (by omega) hne] }; have HO5 := Lib.hid (HO4.out.trans ho5); replace hBB := hBB.trans (ho5.below hBB.size hgw); have hs5 := ho5.size; clear ho5) | (go_at_call 16; refine (List_any hr5 (y : Int)).mono ?_; rw [HLI.out]; rintro e w6 ⟨rfl, s6⟩; have hr6 := hr5.sm s6; replace hbw := Boxed.sm (show Boxed w5 bw 43 _ from hbw) s6; have HO6 := Lib.hid (HO5.out.trans (s6.only g)); replace hBB := hBB.trans (s6.below _); have hs6 := s6.size; clear s6))
          clear hcw hcw4 hcw5 hx0 hx4 hx5 HO4 HO5 HY HPU HLI
          have hro6 := HRW.out _ HO6.out
          obtain ⟨j, hj9⟩ : ∃ j, j = kk + 1 := ⟨_, rfl⟩
          have HJ : Hid ((kk : Int) + 1 = (j : Int)) := Lib.hid (by omega)
          have hjn : j ≤ n := by omega
          obtain ⟨VT, hvt⟩ : ∃ VT : Value, VT = .slice (if c9 = j then some ⟨b, 0, none⟩ else (some (⟨b, 0, none⟩ : Addr)).map fun p => p.add j) (n - j) (c9 - j) := ⟨_, rfl⟩
          have HV := Lib.hid hvt
          have HV2 : Hid (VT = .slice (if c9 = kk + 1 then some ⟨b, 0, none⟩ else (some (⟨b, 0, none⟩ : Addr)).map fun p => p.add (kk + 1)) (n - (kk + 1)) (c9 - (kk + 1))) := Lib.hid (by rw [← hj9]; exact hvt)
          have HJ9 := Lib.hid hj9
          have hbw7 := Boxed.sm hbw (Same.drew w6)
          have hr7 := hr6.sm (Same.drew w6)
          have hro7 := hro6.below ((Same.drew w6).below _)
          have hB7 := hBB.trans ((Same.drew w6).below _)
          have hbl7 : bw < w6.drew.heap.size := by rw [(Same.drew w6).size]; omega
          clear hvt hj9 hyn HO6 HRW
          refine Rd.regionK (fun X => X.cell? ⟨bw, 0, none⟩ = some (.slice (some ⟨b, 0, none⟩) n c9)) 9 [1, 2, 3, 5, 6, 7] [0, 4] [0, 1, 2, 3, 4, 5, 6, 7, 8, 9] (by kernel_rfl) (by kernel_rfl) (by kernel_rfl) (by kernel_rfl) rfl hbw7.cell ?_
          clear hbw hr6 hro6 hBB
          generalize w6.drew = w7 at *
          refine Rd.seqK_float (.slice (some ⟨b, 0, none⟩) n c9) (by simp only [List.getElem?_toArray, List.getElem?_cons_zero]; rfl) rfl rfl (by rfl) (fun X hX => by have e1 := hX; go_simp) ?_
          simp only [Act.put, List.setIfInBounds_toArray, List.set_cons_succ, List.set_cons_zero]
          refine Rd.seqK_plain (.int .i64 (kk : Int)) (by simp only [List.getElem?_toArray, List.getElem?_cons_succ, List.getElem?_cons_zero]; rfl) rfl (by rfl) (fun X => by go_simp) ?_
          simp only [Act.put, List.setIfInBounds_toArray, List.set_cons_succ, List.set_cons_zero]
          refine Rd.seqK_plain (.int .i64 (kk : Int)) (by simp only [List.getElem?_toArray, List.getElem?_cons_succ, List.getElem?_cons_zero]; rfl) rfl (by rfl) (fun X => by go_simp) ?_
          simp only [Act.put, List.setIfInBounds_toArray, List.set_cons_succ, List.set_cons_zero]
          refine Rd.seqK_plain (.slice (some ⟨b, 0, none⟩) kk kk) (by simp only [List.getElem?_toArray, List.getElem?_cons_succ, List.getElem?_cons_zero]; rfl) rfl (by rfl) (fun X => by go_simp; intro hx; omega) ?_
          simp only [Act.put, List.setIfInBounds_toArray, List.set_cons_succ, List.set_cons_zero]
          refine Rd.seqK_float (.slice (some ⟨b, 0, none⟩) n c9) (by simp only [List.getElem?_toArray, List.getElem?_cons_succ, List.getElem?_cons_zero]; rfl) rfl rfl (by rfl) (fun X hX => by have e1 := hX; go_simp) ?_
          simp only [Act.put, List.setIfInBounds_toArray, List.set_cons_succ, List.set_cons_zero]
          refine Rd.seqK_plain (.int .i64 (kk : Int)) (by simp only [List.getElem?_toArray, List.getElem?_cons_succ, List.getElem?_cons_zero]; rfl) rfl (by rfl) (fun X => by go_simp) ?_
          simp only [Act.put, List.setIfInBounds_toArray, List.set_cons_succ, List.set_cons_zero]
          refine Rd.seqK_plain (.int .i64 (j : Int)) (by simp only [List.getElem?_toArray, List.getElem?_cons_succ, List.getElem?_cons_zero]; rfl) rfl (by rfl) (fun X => by have e := HJ.out; go_simp; exact IntWalk.i64_in _ (by omega)) ?_
          simp only [Act.put, List.setIfInBounds_toArray, List.set_cons_succ, List.set_cons_zero]
          refine Rd.seqK_plain (VT) (by simp only [List.getElem?_toArray, List.getElem?_cons_succ, List.getElem?_cons_zero]; rfl) rfl (by rfl) (fun X => by rw [HV.out]; (by_cases hcj : c9 = j <;> go_simp)) ?_
          simp only [Act.put, List.setIfInBounds_toArray, List.set_cons_succ, List.set_cons_zero]
          refine Rd.seqK_move (by simp only [List.getElem?_toArray, List.getElem?_cons_succ, List.getElem?_cons_zero]; rfl) rfl rfl (by rfl) (fun K hK => ?_)
          refine wp_cut _ _ rfl (bw + 1) b n c9 kk ys VT rfl rfl hro7 HYN.out.symm (by omega) hkn HV2.out ?_
          intro v8 w8 hsv hb8
          have hbw8 := Boxed.belowS hbw7 hb8
          have hr8 := hr7.belowS hb8
          have hB8 := hB7.trans (hb8.mono hB7.size)
          obtain ⟨a8, c8, rfl, hsv2⟩ := id hsv
          have hc8 := hbw8.cell
          have hf8 := hbw8.frozen
          have hs8 := hb8.size
          refine hK _ _ (fun _ => hbw8.cell) ?_
          clear hK K
          refine Rd.seqK_move (by simp only [List.getElem?_toArray, List.getElem?_cons_succ, List.getElem?_cons_zero]; rfl) rfl rfl (by rfl) (fun K hK => ?_)
          go_simp
          refine hK _ _ (fun h => absurd h (by decide)) ?_
          refine Rd.seqK_end ?_
          have hsv9 := hsv.box (x := .slice a8 (encI (ys.take kk ++ ys.drop (kk + 1))).length c8) hbw8
          have hbw9 := hbw8.set (.slice a8 (encI (ys.take kk ++ ys.drop (kk + 1))).length c8)
          have t9 := Turn.setCell w8 bw 0 (.slice a8 (encI (ys.take kk ++ ys.drop (kk + 1))).length c8)
          have hr9 := hr8.turn t9 (by omega) (by omega)
          have hB9 := hB8.trans (t9.below (by omega))
          have hs9 := Nat.le_of_eq t9.size.symm
          clear hsv hsv2 hbw8 hr8 hB8 hc8 hf8 hbw7 hr7 hro7 hB7 t9 hb8
          rw [← HZS.out] at *
          generalize hUE : (.slice a8 (encI zs).length c8 : Value) = U8 at *
          have HUE := Lib.hid hUE
          clear hUE
          generalize w8.setCell ⟨bw, 0, none⟩ U8 = w10 at *
          have hk0 := (Boxed.new w10 3 (.int .i64 0)).alloc (.cells #[.bool true] 4)
          have ho0 := Boxed.new (w10.alloc (.cells #[.int .i64 0] 3)) 4 (.bool true)
          rw [World.size_alloc] at ho0
          have hb11 : Below w10.heap.size w10 ((w10.alloc (.cells #[.int .i64 0] 3)).alloc (.cells #[.bool true] 4)) := ((Below.refl _ w10).alloc (Nat.le_refl _) _).alloc (by simp) _
          have hsz11 : ((w10.alloc (.cells #[.int .i64 0] 3)).alloc (.cells #[.bool true] 4)).heap.size = w10.heap.size + 2 := by simp
          go_wp2_with fail
          generalize ((w10.alloc (.cells #[.int .i64 0] 3)).alloc (.cells #[.bool true] 4)) = w11 at *
          refine (Nodes_any p 1 w11).mono ?_
          rw [hsz11]
          rintro e w12 ⟨rfl, rfl⟩
          have h91 := (Boxed.new w11 24 (.pointer (some ⟨p, 0, none⟩))).alloc (.cells #[.int .i64 1] 3)
          have h92 := Boxed.new (w11.alloc (.cells #[.pointer (some ⟨p, 0, none⟩)] 24)) 3 (.int .i64 1)
          rw [World.size_alloc] at h92
          rw [hsz11] at h91 h92
          have hb12 : Below w10.heap.size w10 ((w11.alloc (.cells #[.pointer (some ⟨p, 0, none⟩)] 24)).alloc (.cells #[.int .i64 1] 3)) := (hb11.alloc (by omega) _).alloc (by simp; omega) _
          have hk9 := (hk0.alloc (.cells #[.pointer (some ⟨p, 0, none⟩)] 24)).alloc (.cells #[.int .i64 1] 3)
          have ho9 := (ho0.alloc (.cells #[.pointer (some ⟨p, 0, none⟩)] 24)).alloc (.cells #[.int .i64 1] 3)
          generalize ((w11.alloc (.cells #[.pointer (some ⟨p, 0, none⟩)] 24)).alloc (.cells #[.int .i64 1] 3)) = w12 at *
          clear hb11 hsz11 hk0 ho0
          have hbl10 := hbw9.lt
          have HR9 := Lib.hid hr9
          have HSV := Lib.hid hsv9
          have HBW := Lib.hid hbw9
          have hri : rowI [[y], zs] 1 = zs := by simp [rowI, row]
          have E := each_23 p g c 64 (w10.heap.size + 2) (w10.heap.size + 2 + 1) 1 [[y], zs] (.pointer (some ⟨w10.heap.size + 1, 0, none⟩)) (.pointer (some ⟨w10.heap.size, 0, none⟩)) (.pointer (some ⟨bw, 0, none⟩))
            (fun i W => Boxed W w10.heap.size 3 (.int .i64 (i : Int)) ∧ Boxed W (w10.heap.size + 1) 4 (.bool true) ∧ Boxed W (w10.heap.size + 2) 24 (.pointer (some ⟨p, 0, none⟩)) ∧ Boxed W (w10.heap.size + 2 + 1) 3 (.int .i64 1) ∧ Below w10.heap.size w10 W) (fun _ _ => False) hr9.ok
            (fun i W h => ⟨HR9.out.belowS h.2.2.2.2, h.2.2.1.cell, h.2.2.2.1.cell⟩)
            (fun i W W' h s => ⟨Boxed.sm h.1 s, Boxed.sm h.2.1 s, Boxed.sm h.2.2.1 s, Boxed.sm h.2.2.2.1 s, h.2.2.2.2.trans (s.below _)⟩)
            (fun i W hi h => by
              rw [hri] at hi ⊢
              refine (told_src (w10.heap.size + 1) w10.heap.size bw i _ zs W h.2.1 h.1 (Boxed.belowS HBW.out h.2.2.2.2) (HSV.out.below h.2.2.2.2) hi (by have := HZL.out; omega) (by omega)).mono ?_
              rintro e W' ⟨rfl, rfl⟩
              refine .inl ⟨rfl, ?_, (h.2.1.set (.bool true)).other (by omega) _, (h.2.2.1.other (by omega) _).other (by omega) _, (h.2.2.2.1.other (by omega) _).other (by omega) _, (h.2.2.2.2.trans ((Turn.setCell _ _ _ _).below (by omega))).trans ((Turn.setCell _ _ _ _).below (Nat.le_refl _))⟩
              have := (h.1.other (B' := w10.heap.size + 1) (by omega) (.bool true)).set (.int .i64 ((i : Int) + 1))
              rw [show ((i + 1 : Nat) : Int) = (i : Int) + 1 by omega]
              exact this)
            w12 ⟨hk9, ho9, h91, h92, hb12⟩
          rw [hri] at E
          have HE := Lib.hid E
          clear E hk9 ho9 h91 h92 hb12 hri
          go_wp2_with fail
          refine HE.out.mono ?_
          rintro e w13 ⟨⟨vv, rfl⟩, (⟨hk13, ho13, -, -, hb13⟩ | ⟨_, _, hF⟩)⟩
          case inr => exact hF.elim
          have hbw13 := Boxed.belowS HBW.out hb13
          rw [← HUE.out, encI_len] at hbw13
          have hr13 := HR9.out.belowS hb13
          have hB13 := hB9.trans (hb13.mono hB9.size)
          have ck13 := hk13.cell
          have co13 := ho13.cell
          have cw13 := hbw13.cell
          have HL0 : Hid (((rowI [[y], zs] 0).length : Int) = 1) := Lib.hid (by simp [rowI, row])
          clear HE hb13 hk13 ho13 hbw13 HR9 HSV HBW hr9 hsv9 hbw9
          go_wp2_with (go_at_call 19; refine (Len_any p g c 64 0 [[y], zs] _ hr13).mono ?_; rw [HL0.out]; rintro e w14 ⟨rfl, hb14⟩; replace hB13 := hB13.trans (hb14.mono hB13.size))
          go_ret
          exact ⟨rfl, hB13⟩
end Go.Proofs.Ytglnjpbjlcbgoaa
