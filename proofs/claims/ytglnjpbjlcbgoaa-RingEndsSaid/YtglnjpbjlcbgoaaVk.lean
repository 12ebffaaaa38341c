/-
  The document's wrong, with; heads and tails of rows. Condition: no node is in two places.
-/
import Derived.Test.YtglnjpbjlcbgoaaVj
namespace Go.Proofs.Ytglnjpbjlcbgoaa
open Go.RowKit

theorem grown_below {w w' : World} {B e : Nat} {v : Value} {xs : List Value} (h : RowV w B e v xs) (hB : B ≤ w.heap.size) (hg : w.grownBy w' v.ownBlock) : Below B w w' :=
  (Below.refl B w).grown hg hB fun k hk => by
    rcases h.2 with ⟨rfl, _⟩ | ⟨g, cap, cur, rfl, hb, _⟩
    · cases hk
    · cases hk; exact hb
theorem RowV.grown {w w' : World} {B e : Nat} {v : Value} {xs : List Value} {r : Option Nat} (h : RowV w B e v xs) (hg : w.grownBy w' r) (hne : ∀ k, v.ownBlock = some k → some k ≠ r) : RowV w' B e v xs := by
  refine ⟨h.1, ?_⟩
  rcases h.2 with ⟨rfl, h1⟩ | ⟨g, cap, cur, rfl, hbg, hg', h3⟩
  · exact .inl ⟨rfl, h1⟩
  · exact .inr ⟨g, cap, cur, rfl, hbg, (hg.block g (Array.getElem?_eq_some_iff.1 hg').1 (hne g rfl)).trans hg', h3⟩
theorem RowO.form {w : World} {B j : Nat} {ao : Option Addr} {co : Nat} {L : List Nat} (h : RowO w B (.slice ao L.length co) L) (hj : j ≤ L.length) : (ao = none ∧ co = 0 ∧ L.length = 0 ∧ j = 0) ∨ ((∃ g, ao = some ⟨g, 0, none⟩) ∧ j ≤ co ∧ L.length ≤ co ∧ j ≤ L.length) := by
  have hl := encI_len L
  rcases h.2 with ⟨h0, h1⟩ | ⟨g, cap, cur, e, _, _, h3, _⟩
  · injection h0 with e1 e2 e3
    exact .inl ⟨e1, e3, by omega, by omega⟩
  · injection e with e1 e2 e3
    exact .inr ⟨⟨g, e1⟩, by omega, by omega, hj⟩
theorem head_src {w : World} {B j : Nat} {ao : Option Addr} {co : Nat} {L : List Nat} (h : RowO w B (.slice ao L.length co) L) (hj : j ≤ L.length) : SrcV w (.slice ao j co) (encI (L.take j)) := by
  refine ⟨ao, co, by rw [encI_len, List.length_take, Nat.min_eq_left hj], fun hne => ?_⟩
  have hjp : 0 < j := by
    rcases Nat.eq_zero_or_pos j with h0 | h0
    · subst h0; simp [encI] at hne
    · exact h0
  obtain ⟨g, rfl, _, hg, _⟩ := h.at (j := 0) (by rw [encI_len]; omega)
  refine ⟨g, 0, rfl, hg, fun t y ht => ?_⟩
  have htj : t < j := by
    have := (List.getElem?_eq_some_iff.1 ht).1
    rw [encI_len, List.length_take] at this
    omega
  obtain ⟨g', e, _, _, hc, _⟩ := h.at (j := t) (by rw [encI_len]; omega)
  cases e
  rw [Nat.zero_add, hc, ← ht]
  unfold encI
  rw [List.getElem?_map, List.getElem?_map, List.getElem?_take_of_lt htj]
theorem tail_src {w : World} {B j : Nat} {ao : Option Addr} {co : Nat} {L : List Nat} (h : RowO w B (.slice ao L.length co) L) (hj : j ≤ L.length) : SrcV w (.slice (if co = j then ao else ao.map fun p => p.add j) (L.length - j) (co - j)) (encI (L.drop j)) := by
  have hlc : L.length ≤ co := by
    obtain ⟨a, c, e, h1, _⟩ := h.cap
    rw [encI_len] at e h1
    cases e
    exact h1
  refine ⟨_, _, by rw [encI_len, List.length_drop], fun hne => ?_⟩
  have hjp : j < L.length := by
    have := List.length_pos_iff.2 hne
    rw [encI_len, List.length_drop] at this
    omega
  obtain ⟨g, rfl, _, hg, _⟩ := h.at (j := 0) (by rw [encI_len]; omega)
  refine ⟨g, j, ?_, hg, fun t y ht => ?_⟩
  · rw [if_neg (by omega)]
    simp [Addr.add]
    exact fun h => h.symm
  · have htj : j + t < L.length := by
      have := (List.getElem?_eq_some_iff.1 ht).1
      rw [encI_len, List.length_drop] at this
      omega
    obtain ⟨g', e, _, _, hc, _⟩ := h.at (j := j + t) (by rw [encI_len]; omega)
    cases e
    rw [hc, ← ht]
    unfold encI
    rw [List.getElem?_map, List.getElem?_map, List.getElem?_drop]
theorem run_load30 {o : Oper} {a : Act} {X : World} {x : Operand} {b : Nat} {m : Int} {v : Value} (ho : o.op = .load 30 x) (hx : a.eval x = .pointer (some ⟨b, 0, none⟩)) (hw : IsT X b m v) : (execOp a.eval o).run Try.prog X = .ok (.value (.agg #[.int .i64 m, v])) X := by
  unfold execOp
  simp only [ho, hx, Instr.loadAt, Instr.sureAddr, Sem.run_bind, Sem.run_pure, Result.andThen_ok, run_loadVar_row X b 30 30 _ (0, 0) _ hw Try.underlying30 rfl Try.info30]
/-- the document's ring set as a value. -/
def RV (w : World) (B : Nat) (N : Nat) (v : Value) (ls : List (List Nat)) : Prop := ∃ dv, v = .agg #[.int .i64 (N : Int), dv] ∧ Doc w B dv ls
theorem Doc.one {w : World} {B : Nat} {dv : Value} {ls : List (List Nat)} (h : Doc w B dv ls) : dv.oneCell' = true := by
  obtain ⟨a, c, rfl⟩ := h.sl; rfl
set_option maxRecDepth 100000 in
set_option maxHeartbeats 4000000 in
theorem wrong_any (B N : Nat) (dv : Value) (ls : List (List Nat)) (n : Int) (b : Bool) (w : World) (h : Doc w B dv ls) (ok : OkL N ls) :
    Calls Try.prog 37 #[.agg #[.int .i64 (N : Int), dv], .int .i64 n, .bool b] w fun e w' => e = .returned (.int .i64 (wrongI N ls n b)) ∧ Below w.heap.size w w' := by
  have hb : Below w.heap.size w (w.alloc (.cells #[.int .i64 (N : Int), dv] 30)) := (Below.refl _ w).alloc (Nat.le_refl _) _
  have hx := IsT.new w (N : Int) dv
  have h0 := hx.c0
  by_cases h1 : 0 ≤ n
  · by_cases h2 : n < N
    · have HI : Hid (wrongI N ls n b = if hasB ls n = b then 0 else 10) := Lib.hid (by simp [wrongI, inN, h1, h2])
      have HF := Lib.hid (Find_any B N dv ls n (w.alloc (.cells #[.int .i64 (N : Int), dv] 30)) (h.alloc _) ok)
      rw [HI.out]
      clear h
      cases hh : hasB ls n with
      | true =>
        have HL : Hid (listI ls n = (fk ls n : Nat)) := Lib.hid (by simp [listI, hh])
        generalize fk ls n = q at HL
        clear hh
        cases b with
        | true =>
          go_enter Try.func37, Try.ntmps37
          go_wp2_with (first | (refine wpList_load30 rfl _ rfl w.heap.size _ _ rfl hx ?_) | (go_at_call 30; refine HF.out.mono ?_; rw [HL.out]; rintro e w2 ⟨rfl, hb2⟩))
          go_ret
          exact ⟨rfl, hb.trans (hb2.mono hb.size)⟩
        | false =>
          go_enter Try.func37, Try.ntmps37
          go_wp2_with (first | (refine wpList_load30 rfl _ rfl w.heap.size _ _ rfl hx ?_) | (go_at_call 30; refine HF.out.mono ?_; rw [HL.out]; rintro e w2 ⟨rfl, hb2⟩))
          go_ret
          exact ⟨rfl, hb.trans (hb2.mono hb.size)⟩
      | false =>
        have HL : Hid (listI ls n = -1) := Lib.hid (by simp [listI, hh])
        clear hh
        cases b with
        | true =>
          go_enter Try.func37, Try.ntmps37
          go_wp2_with (first | (refine wpList_load30 rfl _ rfl w.heap.size _ _ rfl hx ?_) | (go_at_call 30; refine HF.out.mono ?_; rw [HL.out]; rintro e w2 ⟨rfl, hb2⟩))
          go_ret
          exact ⟨rfl, hb.trans (hb2.mono hb.size)⟩
        | false =>
          go_enter Try.func37, Try.ntmps37
          go_wp2_with (first | (refine wpList_load30 rfl _ rfl w.heap.size _ _ rfl hx ?_) | (go_at_call 30; refine HF.out.mono ?_; rw [HL.out]; rintro e w2 ⟨rfl, hb2⟩))
          go_ret
          exact ⟨rfl, hb.trans (hb2.mono hb.size)⟩
    · have HI : Hid (wrongI N ls n b = 14) := Lib.hid (by simp [wrongI, inN, h2])
      rw [HI.out]
      clear h ok
      go_enter Try.func37, Try.ntmps37
      go_wp2_with fail
      go_ret
      exact ⟨rfl, hb⟩
  · have HI : Hid (wrongI N ls n b = 14) := Lib.hid (by simp [wrongI, inN, h1])
    rw [HI.out]
    clear h ok
    go_enter Try.func37, Try.ntmps37
    go_wp2_with fail
    go_ret
    exact ⟨rfl, hb⟩
set_option maxRecDepth 100000 in
set_option maxHeartbeats 4000000 in
theorem with_any (B N : Nat) (dv u : Value) (ls : List (List Nat)) (k : Nat) (r : List Nat) (w : World) (h : Doc w B dv ls) (hB : B ≤ w.heap.size) (hu : RowO w B u r) (hk : k < ls.length) (hm : ls.length ≤ 64) :
    Calls Try.prog 39 #[.agg #[.int .i64 (N : Int), dv], .int .i64 (k : Int), u] w fun e w' => (∃ v', e = .returned v' ∧ RV w' B N v' (ls.set k r)) ∧ Below w.heap.size w w' := by
  obtain ⟨vs, hvl, hvr, hvs⟩ := h
  obtain ⟨au, cu, rfl⟩ := hu.sl
  obtain ⟨ad, cd, rfl⟩ := hvr.sl
  have hx := ((IsT.new w (N : Int) (.slice ad vs.length cd)).alloc (.cells #[.int .i64 0, .slice none 0 0] 30)).alloc (.cells #[] 43)
  have hZ : IsT (((w.alloc (.cells #[.int .i64 (N : Int), .slice ad vs.length cd] 30)).alloc (.cells #[.int .i64 0, .slice none 0 0] 30)).alloc (.cells #[] 43)) (w.heap.size + 1) 0 (.slice none 0 0) := by
    have := (IsT.new (w.alloc (.cells #[.int .i64 (N : Int), .slice ad vs.length cd] 30)) 0 (.slice none 0 0)).alloc (.cells #[] 43)
    simpa using this
  have hE : RowV (((w.alloc (.cells #[.int .i64 (N : Int), .slice ad vs.length cd] 30)).alloc (.cells #[.int .i64 0, .slice none 0 0] 30)).alloc (.cells #[] 43)) (w.heap.size + 2) 43 (.slice (some ⟨w.heap.size + 2, 0, none⟩) 0 0) [] := by
    have := RowV.empty ((w.alloc (.cells #[.int .i64 (N : Int), .slice ad vs.length cd] 30)).alloc (.cells #[.int .i64 0, .slice none 0 0] 30)) (w.heap.size + 2) 43 (by simp)
    simpa using this
  have hS := (((hvr.alloc (.cells #[.int .i64 (N : Int), .slice ad vs.length cd] 30)).alloc (.cells #[.int .i64 0, .slice none 0 0] 30)).alloc (.cells #[] 43)).src
  have hb : Below w.heap.size w (((w.alloc (.cells #[.int .i64 (N : Int), .slice ad vs.length cd] 30)).alloc (.cells #[.int .i64 0, .slice none 0 0] 30)).alloc (.cells #[] 43)) := (((Below.refl _ w).alloc (Nat.le_refl _) _).alloc (by simp) _).alloc (by simp; omega) _
  have hsz : (((w.alloc (.cells #[.int .i64 (N : Int), .slice ad vs.length cd] 30)).alloc (.cells #[.int .i64 0, .slice none 0 0] 30)).alloc (.cells #[] 43)).heap.size = w.heap.size + 3 := by simp
  have hx1 := hx.c1
  have hone : ∀ y ∈ vs, y.oneCell' = true := fun y hy => by
    obtain ⟨i, hi⟩ := List.getElem?_of_mem hy
    have hil := (List.getElem?_eq_some_iff.1 hi).1
    obtain ⟨v1, h1, h2⟩ := hvs i (by omega)
    rw [hi] at h1
    cases h1
    obtain ⟨a1, c1, rfl⟩ := h2.sl
    rfl
  have HO := Lib.hid hone
  have HVS := Lib.hid hvs
  have HU := Lib.hid hu
  have HVL := Lib.hid hvl
  have hkv : k < vs.length := by omega
  have hv64 : vs.length ≤ 64 := by omega
  clear hone hvs hu hvl hvr
  go_enter Try.func39, Try.ntmps39
  go_wp2_with (first | (refine wpList_alloc30 rfl rfl ?_) | (at_builtin; refine wpList_appendS rfl _ _ rfl (w.heap.size + 2) _ _ [] vs rfl rfl (by omega) hE hS HO.out (by simp; omega) ?_; intro v3 w3 h3 g3; clear hx1; rw [List.nil_append] at h3; obtain ⟨a3, c3, rfl⟩ := h3.sl; obtain ⟨b3, rfl, hb3, hb4, hc3, hf3⟩ := h3.at hkv; have hb5 := (grown_below hE (by omega) g3); replace hx := hx.below hb5 (by omega); replace hZ := hZ.below hb5 (by omega); replace hb := hb.trans (hb5.mono (by omega)); generalize hy : vs[k] = y at hc3; rw [List.getElem?_eq_getElem hkv, hy] at hc3; have t4 := Turn.setCell w3 b3 k (.slice au (encI r).length cu); replace hx := hx.turn t4 (by omega); replace hZ := hZ.turn t4 (by omega); replace h3 := h3.put k (.slice au (encI r).length cu); have hx0 := hx.c0; have hsz3 := hb.size; have hs4 := t4.size) | (refine wpList_store30 rfl _ _ rfl (w.heap.size + 1) (N : Int) (.slice (some ⟨b3, 0, none⟩) vs.length c3) _ _ rfl rfl hZ rfl ?_; intro w5 hZ5 t5))
  refine bodyPost_ret (results_c rfl _ w5 (w.heap.size + 1) _ _ rfl hZ5) rfl ?_
  have hbw := (hb.trans (t4.below (by omega))).trans (t5.below (by omega))
  refine ⟨⟨_, rfl, _, rfl, vs.set k (.slice au (encI r).length cu), by simp [HVL.out], (h3.turn t5 hZ (by decide)).mono (by omega), fun k' hk' => ?_⟩, hbw⟩
  rw [List.length_set] at hk'
  rw [row_set hk]
  by_cases e : k' = k
  · subst e
    rw [if_pos rfl]
    exact ⟨_, by rw [List.getElem?_set_self hkv], HU.out.below hbw⟩
  · rw [if_neg e, List.getElem?_set_ne (Ne.symm e)]
    obtain ⟨v1, h1, h2⟩ := HVS.out k' hk'
    exact ⟨v1, h1, h2.below hbw⟩
end Go.Proofs.Ytglnjpbjlcbgoaa
