/-
  FillOrder: in another order children get the same. No condition.
-/
import Derived.Test.YtphllajedkpcbaaGreatDoorFt
namespace Go.Proofs.YtphllajedkpcbaaGreatDoor
open Go.RowKit Go.Dig Go.Shelf Go.Proofs Go.Rq

theorem wrap_small (z : Int) (h0 : 0 ≤ z) (h1 : z ≤ 1000) : IntKind.i64.wrap z = z := by
  obtain ⟨n, rfl⟩ : ∃ n : Nat, z = (n : Int) := ⟨z.toNat, by omega⟩
  have e : (n : Int) % 2 ^ 64 = n := Int.emod_eq_of_lt (by omega) (by omega)
  simp only [IntKind.wrap, IntKind.bits, IntKind.signed, e]
  rw [if_neg]
  simp
  omega
theorem wp_append_in {o : Oper} {a : Act} {Q : Exit → Act → World → Prop} {K : Act → World → Prop} {w : World} (s x : Operand) (t t' : TypeId)
    (ho : o.op = .call { callee := .builtin .append, args := #[s, x], argTypes := #[t, t'] }) (v u v' : Value) (w' : World) (hs : a.eval s = v) (hx : a.eval x = u)
    (hr : (Builtin.append_ #[t, t'] o.type #[v, u]).run Tryz.prog w = .ok v' w') (h : K (a.put o.dst v') w') : o.wp Tryz.prog a w K Q := by
  unfold Oper.wp execOp
  simp only [ho, resolve, invoke, builtin, Sem.run_bind, Sem.run_pure, Result.andThen_ok, List.map_toArray, List.map_cons, List.map_nil, hs, hx, hr]
  exact h
theorem RI.cap {w : World} {p : Sl} {l : List Int} (h : RI w p l) : l.length ≤ p.c := by
  obtain ⟨ad, cap, e, h1, _⟩ := h
  injection e with e1 e2 e3
  omega
theorem RI.news {w : World} {b o n c : Nat} {l : List Int} (h : RI w ⟨some ⟨b, o, none⟩, n, c⟩ l) (s m : Nat) (hs : s + m ≤ l.length) : ∀ (j : Nat) (u : Value), (((l.drop s).take m).map (Value.int .i64))[j]? = some u → w.cell? ((⟨b, o + s, none⟩ : Addr).add j) = some u := by
  intro j u hu
  have hj : j < m := by
    have h1 := (List.getElem?_eq_some_iff.1 hu).1
    rw [List.length_map, List.length_take] at h1
    omega
  obtain ⟨b', o', e, _, hc⟩ := h.open (by intro e; rw [e] at hs; simp at hs; omega)
  cases e
  rw [Addr.add_lit]
  have h2 := hc (s + j) (by omega)
  rw [← Nat.add_assoc] at h2
  rw [h2, ← hu]
  simp [List.getD_eq_getElem?_getD, hj, show s + j < l.length by omega]
/-- turned. -/
def rot {α : Type} (k : Nat) (l : List α) : List α := l.drop k ++ l.take k
theorem rot_len {α : Type} (k : Nat) (l : List α) (h : k ≤ l.length) : (rot k l).length = l.length := by
  unfold rot; rw [List.length_append, List.length_drop, List.length_take]; omega
theorem rot_map {α β : Type} (f : α → β) (k : Nat) (l : List α) : rot k (l.map f) = (rot k l).map f := by
  unfold rot; rw [List.map_append, List.map_drop, List.map_take]
theorem rot_any (φ : Int → Bool) (k : Nat) (l : List Int) : (rot k l).any φ = l.any φ := by
  unfold rot
  rw [List.any_append, Bool.or_comm, ← List.any_append, List.take_append_drop]
theorem rot_sum (k : Nat) (l : List Int) : (rot k l).sum = l.sum := by
  unfold rot
  rw [List.sum_append, Int.add_comm, ← List.sum_append, List.take_append_drop]
theorem rot_err {x : Rat} {ws cs : List Int} {k : Nat} (h1 : k ≤ ws.length) (h2 : k ≤ cs.length) : errOf x (rot k ws) (rot k cs) = errOf x ws cs := by
  unfold errOf
  rw [rot_len k ws h1, rot_len k cs h2, rot_any, rot_any, rot_sum]
theorem rot_level {x : Rat} {ks : List Kid} (k : Nat) (hg : Rq.Good ks) (h0 : 0 ≤ x) (hx : x ≤ ((caps ks : Nat) : Rat)) : docLevel x (rot k ks) = docLevel x ks := by
  have hp : (rot k ks).Perm ks := by
    unfold rot
    exact List.perm_append_comm.trans (by rw [List.take_append_drop])
  have h1 := doc_level (ks := rot k ks) (fun j hj => hg j (hp.mem_iff.1 hj)) h0 (by rw [caps_perm hp]; exact hx)
  exact (h1.perm hp).one (doc_level hg h0 hx)
theorem rot_get {ks : List Kid} {i k : Nat} (hi : i < ks.length) (hk : k < ks.length) : (rot k ks).getD ((i + ks.length - k) % ks.length) (0, 0) = ks.getD i (0, 0) := by
  unfold rot
  by_cases h : i < k
  · rw [Nat.mod_eq_of_lt (by omega)]
    rw [List.getD_eq_getElem?_getD, List.getElem?_append_right (by rw [List.length_drop]; omega), List.length_drop, List.getElem?_take, if_pos (by omega), List.getD_eq_getElem?_getD]
    congr 2
    omega
  · have e : (i + ks.length - k) % ks.length = i - k := by
      rw [show i + ks.length - k = (i - k) + ks.length from by omega, Nat.add_mod_right, Nat.mod_eq_of_lt (by omega)]
    rw [e, List.getD_eq_getElem?_getD, List.getElem?_append_left (by rw [List.length_drop]; omega), List.getElem?_drop, List.getD_eq_getElem?_getD]
    congr 2
    omega
set_option maxRecDepth 100000 in
set_option maxHeartbeats 4000000 in
theorem order_l1 (A B : Int) (a b : Sl) (ws cs : List Int) (t : Nat) (_ht : t < 256) (w : World) (ha : RI w a ws) (hc : RI w b cs) (h : 12 < ws.length) :
    Calls Tryz.prog 6 #[.agg #[.int .i64 A, .int .i64 B], .agg #[.slice a.a a.n a.c, .slice b.a b.n b.c], .int .u8 (t : Int)] w fun e w' => e = .returned (.bool true) ∧ Below w.heap.size w w' := by
  have ea := ha.len
  have h1 : (12 : Int) < (a.n : Int) := by omega
  clear ea
  go_enter Tryz.func6, Tryz.ntmps6
  have hb : Below w.heap.size w ((w.alloc (.cells #[.int .i64 A, .int .i64 B] 23)).alloc (.cells #[.slice a.a a.n a.c, .slice b.a b.n b.c] 50)) := (((Below.refl _ _).alloc (Nat.le_refl _) _).alloc (by simp) _)
  replace ha := ha.below hb
  replace hc := hc.below hb
  have hB := hb
  have P1 : Pair ((w.alloc (.cells #[.int .i64 A, .int .i64 B] 23)).alloc (.cells #[.slice a.a a.n a.c, .slice b.a b.n b.c] 50)) (w.heap.size) 23 (.int .i64 A) (.int .i64 B) := by
    have h := (Pair.new w 23 (.int .i64 A) (.int .i64 B)).alloc (.cells #[.slice a.a a.n a.c, .slice b.a b.n b.c] 50)
    simpa only [World.size_alloc] using h
  have P2 : Pair ((w.alloc (.cells #[.int .i64 A, .int .i64 B] 23)).alloc (.cells #[.slice a.a a.n a.c, .slice b.a b.n b.c] 50)) (w.heap.size + 1) 50 (.slice a.a a.n a.c) (.slice b.a b.n b.c) := by
    have h := Pair.new (w.alloc (.cells #[.int .i64 A, .int .i64 B] 23)) 50 (.slice a.a a.n a.c) (.slice b.a b.n b.c)
    simpa only [World.size_alloc] using h
  clear hb
  have c0P1 := P1.c0
  have c1P1 := P1.c1
  have c0P2 := P2.c0
  have c1P2 := P2.c1
  go_wp2_with fail
  clear c0P1 c1P1 c0P2 c1P2
  have hb : Below ((w.alloc (.cells #[.int .i64 A, .int .i64 B] 23)).alloc (.cells #[.slice a.a a.n a.c, .slice b.a b.n b.c] 50)).heap.size ((w.alloc (.cells #[.int .i64 A, .int .i64 B] 23)).alloc (.cells #[.slice a.a a.n a.c, .slice b.a b.n b.c] 50)) ((w.alloc (.cells #[.int .i64 A, .int .i64 B] 23)).alloc (.cells #[.slice a.a a.n a.c, .slice b.a b.n b.c] 50)).drew := (Below.refl _ _).drew
  replace P1 := P1.below hb
  replace P2 := P2.below hb
  replace ha := ha.below hb
  replace hc := hc.below hb
  replace hB := hB.trans (hb.mono hB.size)
  clear hb
  refine Rd.regionT (fun X => Pair X (w.heap.size) 23 (.int .i64 A) (.int .i64 B) ∧ Pair X (w.heap.size + 1) 50 (.slice a.a a.n a.c) (.slice b.a b.n b.c)) [0, 1, 2, 3, 4, 5] (.one 0 (.one 1 (.one 2 (.one 3 (.one 4 (.one 5 .done)))))) (fun ac W => ∃  (y19 y20 y21 y22 : Value), ac = { tmps := List.toArray (.agg #[.int .i64 A, .int .i64 B] :: .agg #[.slice a.a a.n a.c, .slice b.a b.n b.c] :: .int .u8 (t : Int) :: .pointer (some ⟨w.heap.size, 0, none⟩) :: .pointer (some ⟨w.heap.size + 1, 0, none⟩) :: undef :: .bool false :: .slice a.a a.n a.c :: .slice b.a b.n b.c :: undef :: undef :: undef :: undef :: undef :: undef :: undef :: undef :: undef :: undef :: y19 :: y20 :: y21 :: y22 :: undef :: undef :: undef :: undef :: undef :: undef :: undef :: undef :: undef :: undef :: undef :: undef :: undef :: undef :: undef :: undef :: undef :: undef :: undef :: undef :: undef :: undef :: undef :: undef :: undef :: undef :: undef :: undef :: undef :: undef :: undef :: undef :: undef :: undef :: undef :: undef :: undef :: undef :: undef :: undef :: undef :: undef :: undef :: undef :: undef :: undef :: undef :: undef :: undef :: undef :: undef :: undef :: undef :: undef :: undef :: undef :: undef :: undef :: undef :: undef :: undef :: undef :: undef :: undef :: undef :: undef :: undef :: undef :: undef :: undef :: undef :: undef :: undef :: undef :: undef :: undef :: undef :: undef :: undef :: undef :: undef :: undef :: undef :: undef :: undef :: undef :: undef :: undef :: undef :: undef :: undef :: undef :: undef :: undef :: undef :: undef :: []), defers := [] } ∧ Pair W (w.heap.size) 23 (.int .i64 A) (.int .i64 B) ∧ Pair W (w.heap.size + 1) 50 (.slice a.a a.n a.c) (.slice b.a b.n b.c) ∧ RI W a ws ∧ RI W b cs ∧ Below w.heap.size w W) (by kernel_rfl) (by kernel_rfl) (by kernel_rfl) ⟨P1, P2⟩ ?tree ?next
  case tree =>
    generalize ((w.alloc (.cells #[.int .i64 A, .int .i64 B] 23)).alloc (.cells #[.slice a.a a.n a.c, .slice b.a b.n b.c] 50)).drew = w3 at P1 P2 ha hc hB ⊢
    refine Rd.tr_float (.pointer (some ⟨w.heap.size + 1, 0, none⟩)) (by simp only [List.getElem?_toArray, List.getElem?_cons_zero]; rfl) rfl (by rfl) (fun X _ => by go_simp) ?_
    simp only [Act.put, List.setIfInBounds_toArray, List.set_cons_succ, List.set_cons_zero]
    refine Rd.tr_float (.slice a.a a.n a.c) (by simp only [List.getElem?_toArray, List.getElem?_cons_succ, List.getElem?_cons_zero]; rfl) rfl (by rfl) (fun X hX => by have h0 := hX.2.c0; have h1 := hX.2.c1; go_simp) ?_
    simp only [Act.put, List.setIfInBounds_toArray, List.set_cons_succ, List.set_cons_zero]
    refine Rd.tr_float (.pointer (some ⟨w.heap.size + 1, 1, none⟩)) (by simp only [List.getElem?_toArray, List.getElem?_cons_succ, List.getElem?_cons_zero]; rfl) rfl (by rfl) (fun X _ => by go_simp) ?_
    simp only [Act.put, List.setIfInBounds_toArray, List.set_cons_succ, List.set_cons_zero]
    refine Rd.tr_float (.slice b.a b.n b.c) (by simp only [List.getElem?_toArray, List.getElem?_cons_succ, List.getElem?_cons_zero]; rfl) rfl (by rfl) (fun X hX => by have h0 := hX.2.c0; have h1 := hX.2.c1; go_simp) ?_
    simp only [Act.put, List.setIfInBounds_toArray, List.set_cons_succ, List.set_cons_zero]
    refine Rd.tr_float (.slice a.a a.n a.c) (by simp only [List.getElem?_toArray, List.getElem?_cons_succ, List.getElem?_cons_zero]; rfl) rfl (by rfl) (fun X _ => by go_simp) ?_
    simp only [Act.put, List.setIfInBounds_toArray, List.set_cons_succ, List.set_cons_zero]
    refine Rd.tr_float (.slice b.a b.n b.c) (by simp only [List.getElem?_toArray, List.getElem?_cons_succ, List.getElem?_cons_zero]; rfl) rfl (by rfl) (fun X _ => by go_simp) ?_
    simp only [Act.put, List.setIfInBounds_toArray, List.set_cons_succ, List.set_cons_zero]
    exact Rd.tr_end (⟨_, _, _, _, rfl, P1, P2, ha, hc, hB⟩)
  case next =>
    rintro a5 W4 ⟨y19, y20, y21, y22, rfl, P1, P2, ha, hc, hB⟩
    refine (?_ : ∀ (z0 z1 z4 z5 z9 z10 z11 z12 z13 z14 z15 z16 z17 z18 z19 z20 z21 z22 z23 z24 z25 z26 z27 z28 z29 z30 z31 z32 z33 z34 z35 z36 z37 z38 z39 z40 z41 z42 z43 z44 z45 z46 z47 z48 z49 z50 z51 z52 z53 z54 z55 z56 z57 z58 z59 z60 z61 z62 z63 z64 z65 z66 z67 z68 z69 z70 z71 z72 z73 z74 z75 z76 z77 z78 z79 z80 z81 z82 z83 z84 z85 z86 z87 z88 z89 z90 z91 z92 z93 z94 z95 z96 z97 z98 z99 z100 z101 z102 z103 z104 z105 z106 z107 z108 z109 z110 z111 z112 z113 z114 z115 z116 z117 z118 : Value), Exit.then _ _ _ { tmps := List.toArray (z0 :: z1 :: .int .u8 (t : Int) :: .pointer (some ⟨w.heap.size, 0, none⟩) :: z4 :: z5 :: .bool false :: .slice a.a a.n a.c :: .slice b.a b.n b.c :: z9 :: z10 :: z11 :: z12 :: z13 :: z14 :: z15 :: z16 :: z17 :: z18 :: z19 :: z20 :: z21 :: z22 :: z23 :: z24 :: z25 :: z26 :: z27 :: z28 :: z29 :: z30 :: z31 :: z32 :: z33 :: z34 :: z35 :: z36 :: z37 :: z38 :: z39 :: z40 :: z41 :: z42 :: z43 :: z44 :: z45 :: z46 :: z47 :: z48 :: z49 :: z50 :: z51 :: z52 :: z53 :: z54 :: z55 :: z56 :: z57 :: z58 :: z59 :: z60 :: z61 :: z62 :: z63 :: z64 :: z65 :: z66 :: z67 :: z68 :: z69 :: z70 :: z71 :: z72 :: z73 :: z74 :: z75 :: z76 :: z77 :: z78 :: z79 :: z80 :: z81 :: z82 :: z83 :: z84 :: z85 :: z86 :: z87 :: z88 :: z89 :: z90 :: z91 :: z92 :: z93 :: z94 :: z95 :: z96 :: z97 :: z98 :: z99 :: z100 :: z101 :: z102 :: z103 :: z104 :: z105 :: z106 :: z107 :: z108 :: z109 :: z110 :: z111 :: z112 :: z113 :: z114 :: z115 :: z116 :: z117 :: z118 :: []), defers := [] } _) _ _ _ _ _ _ _ _ _ _ _ _ _ _ _ _ _ _ _ _ _ _ _ _ _ _ _ _ _ _ _ _ _ _ _ _ _ _ _ _ _ _ _ _ _ _ _ _ _ _ _ _ _ _ _ _ _ _ _ _ _ _ _ _ _ _ _ _ _ _ _ _ _ _ _ _ _ _ _ _ _ _ _ _ _ _ _ _ _ _ _ _ _ _ _ _ _ _ _ _ _ _ _ _ _ _ _ _ _ _ _ _ _ _
    intro z0 z1 z4 z5 z9 z10 z11 z12 z13 z14 z15 z16 z17 z18 z19 z20 z21 z22 z23 z24 z25 z26 z27 z28 z29 z30 z31 z32 z33 z34 z35 z36 z37 z38 z39 z40 z41 z42 z43 z44 z45 z46 z47 z48 z49 z50 z51 z52 z53 z54 z55 z56 z57 z58 z59 z60 z61 z62 z63 z64 z65 z66 z67 z68 z69 z70 z71 z72 z73 z74 z75 z76 z77 z78 z79 z80 z81 z82 z83 z84 z85 z86 z87 z88 z89 z90 z91 z92 z93 z94 z95 z96 z97 z98 z99 z100 z101 z102 z103 z104 z105 z106 z107 z108 z109 z110 z111 z112 z113 z114 z115 z116 z117 z118
    have c0P1 := P1.c0
    have c1P1 := P1.c1
    have c0P2 := P2.c0
    have c1P2 := P2.c1
    have H1 := Lib.hid (awake4 W4)
    go_wp2_with fail
    clear c0P1 c1P1 c0P2 c1P2
    refine H1.out.mono ?_
    rintro e w1 ⟨rfl, hb⟩
    clear H1
    replace P1 := P1.below hb
    replace P2 := P2.below hb
    replace ha := ha.below hb
    replace hc := hc.below hb
    replace hB := hB.trans (hb.mono hB.size)
    clear hb
    have c0P1 := P1.c0
    have c1P1 := P1.c1
    have c0P2 := P2.c0
    have c1P2 := P2.c1
    have H2 := Lib.hid (awake4 w1)
    go_wp2_with fail
    clear c0P1 c1P1 c0P2 c1P2
    refine H2.out.mono ?_
    rintro e w2 ⟨rfl, hb⟩
    clear H2
    replace P1 := P1.below hb
    replace P2 := P2.below hb
    replace ha := ha.below hb
    replace hc := hc.below hb
    replace hB := hB.trans (hb.mono hB.size)
    clear hb
    have c0P1 := P1.c0
    have c1P1 := P1.c1
    have c0P2 := P2.c0
    have c1P2 := P2.c1
    go_wp2_with fail
    go_ret
    exact ⟨rfl, hB⟩

set_option maxRecDepth 100000 in
set_option maxHeartbeats 4000000 in
theorem order_l2 (A B : Int) (a b : Sl) (ws cs : List Int) (t : Nat) (_ht : t < 256) (w : World) (ha : RI w a ws) (hc : RI w b cs) (h0 : ws.length ≤ 12) (h : cs.length ≠ ws.length) :
    Calls Tryz.prog 6 #[.agg #[.int .i64 A, .int .i64 B], .agg #[.slice a.a a.n a.c, .slice b.a b.n b.c], .int .u8 (t : Int)] w fun e w' => e = .returned (.bool true) ∧ Below w.heap.size w w' := by
  have ea := ha.len
  have ec := hc.len
  have h2 : ¬ (12 : Int) < (a.n : Int) := by omega
  have h1 : ((b.n : Int) == (a.n : Int)) = false := by simp; omega
  have h3 : ¬ b.n = a.n := by omega
  clear ea ec
  go_enter Tryz.func6, Tryz.ntmps6
  have hb : Below w.heap.size w ((w.alloc (.cells #[.int .i64 A, .int .i64 B] 23)).alloc (.cells #[.slice a.a a.n a.c, .slice b.a b.n b.c] 50)) := (((Below.refl _ _).alloc (Nat.le_refl _) _).alloc (by simp) _)
  replace ha := ha.below hb
  replace hc := hc.below hb
  have hB := hb
  have P1 : Pair ((w.alloc (.cells #[.int .i64 A, .int .i64 B] 23)).alloc (.cells #[.slice a.a a.n a.c, .slice b.a b.n b.c] 50)) (w.heap.size) 23 (.int .i64 A) (.int .i64 B) := by
    have h := (Pair.new w 23 (.int .i64 A) (.int .i64 B)).alloc (.cells #[.slice a.a a.n a.c, .slice b.a b.n b.c] 50)
    simpa only [World.size_alloc] using h
  have P2 : Pair ((w.alloc (.cells #[.int .i64 A, .int .i64 B] 23)).alloc (.cells #[.slice a.a a.n a.c, .slice b.a b.n b.c] 50)) (w.heap.size + 1) 50 (.slice a.a a.n a.c) (.slice b.a b.n b.c) := by
    have h := Pair.new (w.alloc (.cells #[.int .i64 A, .int .i64 B] 23)) 50 (.slice a.a a.n a.c) (.slice b.a b.n b.c)
    simpa only [World.size_alloc] using h
  clear hb
  have c0P1 := P1.c0
  have c1P1 := P1.c1
  have c0P2 := P2.c0
  have c1P2 := P2.c1
  go_wp2_with fail
  clear c0P1 c1P1 c0P2 c1P2
  have hb : Below ((w.alloc (.cells #[.int .i64 A, .int .i64 B] 23)).alloc (.cells #[.slice a.a a.n a.c, .slice b.a b.n b.c] 50)).heap.size ((w.alloc (.cells #[.int .i64 A, .int .i64 B] 23)).alloc (.cells #[.slice a.a a.n a.c, .slice b.a b.n b.c] 50)) ((w.alloc (.cells #[.int .i64 A, .int .i64 B] 23)).alloc (.cells #[.slice a.a a.n a.c, .slice b.a b.n b.c] 50)).drew := (Below.refl _ _).drew
  replace P1 := P1.below hb
  replace P2 := P2.below hb
  replace ha := ha.below hb
  replace hc := hc.below hb
  replace hB := hB.trans (hb.mono hB.size)
  clear hb
  refine Rd.regionT (fun X => Pair X (w.heap.size) 23 (.int .i64 A) (.int .i64 B) ∧ Pair X (w.heap.size + 1) 50 (.slice a.a a.n a.c) (.slice b.a b.n b.c)) [0, 1, 2, 3, 4, 5] (.one 0 (.one 1 (.one 2 (.one 3 (.one 4 (.one 5 .done)))))) (fun ac W => ∃  (y19 y20 y21 y22 : Value), ac = { tmps := List.toArray (.agg #[.int .i64 A, .int .i64 B] :: .agg #[.slice a.a a.n a.c, .slice b.a b.n b.c] :: .int .u8 (t : Int) :: .pointer (some ⟨w.heap.size, 0, none⟩) :: .pointer (some ⟨w.heap.size + 1, 0, none⟩) :: undef :: .bool false :: .slice a.a a.n a.c :: .slice b.a b.n b.c :: undef :: undef :: undef :: undef :: undef :: undef :: undef :: undef :: undef :: undef :: y19 :: y20 :: y21 :: y22 :: undef :: undef :: undef :: undef :: undef :: undef :: undef :: undef :: undef :: undef :: undef :: undef :: undef :: undef :: undef :: undef :: undef :: undef :: undef :: undef :: undef :: undef :: undef :: undef :: undef :: undef :: undef :: undef :: undef :: undef :: undef :: undef :: undef :: undef :: undef :: undef :: undef :: undef :: undef :: undef :: undef :: undef :: undef :: undef :: undef :: undef :: undef :: undef :: undef :: undef :: undef :: undef :: undef :: undef :: undef :: undef :: undef :: undef :: undef :: undef :: undef :: undef :: undef :: undef :: undef :: undef :: undef :: undef :: undef :: undef :: undef :: undef :: undef :: undef :: undef :: undef :: undef :: undef :: undef :: undef :: undef :: undef :: undef :: undef :: undef :: undef :: undef :: undef :: undef :: undef :: undef :: undef :: undef :: undef :: undef :: undef :: []), defers := [] } ∧ Pair W (w.heap.size) 23 (.int .i64 A) (.int .i64 B) ∧ Pair W (w.heap.size + 1) 50 (.slice a.a a.n a.c) (.slice b.a b.n b.c) ∧ RI W a ws ∧ RI W b cs ∧ Below w.heap.size w W) (by kernel_rfl) (by kernel_rfl) (by kernel_rfl) ⟨P1, P2⟩ ?tree ?next
  case tree =>
    generalize ((w.alloc (.cells #[.int .i64 A, .int .i64 B] 23)).alloc (.cells #[.slice a.a a.n a.c, .slice b.a b.n b.c] 50)).drew = w3 at P1 P2 ha hc hB ⊢
    refine Rd.tr_float (.pointer (some ⟨w.heap.size + 1, 0, none⟩)) (by simp only [List.getElem?_toArray, List.getElem?_cons_zero]; rfl) rfl (by rfl) (fun X _ => by go_simp) ?_
    simp only [Act.put, List.setIfInBounds_toArray, List.set_cons_succ, List.set_cons_zero]
    refine Rd.tr_float (.slice a.a a.n a.c) (by simp only [List.getElem?_toArray, List.getElem?_cons_succ, List.getElem?_cons_zero]; rfl) rfl (by rfl) (fun X hX => by have h0 := hX.2.c0; have h1 := hX.2.c1; go_simp) ?_
    simp only [Act.put, List.setIfInBounds_toArray, List.set_cons_succ, List.set_cons_zero]
    refine Rd.tr_float (.pointer (some ⟨w.heap.size + 1, 1, none⟩)) (by simp only [List.getElem?_toArray, List.getElem?_cons_succ, List.getElem?_cons_zero]; rfl) rfl (by rfl) (fun X _ => by go_simp) ?_
    simp only [Act.put, List.setIfInBounds_toArray, List.set_cons_succ, List.set_cons_zero]
    refine Rd.tr_float (.slice b.a b.n b.c) (by simp only [List.getElem?_toArray, List.getElem?_cons_succ, List.getElem?_cons_zero]; rfl) rfl (by rfl) (fun X hX => by have h0 := hX.2.c0; have h1 := hX.2.c1; go_simp) ?_
    simp only [Act.put, List.setIfInBounds_toArray, List.set_cons_succ, List.set_cons_zero]
    refine Rd.tr_float (.slice a.a a.n a.c) (by simp only [List.getElem?_toArray, List.getElem?_cons_succ, List.getElem?_cons_zero]; rfl) rfl (by rfl) (fun X _ => by go_simp) ?_
    simp only [Act.put, List.setIfInBounds_toArray, List.set_cons_succ, List.set_cons_zero]
    refine Rd.tr_float (.slice b.a b.n b.c) (by simp only [List.getElem?_toArray, List.getElem?_cons_succ, List.getElem?_cons_zero]; rfl) rfl (by rfl) (fun X _ => by go_simp) ?_
    simp only [Act.put, List.setIfInBounds_toArray, List.set_cons_succ, List.set_cons_zero]
    exact Rd.tr_end (⟨_, _, _, _, rfl, P1, P2, ha, hc, hB⟩)
  case next =>
    rintro a5 W4 ⟨y19, y20, y21, y22, rfl, P1, P2, ha, hc, hB⟩
    refine (?_ : ∀ (z0 z1 z4 z5 z9 z10 z11 z12 z13 z14 z15 z16 z17 z18 z19 z20 z21 z22 z23 z24 z25 z26 z27 z28 z29 z30 z31 z32 z33 z34 z35 z36 z37 z38 z39 z40 z41 z42 z43 z44 z45 z46 z47 z48 z49 z50 z51 z52 z53 z54 z55 z56 z57 z58 z59 z60 z61 z62 z63 z64 z65 z66 z67 z68 z69 z70 z71 z72 z73 z74 z75 z76 z77 z78 z79 z80 z81 z82 z83 z84 z85 z86 z87 z88 z89 z90 z91 z92 z93 z94 z95 z96 z97 z98 z99 z100 z101 z102 z103 z104 z105 z106 z107 z108 z109 z110 z111 z112 z113 z114 z115 z116 z117 z118 : Value), Exit.then _ _ _ { tmps := List.toArray (z0 :: z1 :: .int .u8 (t : Int) :: .pointer (some ⟨w.heap.size, 0, none⟩) :: z4 :: z5 :: .bool false :: .slice a.a a.n a.c :: .slice b.a b.n b.c :: z9 :: z10 :: z11 :: z12 :: z13 :: z14 :: z15 :: z16 :: z17 :: z18 :: z19 :: z20 :: z21 :: z22 :: z23 :: z24 :: z25 :: z26 :: z27 :: z28 :: z29 :: z30 :: z31 :: z32 :: z33 :: z34 :: z35 :: z36 :: z37 :: z38 :: z39 :: z40 :: z41 :: z42 :: z43 :: z44 :: z45 :: z46 :: z47 :: z48 :: z49 :: z50 :: z51 :: z52 :: z53 :: z54 :: z55 :: z56 :: z57 :: z58 :: z59 :: z60 :: z61 :: z62 :: z63 :: z64 :: z65 :: z66 :: z67 :: z68 :: z69 :: z70 :: z71 :: z72 :: z73 :: z74 :: z75 :: z76 :: z77 :: z78 :: z79 :: z80 :: z81 :: z82 :: z83 :: z84 :: z85 :: z86 :: z87 :: z88 :: z89 :: z90 :: z91 :: z92 :: z93 :: z94 :: z95 :: z96 :: z97 :: z98 :: z99 :: z100 :: z101 :: z102 :: z103 :: z104 :: z105 :: z106 :: z107 :: z108 :: z109 :: z110 :: z111 :: z112 :: z113 :: z114 :: z115 :: z116 :: z117 :: z118 :: []), defers := [] } _) _ _ _ _ _ _ _ _ _ _ _ _ _ _ _ _ _ _ _ _ _ _ _ _ _ _ _ _ _ _ _ _ _ _ _ _ _ _ _ _ _ _ _ _ _ _ _ _ _ _ _ _ _ _ _ _ _ _ _ _ _ _ _ _ _ _ _ _ _ _ _ _ _ _ _ _ _ _ _ _ _ _ _ _ _ _ _ _ _ _ _ _ _ _ _ _ _ _ _ _ _ _ _ _ _ _ _ _ _ _ _ _ _ _
    intro z0 z1 z4 z5 z9 z10 z11 z12 z13 z14 z15 z16 z17 z18 z19 z20 z21 z22 z23 z24 z25 z26 z27 z28 z29 z30 z31 z32 z33 z34 z35 z36 z37 z38 z39 z40 z41 z42 z43 z44 z45 z46 z47 z48 z49 z50 z51 z52 z53 z54 z55 z56 z57 z58 z59 z60 z61 z62 z63 z64 z65 z66 z67 z68 z69 z70 z71 z72 z73 z74 z75 z76 z77 z78 z79 z80 z81 z82 z83 z84 z85 z86 z87 z88 z89 z90 z91 z92 z93 z94 z95 z96 z97 z98 z99 z100 z101 z102 z103 z104 z105 z106 z107 z108 z109 z110 z111 z112 z113 z114 z115 z116 z117 z118
    have c0P1 := P1.c0
    have c1P1 := P1.c1
    have c0P2 := P2.c0
    have c1P2 := P2.c1
    have H1 := Lib.hid (awake4 W4)
    go_wp2_with fail
    clear c0P1 c1P1 c0P2 c1P2
    refine H1.out.mono ?_
    rintro e w1 ⟨rfl, hb⟩
    clear H1
    replace P1 := P1.below hb
    replace P2 := P2.below hb
    replace ha := ha.below hb
    replace hc := hc.below hb
    replace hB := hB.trans (hb.mono hB.size)
    clear hb
    have c0P1 := P1.c0
    have c1P1 := P1.c1
    have c0P2 := P2.c0
    have c1P2 := P2.c1
    have H2 := Lib.hid (awake4 w1)
    go_wp2_with fail
    clear c0P1 c1P1 c0P2 c1P2
    refine H2.out.mono ?_
    rintro e w2 ⟨rfl, hb⟩
    clear H2
    replace P1 := P1.below hb
    replace P2 := P2.below hb
    replace ha := ha.below hb
    replace hc := hc.below hb
    replace hB := hB.trans (hb.mono hB.size)
    clear hb
    have c0P1 := P1.c0
    have c1P1 := P1.c1
    have c0P2 := P2.c0
    have c1P2 := P2.c1
    go_wp2_with fail
    go_ret
    exact ⟨rfl, hB⟩

set_option maxRecDepth 100000 in
set_option maxHeartbeats 4000000 in
theorem order_l3 (A B : Int) (a b : Sl) (ws cs : List Int) (t : Nat) (_ht : t < 256) (w : World) (ha : RI w a ws) (hc : RI w b cs) (h : ws.length = 0) (h0 : cs.length = ws.length) :
    Calls Tryz.prog 6 #[.agg #[.int .i64 A, .int .i64 B], .agg #[.slice a.a a.n a.c, .slice b.a b.n b.c], .int .u8 (t : Int)] w fun e w' => e = .returned (.bool true) ∧ Below w.heap.size w w' := by
  have ea := ha.len
  have ec := hc.len
  have e1 : a.n = 0 := by omega
  have e2 : b.n = 0 := by omega
  rw [e1, e2]
  clear ea ec e1 e2 ha hc
  go_enter Tryz.func6, Tryz.ntmps6
  have hb : Below w.heap.size w ((w.alloc (.cells #[.int .i64 A, .int .i64 B] 23)).alloc (.cells #[.slice a.a 0 a.c, .slice b.a 0 b.c] 50)) := (((Below.refl _ _).alloc (Nat.le_refl _) _).alloc (by simp) _)
  have hB := hb
  have P1 : Pair ((w.alloc (.cells #[.int .i64 A, .int .i64 B] 23)).alloc (.cells #[.slice a.a 0 a.c, .slice b.a 0 b.c] 50)) (w.heap.size) 23 (.int .i64 A) (.int .i64 B) := by
    have h := (Pair.new w 23 (.int .i64 A) (.int .i64 B)).alloc (.cells #[.slice a.a 0 a.c, .slice b.a 0 b.c] 50)
    simpa only [World.size_alloc] using h
  have P2 : Pair ((w.alloc (.cells #[.int .i64 A, .int .i64 B] 23)).alloc (.cells #[.slice a.a 0 a.c, .slice b.a 0 b.c] 50)) (w.heap.size + 1) 50 (.slice a.a 0 a.c) (.slice b.a 0 b.c) := by
    have h := Pair.new (w.alloc (.cells #[.int .i64 A, .int .i64 B] 23)) 50 (.slice a.a 0 a.c) (.slice b.a 0 b.c)
    simpa only [World.size_alloc] using h
  clear hb
  have c0P1 := P1.c0
  have c1P1 := P1.c1
  have c0P2 := P2.c0
  have c1P2 := P2.c1
  go_wp2_with fail
  clear c0P1 c1P1 c0P2 c1P2
  have hb : Below ((w.alloc (.cells #[.int .i64 A, .int .i64 B] 23)).alloc (.cells #[.slice a.a 0 a.c, .slice b.a 0 b.c] 50)).heap.size ((w.alloc (.cells #[.int .i64 A, .int .i64 B] 23)).alloc (.cells #[.slice a.a 0 a.c, .slice b.a 0 b.c] 50)) ((w.alloc (.cells #[.int .i64 A, .int .i64 B] 23)).alloc (.cells #[.slice a.a 0 a.c, .slice b.a 0 b.c] 50)).drew := (Below.refl _ _).drew
  replace P1 := P1.below hb
  replace P2 := P2.below hb
  replace hB := hB.trans (hb.mono hB.size)
  clear hb
  refine Rd.regionT (fun X => Pair X (w.heap.size) 23 (.int .i64 A) (.int .i64 B) ∧ Pair X (w.heap.size + 1) 50 (.slice a.a 0 a.c) (.slice b.a 0 b.c)) [0, 1, 2, 3, 4, 5] (.one 0 (.one 1 (.one 2 (.one 3 (.one 4 (.one 5 .done)))))) (fun ac W => ∃  (y19 y20 y21 y22 : Value), ac = { tmps := List.toArray (.agg #[.int .i64 A, .int .i64 B] :: .agg #[.slice a.a 0 a.c, .slice b.a 0 b.c] :: .int .u8 (t : Int) :: .pointer (some ⟨w.heap.size, 0, none⟩) :: .pointer (some ⟨w.heap.size + 1, 0, none⟩) :: undef :: .bool false :: .slice a.a 0 a.c :: .slice b.a 0 b.c :: undef :: undef :: undef :: undef :: undef :: undef :: undef :: undef :: undef :: undef :: y19 :: y20 :: y21 :: y22 :: undef :: undef :: undef :: undef :: undef :: undef :: undef :: undef :: undef :: undef :: undef :: undef :: undef :: undef :: undef :: undef :: undef :: undef :: undef :: undef :: undef :: undef :: undef :: undef :: undef :: undef :: undef :: undef :: undef :: undef :: undef :: undef :: undef :: undef :: undef :: undef :: undef :: undef :: undef :: undef :: undef :: undef :: undef :: undef :: undef :: undef :: undef :: undef :: undef :: undef :: undef :: undef :: undef :: undef :: undef :: undef :: undef :: undef :: undef :: undef :: undef :: undef :: undef :: undef :: undef :: undef :: undef :: undef :: undef :: undef :: undef :: undef :: undef :: undef :: undef :: undef :: undef :: undef :: undef :: undef :: undef :: undef :: undef :: undef :: undef :: undef :: undef :: undef :: undef :: undef :: undef :: undef :: undef :: undef :: undef :: undef :: []), defers := [] } ∧ Pair W (w.heap.size) 23 (.int .i64 A) (.int .i64 B) ∧ Pair W (w.heap.size + 1) 50 (.slice a.a 0 a.c) (.slice b.a 0 b.c) ∧ Below w.heap.size w W) (by kernel_rfl) (by kernel_rfl) (by kernel_rfl) ⟨P1, P2⟩ ?tree ?next
  case tree =>
    generalize ((w.alloc (.cells #[.int .i64 A, .int .i64 B] 23)).alloc (.cells #[.slice a.a 0 a.c, .slice b.a 0 b.c] 50)).drew = w3 at P1 P2 hB ⊢
    refine Rd.tr_float (.pointer (some ⟨w.heap.size + 1, 0, none⟩)) (by simp only [List.getElem?_toArray, List.getElem?_cons_zero]; rfl) rfl (by rfl) (fun X _ => by go_simp) ?_
    simp only [Act.put, List.setIfInBounds_toArray, List.set_cons_succ, List.set_cons_zero]
    refine Rd.tr_float (.slice a.a 0 a.c) (by simp only [List.getElem?_toArray, List.getElem?_cons_succ, List.getElem?_cons_zero]; rfl) rfl (by rfl) (fun X hX => by have h0 := hX.2.c0; have h1 := hX.2.c1; go_simp) ?_
    simp only [Act.put, List.setIfInBounds_toArray, List.set_cons_succ, List.set_cons_zero]
    refine Rd.tr_float (.pointer (some ⟨w.heap.size + 1, 1, none⟩)) (by simp only [List.getElem?_toArray, List.getElem?_cons_succ, List.getElem?_cons_zero]; rfl) rfl (by rfl) (fun X _ => by go_simp) ?_
    simp only [Act.put, List.setIfInBounds_toArray, List.set_cons_succ, List.set_cons_zero]
    refine Rd.tr_float (.slice b.a 0 b.c) (by simp only [List.getElem?_toArray, List.getElem?_cons_succ, List.getElem?_cons_zero]; rfl) rfl (by rfl) (fun X hX => by have h0 := hX.2.c0; have h1 := hX.2.c1; go_simp) ?_
    simp only [Act.put, List.setIfInBounds_toArray, List.set_cons_succ, List.set_cons_zero]
    refine Rd.tr_float (.slice a.a 0 a.c) (by simp only [List.getElem?_toArray, List.getElem?_cons_succ, List.getElem?_cons_zero]; rfl) rfl (by rfl) (fun X _ => by go_simp) ?_
    simp only [Act.put, List.setIfInBounds_toArray, List.set_cons_succ, List.set_cons_zero]
    refine Rd.tr_float (.slice b.a 0 b.c) (by simp only [List.getElem?_toArray, List.getElem?_cons_succ, List.getElem?_cons_zero]; rfl) rfl (by rfl) (fun X _ => by go_simp) ?_
    simp only [Act.put, List.setIfInBounds_toArray, List.set_cons_succ, List.set_cons_zero]
    exact Rd.tr_end (⟨_, _, _, _, rfl, P1, P2, hB⟩)
  case next =>
    rintro a5 W4 ⟨y19, y20, y21, y22, rfl, P1, P2, hB⟩
    refine (?_ : ∀ (z0 z1 z4 z5 z9 z10 z11 z12 z13 z14 z15 z16 z17 z18 z19 z20 z21 z22 z23 z24 z25 z26 z27 z28 z29 z30 z31 z32 z33 z34 z35 z36 z37 z38 z39 z40 z41 z42 z43 z44 z45 z46 z47 z48 z49 z50 z51 z52 z53 z54 z55 z56 z57 z58 z59 z60 z61 z62 z63 z64 z65 z66 z67 z68 z69 z70 z71 z72 z73 z74 z75 z76 z77 z78 z79 z80 z81 z82 z83 z84 z85 z86 z87 z88 z89 z90 z91 z92 z93 z94 z95 z96 z97 z98 z99 z100 z101 z102 z103 z104 z105 z106 z107 z108 z109 z110 z111 z112 z113 z114 z115 z116 z117 z118 : Value), Exit.then _ _ _ { tmps := List.toArray (z0 :: z1 :: .int .u8 (t : Int) :: .pointer (some ⟨w.heap.size, 0, none⟩) :: z4 :: z5 :: .bool false :: .slice a.a 0 a.c :: .slice b.a 0 b.c :: z9 :: z10 :: z11 :: z12 :: z13 :: z14 :: z15 :: z16 :: z17 :: z18 :: z19 :: z20 :: z21 :: z22 :: z23 :: z24 :: z25 :: z26 :: z27 :: z28 :: z29 :: z30 :: z31 :: z32 :: z33 :: z34 :: z35 :: z36 :: z37 :: z38 :: z39 :: z40 :: z41 :: z42 :: z43 :: z44 :: z45 :: z46 :: z47 :: z48 :: z49 :: z50 :: z51 :: z52 :: z53 :: z54 :: z55 :: z56 :: z57 :: z58 :: z59 :: z60 :: z61 :: z62 :: z63 :: z64 :: z65 :: z66 :: z67 :: z68 :: z69 :: z70 :: z71 :: z72 :: z73 :: z74 :: z75 :: z76 :: z77 :: z78 :: z79 :: z80 :: z81 :: z82 :: z83 :: z84 :: z85 :: z86 :: z87 :: z88 :: z89 :: z90 :: z91 :: z92 :: z93 :: z94 :: z95 :: z96 :: z97 :: z98 :: z99 :: z100 :: z101 :: z102 :: z103 :: z104 :: z105 :: z106 :: z107 :: z108 :: z109 :: z110 :: z111 :: z112 :: z113 :: z114 :: z115 :: z116 :: z117 :: z118 :: []), defers := [] } _) _ _ _ _ _ _ _ _ _ _ _ _ _ _ _ _ _ _ _ _ _ _ _ _ _ _ _ _ _ _ _ _ _ _ _ _ _ _ _ _ _ _ _ _ _ _ _ _ _ _ _ _ _ _ _ _ _ _ _ _ _ _ _ _ _ _ _ _ _ _ _ _ _ _ _ _ _ _ _ _ _ _ _ _ _ _ _ _ _ _ _ _ _ _ _ _ _ _ _ _ _ _ _ _ _ _ _ _ _ _ _ _ _ _
    intro z0 z1 z4 z5 z9 z10 z11 z12 z13 z14 z15 z16 z17 z18 z19 z20 z21 z22 z23 z24 z25 z26 z27 z28 z29 z30 z31 z32 z33 z34 z35 z36 z37 z38 z39 z40 z41 z42 z43 z44 z45 z46 z47 z48 z49 z50 z51 z52 z53 z54 z55 z56 z57 z58 z59 z60 z61 z62 z63 z64 z65 z66 z67 z68 z69 z70 z71 z72 z73 z74 z75 z76 z77 z78 z79 z80 z81 z82 z83 z84 z85 z86 z87 z88 z89 z90 z91 z92 z93 z94 z95 z96 z97 z98 z99 z100 z101 z102 z103 z104 z105 z106 z107 z108 z109 z110 z111 z112 z113 z114 z115 z116 z117 z118
    have c0P1 := P1.c0
    have c1P1 := P1.c1
    have c0P2 := P2.c0
    have c1P2 := P2.c1
    have H1 := Lib.hid (awake4 W4)
    go_wp2_with fail
    clear c0P1 c1P1 c0P2 c1P2
    refine H1.out.mono ?_
    rintro e w1 ⟨rfl, hb⟩
    clear H1
    replace P1 := P1.below hb
    replace P2 := P2.below hb
    replace hB := hB.trans (hb.mono hB.size)
    clear hb
    have c0P1 := P1.c0
    have c1P1 := P1.c1
    have c0P2 := P2.c0
    have c1P2 := P2.c1
    have H2 := Lib.hid (awake4 w1)
    go_wp2_with fail
    clear c0P1 c1P1 c0P2 c1P2
    refine H2.out.mono ?_
    rintro e w2 ⟨rfl, hb⟩
    clear H2
    replace P1 := P1.below hb
    replace P2 := P2.below hb
    replace hB := hB.trans (hb.mono hB.size)
    clear hb
    have c0P1 := P1.c0
    have c1P1 := P1.c1
    have c0P2 := P2.c0
    have c1P2 := P2.c1
    go_wp2_with fail
    go_ret
    exact ⟨rfl, hB⟩

set_option maxRecDepth 100000 in
set_option maxHeartbeats 4000000 in
theorem order_bad (A B : Int) (m d kk : Nat) (b2 o2 b1 o1 n al bl : Nat) (ws cs : List Int) (t : Nat) (ht : t < 256) (w : World) (ha : RI w ⟨some ⟨b2, o2, none⟩, n, al⟩ ws) (hc : RI w ⟨some ⟨b1, o1, none⟩, n, bl⟩ cs) (HWL : Hid ((ws).length = n)) (HCL : Hid ((cs).length = n)) (hn : n ≤ 12) (hkn : kk < n) (hkk : (t : Int) % (n : Int) = (kk : Int)) (hA : max A 0 = (m : Int)) (hD : max B 1 = (d : Int)) (hm : m < 9223372036854775808) (hd : d < 9223372036854775808) (HD0 : Hid (d ≠ 0)) (cd : Int) (hcd : cd ≠ 0) (hcb : (cd == 0) = false) (HC : Hid (errOf (rat m d) ws cs = cd)) :
    Calls Tryz.prog 6 #[.agg #[.int .i64 A, .int .i64 B], .agg #[.slice (some ⟨b2, o2, none⟩) n al, .slice (some ⟨b1, o1, none⟩) n bl], .int .u8 (t : Int)] w fun e w' => e = .returned (.bool true) ∧ Below w.heap.size w w' := by
  obtain ⟨i0, hi0, hz0, hz1, hz2⟩ := info_parts Tryz.info3'
  have hcapA : n ≤ al := by have h := ha.cap; rw [HWL.out] at h; exact h
  have hcapB : n ≤ bl := by have h := hc.cap; rw [HCL.out] at h; exact h
  have h12 : ¬ (12 : Int) < (n : Int) := by omega
  have hn0 : ¬ (n : Int) = 0 := by omega
  have hn1 : n ≠ 0 := by omega
  have hn2 : ((n : Int) == 0) = false := by simp; omega
  go_enter Tryz.func6, Tryz.ntmps6
  have hb : Below w.heap.size w ((w.alloc (.cells #[.int .i64 A, .int .i64 B] 23)).alloc (.cells #[.slice (some ⟨b2, o2, none⟩) n al, .slice (some ⟨b1, o1, none⟩) n bl] 50)) := (((Below.refl _ _).alloc (Nat.le_refl _) _).alloc (by simp) _)
  replace ha := ha.below hb
  replace hc := hc.below hb
  have hB := hb
  have P1 : Pair ((w.alloc (.cells #[.int .i64 A, .int .i64 B] 23)).alloc (.cells #[.slice (some ⟨b2, o2, none⟩) n al, .slice (some ⟨b1, o1, none⟩) n bl] 50)) (w.heap.size) 23 (.int .i64 A) (.int .i64 B) := by
    have h := (Pair.new w 23 (.int .i64 A) (.int .i64 B)).alloc (.cells #[.slice (some ⟨b2, o2, none⟩) n al, .slice (some ⟨b1, o1, none⟩) n bl] 50)
    simpa only [World.size_alloc] using h
  have P2 : Pair ((w.alloc (.cells #[.int .i64 A, .int .i64 B] 23)).alloc (.cells #[.slice (some ⟨b2, o2, none⟩) n al, .slice (some ⟨b1, o1, none⟩) n bl] 50)) (w.heap.size + 1) 50 (.slice (some ⟨b2, o2, none⟩) n al) (.slice (some ⟨b1, o1, none⟩) n bl) := by
    have h := Pair.new (w.alloc (.cells #[.int .i64 A, .int .i64 B] 23)) 50 (.slice (some ⟨b2, o2, none⟩) n al) (.slice (some ⟨b1, o1, none⟩) n bl)
    simpa only [World.size_alloc] using h
  clear hb
  have c0P1 := P1.c0
  have c1P1 := P1.c1
  have c0P2 := P2.c0
  have c1P2 := P2.c1
  go_wp2_with fail
  clear c0P1 c1P1 c0P2 c1P2
  have hb : Below ((w.alloc (.cells #[.int .i64 A, .int .i64 B] 23)).alloc (.cells #[.slice (some ⟨b2, o2, none⟩) n al, .slice (some ⟨b1, o1, none⟩) n bl] 50)).heap.size ((w.alloc (.cells #[.int .i64 A, .int .i64 B] 23)).alloc (.cells #[.slice (some ⟨b2, o2, none⟩) n al, .slice (some ⟨b1, o1, none⟩) n bl] 50)) ((w.alloc (.cells #[.int .i64 A, .int .i64 B] 23)).alloc (.cells #[.slice (some ⟨b2, o2, none⟩) n al, .slice (some ⟨b1, o1, none⟩) n bl] 50)).drew := (Below.refl _ _).drew
  replace P1 := P1.below hb
  replace P2 := P2.below hb
  replace ha := ha.below hb
  replace hc := hc.below hb
  replace hB := hB.trans (hb.mono hB.size)
  clear hb
  refine Rd.regionT (fun X => Pair X (w.heap.size) 23 (.int .i64 A) (.int .i64 B) ∧ Pair X (w.heap.size + 1) 50 (.slice (some ⟨b2, o2, none⟩) n al) (.slice (some ⟨b1, o1, none⟩) n bl)) [0, 1, 2, 3, 4, 5] (.one 0 (.one 1 (.one 2 (.one 3 (.one 4 (.one 5 .done)))))) (fun ac W => ∃  (y19 y20 y21 y22 : Value), ac = { tmps := List.toArray (.agg #[.int .i64 A, .int .i64 B] :: .agg #[.slice (some ⟨b2, o2, none⟩) n al, .slice (some ⟨b1, o1, none⟩) n bl] :: .int .u8 (t : Int) :: .pointer (some ⟨w.heap.size, 0, none⟩) :: .pointer (some ⟨w.heap.size + 1, 0, none⟩) :: undef :: .bool false :: .slice (some ⟨b2, o2, none⟩) n al :: .slice (some ⟨b1, o1, none⟩) n bl :: undef :: undef :: undef :: undef :: undef :: undef :: undef :: undef :: undef :: undef :: y19 :: y20 :: y21 :: y22 :: undef :: undef :: undef :: undef :: undef :: undef :: undef :: undef :: undef :: undef :: undef :: undef :: undef :: undef :: undef :: undef :: undef :: undef :: undef :: undef :: undef :: undef :: undef :: undef :: undef :: undef :: undef :: undef :: undef :: undef :: undef :: undef :: undef :: undef :: undef :: undef :: undef :: undef :: undef :: undef :: undef :: undef :: undef :: undef :: undef :: undef :: undef :: undef :: undef :: undef :: undef :: undef :: undef :: undef :: undef :: undef :: undef :: undef :: undef :: undef :: undef :: undef :: undef :: undef :: undef :: undef :: undef :: undef :: undef :: undef :: undef :: undef :: undef :: undef :: undef :: undef :: undef :: undef :: undef :: undef :: undef :: undef :: undef :: undef :: undef :: undef :: undef :: undef :: undef :: undef :: undef :: undef :: undef :: undef :: undef :: undef :: []), defers := [] } ∧ Pair W (w.heap.size) 23 (.int .i64 A) (.int .i64 B) ∧ Pair W (w.heap.size + 1) 50 (.slice (some ⟨b2, o2, none⟩) n al) (.slice (some ⟨b1, o1, none⟩) n bl) ∧ RI W ⟨some ⟨b2, o2, none⟩, n, al⟩ ws ∧ RI W ⟨some ⟨b1, o1, none⟩, n, bl⟩ cs ∧ Below w.heap.size w W) (by kernel_rfl) (by kernel_rfl) (by kernel_rfl) ⟨P1, P2⟩ ?tree ?next
  case tree =>
    generalize ((w.alloc (.cells #[.int .i64 A, .int .i64 B] 23)).alloc (.cells #[.slice (some ⟨b2, o2, none⟩) n al, .slice (some ⟨b1, o1, none⟩) n bl] 50)).drew = w3 at P1 P2 ha hc hB ⊢
    refine Rd.tr_float (.pointer (some ⟨w.heap.size + 1, 0, none⟩)) (by simp only [List.getElem?_toArray, List.getElem?_cons_zero]; rfl) rfl (by rfl) (fun X _ => by go_simp) ?_
    simp only [Act.put, List.setIfInBounds_toArray, List.set_cons_succ, List.set_cons_zero]
    refine Rd.tr_float (.slice (some ⟨b2, o2, none⟩) n al) (by simp only [List.getElem?_toArray, List.getElem?_cons_succ, List.getElem?_cons_zero]; rfl) rfl (by rfl) (fun X hX => by have h0 := hX.2.c0; have h1 := hX.2.c1; go_simp) ?_
    simp only [Act.put, List.setIfInBounds_toArray, List.set_cons_succ, List.set_cons_zero]
    refine Rd.tr_float (.pointer (some ⟨w.heap.size + 1, 1, none⟩)) (by simp only [List.getElem?_toArray, List.getElem?_cons_succ, List.getElem?_cons_zero]; rfl) rfl (by rfl) (fun X _ => by go_simp) ?_
    simp only [Act.put, List.setIfInBounds_toArray, List.set_cons_succ, List.set_cons_zero]
    refine Rd.tr_float (.slice (some ⟨b1, o1, none⟩) n bl) (by simp only [List.getElem?_toArray, List.getElem?_cons_succ, List.getElem?_cons_zero]; rfl) rfl (by rfl) (fun X hX => by have h0 := hX.2.c0; have h1 := hX.2.c1; go_simp) ?_
    simp only [Act.put, List.setIfInBounds_toArray, List.set_cons_succ, List.set_cons_zero]
    refine Rd.tr_float (.slice (some ⟨b2, o2, none⟩) n al) (by simp only [List.getElem?_toArray, List.getElem?_cons_succ, List.getElem?_cons_zero]; rfl) rfl (by rfl) (fun X _ => by go_simp) ?_
    simp only [Act.put, List.setIfInBounds_toArray, List.set_cons_succ, List.set_cons_zero]
    refine Rd.tr_float (.slice (some ⟨b1, o1, none⟩) n bl) (by simp only [List.getElem?_toArray, List.getElem?_cons_succ, List.getElem?_cons_zero]; rfl) rfl (by rfl) (fun X _ => by go_simp) ?_
    simp only [Act.put, List.setIfInBounds_toArray, List.set_cons_succ, List.set_cons_zero]
    exact Rd.tr_end (⟨_, _, _, _, rfl, P1, P2, ha, hc, hB⟩)
  case next =>
    rintro a5 W4 ⟨y19, y20, y21, y22, rfl, P1, P2, ha, hc, hB⟩
    refine (?_ : ∀ (z0 z1 z4 z5 z9 z10 z11 z12 z13 z14 z15 z16 z17 z18 z19 z20 z21 z22 z23 z24 z25 z26 z27 z28 z29 z30 z31 z32 z33 z34 z35 z36 z37 z38 z39 z40 z41 z42 z43 z44 z45 z46 z47 z48 z49 z50 z51 z52 z53 z54 z55 z56 z57 z58 z59 z60 z61 z62 z63 z64 z65 z66 z67 z68 z69 z70 z71 z72 z73 z74 z75 z76 z77 z78 z79 z80 z81 z82 z83 z84 z85 z86 z87 z88 z89 z90 z91 z92 z93 z94 z95 z96 z97 z98 z99 z100 z101 z102 z103 z104 z105 z106 z107 z108 z109 z110 z111 z112 z113 z114 z115 z116 z117 z118 : Value), Exit.then _ _ _ { tmps := List.toArray (z0 :: z1 :: .int .u8 (t : Int) :: .pointer (some ⟨w.heap.size, 0, none⟩) :: z4 :: z5 :: .bool false :: .slice (some ⟨b2, o2, none⟩) n al :: .slice (some ⟨b1, o1, none⟩) n bl :: z9 :: z10 :: z11 :: z12 :: z13 :: z14 :: z15 :: z16 :: z17 :: z18 :: z19 :: z20 :: z21 :: z22 :: z23 :: z24 :: z25 :: z26 :: z27 :: z28 :: z29 :: z30 :: z31 :: z32 :: z33 :: z34 :: z35 :: z36 :: z37 :: z38 :: z39 :: z40 :: z41 :: z42 :: z43 :: z44 :: z45 :: z46 :: z47 :: z48 :: z49 :: z50 :: z51 :: z52 :: z53 :: z54 :: z55 :: z56 :: z57 :: z58 :: z59 :: z60 :: z61 :: z62 :: z63 :: z64 :: z65 :: z66 :: z67 :: z68 :: z69 :: z70 :: z71 :: z72 :: z73 :: z74 :: z75 :: z76 :: z77 :: z78 :: z79 :: z80 :: z81 :: z82 :: z83 :: z84 :: z85 :: z86 :: z87 :: z88 :: z89 :: z90 :: z91 :: z92 :: z93 :: z94 :: z95 :: z96 :: z97 :: z98 :: z99 :: z100 :: z101 :: z102 :: z103 :: z104 :: z105 :: z106 :: z107 :: z108 :: z109 :: z110 :: z111 :: z112 :: z113 :: z114 :: z115 :: z116 :: z117 :: z118 :: []), defers := [] } _) _ _ _ _ _ _ _ _ _ _ _ _ _ _ _ _ _ _ _ _ _ _ _ _ _ _ _ _ _ _ _ _ _ _ _ _ _ _ _ _ _ _ _ _ _ _ _ _ _ _ _ _ _ _ _ _ _ _ _ _ _ _ _ _ _ _ _ _ _ _ _ _ _ _ _ _ _ _ _ _ _ _ _ _ _ _ _ _ _ _ _ _ _ _ _ _ _ _ _ _ _ _ _ _ _ _ _ _ _ _ _ _ _ _
    intro z0 z1 z4 z5 z9 z10 z11 z12 z13 z14 z15 z16 z17 z18 z19 z20 z21 z22 z23 z24 z25 z26 z27 z28 z29 z30 z31 z32 z33 z34 z35 z36 z37 z38 z39 z40 z41 z42 z43 z44 z45 z46 z47 z48 z49 z50 z51 z52 z53 z54 z55 z56 z57 z58 z59 z60 z61 z62 z63 z64 z65 z66 z67 z68 z69 z70 z71 z72 z73 z74 z75 z76 z77 z78 z79 z80 z81 z82 z83 z84 z85 z86 z87 z88 z89 z90 z91 z92 z93 z94 z95 z96 z97 z98 z99 z100 z101 z102 z103 z104 z105 z106 z107 z108 z109 z110 z111 z112 z113 z114 z115 z116 z117 z118
    have c0P1 := P1.c0
    have c1P1 := P1.c1
    have c0P2 := P2.c0
    have c1P2 := P2.c1
    have H6 := Lib.hid (awake4 W4)
    go_wp2_with fail
    clear c0P1 c1P1 c0P2 c1P2
    refine H6.out.mono ?_
    rintro e w7 ⟨rfl, hb⟩
    clear H6
    replace P1 := P1.below hb
    replace P2 := P2.below hb
    replace ha := ha.below hb
    replace hc := hc.below hb
    replace hB := hB.trans (hb.mono hB.size)
    clear hb
    have c0P1 := P1.c0
    have c1P1 := P1.c1
    have c0P2 := P2.c0
    have c1P2 := P2.c1
    have H12 := Lib.hid (both_any A B m d w7 hA hD hm hd HD0)
    go_wp2_with fail
    clear c0P1 c1P1 c0P2 c1P2
    refine H12.out.mono ?_
    rintro e w13 ⟨p8, q9, p10, q11, rfl, rp8, rp10, hb⟩
    clear H12
    replace P1 := P1.below hb
    replace P2 := P2.below hb
    replace ha := ha.below hb
    replace hc := hc.below hb
    replace hB := hB.trans (hb.mono hB.size)
    clear hb
    have hb : Below w13.heap.size w13 ((w13.alloc (.cells #[.slice p8.a p8.n p8.c, .slice q9.a q9.n q9.c] 29)).alloc (.cells #[.slice p10.a p10.n p10.c, .slice q11.a q11.n q11.c] 32)) := (((Below.refl _ _).alloc (Nat.le_refl _) _).alloc (by simp) _)
    replace P1 := P1.below hb
    replace P2 := P2.below hb
    replace ha := ha.below hb
    replace hc := hc.below hb
    replace rp8 := rp8.below hb
    replace rp10 := rp10.below hb
    replace hB := hB.trans (hb.mono hB.size)
    have P14 : Pair ((w13.alloc (.cells #[.slice p8.a p8.n p8.c, .slice q9.a q9.n q9.c] 29)).alloc (.cells #[.slice p10.a p10.n p10.c, .slice q11.a q11.n q11.c] 32)) (w13.heap.size) 29 (.slice p8.a p8.n p8.c) (.slice q9.a q9.n q9.c) := by
      have h := (Pair.new w13 29 (.slice p8.a p8.n p8.c) (.slice q9.a q9.n q9.c)).alloc (.cells #[.slice p10.a p10.n p10.c, .slice q11.a q11.n q11.c] 32)
      simpa only [World.size_alloc] using h
    have P15 : Pair ((w13.alloc (.cells #[.slice p8.a p8.n p8.c, .slice q9.a q9.n q9.c] 29)).alloc (.cells #[.slice p10.a p10.n p10.c, .slice q11.a q11.n q11.c] 32)) (w13.heap.size + 1) 32 (.slice p10.a p10.n p10.c) (.slice q11.a q11.n q11.c) := by
      have h := Pair.new (w13.alloc (.cells #[.slice p8.a p8.n p8.c, .slice q9.a q9.n q9.c] 29)) 32 (.slice p10.a p10.n p10.c) (.slice q11.a q11.n q11.c)
      simpa only [World.size_alloc] using h
    clear hb
    have c0P1 := P1.c0
    have c1P1 := P1.c1
    have c0P2 := P2.c0
    have c1P2 := P2.c1
    have c0P14 := P14.c0
    have c1P14 := P14.c1
    have c0P15 := P15.c0
    have c1P15 := P15.c1
    go_wp2_with fail
    clear c0P1 c1P1 c0P2 c1P2 c0P14 c1P14 c0P15 c1P15
    clear P1 P2 P15 rp10
    obtain ⟨B9, hB9⟩ : ∃ B, B = w13.heap.size := ⟨_, rfl⟩
    rw [← hB9] at P14 ⊢
    clear hB9
    generalize ((w13.alloc (.cells #[.slice p8.a p8.n p8.c, .slice q9.a q9.n q9.c] 29)).alloc (.cells #[.slice p10.a p10.n p10.c, .slice q11.a q11.n q11.c] 32)) = W0 at P14 ha hc rp8 hB ⊢
    have P9 := P14
    clear P14
    rw [hkk]
    refine (?_ : ∀ (z0 z1 z2 z3 z4 z5 z10 z12 z13 z14 z15 z16 z17 z18 z19 z20 z21 z22 z23 z24 z25 z26 z27 z28 z29 z30 z31 z32 z33 z34 z35 z36 z37 z38 z39 z40 z41 z42 z43 z44 z45 z46 z47 z48 z49 z50 z51 z52 z53 z54 z55 z56 z57 z58 z59 z60 z61 z62 z63 z64 z65 z66 z67 z68 z69 z70 z71 z72 z73 z74 z75 z76 z77 z78 z79 z80 z81 z82 z83 z84 z85 z86 z87 z88 z89 z90 z91 z92 z93 z94 z95 z96 z97 z98 z99 z100 z101 z102 z103 z104 z105 z106 z107 z108 z109 z110 z111 z112 z113 z114 z115 z116 z117 z118 : Value), Code.wp _ _ _ { tmps := List.toArray (z0 :: z1 :: z2 :: z3 :: z4 :: z5 :: .bool false :: .slice (some ⟨b2, o2, none⟩) n al :: .slice (some ⟨b1, o1, none⟩) n bl :: .pointer (some ⟨B9, 0, none⟩) :: z10 :: .int .i64 (kk : Int) :: z12 :: z13 :: z14 :: z15 :: z16 :: z17 :: z18 :: z19 :: z20 :: z21 :: z22 :: z23 :: z24 :: z25 :: z26 :: z27 :: z28 :: z29 :: z30 :: z31 :: z32 :: z33 :: z34 :: z35 :: z36 :: z37 :: z38 :: z39 :: z40 :: z41 :: z42 :: z43 :: z44 :: z45 :: z46 :: z47 :: z48 :: z49 :: z50 :: z51 :: z52 :: z53 :: z54 :: z55 :: z56 :: z57 :: z58 :: z59 :: z60 :: z61 :: z62 :: z63 :: z64 :: z65 :: z66 :: z67 :: z68 :: z69 :: z70 :: z71 :: z72 :: z73 :: z74 :: z75 :: z76 :: z77 :: z78 :: z79 :: z80 :: z81 :: z82 :: z83 :: z84 :: z85 :: z86 :: z87 :: z88 :: z89 :: z90 :: z91 :: z92 :: z93 :: z94 :: z95 :: z96 :: z97 :: z98 :: z99 :: z100 :: z101 :: z102 :: z103 :: z104 :: z105 :: z106 :: z107 :: z108 :: z109 :: z110 :: z111 :: z112 :: z113 :: z114 :: z115 :: z116 :: z117 :: z118 :: []), defers := [] } _) _ _ _ _ _ _ _ _ _ _ _ _ _ _ _ _ _ _ _ _ _ _ _ _ _ _ _ _ _ _ _ _ _ _ _ _ _ _ _ _ _ _ _ _ _ _ _ _ _ _ _ _ _ _ _ _ _ _ _ _ _ _ _ _ _ _ _ _ _ _ _ _ _ _ _ _ _ _ _ _ _ _ _ _ _ _ _ _ _ _ _ _ _ _ _ _ _ _ _ _ _ _ _ _ _ _ _ _ _ _ _ _ _ _
    intro z0 z1 z2 z3 z4 z5 z10 z12 z13 z14 z15 z16 z17 z18 z19 z20 z21 z22 z23 z24 z25 z26 z27 z28 z29 z30 z31 z32 z33 z34 z35 z36 z37 z38 z39 z40 z41 z42 z43 z44 z45 z46 z47 z48 z49 z50 z51 z52 z53 z54 z55 z56 z57 z58 z59 z60 z61 z62 z63 z64 z65 z66 z67 z68 z69 z70 z71 z72 z73 z74 z75 z76 z77 z78 z79 z80 z81 z82 z83 z84 z85 z86 z87 z88 z89 z90 z91 z92 z93 z94 z95 z96 z97 z98 z99 z100 z101 z102 z103 z104 z105 z106 z107 z108 z109 z110 z111 z112 z113 z114 z115 z116 z117 z118
    have c0P9 := P9.c0
    have c1P9 := P9.c1
    go_wp2_with fail
    clear c0P9 c1P9
    have hb : Below W0.heap.size W0 W0.drew := (Below.refl _ _).drew
    replace P9 := P9.below hb
    replace ha := ha.below hb
    replace hc := hc.below hb
    replace rp8 := rp8.below hb
    replace hB := hB.trans (hb.mono hB.size)
    clear hb
    refine Rd.regionT (fun X => Pair X (B9) 29 (.slice p8.a p8.n p8.c) (.slice q9.a q9.n q9.c)) [1, 2, 3, 5, 6, 7, 9] (.one 1 (.one 2 (.one 3 (.one 5 (.one 6 (.one 7 (.one 0 (.one 4 (.one 8 (.one 9 .done)))))))))) (fun ac W => ∃ (tv : Value) (y53 y54 y55 y56 y57 y58 y59 y60 y61 : Value), ac = { tmps := List.toArray (z0 :: z1 :: z2 :: z3 :: z4 :: z5 :: .bool false :: .slice (some ⟨b2, o2, none⟩) n al :: .slice (some ⟨b1, o1, none⟩) n bl :: .pointer (some ⟨B9, 0, none⟩) :: z10 :: .int .i64 (kk : Int) :: tv :: z13 :: z14 :: z15 :: z16 :: z17 :: z18 :: z19 :: z20 :: z21 :: z22 :: z23 :: z24 :: z25 :: z26 :: z27 :: z28 :: z29 :: z30 :: z31 :: z32 :: z33 :: z34 :: z35 :: z36 :: z37 :: z38 :: z39 :: z40 :: z41 :: z42 :: z43 :: z44 :: z45 :: z46 :: z47 :: z48 :: z49 :: z50 :: z51 :: z52 :: y53 :: y54 :: y55 :: y56 :: y57 :: y58 :: y59 :: y60 :: y61 :: z62 :: z63 :: z64 :: z65 :: z66 :: z67 :: z68 :: z69 :: z70 :: z71 :: z72 :: z73 :: z74 :: z75 :: z76 :: z77 :: z78 :: z79 :: z80 :: z81 :: z82 :: z83 :: z84 :: z85 :: z86 :: z87 :: z88 :: z89 :: z90 :: z91 :: z92 :: z93 :: z94 :: z95 :: z96 :: z97 :: z98 :: z99 :: z100 :: z101 :: z102 :: z103 :: z104 :: z105 :: z106 :: z107 :: z108 :: z109 :: z110 :: z111 :: z112 :: z113 :: z114 :: z115 :: z116 :: z117 :: z118 :: []), defers := [] } ∧ Pair W (B9) 29 (.slice p8.a p8.n p8.c) (.slice q9.a q9.n q9.c) ∧ RI W ⟨some ⟨b2, o2, none⟩, n, al⟩ ws ∧ RI W ⟨some ⟨b1, o1, none⟩, n, bl⟩ cs ∧ RQ W p8 q9 (rat m d) ∧ RowI W tv (rot kk (ws)) ∧ Below w.heap.size w W) (by kernel_rfl) (by kernel_rfl) (by kernel_rfl) P9 ?tree ?next
    case tree =>
      generalize W0.drew = w16 at P9 ha hc rp8 hB ⊢
      refine Rd.tr_float (.slice (some ⟨b2, o2, none⟩) n al) (by simp only [List.getElem?_toArray, List.getElem?_cons_succ, List.getElem?_cons_zero]; rfl) rfl (by rfl) (fun X _ => by go_simp) ?_
      simp only [Act.put, List.setIfInBounds_toArray, List.set_cons_succ, List.set_cons_zero]
      refine Rd.tr_float (.int .i64 (kk : Int)) (by simp only [List.getElem?_toArray, List.getElem?_cons_succ, List.getElem?_cons_zero]; rfl) rfl (by rfl) (fun X _ => by go_simp) ?_
      simp only [Act.put, List.setIfInBounds_toArray, List.set_cons_succ, List.set_cons_zero]
      refine Rd.tr_float (.slice (some ⟨b2, o2 + kk, none⟩) (n - kk) (al - kk)) (by simp only [List.getElem?_toArray, List.getElem?_cons_succ, List.getElem?_cons_zero]; rfl) rfl (by rfl) (fun X _ => by have k0 : kk ≤ n := (by omega); have k1 : ¬ al = kk := (by omega); have k2 : ¬ bl = kk := (by omega); have k3 : ¬ al < kk := (by omega); have k4 : ¬ bl < kk := (by omega); have k5 : kk ≤ al := (by omega); have k6 : kk ≤ bl := (by omega); go_simp) ?_
      simp only [Act.put, List.setIfInBounds_toArray, List.set_cons_succ, List.set_cons_zero]
      refine Rd.tr_float (.slice (some ⟨b2, o2, none⟩) n al) (by simp only [List.getElem?_toArray, List.getElem?_cons_succ, List.getElem?_cons_zero]; rfl) rfl (by rfl) (fun X _ => by go_simp) ?_
      simp only [Act.put, List.setIfInBounds_toArray, List.set_cons_succ, List.set_cons_zero]
      refine Rd.tr_float (.int .i64 (kk : Int)) (by simp only [List.getElem?_toArray, List.getElem?_cons_succ, List.getElem?_cons_zero]; rfl) rfl (by rfl) (fun X _ => by go_simp) ?_
      simp only [Act.put, List.setIfInBounds_toArray, List.set_cons_succ, List.set_cons_zero]
      refine Rd.tr_float (.slice (some ⟨b2, o2, none⟩) kk al) (by simp only [List.getElem?_toArray, List.getElem?_cons_succ, List.getElem?_cons_zero]; rfl) rfl (by rfl) (fun X _ => by have k0 : kk ≤ n := (by omega); have k1 : ¬ al = kk := (by omega); have k2 : ¬ bl = kk := (by omega); have k3 : ¬ al < kk := (by omega); have k4 : ¬ bl < kk := (by omega); have k5 : kk ≤ al := (by omega); have k6 : kk ≤ bl := (by omega); go_simp) ?_
      simp only [Act.put, List.setIfInBounds_toArray, List.set_cons_succ, List.set_cons_zero]
      refine Rd.tr_move (by simp only [List.getElem?_toArray, List.getElem?_cons_zero]; rfl) rfl (by rfl) (fun K hK => ?_)
      have SP9 := P9
      have Sha := ha
      have Shc := hc
      have Srp8 := rp8
      have SB := hB
      go_simp
      have hown : (w16.alloc (.cells #[] 3)).ownsRow w16.heap.size 3 1 (.slice (some ⟨w16.heap.size, 0, none⟩) 0 0) 0 [] := World.ownsRow_lit w16 #[] 0 (Nat.le_refl _) (by omega) rfl
      have hbS : Below w16.heap.size w16 (w16.alloc (.cells #[] 3)) := (Below.refl _ _).alloc (Nat.le_refl _) _
      have hszS := hbS.size
      replace P9 := P9.below hbS
      replace ha := ha.below hbS
      replace hc := hc.below hbS
      replace rp8 := rp8.below hbS
      replace hB := hB.trans (hbS.mono hB.size)
      generalize w16.alloc (.cells #[] 3) = w17 at P9 ha hc rp8 hown hbS hszS hB ⊢
      refine hK _ _ P9 ?_
      clear hK K
      refine Rd.tr_move (by simp only [List.getElem?_toArray, List.getElem?_cons_succ, List.getElem?_cons_zero]; rfl) rfl (by rfl) (fun K hK => ?_)
      have HNW := Lib.hid (RI.news ha kk (n - kk) (by rw [HWL.out]; omega))
      obtain ⟨v19, w18, HRN, hown2, hgr, _⟩ := run_append_own (P := Tryz.prog) w17 w16.heap.size 24 24 3 i0 (.int .i64 0) 1 8 Tryz.underlying24 hi0 hz0 hz1 hz2 rfl (by decide) _ _ _ hown ⟨b2, o2 + kk, none⟩ (n - kk) (al - kk) ((((ws).drop kk).take (n - kk)).map (Value.int .i64)) (by rw [List.length_map, List.length_take, List.length_drop, HWL.out]; omega) HNW.out (fun u hu => by obtain ⟨z, _, rfl⟩ := List.mem_map.1 hu; rfl) (by unfold maxLen; omega) (by omega) hszS
      refine wp_append_in _ _ 24 24 rfl (.slice (some ⟨w16.heap.size, 0, none⟩) 0 0) (.slice (some ⟨b2, o2 + kk, none⟩) (n - kk) (al - kk)) v19 w18 (by rfl) (by rfl) HRN ?_
      clear HRN HNW
      simp only [Act.put, List.setIfInBounds_toArray, List.set_cons_succ, List.set_cons_zero]
      replace hbS := hbS.grown hgr hszS (fun j ej => (hown.lt j ej).1)
      replace hszS := hbS.size
      clear hown hgr
      have hown := hown2
      clear hown2
      replace P9 := SP9.below hbS
      replace ha := Sha.below hbS
      replace hc := Shc.below hbS
      replace rp8 := Srp8.below hbS
      replace hB := SB.trans (hbS.mono SB.size)
      refine hK _ _ P9 ?_
      clear hK K
      refine Rd.tr_move (by simp only [List.getElem?_toArray, List.getElem?_cons_succ, List.getElem?_cons_zero]; rfl) rfl (by rfl) (fun K hK => ?_)
      have HNW := Lib.hid (RI.news ha 0 kk (by rw [HWL.out]; omega))
      obtain ⟨v21, w20, HRN, hown2, hgr, _⟩ := run_append_own (P := Tryz.prog) w18 w16.heap.size 24 24 3 i0 (.int .i64 0) 1 8 Tryz.underlying24 hi0 hz0 hz1 hz2 rfl (by decide) _ _ _ hown ⟨b2, o2, none⟩ kk al ((((ws).drop 0).take kk).map (Value.int .i64)) (by rw [List.length_map, List.length_take, List.length_drop, HWL.out]; omega) HNW.out (fun u hu => by obtain ⟨z, _, rfl⟩ := List.mem_map.1 hu; rfl) (by unfold maxLen; omega) (by omega) hszS
      refine wp_append_in _ _ 24 24 rfl (v19) (.slice (some ⟨b2, o2, none⟩) kk al) v21 w20 (by rfl) (by rfl) HRN ?_
      clear HRN HNW
      simp only [Act.put, List.setIfInBounds_toArray, List.set_cons_succ, List.set_cons_zero]
      replace hbS := hbS.grown hgr hszS (fun j ej => (hown.lt j ej).1)
      replace hszS := hbS.size
      clear hown hgr
      have hown := hown2
      clear hown2
      replace P9 := SP9.below hbS
      replace ha := Sha.below hbS
      replace hc := Shc.below hbS
      replace rp8 := Srp8.below hbS
      replace hB := SB.trans (hbS.mono SB.size)
      have hTR : RowI w20 v21 (rot kk (ws)) := RowI.of_owns (B := w16.heap.size) (by
        have e1 : ((ws).drop kk).take (n - kk) = (ws).drop kk := List.take_of_length_le (by rw [List.length_drop, HWL.out]; omega)
        have e2 : (0 + (n - kk) + kk) = (rot kk (ws)).length := by rw [rot_len kk _ (by rw [HWL.out]; omega), HWL.out]; omega
        rw [← e2]; unfold rot; rw [List.map_append]; rw [e1, List.drop_zero, List.nil_append] at hown; exact hown)
      clear hown hbS hszS SB SP9 Sha Shc Srp8
      refine hK _ _ P9 ?_
      clear hK K
      refine Rd.tr_float (v21) (by simp only [List.getElem?_toArray, List.getElem?_cons_succ, List.getElem?_cons_zero]; rfl) rfl (by rfl) (fun X _ => by go_simp) ?_
      simp only [Act.put, List.setIfInBounds_toArray, List.set_cons_succ, List.set_cons_zero]
      exact Rd.tr_end (⟨_, _, _, _, _, _, _, _, _, _, rfl, P9, ha, hc, rp8, hTR, hB⟩)
    case next =>
      rintro a23 W22 ⟨tv, y53, y54, y55, y56, y57, y58, y59, y60, y61, rfl, P9, ha, hc, rp8, hT1, hB⟩
      have c0P9 := P9.c0
      have c1P9 := P9.c1
      go_wp2_with fail
      clear c0P9 c1P9
      have hb : Below W22.heap.size W22 W22.drew := (Below.refl _ _).drew
      replace P9 := P9.below hb
      replace ha := ha.below hb
      replace hc := hc.below hb
      replace rp8 := rp8.below hb
      replace hT1 := hT1.below hb
      replace hB := hB.trans (hb.mono hB.size)
      clear hb
      refine Rd.regionT (fun X => Pair X (B9) 29 (.slice p8.a p8.n p8.c) (.slice q9.a q9.n q9.c)) [1, 2, 3, 5, 6, 7, 9] (.one 1 (.one 2 (.one 3 (.one 5 (.one 6 (.one 7 (.one 0 (.one 4 (.one 8 (.one 9 .done)))))))))) (fun ac W => ∃ (cv : Value) (y62 y63 y64 y65 y66 y67 y68 y69 y70 : Value), ac = { tmps := List.toArray (z0 :: z1 :: z2 :: z3 :: z4 :: z5 :: .bool false :: .slice (some ⟨b2, o2, none⟩) n al :: .slice (some ⟨b1, o1, none⟩) n bl :: .pointer (some ⟨B9, 0, none⟩) :: z10 :: .int .i64 (kk : Int) :: tv :: cv :: z14 :: z15 :: z16 :: z17 :: z18 :: z19 :: z20 :: z21 :: z22 :: z23 :: z24 :: z25 :: z26 :: z27 :: z28 :: z29 :: z30 :: z31 :: z32 :: z33 :: z34 :: z35 :: z36 :: z37 :: z38 :: z39 :: z40 :: z41 :: z42 :: z43 :: z44 :: z45 :: z46 :: z47 :: z48 :: z49 :: z50 :: z51 :: z52 :: y53 :: y54 :: y55 :: y56 :: y57 :: y58 :: y59 :: y60 :: y61 :: y62 :: y63 :: y64 :: y65 :: y66 :: y67 :: y68 :: y69 :: y70 :: z71 :: z72 :: z73 :: z74 :: z75 :: z76 :: z77 :: z78 :: z79 :: z80 :: z81 :: z82 :: z83 :: z84 :: z85 :: z86 :: z87 :: z88 :: z89 :: z90 :: z91 :: z92 :: z93 :: z94 :: z95 :: z96 :: z97 :: z98 :: z99 :: z100 :: z101 :: z102 :: z103 :: z104 :: z105 :: z106 :: z107 :: z108 :: z109 :: z110 :: z111 :: z112 :: z113 :: z114 :: z115 :: z116 :: z117 :: z118 :: []), defers := [] } ∧ Pair W (B9) 29 (.slice p8.a p8.n p8.c) (.slice q9.a q9.n q9.c) ∧ RI W ⟨some ⟨b2, o2, none⟩, n, al⟩ ws ∧ RI W ⟨some ⟨b1, o1, none⟩, n, bl⟩ cs ∧ RQ W p8 q9 (rat m d) ∧ RowI W tv (rot kk (ws)) ∧ RowI W cv (rot kk (cs)) ∧ Below w.heap.size w W) (by kernel_rfl) (by kernel_rfl) (by kernel_rfl) P9 ?tree ?next
      case tree =>
        generalize W22.drew = w24 at P9 ha hc rp8 hT1 hB ⊢
        refine Rd.tr_float (.slice (some ⟨b1, o1, none⟩) n bl) (by simp only [List.getElem?_toArray, List.getElem?_cons_succ, List.getElem?_cons_zero]; rfl) rfl (by rfl) (fun X _ => by go_simp) ?_
        simp only [Act.put, List.setIfInBounds_toArray, List.set_cons_succ, List.set_cons_zero]
        refine Rd.tr_float (.int .i64 (kk : Int)) (by simp only [List.getElem?_toArray, List.getElem?_cons_succ, List.getElem?_cons_zero]; rfl) rfl (by rfl) (fun X _ => by go_simp) ?_
        simp only [Act.put, List.setIfInBounds_toArray, List.set_cons_succ, List.set_cons_zero]
        refine Rd.tr_float (.slice (some ⟨b1, o1 + kk, none⟩) (n - kk) (bl - kk)) (by simp only [List.getElem?_toArray, List.getElem?_cons_succ, List.getElem?_cons_zero]; rfl) rfl (by rfl) (fun X _ => by have k0 : kk ≤ n := (by omega); have k1 : ¬ al = kk := (by omega); have k2 : ¬ bl = kk := (by omega); have k3 : ¬ al < kk := (by omega); have k4 : ¬ bl < kk := (by omega); have k5 : kk ≤ al := (by omega); have k6 : kk ≤ bl := (by omega); go_simp) ?_
        simp only [Act.put, List.setIfInBounds_toArray, List.set_cons_succ, List.set_cons_zero]
        refine Rd.tr_float (.slice (some ⟨b1, o1, none⟩) n bl) (by simp only [List.getElem?_toArray, List.getElem?_cons_succ, List.getElem?_cons_zero]; rfl) rfl (by rfl) (fun X _ => by go_simp) ?_
        simp only [Act.put, List.setIfInBounds_toArray, List.set_cons_succ, List.set_cons_zero]
        refine Rd.tr_float (.int .i64 (kk : Int)) (by simp only [List.getElem?_toArray, List.getElem?_cons_succ, List.getElem?_cons_zero]; rfl) rfl (by rfl) (fun X _ => by go_simp) ?_
        simp only [Act.put, List.setIfInBounds_toArray, List.set_cons_succ, List.set_cons_zero]
        refine Rd.tr_float (.slice (some ⟨b1, o1, none⟩) kk bl) (by simp only [List.getElem?_toArray, List.getElem?_cons_succ, List.getElem?_cons_zero]; rfl) rfl (by rfl) (fun X _ => by have k0 : kk ≤ n := (by omega); have k1 : ¬ al = kk := (by omega); have k2 : ¬ bl = kk := (by omega); have k3 : ¬ al < kk := (by omega); have k4 : ¬ bl < kk := (by omega); have k5 : kk ≤ al := (by omega); have k6 : kk ≤ bl := (by omega); go_simp) ?_
        simp only [Act.put, List.setIfInBounds_toArray, List.set_cons_succ, List.set_cons_zero]
        refine Rd.tr_move (by simp only [List.getElem?_toArray, List.getElem?_cons_zero]; rfl) rfl (by rfl) (fun K hK => ?_)
        have SP9 := P9
        have Sha := ha
        have Shc := hc
        have Srp8 := rp8
        have ShT1 := hT1
        have SB := hB
        go_simp
        have hown : (w24.alloc (.cells #[] 3)).ownsRow w24.heap.size 3 1 (.slice (some ⟨w24.heap.size, 0, none⟩) 0 0) 0 [] := World.ownsRow_lit w24 #[] 0 (Nat.le_refl _) (by omega) rfl
        have hbS : Below w24.heap.size w24 (w24.alloc (.cells #[] 3)) := (Below.refl _ _).alloc (Nat.le_refl _) _
        have hszS := hbS.size
        replace P9 := P9.below hbS
        replace ha := ha.below hbS
        replace hc := hc.below hbS
        replace rp8 := rp8.below hbS
        replace hT1 := hT1.below hbS
        replace hB := hB.trans (hbS.mono hB.size)
        generalize w24.alloc (.cells #[] 3) = w25 at P9 ha hc rp8 hT1 hown hbS hszS hB ⊢
        refine hK _ _ P9 ?_
        clear hK K
        refine Rd.tr_move (by simp only [List.getElem?_toArray, List.getElem?_cons_succ, List.getElem?_cons_zero]; rfl) rfl (by rfl) (fun K hK => ?_)
        have HNW := Lib.hid (RI.news hc kk (n - kk) (by rw [HCL.out]; omega))
        obtain ⟨v27, w26, HRN, hown2, hgr, _⟩ := run_append_own (P := Tryz.prog) w25 w24.heap.size 24 24 3 i0 (.int .i64 0) 1 8 Tryz.underlying24 hi0 hz0 hz1 hz2 rfl (by decide) _ _ _ hown ⟨b1, o1 + kk, none⟩ (n - kk) (bl - kk) ((((cs).drop kk).take (n - kk)).map (Value.int .i64)) (by rw [List.length_map, List.length_take, List.length_drop, HCL.out]; omega) HNW.out (fun u hu => by obtain ⟨z, _, rfl⟩ := List.mem_map.1 hu; rfl) (by unfold maxLen; omega) (by omega) hszS
        refine wp_append_in _ _ 24 24 rfl (.slice (some ⟨w24.heap.size, 0, none⟩) 0 0) (.slice (some ⟨b1, o1 + kk, none⟩) (n - kk) (bl - kk)) v27 w26 (by rfl) (by rfl) HRN ?_
        clear HRN HNW
        simp only [Act.put, List.setIfInBounds_toArray, List.set_cons_succ, List.set_cons_zero]
        replace hbS := hbS.grown hgr hszS (fun j ej => (hown.lt j ej).1)
        replace hszS := hbS.size
        clear hown hgr
        have hown := hown2
        clear hown2
        replace P9 := SP9.below hbS
        replace ha := Sha.below hbS
        replace hc := Shc.below hbS
        replace rp8 := Srp8.below hbS
        replace hT1 := ShT1.below hbS
        replace hB := SB.trans (hbS.mono SB.size)
        refine hK _ _ P9 ?_
        clear hK K
        refine Rd.tr_move (by simp only [List.getElem?_toArray, List.getElem?_cons_succ, List.getElem?_cons_zero]; rfl) rfl (by rfl) (fun K hK => ?_)
        have HNW := Lib.hid (RI.news hc 0 kk (by rw [HCL.out]; omega))
        obtain ⟨v29, w28, HRN, hown2, hgr, _⟩ := run_append_own (P := Tryz.prog) w26 w24.heap.size 24 24 3 i0 (.int .i64 0) 1 8 Tryz.underlying24 hi0 hz0 hz1 hz2 rfl (by decide) _ _ _ hown ⟨b1, o1, none⟩ kk bl ((((cs).drop 0).take kk).map (Value.int .i64)) (by rw [List.length_map, List.length_take, List.length_drop, HCL.out]; omega) HNW.out (fun u hu => by obtain ⟨z, _, rfl⟩ := List.mem_map.1 hu; rfl) (by unfold maxLen; omega) (by omega) hszS
        refine wp_append_in _ _ 24 24 rfl (v27) (.slice (some ⟨b1, o1, none⟩) kk bl) v29 w28 (by rfl) (by rfl) HRN ?_
        clear HRN HNW
        simp only [Act.put, List.setIfInBounds_toArray, List.set_cons_succ, List.set_cons_zero]
        replace hbS := hbS.grown hgr hszS (fun j ej => (hown.lt j ej).1)
        replace hszS := hbS.size
        clear hown hgr
        have hown := hown2
        clear hown2
        replace P9 := SP9.below hbS
        replace ha := Sha.below hbS
        replace hc := Shc.below hbS
        replace rp8 := Srp8.below hbS
        replace hT1 := ShT1.below hbS
        replace hB := SB.trans (hbS.mono SB.size)
        have hTR : RowI w28 v29 (rot kk (cs)) := RowI.of_owns (B := w24.heap.size) (by
          have e1 : ((cs).drop kk).take (n - kk) = (cs).drop kk := List.take_of_length_le (by rw [List.length_drop, HCL.out]; omega)
          have e2 : (0 + (n - kk) + kk) = (rot kk (cs)).length := by rw [rot_len kk _ (by rw [HCL.out]; omega), HCL.out]; omega
          rw [← e2]; unfold rot; rw [List.map_append]; rw [e1, List.drop_zero, List.nil_append] at hown; exact hown)
        clear hown hbS hszS SB SP9 Sha Shc Srp8 ShT1
        refine hK _ _ P9 ?_
        clear hK K
        refine Rd.tr_float (v29) (by simp only [List.getElem?_toArray, List.getElem?_cons_succ, List.getElem?_cons_zero]; rfl) rfl (by rfl) (fun X _ => by go_simp) ?_
        simp only [Act.put, List.setIfInBounds_toArray, List.set_cons_succ, List.set_cons_zero]
        exact Rd.tr_end (⟨_, _, _, _, _, _, _, _, _, _, rfl, P9, ha, hc, rp8, hT1, hTR, hB⟩)
      case next =>
        rintro a31 W30 ⟨cv, y62, y63, y64, y65, y66, y67, y68, y69, y70, rfl, P9, ha, hc, rp8, hT1, hT2, hB⟩
        obtain ⟨⟨ta, tn, tl⟩, rfl, hT1b⟩ := hT1.sl
        obtain ⟨⟨ca, cn, cl⟩, rfl, hT2b⟩ := hT2.sl
        clear hT1 hT2
        have hT1 := hT1b
        have hT2 := hT2b
        clear hT1b hT2b
        have et := hT1.len
        have eu := hT2.len
        rw [rot_len kk _ (by rw [HWL.out]; omega), HWL.out] at et
        rw [rot_len kk _ (by rw [HCL.out]; omega), HCL.out] at eu
        dsimp only at et eu
        have et2 := et.symm
        have eu2 := eu.symm
        clear et eu
        subst et2
        subst eu2
        dsimp only
        have HE2 : Hid (errOf (rat m d) (rot kk ws) (rot kk cs) = cd) := Lib.hid (by rw [rot_err (by rw [HWL.out]; omega) (by rw [HCL.out]; omega)]; exact HC.out)
        have c0P9 := P9.c0
        have c1P9 := P9.c1
        have H32 := Lib.hid (Fill_bad p8 q9 ⟨some ⟨b2, o2, none⟩, n, al⟩ ⟨some ⟨b1, o1, none⟩, n, bl⟩ (rat m d) ws cs W30 rp8 ha hc (by rw [HWL.out]; omega) cd hcd hcb HC)
        go_wp2_with fail
        clear c0P9 c1P9
        refine H32.out.mono ?_
        rintro e w33 ⟨rfl, hb⟩
        clear H32
        replace P9 := P9.below hb
        replace ha := ha.below hb
        replace hc := hc.below hb
        replace rp8 := rp8.below hb
        replace hT1 := hT1.below hb
        replace hT2 := hT2.below hb
        replace hB := hB.trans (hb.mono hB.size)
        clear hb
        have c0P9 := P9.c0
        have c1P9 := P9.c1
        have H34 := Lib.hid (Fill_bad p8 q9 ⟨ta, n, tl⟩ ⟨ca, n, cl⟩ (rat m d) (rot kk ws) (rot kk cs) w33 rp8 hT1 hT2 (by rw [rot_len kk _ (by rw [HWL.out]; omega), HWL.out]; omega) cd hcd hcb HE2)
        go_wp2_with fail
        clear c0P9 c1P9
        refine H34.out.mono ?_
        rintro e w35 ⟨rfl, hb⟩
        clear H34
        replace P9 := P9.below hb
        replace ha := ha.below hb
        replace hc := hc.below hb
        replace rp8 := rp8.below hb
        replace hT1 := hT1.below hb
        replace hT2 := hT2.below hb
        replace hB := hB.trans (hb.mono hB.size)
        clear hb
        have c0P9 := P9.c0
        have c1P9 := P9.c1
        go_wp2_with fail
        clear c0P9 c1P9
        refine (?_ : ∀ (z0 z1 z2 z3 z4 z5 z7 z8 z9 z10 z11 z12 z13 z15 z17 z18 z19 z20 z21 z22 z23 z24 z25 z26 z27 z28 z29 z30 z31 z32 z33 z34 z35 z36 z37 z38 z39 z40 z41 z42 z43 z44 z45 z46 z47 z48 z49 z50 z51 z52 z53 z54 z55 z56 z57 z58 z59 z60 z61 z62 z63 z64 z65 z66 z67 z68 z69 z70 z71 z72 z73 z74 z75 z76 z77 z78 z79 z80 z81 z82 z83 z84 z85 z86 z87 z88 z89 z90 z91 z92 z93 z94 z95 z98 z99 z100 z101 z102 z103 z104 z105 z106 z107 z108 z109 z110 z111 z112 z113 z114 z115 z116 z117 z118 : Value), Code.wp _ _ _ { tmps := List.toArray (z0 :: z1 :: z2 :: z3 :: z4 :: z5 :: .bool false :: z7 :: z8 :: z9 :: z10 :: z11 :: z12 :: z13 :: .slice none 0 0 :: z15 :: .slice none 0 0 :: z17 :: z18 :: z19 :: z20 :: z21 :: z22 :: z23 :: z24 :: z25 :: z26 :: z27 :: z28 :: z29 :: z30 :: z31 :: z32 :: z33 :: z34 :: z35 :: z36 :: z37 :: z38 :: z39 :: z40 :: z41 :: z42 :: z43 :: z44 :: z45 :: z46 :: z47 :: z48 :: z49 :: z50 :: z51 :: z52 :: z53 :: z54 :: z55 :: z56 :: z57 :: z58 :: z59 :: z60 :: z61 :: z62 :: z63 :: z64 :: z65 :: z66 :: z67 :: z68 :: z69 :: z70 :: z71 :: z72 :: z73 :: z74 :: z75 :: z76 :: z77 :: z78 :: z79 :: z80 :: z81 :: z82 :: z83 :: z84 :: z85 :: z86 :: z87 :: z88 :: z89 :: z90 :: z91 :: z92 :: z93 :: z94 :: z95 :: .int .i64 0 :: .int .i64 0 :: z98 :: z99 :: z100 :: z101 :: z102 :: z103 :: z104 :: z105 :: z106 :: z107 :: z108 :: z109 :: z110 :: z111 :: z112 :: z113 :: z114 :: z115 :: z116 :: z117 :: z118 :: []), defers := [] } _) _ _ _ _ _ _ _ _ _ _ _ _ _ _ _ _ _ _ _ _ _ _ _ _ _ _ _ _ _ _ _ _ _ _ _ _ _ _ _ _ _ _ _ _ _ _ _ _ _ _ _ _ _ _ _ _ _ _ _ _ _ _ _ _ _ _ _ _ _ _ _ _ _ _ _ _ _ _ _ _ _ _ _ _ _ _ _ _ _ _ _ _ _ _ _ _ _ _ _ _ _ _ _ _ _ _ _ _ _ _ _ _ _ _
        intro z0 z1 z2 z3 z4 z5 z7 z8 z9 z10 z11 z12 z13 z15 z17 z18 z19 z20 z21 z22 z23 z24 z25 z26 z27 z28 z29 z30 z31 z32 z33 z34 z35 z36 z37 z38 z39 z40 z41 z42 z43 z44 z45 z46 z47 z48 z49 z50 z51 z52 z53 z54 z55 z56 z57 z58 z59 z60 z61 z62 z63 z64 z65 z66 z67 z68 z69 z70 z71 z72 z73 z74 z75 z76 z77 z78 z79 z80 z81 z82 z83 z84 z85 z86 z87 z88 z89 z90 z91 z92 z93 z94 z95 z98 z99 z100 z101 z102 z103 z104 z105 z106 z107 z108 z109 z110 z111 z112 z113 z114 z115 z116 z117 z118
        go_loopw [97] (fun i wr => i = .int .i64 0 ∧ Hid (Below w.heap.size w wr)) (fun _ _ => 0)
        case atStart => exact ⟨rfl, Lib.hid hB⟩
        case round =>
          clear hB P9 ha hc hT1 hT2 rp8
          obtain ⟨rfl, HBB⟩ := hrel
          have hB := HBB.out
          clear HBB
          go_wp2_with fail
          go_ret
          exact ⟨rfl, hB⟩

set_option maxRecDepth 100000 in
set_option maxHeartbeats 4000000 in
theorem order_good (A B : Int) (m d kk : Nat) (b2 o2 b1 o1 n al bl : Nat) (ks : List Kid) (t : Nat) (ht : t < 256) (w : World) (ha : RI w ⟨some ⟨b2, o2, none⟩, n, al⟩ (ks.map fun k => (k.1 : Int))) (hc : RI w ⟨some ⟨b1, o1, none⟩, n, bl⟩ (ks.map fun k => (k.2 : Int))) (HWL : Hid (((ks.map fun k => (k.1 : Int))).length = n)) (HCL : Hid (((ks.map fun k => (k.2 : Int))).length = n)) (hn : n ≤ 12) (hkn : kk < n) (hkk : (t : Int) % (n : Int) = (kk : Int)) (hA : max A 0 = (m : Int)) (hD : max B 1 = (d : Int)) (hm : m < 9223372036854775808) (hd : d < 9223372036854775808) (HD0 : Hid (d ≠ 0)) (HKL : Hid (ks.length = n)) (HKK : Hid (∀ k ∈ ks, okKid k)) (HX : Hid (rat m d ≤ ((caps ks : Nat) : Rat))) (HE : Hid (errOf (rat m d) (ks.map fun k => (k.1 : Int)) (ks.map fun k => (k.2 : Int)) = 0)) :
    Calls Tryz.prog 6 #[.agg #[.int .i64 A, .int .i64 B], .agg #[.slice (some ⟨b2, o2, none⟩) n al, .slice (some ⟨b1, o1, none⟩) n bl], .int .u8 (t : Int)] w fun e w' => e = .returned (.bool true) ∧ Below w.heap.size w w' := by
  obtain ⟨i0, hi0, hz0, hz1, hz2⟩ := info_parts Tryz.info3'
  have hcapA : n ≤ al := by have h := ha.cap; rw [HWL.out] at h; exact h
  have hcapB : n ≤ bl := by have h := hc.cap; rw [HCL.out] at h; exact h
  have h12 : ¬ (12 : Int) < (n : Int) := by omega
  have hn0 : ¬ (n : Int) = 0 := by omega
  have hn1 : n ≠ 0 := by omega
  have hn2 : ((n : Int) == 0) = false := by simp; omega
  go_enter Tryz.func6, Tryz.ntmps6
  have hb : Below w.heap.size w ((w.alloc (.cells #[.int .i64 A, .int .i64 B] 23)).alloc (.cells #[.slice (some ⟨b2, o2, none⟩) n al, .slice (some ⟨b1, o1, none⟩) n bl] 50)) := (((Below.refl _ _).alloc (Nat.le_refl _) _).alloc (by simp) _)
  replace ha := ha.below hb
  replace hc := hc.below hb
  have hB := hb
  have P1 : Pair ((w.alloc (.cells #[.int .i64 A, .int .i64 B] 23)).alloc (.cells #[.slice (some ⟨b2, o2, none⟩) n al, .slice (some ⟨b1, o1, none⟩) n bl] 50)) (w.heap.size) 23 (.int .i64 A) (.int .i64 B) := by
    have h := (Pair.new w 23 (.int .i64 A) (.int .i64 B)).alloc (.cells #[.slice (some ⟨b2, o2, none⟩) n al, .slice (some ⟨b1, o1, none⟩) n bl] 50)
    simpa only [World.size_alloc] using h
  have P2 : Pair ((w.alloc (.cells #[.int .i64 A, .int .i64 B] 23)).alloc (.cells #[.slice (some ⟨b2, o2, none⟩) n al, .slice (some ⟨b1, o1, none⟩) n bl] 50)) (w.heap.size + 1) 50 (.slice (some ⟨b2, o2, none⟩) n al) (.slice (some ⟨b1, o1, none⟩) n bl) := by
    have h := Pair.new (w.alloc (.cells #[.int .i64 A, .int .i64 B] 23)) 50 (.slice (some ⟨b2, o2, none⟩) n al) (.slice (some ⟨b1, o1, none⟩) n bl)
    simpa only [World.size_alloc] using h
  clear hb
  have c0P1 := P1.c0
  have c1P1 := P1.c1
  have c0P2 := P2.c0
  have c1P2 := P2.c1
  go_wp2_with fail
  clear c0P1 c1P1 c0P2 c1P2
  have hb : Below ((w.alloc (.cells #[.int .i64 A, .int .i64 B] 23)).alloc (.cells #[.slice (some ⟨b2, o2, none⟩) n al, .slice (some ⟨b1, o1, none⟩) n bl] 50)).heap.size ((w.alloc (.cells #[.int .i64 A, .int .i64 B] 23)).alloc (.cells #[.slice (some ⟨b2, o2, none⟩) n al, .slice (some ⟨b1, o1, none⟩) n bl] 50)) ((w.alloc (.cells #[.int .i64 A, .int .i64 B] 23)).alloc (.cells #[.slice (some ⟨b2, o2, none⟩) n al, .slice (some ⟨b1, o1, none⟩) n bl] 50)).drew := (Below.refl _ _).drew
  replace P1 := P1.below hb
  replace P2 := P2.below hb
  replace ha := ha.below hb
  replace hc := hc.below hb
  replace hB := hB.trans (hb.mono hB.size)
  clear hb
  refine Rd.regionT (fun X => Pair X (w.heap.size) 23 (.int .i64 A) (.int .i64 B) ∧ Pair X (w.heap.size + 1) 50 (.slice (some ⟨b2, o2, none⟩) n al) (.slice (some ⟨b1, o1, none⟩) n bl)) [0, 1, 2, 3, 4, 5] (.one 0 (.one 1 (.one 2 (.one 3 (.one 4 (.one 5 .done)))))) (fun ac W => ∃  (y19 y20 y21 y22 : Value), ac = { tmps := List.toArray (.agg #[.int .i64 A, .int .i64 B] :: .agg #[.slice (some ⟨b2, o2, none⟩) n al, .slice (some ⟨b1, o1, none⟩) n bl] :: .int .u8 (t : Int) :: .pointer (some ⟨w.heap.size, 0, none⟩) :: .pointer (some ⟨w.heap.size + 1, 0, none⟩) :: undef :: .bool false :: .slice (some ⟨b2, o2, none⟩) n al :: .slice (some ⟨b1, o1, none⟩) n bl :: undef :: undef :: undef :: undef :: undef :: undef :: undef :: undef :: undef :: undef :: y19 :: y20 :: y21 :: y22 :: undef :: undef :: undef :: undef :: undef :: undef :: undef :: undef :: undef :: undef :: undef :: undef :: undef :: undef :: undef :: undef :: undef :: undef :: undef :: undef :: undef :: undef :: undef :: undef :: undef :: undef :: undef :: undef :: undef :: undef :: undef :: undef :: undef :: undef :: undef :: undef :: undef :: undef :: undef :: undef :: undef :: undef :: undef :: undef :: undef :: undef :: undef :: undef :: undef :: undef :: undef :: undef :: undef :: undef :: undef :: undef :: undef :: undef :: undef :: undef :: undef :: undef :: undef :: undef :: undef :: undef :: undef :: undef :: undef :: undef :: undef :: undef :: undef :: undef :: undef :: undef :: undef :: undef :: undef :: undef :: undef :: undef :: undef :: undef :: undef :: undef :: undef :: undef :: undef :: undef :: undef :: undef :: undef :: undef :: undef :: undef :: []), defers := [] } ∧ Pair W (w.heap.size) 23 (.int .i64 A) (.int .i64 B) ∧ Pair W (w.heap.size + 1) 50 (.slice (some ⟨b2, o2, none⟩) n al) (.slice (some ⟨b1, o1, none⟩) n bl) ∧ RI W ⟨some ⟨b2, o2, none⟩, n, al⟩ (ks.map fun k => (k.1 : Int)) ∧ RI W ⟨some ⟨b1, o1, none⟩, n, bl⟩ (ks.map fun k => (k.2 : Int)) ∧ Below w.heap.size w W) (by kernel_rfl) (by kernel_rfl) (by kernel_rfl) ⟨P1, P2⟩ ?tree ?next
  case tree =>
    generalize ((w.alloc (.cells #[.int .i64 A, .int .i64 B] 23)).alloc (.cells #[.slice (some ⟨b2, o2, none⟩) n al, .slice (some ⟨b1, o1, none⟩) n bl] 50)).drew = w3 at P1 P2 ha hc hB ⊢
    refine Rd.tr_float (.pointer (some ⟨w.heap.size + 1, 0, none⟩)) (by simp only [List.getElem?_toArray, List.getElem?_cons_zero]; rfl) rfl (by rfl) (fun X _ => by go_simp) ?_
    simp only [Act.put, List.setIfInBounds_toArray, List.set_cons_succ, List.set_cons_zero]
    refine Rd.tr_float (.slice (some ⟨b2, o2, none⟩) n al) (by simp only [List.getElem?_toArray, List.getElem?_cons_succ, List.getElem?_cons_zero]; rfl) rfl (by rfl) (fun X hX => by have h0 := hX.2.c0; have h1 := hX.2.c1; go_simp) ?_
    simp only [Act.put, List.setIfInBounds_toArray, List.set_cons_succ, List.set_cons_zero]
    refine Rd.tr_float (.pointer (some ⟨w.heap.size + 1, 1, none⟩)) (by simp only [List.getElem?_toArray, List.getElem?_cons_succ, List.getElem?_cons_zero]; rfl) rfl (by rfl) (fun X _ => by go_simp) ?_
    simp only [Act.put, List.setIfInBounds_toArray, List.set_cons_succ, List.set_cons_zero]
    refine Rd.tr_float (.slice (some ⟨b1, o1, none⟩) n bl) (by simp only [List.getElem?_toArray, List.getElem?_cons_succ, List.getElem?_cons_zero]; rfl) rfl (by rfl) (fun X hX => by have h0 := hX.2.c0; have h1 := hX.2.c1; go_simp) ?_
    simp only [Act.put, List.setIfInBounds_toArray, List.set_cons_succ, List.set_cons_zero]
    refine Rd.tr_float (.slice (some ⟨b2, o2, none⟩) n al) (by simp only [List.getElem?_toArray, List.getElem?_cons_succ, List.getElem?_cons_zero]; rfl) rfl (by rfl) (fun X _ => by go_simp) ?_
    simp only [Act.put, List.setIfInBounds_toArray, List.set_cons_succ, List.set_cons_zero]
    refine Rd.tr_float (.slice (some ⟨b1, o1, none⟩) n bl) (by simp only [List.getElem?_toArray, List.getElem?_cons_succ, List.getElem?_cons_zero]; rfl) rfl (by rfl) (fun X _ => by go_simp) ?_
    simp only [Act.put, List.setIfInBounds_toArray, List.set_cons_succ, List.set_cons_zero]
    exact Rd.tr_end (⟨_, _, _, _, rfl, P1, P2, ha, hc, hB⟩)
  case next =>
    rintro a5 W4 ⟨y19, y20, y21, y22, rfl, P1, P2, ha, hc, hB⟩
    refine (?_ : ∀ (z0 z1 z4 z5 z9 z10 z11 z12 z13 z14 z15 z16 z17 z18 z19 z20 z21 z22 z23 z24 z25 z26 z27 z28 z29 z30 z31 z32 z33 z34 z35 z36 z37 z38 z39 z40 z41 z42 z43 z44 z45 z46 z47 z48 z49 z50 z51 z52 z53 z54 z55 z56 z57 z58 z59 z60 z61 z62 z63 z64 z65 z66 z67 z68 z69 z70 z71 z72 z73 z74 z75 z76 z77 z78 z79 z80 z81 z82 z83 z84 z85 z86 z87 z88 z89 z90 z91 z92 z93 z94 z95 z96 z97 z98 z99 z100 z101 z102 z103 z104 z105 z106 z107 z108 z109 z110 z111 z112 z113 z114 z115 z116 z117 z118 : Value), Exit.then _ _ _ { tmps := List.toArray (z0 :: z1 :: .int .u8 (t : Int) :: .pointer (some ⟨w.heap.size, 0, none⟩) :: z4 :: z5 :: .bool false :: .slice (some ⟨b2, o2, none⟩) n al :: .slice (some ⟨b1, o1, none⟩) n bl :: z9 :: z10 :: z11 :: z12 :: z13 :: z14 :: z15 :: z16 :: z17 :: z18 :: z19 :: z20 :: z21 :: z22 :: z23 :: z24 :: z25 :: z26 :: z27 :: z28 :: z29 :: z30 :: z31 :: z32 :: z33 :: z34 :: z35 :: z36 :: z37 :: z38 :: z39 :: z40 :: z41 :: z42 :: z43 :: z44 :: z45 :: z46 :: z47 :: z48 :: z49 :: z50 :: z51 :: z52 :: z53 :: z54 :: z55 :: z56 :: z57 :: z58 :: z59 :: z60 :: z61 :: z62 :: z63 :: z64 :: z65 :: z66 :: z67 :: z68 :: z69 :: z70 :: z71 :: z72 :: z73 :: z74 :: z75 :: z76 :: z77 :: z78 :: z79 :: z80 :: z81 :: z82 :: z83 :: z84 :: z85 :: z86 :: z87 :: z88 :: z89 :: z90 :: z91 :: z92 :: z93 :: z94 :: z95 :: z96 :: z97 :: z98 :: z99 :: z100 :: z101 :: z102 :: z103 :: z104 :: z105 :: z106 :: z107 :: z108 :: z109 :: z110 :: z111 :: z112 :: z113 :: z114 :: z115 :: z116 :: z117 :: z118 :: []), defers := [] } _) _ _ _ _ _ _ _ _ _ _ _ _ _ _ _ _ _ _ _ _ _ _ _ _ _ _ _ _ _ _ _ _ _ _ _ _ _ _ _ _ _ _ _ _ _ _ _ _ _ _ _ _ _ _ _ _ _ _ _ _ _ _ _ _ _ _ _ _ _ _ _ _ _ _ _ _ _ _ _ _ _ _ _ _ _ _ _ _ _ _ _ _ _ _ _ _ _ _ _ _ _ _ _ _ _ _ _ _ _ _ _ _ _ _
    intro z0 z1 z4 z5 z9 z10 z11 z12 z13 z14 z15 z16 z17 z18 z19 z20 z21 z22 z23 z24 z25 z26 z27 z28 z29 z30 z31 z32 z33 z34 z35 z36 z37 z38 z39 z40 z41 z42 z43 z44 z45 z46 z47 z48 z49 z50 z51 z52 z53 z54 z55 z56 z57 z58 z59 z60 z61 z62 z63 z64 z65 z66 z67 z68 z69 z70 z71 z72 z73 z74 z75 z76 z77 z78 z79 z80 z81 z82 z83 z84 z85 z86 z87 z88 z89 z90 z91 z92 z93 z94 z95 z96 z97 z98 z99 z100 z101 z102 z103 z104 z105 z106 z107 z108 z109 z110 z111 z112 z113 z114 z115 z116 z117 z118
    have c0P1 := P1.c0
    have c1P1 := P1.c1
    have c0P2 := P2.c0
    have c1P2 := P2.c1
    have H6 := Lib.hid (awake4 W4)
    go_wp2_with fail
    clear c0P1 c1P1 c0P2 c1P2
    refine H6.out.mono ?_
    rintro e w7 ⟨rfl, hb⟩
    clear H6
    replace P1 := P1.below hb
    replace P2 := P2.below hb
    replace ha := ha.below hb
    replace hc := hc.below hb
    replace hB := hB.trans (hb.mono hB.size)
    clear hb
    have c0P1 := P1.c0
    have c1P1 := P1.c1
    have c0P2 := P2.c0
    have c1P2 := P2.c1
    have H12 := Lib.hid (both_any A B m d w7 hA hD hm hd HD0)
    go_wp2_with fail
    clear c0P1 c1P1 c0P2 c1P2
    refine H12.out.mono ?_
    rintro e w13 ⟨p8, q9, p10, q11, rfl, rp8, rp10, hb⟩
    clear H12
    replace P1 := P1.below hb
    replace P2 := P2.below hb
    replace ha := ha.below hb
    replace hc := hc.below hb
    replace hB := hB.trans (hb.mono hB.size)
    clear hb
    have hb : Below w13.heap.size w13 ((w13.alloc (.cells #[.slice p8.a p8.n p8.c, .slice q9.a q9.n q9.c] 29)).alloc (.cells #[.slice p10.a p10.n p10.c, .slice q11.a q11.n q11.c] 32)) := (((Below.refl _ _).alloc (Nat.le_refl _) _).alloc (by simp) _)
    replace P1 := P1.below hb
    replace P2 := P2.below hb
    replace ha := ha.below hb
    replace hc := hc.below hb
    replace rp8 := rp8.below hb
    replace rp10 := rp10.below hb
    replace hB := hB.trans (hb.mono hB.size)
    have P14 : Pair ((w13.alloc (.cells #[.slice p8.a p8.n p8.c, .slice q9.a q9.n q9.c] 29)).alloc (.cells #[.slice p10.a p10.n p10.c, .slice q11.a q11.n q11.c] 32)) (w13.heap.size) 29 (.slice p8.a p8.n p8.c) (.slice q9.a q9.n q9.c) := by
      have h := (Pair.new w13 29 (.slice p8.a p8.n p8.c) (.slice q9.a q9.n q9.c)).alloc (.cells #[.slice p10.a p10.n p10.c, .slice q11.a q11.n q11.c] 32)
      simpa only [World.size_alloc] using h
    have P15 : Pair ((w13.alloc (.cells #[.slice p8.a p8.n p8.c, .slice q9.a q9.n q9.c] 29)).alloc (.cells #[.slice p10.a p10.n p10.c, .slice q11.a q11.n q11.c] 32)) (w13.heap.size + 1) 32 (.slice p10.a p10.n p10.c) (.slice q11.a q11.n q11.c) := by
      have h := Pair.new (w13.alloc (.cells #[.slice p8.a p8.n p8.c, .slice q9.a q9.n q9.c] 29)) 32 (.slice p10.a p10.n p10.c) (.slice q11.a q11.n q11.c)
      simpa only [World.size_alloc] using h
    clear hb
    have c0P1 := P1.c0
    have c1P1 := P1.c1
    have c0P2 := P2.c0
    have c1P2 := P2.c1
    have c0P14 := P14.c0
    have c1P14 := P14.c1
    have c0P15 := P15.c0
    have c1P15 := P15.c1
    go_wp2_with fail
    clear c0P1 c1P1 c0P2 c1P2 c0P14 c1P14 c0P15 c1P15
    clear P1 P2 P15 rp10
    obtain ⟨B9, hB9⟩ : ∃ B, B = w13.heap.size := ⟨_, rfl⟩
    rw [← hB9] at P14 ⊢
    clear hB9
    generalize ((w13.alloc (.cells #[.slice p8.a p8.n p8.c, .slice q9.a q9.n q9.c] 29)).alloc (.cells #[.slice p10.a p10.n p10.c, .slice q11.a q11.n q11.c] 32)) = W0 at P14 ha hc rp8 hB ⊢
    have P9 := P14
    clear P14
    rw [hkk]
    refine (?_ : ∀ (z0 z1 z2 z3 z4 z5 z10 z12 z13 z14 z15 z16 z17 z18 z19 z20 z21 z22 z23 z24 z25 z26 z27 z28 z29 z30 z31 z32 z33 z34 z35 z36 z37 z38 z39 z40 z41 z42 z43 z44 z45 z46 z47 z48 z49 z50 z51 z52 z53 z54 z55 z56 z57 z58 z59 z60 z61 z62 z63 z64 z65 z66 z67 z68 z69 z70 z71 z72 z73 z74 z75 z76 z77 z78 z79 z80 z81 z82 z83 z84 z85 z86 z87 z88 z89 z90 z91 z92 z93 z94 z95 z96 z97 z98 z99 z100 z101 z102 z103 z104 z105 z106 z107 z108 z109 z110 z111 z112 z113 z114 z115 z116 z117 z118 : Value), Code.wp _ _ _ { tmps := List.toArray (z0 :: z1 :: z2 :: z3 :: z4 :: z5 :: .bool false :: .slice (some ⟨b2, o2, none⟩) n al :: .slice (some ⟨b1, o1, none⟩) n bl :: .pointer (some ⟨B9, 0, none⟩) :: z10 :: .int .i64 (kk : Int) :: z12 :: z13 :: z14 :: z15 :: z16 :: z17 :: z18 :: z19 :: z20 :: z21 :: z22 :: z23 :: z24 :: z25 :: z26 :: z27 :: z28 :: z29 :: z30 :: z31 :: z32 :: z33 :: z34 :: z35 :: z36 :: z37 :: z38 :: z39 :: z40 :: z41 :: z42 :: z43 :: z44 :: z45 :: z46 :: z47 :: z48 :: z49 :: z50 :: z51 :: z52 :: z53 :: z54 :: z55 :: z56 :: z57 :: z58 :: z59 :: z60 :: z61 :: z62 :: z63 :: z64 :: z65 :: z66 :: z67 :: z68 :: z69 :: z70 :: z71 :: z72 :: z73 :: z74 :: z75 :: z76 :: z77 :: z78 :: z79 :: z80 :: z81 :: z82 :: z83 :: z84 :: z85 :: z86 :: z87 :: z88 :: z89 :: z90 :: z91 :: z92 :: z93 :: z94 :: z95 :: z96 :: z97 :: z98 :: z99 :: z100 :: z101 :: z102 :: z103 :: z104 :: z105 :: z106 :: z107 :: z108 :: z109 :: z110 :: z111 :: z112 :: z113 :: z114 :: z115 :: z116 :: z117 :: z118 :: []), defers := [] } _) _ _ _ _ _ _ _ _ _ _ _ _ _ _ _ _ _ _ _ _ _ _ _ _ _ _ _ _ _ _ _ _ _ _ _ _ _ _ _ _ _ _ _ _ _ _ _ _ _ _ _ _ _ _ _ _ _ _ _ _ _ _ _ _ _ _ _ _ _ _ _ _ _ _ _ _ _ _ _ _ _ _ _ _ _ _ _ _ _ _ _ _ _ _ _ _ _ _ _ _ _ _ _ _ _ _ _ _ _ _ _ _ _ _
    intro z0 z1 z2 z3 z4 z5 z10 z12 z13 z14 z15 z16 z17 z18 z19 z20 z21 z22 z23 z24 z25 z26 z27 z28 z29 z30 z31 z32 z33 z34 z35 z36 z37 z38 z39 z40 z41 z42 z43 z44 z45 z46 z47 z48 z49 z50 z51 z52 z53 z54 z55 z56 z57 z58 z59 z60 z61 z62 z63 z64 z65 z66 z67 z68 z69 z70 z71 z72 z73 z74 z75 z76 z77 z78 z79 z80 z81 z82 z83 z84 z85 z86 z87 z88 z89 z90 z91 z92 z93 z94 z95 z96 z97 z98 z99 z100 z101 z102 z103 z104 z105 z106 z107 z108 z109 z110 z111 z112 z113 z114 z115 z116 z117 z118
    have c0P9 := P9.c0
    have c1P9 := P9.c1
    go_wp2_with fail
    clear c0P9 c1P9
    have hb : Below W0.heap.size W0 W0.drew := (Below.refl _ _).drew
    replace P9 := P9.below hb
    replace ha := ha.below hb
    replace hc := hc.below hb
    replace rp8 := rp8.below hb
    replace hB := hB.trans (hb.mono hB.size)
    clear hb
    refine Rd.regionT (fun X => Pair X (B9) 29 (.slice p8.a p8.n p8.c) (.slice q9.a q9.n q9.c)) [1, 2, 3, 5, 6, 7, 9] (.one 1 (.one 2 (.one 3 (.one 5 (.one 6 (.one 7 (.one 0 (.one 4 (.one 8 (.one 9 .done)))))))))) (fun ac W => ∃ (tv : Value) (y53 y54 y55 y56 y57 y58 y59 y60 y61 : Value), ac = { tmps := List.toArray (z0 :: z1 :: z2 :: z3 :: z4 :: z5 :: .bool false :: .slice (some ⟨b2, o2, none⟩) n al :: .slice (some ⟨b1, o1, none⟩) n bl :: .pointer (some ⟨B9, 0, none⟩) :: z10 :: .int .i64 (kk : Int) :: tv :: z13 :: z14 :: z15 :: z16 :: z17 :: z18 :: z19 :: z20 :: z21 :: z22 :: z23 :: z24 :: z25 :: z26 :: z27 :: z28 :: z29 :: z30 :: z31 :: z32 :: z33 :: z34 :: z35 :: z36 :: z37 :: z38 :: z39 :: z40 :: z41 :: z42 :: z43 :: z44 :: z45 :: z46 :: z47 :: z48 :: z49 :: z50 :: z51 :: z52 :: y53 :: y54 :: y55 :: y56 :: y57 :: y58 :: y59 :: y60 :: y61 :: z62 :: z63 :: z64 :: z65 :: z66 :: z67 :: z68 :: z69 :: z70 :: z71 :: z72 :: z73 :: z74 :: z75 :: z76 :: z77 :: z78 :: z79 :: z80 :: z81 :: z82 :: z83 :: z84 :: z85 :: z86 :: z87 :: z88 :: z89 :: z90 :: z91 :: z92 :: z93 :: z94 :: z95 :: z96 :: z97 :: z98 :: z99 :: z100 :: z101 :: z102 :: z103 :: z104 :: z105 :: z106 :: z107 :: z108 :: z109 :: z110 :: z111 :: z112 :: z113 :: z114 :: z115 :: z116 :: z117 :: z118 :: []), defers := [] } ∧ Pair W (B9) 29 (.slice p8.a p8.n p8.c) (.slice q9.a q9.n q9.c) ∧ RI W ⟨some ⟨b2, o2, none⟩, n, al⟩ (ks.map fun k => (k.1 : Int)) ∧ RI W ⟨some ⟨b1, o1, none⟩, n, bl⟩ (ks.map fun k => (k.2 : Int)) ∧ RQ W p8 q9 (rat m d) ∧ RowI W tv (rot kk ((ks.map fun k => (k.1 : Int)))) ∧ Below w.heap.size w W) (by kernel_rfl) (by kernel_rfl) (by kernel_rfl) P9 ?tree ?next
    case tree =>
      generalize W0.drew = w16 at P9 ha hc rp8 hB ⊢
      refine Rd.tr_float (.slice (some ⟨b2, o2, none⟩) n al) (by simp only [List.getElem?_toArray, List.getElem?_cons_succ, List.getElem?_cons_zero]; rfl) rfl (by rfl) (fun X _ => by go_simp) ?_
      simp only [Act.put, List.setIfInBounds_toArray, List.set_cons_succ, List.set_cons_zero]
      refine Rd.tr_float (.int .i64 (kk : Int)) (by simp only [List.getElem?_toArray, List.getElem?_cons_succ, List.getElem?_cons_zero]; rfl) rfl (by rfl) (fun X _ => by go_simp) ?_
      simp only [Act.put, List.setIfInBounds_toArray, List.set_cons_succ, List.set_cons_zero]
      refine Rd.tr_float (.slice (some ⟨b2, o2 + kk, none⟩) (n - kk) (al - kk)) (by simp only [List.getElem?_toArray, List.getElem?_cons_succ, List.getElem?_cons_zero]; rfl) rfl (by rfl) (fun X _ => by have k0 : kk ≤ n := (by omega); have k1 : ¬ al = kk := (by omega); have k2 : ¬ bl = kk := (by omega); have k3 : ¬ al < kk := (by omega); have k4 : ¬ bl < kk := (by omega); have k5 : kk ≤ al := (by omega); have k6 : kk ≤ bl := (by omega); go_simp) ?_
      simp only [Act.put, List.setIfInBounds_toArray, List.set_cons_succ, List.set_cons_zero]
      refine Rd.tr_float (.slice (some ⟨b2, o2, none⟩) n al) (by simp only [List.getElem?_toArray, List.getElem?_cons_succ, List.getElem?_cons_zero]; rfl) rfl (by rfl) (fun X _ => by go_simp) ?_
      simp only [Act.put, List.setIfInBounds_toArray, List.set_cons_succ, List.set_cons_zero]
      refine Rd.tr_float (.int .i64 (kk : Int)) (by simp only [List.getElem?_toArray, List.getElem?_cons_succ, List.getElem?_cons_zero]; rfl) rfl (by rfl) (fun X _ => by go_simp) ?_
      simp only [Act.put, List.setIfInBounds_toArray, List.set_cons_succ, List.set_cons_zero]
      refine Rd.tr_float (.slice (some ⟨b2, o2, none⟩) kk al) (by simp only [List.getElem?_toArray, List.getElem?_cons_succ, List.getElem?_cons_zero]; rfl) rfl (by rfl) (fun X _ => by have k0 : kk ≤ n := (by omega); have k1 : ¬ al = kk := (by omega); have k2 : ¬ bl = kk := (by omega); have k3 : ¬ al < kk := (by omega); have k4 : ¬ bl < kk := (by omega); have k5 : kk ≤ al := (by omega); have k6 : kk ≤ bl := (by omega); go_simp) ?_
      simp only [Act.put, List.setIfInBounds_toArray, List.set_cons_succ, List.set_cons_zero]
      refine Rd.tr_move (by simp only [List.getElem?_toArray, List.getElem?_cons_zero]; rfl) rfl (by rfl) (fun K hK => ?_)
      have SP9 := P9
      have Sha := ha
      have Shc := hc
      have Srp8 := rp8
      have SB := hB
      go_simp
      have hown : (w16.alloc (.cells #[] 3)).ownsRow w16.heap.size 3 1 (.slice (some ⟨w16.heap.size, 0, none⟩) 0 0) 0 [] := World.ownsRow_lit w16 #[] 0 (Nat.le_refl _) (by omega) rfl
      have hbS : Below w16.heap.size w16 (w16.alloc (.cells #[] 3)) := (Below.refl _ _).alloc (Nat.le_refl _) _
      have hszS := hbS.size
      replace P9 := P9.below hbS
      replace ha := ha.below hbS
      replace hc := hc.below hbS
      replace rp8 := rp8.below hbS
      replace hB := hB.trans (hbS.mono hB.size)
      generalize w16.alloc (.cells #[] 3) = w17 at P9 ha hc rp8 hown hbS hszS hB ⊢
      refine hK _ _ P9 ?_
      clear hK K
      refine Rd.tr_move (by simp only [List.getElem?_toArray, List.getElem?_cons_succ, List.getElem?_cons_zero]; rfl) rfl (by rfl) (fun K hK => ?_)
      have HNW := Lib.hid (RI.news ha kk (n - kk) (by rw [HWL.out]; omega))
      obtain ⟨v19, w18, HRN, hown2, hgr, _⟩ := run_append_own (P := Tryz.prog) w17 w16.heap.size 24 24 3 i0 (.int .i64 0) 1 8 Tryz.underlying24 hi0 hz0 hz1 hz2 rfl (by decide) _ _ _ hown ⟨b2, o2 + kk, none⟩ (n - kk) (al - kk) (((((ks.map fun k => (k.1 : Int))).drop kk).take (n - kk)).map (Value.int .i64)) (by rw [List.length_map, List.length_take, List.length_drop, HWL.out]; omega) HNW.out (fun u hu => by obtain ⟨z, _, rfl⟩ := List.mem_map.1 hu; rfl) (by unfold maxLen; omega) (by omega) hszS
      refine wp_append_in _ _ 24 24 rfl (.slice (some ⟨w16.heap.size, 0, none⟩) 0 0) (.slice (some ⟨b2, o2 + kk, none⟩) (n - kk) (al - kk)) v19 w18 (by rfl) (by rfl) HRN ?_
      clear HRN HNW
      simp only [Act.put, List.setIfInBounds_toArray, List.set_cons_succ, List.set_cons_zero]
      replace hbS := hbS.grown hgr hszS (fun j ej => (hown.lt j ej).1)
      replace hszS := hbS.size
      clear hown hgr
      have hown := hown2
      clear hown2
      replace P9 := SP9.below hbS
      replace ha := Sha.below hbS
      replace hc := Shc.below hbS
      replace rp8 := Srp8.below hbS
      replace hB := SB.trans (hbS.mono SB.size)
      refine hK _ _ P9 ?_
      clear hK K
      refine Rd.tr_move (by simp only [List.getElem?_toArray, List.getElem?_cons_succ, List.getElem?_cons_zero]; rfl) rfl (by rfl) (fun K hK => ?_)
      have HNW := Lib.hid (RI.news ha 0 kk (by rw [HWL.out]; omega))
      obtain ⟨v21, w20, HRN, hown2, hgr, _⟩ := run_append_own (P := Tryz.prog) w18 w16.heap.size 24 24 3 i0 (.int .i64 0) 1 8 Tryz.underlying24 hi0 hz0 hz1 hz2 rfl (by decide) _ _ _ hown ⟨b2, o2, none⟩ kk al (((((ks.map fun k => (k.1 : Int))).drop 0).take kk).map (Value.int .i64)) (by rw [List.length_map, List.length_take, List.length_drop, HWL.out]; omega) HNW.out (fun u hu => by obtain ⟨z, _, rfl⟩ := List.mem_map.1 hu; rfl) (by unfold maxLen; omega) (by omega) hszS
      refine wp_append_in _ _ 24 24 rfl (v19) (.slice (some ⟨b2, o2, none⟩) kk al) v21 w20 (by rfl) (by rfl) HRN ?_
      clear HRN HNW
      simp only [Act.put, List.setIfInBounds_toArray, List.set_cons_succ, List.set_cons_zero]
      replace hbS := hbS.grown hgr hszS (fun j ej => (hown.lt j ej).1)
      replace hszS := hbS.size
      clear hown hgr
      have hown := hown2
      clear hown2
      replace P9 := SP9.below hbS
      replace ha := Sha.below hbS
      replace hc := Shc.below hbS
      replace rp8 := Srp8.below hbS
      replace hB := SB.trans (hbS.mono SB.size)
      have hTR : RowI w20 v21 (rot kk ((ks.map fun k => (k.1 : Int)))) := RowI.of_owns (B := w16.heap.size) (by
        have e1 : (((ks.map fun k => (k.1 : Int))).drop kk).take (n - kk) = ((ks.map fun k => (k.1 : Int))).drop kk := List.take_of_length_le (by rw [List.length_drop, HWL.out]; omega)
        have e2 : (0 + (n - kk) + kk) = (rot kk ((ks.map fun k => (k.1 : Int)))).length := by rw [rot_len kk _ (by rw [HWL.out]; omega), HWL.out]; omega
        rw [← e2]; unfold rot; rw [List.map_append]; rw [e1, List.drop_zero, List.nil_append] at hown; exact hown)
      clear hown hbS hszS SB SP9 Sha Shc Srp8
      refine hK _ _ P9 ?_
      clear hK K
      refine Rd.tr_float (v21) (by simp only [List.getElem?_toArray, List.getElem?_cons_succ, List.getElem?_cons_zero]; rfl) rfl (by rfl) (fun X _ => by go_simp) ?_
      simp only [Act.put, List.setIfInBounds_toArray, List.set_cons_succ, List.set_cons_zero]
      exact Rd.tr_end (⟨_, _, _, _, _, _, _, _, _, _, rfl, P9, ha, hc, rp8, hTR, hB⟩)
    case next =>
      rintro a23 W22 ⟨tv, y53, y54, y55, y56, y57, y58, y59, y60, y61, rfl, P9, ha, hc, rp8, hT1, hB⟩
      have c0P9 := P9.c0
      have c1P9 := P9.c1
      go_wp2_with fail
      clear c0P9 c1P9
      have hb : Below W22.heap.size W22 W22.drew := (Below.refl _ _).drew
      replace P9 := P9.below hb
      replace ha := ha.below hb
      replace hc := hc.below hb
      replace rp8 := rp8.below hb
      replace hT1 := hT1.below hb
      replace hB := hB.trans (hb.mono hB.size)
      clear hb
      refine Rd.regionT (fun X => Pair X (B9) 29 (.slice p8.a p8.n p8.c) (.slice q9.a q9.n q9.c)) [1, 2, 3, 5, 6, 7, 9] (.one 1 (.one 2 (.one 3 (.one 5 (.one 6 (.one 7 (.one 0 (.one 4 (.one 8 (.one 9 .done)))))))))) (fun ac W => ∃ (cv : Value) (y62 y63 y64 y65 y66 y67 y68 y69 y70 : Value), ac = { tmps := List.toArray (z0 :: z1 :: z2 :: z3 :: z4 :: z5 :: .bool false :: .slice (some ⟨b2, o2, none⟩) n al :: .slice (some ⟨b1, o1, none⟩) n bl :: .pointer (some ⟨B9, 0, none⟩) :: z10 :: .int .i64 (kk : Int) :: tv :: cv :: z14 :: z15 :: z16 :: z17 :: z18 :: z19 :: z20 :: z21 :: z22 :: z23 :: z24 :: z25 :: z26 :: z27 :: z28 :: z29 :: z30 :: z31 :: z32 :: z33 :: z34 :: z35 :: z36 :: z37 :: z38 :: z39 :: z40 :: z41 :: z42 :: z43 :: z44 :: z45 :: z46 :: z47 :: z48 :: z49 :: z50 :: z51 :: z52 :: y53 :: y54 :: y55 :: y56 :: y57 :: y58 :: y59 :: y60 :: y61 :: y62 :: y63 :: y64 :: y65 :: y66 :: y67 :: y68 :: y69 :: y70 :: z71 :: z72 :: z73 :: z74 :: z75 :: z76 :: z77 :: z78 :: z79 :: z80 :: z81 :: z82 :: z83 :: z84 :: z85 :: z86 :: z87 :: z88 :: z89 :: z90 :: z91 :: z92 :: z93 :: z94 :: z95 :: z96 :: z97 :: z98 :: z99 :: z100 :: z101 :: z102 :: z103 :: z104 :: z105 :: z106 :: z107 :: z108 :: z109 :: z110 :: z111 :: z112 :: z113 :: z114 :: z115 :: z116 :: z117 :: z118 :: []), defers := [] } ∧ Pair W (B9) 29 (.slice p8.a p8.n p8.c) (.slice q9.a q9.n q9.c) ∧ RI W ⟨some ⟨b2, o2, none⟩, n, al⟩ (ks.map fun k => (k.1 : Int)) ∧ RI W ⟨some ⟨b1, o1, none⟩, n, bl⟩ (ks.map fun k => (k.2 : Int)) ∧ RQ W p8 q9 (rat m d) ∧ RowI W tv (rot kk ((ks.map fun k => (k.1 : Int)))) ∧ RowI W cv (rot kk ((ks.map fun k => (k.2 : Int)))) ∧ Below w.heap.size w W) (by kernel_rfl) (by kernel_rfl) (by kernel_rfl) P9 ?tree ?next
      case tree =>
        generalize W22.drew = w24 at P9 ha hc rp8 hT1 hB ⊢
        refine Rd.tr_float (.slice (some ⟨b1, o1, none⟩) n bl) (by simp only [List.getElem?_toArray, List.getElem?_cons_succ, List.getElem?_cons_zero]; rfl) rfl (by rfl) (fun X _ => by go_simp) ?_
        simp only [Act.put, List.setIfInBounds_toArray, List.set_cons_succ, List.set_cons_zero]
        refine Rd.tr_float (.int .i64 (kk : Int)) (by simp only [List.getElem?_toArray, List.getElem?_cons_succ, List.getElem?_cons_zero]; rfl) rfl (by rfl) (fun X _ => by go_simp) ?_
        simp only [Act.put, List.setIfInBounds_toArray, List.set_cons_succ, List.set_cons_zero]
        refine Rd.tr_float (.slice (some ⟨b1, o1 + kk, none⟩) (n - kk) (bl - kk)) (by simp only [List.getElem?_toArray, List.getElem?_cons_succ, List.getElem?_cons_zero]; rfl) rfl (by rfl) (fun X _ => by have k0 : kk ≤ n := (by omega); have k1 : ¬ al = kk := (by omega); have k2 : ¬ bl = kk := (by omega); have k3 : ¬ al < kk := (by omega); have k4 : ¬ bl < kk := (by omega); have k5 : kk ≤ al := (by omega); have k6 : kk ≤ bl := (by omega); go_simp) ?_
        simp only [Act.put, List.setIfInBounds_toArray, List.set_cons_succ, List.set_cons_zero]
        refine Rd.tr_float (.slice (some ⟨b1, o1, none⟩) n bl) (by simp only [List.getElem?_toArray, List.getElem?_cons_succ, List.getElem?_cons_zero]; rfl) rfl (by rfl) (fun X _ => by go_simp) ?_
        simp only [Act.put, List.setIfInBounds_toArray, List.set_cons_succ, List.set_cons_zero]
        refine Rd.tr_float (.int .i64 (kk : Int)) (by simp only [List.getElem?_toArray, List.getElem?_cons_succ, List.getElem?_cons_zero]; rfl) rfl (by rfl) (fun X _ => by go_simp) ?_
        simp only [Act.put, List.setIfInBounds_toArray, List.set_cons_succ, List.set_cons_zero]
        refine Rd.tr_float (.slice (some ⟨b1, o1, none⟩) kk bl) (by simp only [List.getElem?_toArray, List.getElem?_cons_succ, List.getElem?_cons_zero]; rfl) rfl (by rfl) (fun X _ => by have k0 : kk ≤ n := (by omega); have k1 : ¬ al = kk := (by omega); have k2 : ¬ bl = kk := (by omega); have k3 : ¬ al < kk := (by omega); have k4 : ¬ bl < kk := (by omega); have k5 : kk ≤ al := (by omega); have k6 : kk ≤ bl := (by omega); go_simp) ?_
        simp only [Act.put, List.setIfInBounds_toArray, List.set_cons_succ, List.set_cons_zero]
        refine Rd.tr_move (by simp only [List.getElem?_toArray, List.getElem?_cons_zero]; rfl) rfl (by rfl) (fun K hK => ?_)
        have SP9 := P9
        have Sha := ha
        have Shc := hc
        have Srp8 := rp8
        have ShT1 := hT1
        have SB := hB
        go_simp
        have hown : (w24.alloc (.cells #[] 3)).ownsRow w24.heap.size 3 1 (.slice (some ⟨w24.heap.size, 0, none⟩) 0 0) 0 [] := World.ownsRow_lit w24 #[] 0 (Nat.le_refl _) (by omega) rfl
        have hbS : Below w24.heap.size w24 (w24.alloc (.cells #[] 3)) := (Below.refl _ _).alloc (Nat.le_refl _) _
        have hszS := hbS.size
        replace P9 := P9.below hbS
        replace ha := ha.below hbS
        replace hc := hc.below hbS
        replace rp8 := rp8.below hbS
        replace hT1 := hT1.below hbS
        replace hB := hB.trans (hbS.mono hB.size)
        generalize w24.alloc (.cells #[] 3) = w25 at P9 ha hc rp8 hT1 hown hbS hszS hB ⊢
        refine hK _ _ P9 ?_
        clear hK K
        refine Rd.tr_move (by simp only [List.getElem?_toArray, List.getElem?_cons_succ, List.getElem?_cons_zero]; rfl) rfl (by rfl) (fun K hK => ?_)
        have HNW := Lib.hid (RI.news hc kk (n - kk) (by rw [HCL.out]; omega))
        obtain ⟨v27, w26, HRN, hown2, hgr, _⟩ := run_append_own (P := Tryz.prog) w25 w24.heap.size 24 24 3 i0 (.int .i64 0) 1 8 Tryz.underlying24 hi0 hz0 hz1 hz2 rfl (by decide) _ _ _ hown ⟨b1, o1 + kk, none⟩ (n - kk) (bl - kk) (((((ks.map fun k => (k.2 : Int))).drop kk).take (n - kk)).map (Value.int .i64)) (by rw [List.length_map, List.length_take, List.length_drop, HCL.out]; omega) HNW.out (fun u hu => by obtain ⟨z, _, rfl⟩ := List.mem_map.1 hu; rfl) (by unfold maxLen; omega) (by omega) hszS
        refine wp_append_in _ _ 24 24 rfl (.slice (some ⟨w24.heap.size, 0, none⟩) 0 0) (.slice (some ⟨b1, o1 + kk, none⟩) (n - kk) (bl - kk)) v27 w26 (by rfl) (by rfl) HRN ?_
        clear HRN HNW
        simp only [Act.put, List.setIfInBounds_toArray, List.set_cons_succ, List.set_cons_zero]
        replace hbS := hbS.grown hgr hszS (fun j ej => (hown.lt j ej).1)
        replace hszS := hbS.size
        clear hown hgr
        have hown := hown2
        clear hown2
        replace P9 := SP9.below hbS
        replace ha := Sha.below hbS
        replace hc := Shc.below hbS
        replace rp8 := Srp8.below hbS
        replace hT1 := ShT1.below hbS
        replace hB := SB.trans (hbS.mono SB.size)
        refine hK _ _ P9 ?_
        clear hK K
        refine Rd.tr_move (by simp only [List.getElem?_toArray, List.getElem?_cons_succ, List.getElem?_cons_zero]; rfl) rfl (by rfl) (fun K hK => ?_)
        have HNW := Lib.hid (RI.news hc 0 kk (by rw [HCL.out]; omega))
        obtain ⟨v29, w28, HRN, hown2, hgr, _⟩ := run_append_own (P := Tryz.prog) w26 w24.heap.size 24 24 3 i0 (.int .i64 0) 1 8 Tryz.underlying24 hi0 hz0 hz1 hz2 rfl (by decide) _ _ _ hown ⟨b1, o1, none⟩ kk bl (((((ks.map fun k => (k.2 : Int))).drop 0).take kk).map (Value.int .i64)) (by rw [List.length_map, List.length_take, List.length_drop, HCL.out]; omega) HNW.out (fun u hu => by obtain ⟨z, _, rfl⟩ := List.mem_map.1 hu; rfl) (by unfold maxLen; omega) (by omega) hszS
        refine wp_append_in _ _ 24 24 rfl (v27) (.slice (some ⟨b1, o1, none⟩) kk bl) v29 w28 (by rfl) (by rfl) HRN ?_
        clear HRN HNW
        simp only [Act.put, List.setIfInBounds_toArray, List.set_cons_succ, List.set_cons_zero]
        replace hbS := hbS.grown hgr hszS (fun j ej => (hown.lt j ej).1)
        replace hszS := hbS.size
        clear hown hgr
        have hown := hown2
        clear hown2
        replace P9 := SP9.below hbS
        replace ha := Sha.below hbS
        replace hc := Shc.below hbS
        replace rp8 := Srp8.below hbS
        replace hT1 := ShT1.below hbS
        replace hB := SB.trans (hbS.mono SB.size)
        have hTR : RowI w28 v29 (rot kk ((ks.map fun k => (k.2 : Int)))) := RowI.of_owns (B := w24.heap.size) (by
          have e1 : (((ks.map fun k => (k.2 : Int))).drop kk).take (n - kk) = ((ks.map fun k => (k.2 : Int))).drop kk := List.take_of_length_le (by rw [List.length_drop, HCL.out]; omega)
          have e2 : (0 + (n - kk) + kk) = (rot kk ((ks.map fun k => (k.2 : Int)))).length := by rw [rot_len kk _ (by rw [HCL.out]; omega), HCL.out]; omega
          rw [← e2]; unfold rot; rw [List.map_append]; rw [e1, List.drop_zero, List.nil_append] at hown; exact hown)
        clear hown hbS hszS SB SP9 Sha Shc Srp8 ShT1
        refine hK _ _ P9 ?_
        clear hK K
        refine Rd.tr_float (v29) (by simp only [List.getElem?_toArray, List.getElem?_cons_succ, List.getElem?_cons_zero]; rfl) rfl (by rfl) (fun X _ => by go_simp) ?_
        simp only [Act.put, List.setIfInBounds_toArray, List.set_cons_succ, List.set_cons_zero]
        exact Rd.tr_end (⟨_, _, _, _, _, _, _, _, _, _, rfl, P9, ha, hc, rp8, hT1, hTR, hB⟩)
      case next =>
        rintro a31 W30 ⟨cv, y62, y63, y64, y65, y66, y67, y68, y69, y70, rfl, P9, ha, hc, rp8, hT1, hT2, hB⟩
        obtain ⟨⟨ta, tn, tl⟩, rfl, hT1b⟩ := hT1.sl
        obtain ⟨⟨ca, cn, cl⟩, rfl, hT2b⟩ := hT2.sl
        clear hT1 hT2
        have hT1 := hT1b
        have hT2 := hT2b
        clear hT1b hT2b
        have et := hT1.len
        have eu := hT2.len
        rw [rot_len kk _ (by rw [HWL.out]; omega), HWL.out] at et
        rw [rot_len kk _ (by rw [HCL.out]; omega), HCL.out] at eu
        dsimp only at et eu
        have et2 := et.symm
        have eu2 := eu.symm
        clear et eu
        subst et2
        subst eu2
        dsimp only
        rw [rot_map] at hT1 hT2
        have HPM : Hid ((rot kk ks).Perm ks) := Lib.hid (by unfold rot; exact List.perm_append_comm.trans (by rw [List.take_append_drop]))
        have HF : Hid (Fine d (rat m d)) := Lib.hid (fine_rat hd HD0.out)
        have HX0 : Hid (0 ≤ rat m d) := Lib.hid (rat_nonneg m d)
        have HKT : Hid (∀ k ∈ rot kk ks, okKid k) := Lib.hid (fun k hk => HKK.out k (HPM.out.mem_iff.1 hk))
        have HXT : Hid (rat m d ≤ ((caps (rot kk ks) : Nat) : Rat)) := Lib.hid (by rw [caps_perm HPM.out]; exact HX.out)
        have HET : Hid (errOf (rat m d) ((rot kk ks).map fun k => (k.1 : Int)) ((rot kk ks).map fun k => (k.2 : Int)) = 0) := Lib.hid (by rw [← rot_map, ← rot_map, rot_err (by rw [HWL.out]; omega) (by rw [HCL.out]; omega)]; exact HE.out)
        have HRL : Hid ((rot kk ks).length = n) := Lib.hid (by rw [rot_len kk ks (by rw [HKL.out]; omega), HKL.out])
        have HLR : Hid (docLevel (rat m d) (rot kk ks) = docLevel (rat m d) ks) := Lib.hid (rot_level kk (fun k hk => (HKK.out k hk).1) HX0.out HX.out)
        have c0P9 := P9.c0
        have c1P9 := P9.c1
        have H32 := Lib.hid (Fill_good p8 q9 ⟨some ⟨b2, o2, none⟩, n, al⟩ ⟨some ⟨b1, o1, none⟩, n, bl⟩ (rat m d) ks d W30 rp8 ha hc (by rw [HKL.out]; omega) HKK HF HX HE)
        go_wp2_with fail
        clear c0P9 c1P9
        refine H32.out.mono ?_
        rintro e w33 ⟨v1, rfl, hv1, hb⟩
        clear H32
        replace P9 := P9.below hb
        replace ha := ha.below hb
        replace hc := hc.below hb
        replace rp8 := rp8.below hb
        replace hT1 := hT1.below hb
        replace hT2 := hT2.below hb
        replace hB := hB.trans (hb.mono hB.size)
        clear hb
        have c0P9 := P9.c0
        have c1P9 := P9.c1
        have H34 := Lib.hid (Fill_good p8 q9 ⟨ta, n, tl⟩ ⟨ca, n, cl⟩ (rat m d) (rot kk ks) d w33 rp8 hT1 hT2 (by rw [HRL.out]; omega) HKT HF HXT HET)
        rw [HLR.out] at H34
        go_wp2_with fail
        clear c0P9 c1P9
        refine H34.out.mono ?_
        rintro e w35 ⟨v2, rfl, hv2, hb⟩
        clear H34
        replace P9 := P9.below hb
        replace ha := ha.below hb
        replace hc := hc.below hb
        replace rp8 := rp8.below hb
        replace hT1 := hT1.below hb
        replace hT2 := hT2.below hb
        replace hv1 := hv1.below hb
        replace hB := hB.trans (hb.mono hB.size)
        clear hb
        obtain ⟨vad, vcap, rfl⟩ := hv1.cut
        rw [HKL.out] at hv1 ⊢
        obtain ⟨wad, wcap, rfl⟩ := hv2.cut
        rw [HRL.out] at hv2 ⊢
        clear ha hc hT1 hT2 P9 rp8
        go_wp2_with fail
        refine (?_ : ∀ (z0 z1 z2 z3 z4 z5 z7 z8 z9 z10 z12 z13 z15 z17 z18 z19 z20 z21 z22 z23 z24 z25 z26 z27 z28 z29 z30 z31 z32 z33 z34 z35 z36 z37 z38 z39 z40 z41 z42 z43 z44 z45 z46 z47 z48 z49 z50 z51 z52 z53 z54 z55 z56 z57 z58 z59 z60 z61 z62 z63 z64 z65 z66 z67 z68 z69 z70 z71 z72 z73 z74 z75 z76 z77 z78 z79 z80 z81 z82 z83 z84 z85 z86 z87 z88 z89 z90 z91 z92 z93 z94 z95 z98 z99 z100 z101 z102 z103 z104 z105 z106 z107 z108 z109 z110 z111 z112 z113 z114 z115 z116 z117 z118 : Value), Code.wp _ _ _ { tmps := List.toArray (z0 :: z1 :: z2 :: z3 :: z4 :: z5 :: .bool false :: z7 :: z8 :: z9 :: z10 :: .int .i64 (kk : Int) :: z12 :: z13 :: .slice vad n vcap :: z15 :: .slice wad n wcap :: z17 :: z18 :: z19 :: z20 :: z21 :: z22 :: z23 :: z24 :: z25 :: z26 :: z27 :: z28 :: z29 :: z30 :: z31 :: z32 :: z33 :: z34 :: z35 :: z36 :: z37 :: z38 :: z39 :: z40 :: z41 :: z42 :: z43 :: z44 :: z45 :: z46 :: z47 :: z48 :: z49 :: z50 :: z51 :: z52 :: z53 :: z54 :: z55 :: z56 :: z57 :: z58 :: z59 :: z60 :: z61 :: z62 :: z63 :: z64 :: z65 :: z66 :: z67 :: z68 :: z69 :: z70 :: z71 :: z72 :: z73 :: z74 :: z75 :: z76 :: z77 :: z78 :: z79 :: z80 :: z81 :: z82 :: z83 :: z84 :: z85 :: z86 :: z87 :: z88 :: z89 :: z90 :: z91 :: z92 :: z93 :: z94 :: z95 :: .int .i64 (n : Int) :: .int .i64 0 :: z98 :: z99 :: z100 :: z101 :: z102 :: z103 :: z104 :: z105 :: z106 :: z107 :: z108 :: z109 :: z110 :: z111 :: z112 :: z113 :: z114 :: z115 :: z116 :: z117 :: z118 :: []), defers := [] } _) _ _ _ _ _ _ _ _ _ _ _ _ _ _ _ _ _ _ _ _ _ _ _ _ _ _ _ _ _ _ _ _ _ _ _ _ _ _ _ _ _ _ _ _ _ _ _ _ _ _ _ _ _ _ _ _ _ _ _ _ _ _ _ _ _ _ _ _ _ _ _ _ _ _ _ _ _ _ _ _ _ _ _ _ _ _ _ _ _ _ _ _ _ _ _ _ _ _ _ _ _ _ _ _ _ _ _ _ _ _ _ _ _
        intro z0 z1 z2 z3 z4 z5 z7 z8 z9 z10 z12 z13 z15 z17 z18 z19 z20 z21 z22 z23 z24 z25 z26 z27 z28 z29 z30 z31 z32 z33 z34 z35 z36 z37 z38 z39 z40 z41 z42 z43 z44 z45 z46 z47 z48 z49 z50 z51 z52 z53 z54 z55 z56 z57 z58 z59 z60 z61 z62 z63 z64 z65 z66 z67 z68 z69 z70 z71 z72 z73 z74 z75 z76 z77 z78 z79 z80 z81 z82 z83 z84 z85 z86 z87 z88 z89 z90 z91 z92 z93 z94 z95 z98 z99 z100 z101 z102 z103 z104 z105 z106 z107 z108 z109 z110 z111 z112 z113 z114 z115 z116 z117 z118
        go_loopw [97] (fun i wr => ∃ k : Nat, k ≤ n ∧ i = .int .i64 (k : Int) ∧ Hid (RowQ wr (.slice vad n vcap) (ks.map (given (docLevel (rat m d) ks)))) ∧ Hid (RowQ wr (.slice wad n wcap) ((rot kk ks).map (given (docLevel (rat m d) ks)))) ∧ Hid (Below w.heap.size w wr)) (fun mi _ => n - (intOf mi).toNat)
        case atStart => exact ⟨0, Nat.zero_le _, rfl, Lib.hid hv1, Lib.hid hv2, Lib.hid hB⟩
        case round =>
          clear hv1 hv2 hB
          obtain ⟨i, hi, rfl, Hhv1, Hhv2, HBB⟩ := hrel
          have hv1 := Hhv1.out
          have hv2 := Hhv2.out
          have hB := HBB.out
          clear Hhv1 Hhv2 HBB
          by_cases hlt : i < n
          · skip
            obtain ⟨j, hj⟩ : ∃ j : Nat, j = (i + n - kk) % n := ⟨_, rfl⟩
            have hjn : j < n := by rw [hj]; exact Nat.mod_lt _ (by omega)
            have hjz : ((i : Int) + (n : Int) - (kk : Int)) % (n : Int) = (j : Int) := by rw [hj, Int.natCast_emod]; congr 1; omega
            have hgg : given (docLevel (rat m d) ks) ((rot kk ks).getD j (0, 0)) = given (docLevel (rat m d) ks) (ks.getD i (0, 0)) := by
              have h := rot_get (ks := ks) (i := i) (k := kk) (by rw [HKL.out]; exact hlt) (by rw [HKL.out]; exact hkn)
              rw [HKL.out, ← hj] at h
              rw [h]
            clear hj
            obtain ⟨VB, vc2, ev, p, q, sc, hq⟩ := hv1.at (j := i) (by rw [HKL.out]; exact hlt)
            injection ev with ev1 ev2 ev3
            subst ev1 ev3
            clear ev2
            obtain ⟨WB, wc2, ev, p2, q2, sd, hq2⟩ := hv2.at (j := j) (by rw [HRL.out]; exact hjn)
            injection ev with ev1 ev2 ev3
            subst ev1 ev3
            clear ev2
            rw [hgg] at hq2
            generalize given (docLevel (rat m d) ks) (ks.getD i (0, 0)) = g1 at hq hq2
            clear hgg
            have hw8 : IntKind.i64.wrap ((i : Int) + (n : Int)) = (i : Int) + (n : Int) := wrap_small _ (by omega) (by omega)
            have hw10 : IntKind.i64.wrap ((i : Int) + (n : Int) - (kk : Int)) = (i : Int) + (n : Int) - (kk : Int) := wrap_small _ (by omega) (by omega)
            have htm : ((i : Int) + (n : Int) - (kk : Int)).tmod (n : Int) = (j : Int) := by rw [Int.tmod_eq_emod_of_nonneg (by omega)]; exact hjz
            have HW := Lib.hid (And.intro hw8 (And.intro hw10 htm))
            clear hw8 hw10 htm hjz
            go_wp2_with fail
            have hb : Below wr.heap.size wr wr.drew := (Below.refl _ _).drew
            replace hv1 := hv1.below hb
            replace hv2 := hv2.below hb
            replace hq := hq.below hb
            replace hq2 := hq2.below hb
            replace sc := sc.below hb
            replace sd := sd.below hb
            replace hB := hB.trans (hb.mono hB.size)
            clear hb
            refine Rd.regionT (fun X => SC X VB i p q ∧ SC X WB j p2 q2) [0, 1, 2, 3, 4, 5, 6, 7, 8, 9, 10, 11, 12, 13, 14, 15, 17] (.one 0 (.one 1 (.one 2 (.one 3 (.one 4 (.one 5 (.one 6 (.one 7 (.one 8 (.one 9 (.one 10 (.one 11 (.one 12 (.one 13 (.one 14 (.one 15 (.one 16 (.one 17 .done)))))))))))))))))) (fun ac W => ∃  (y100 y101 y102 y103 y104 y105 y106 y107 y108 y109 y110 y111 y112 y113 y114 y115 y116 : Value), ac = { tmps := List.toArray (z0 :: z1 :: z2 :: z3 :: z4 :: z5 :: u6 :: z7 :: z8 :: z9 :: z10 :: .int .i64 (kk : Int) :: z12 :: z13 :: .slice (some ⟨VB, 0, none⟩) n vcap :: z15 :: .slice (some ⟨WB, 0, none⟩) n wcap :: z17 :: .int .i64 (i : Int) :: z19 :: z20 :: z21 :: z22 :: z23 :: z24 :: z25 :: z26 :: z27 :: z28 :: z29 :: z30 :: z31 :: z32 :: z33 :: z34 :: z35 :: z36 :: z37 :: z38 :: z39 :: z40 :: z41 :: z42 :: z43 :: z44 :: z45 :: z46 :: z47 :: z48 :: z49 :: z50 :: z51 :: z52 :: z53 :: z54 :: z55 :: z56 :: z57 :: z58 :: z59 :: z60 :: z61 :: z62 :: z63 :: z64 :: z65 :: z66 :: z67 :: z68 :: z69 :: z70 :: z71 :: z72 :: z73 :: z74 :: z75 :: z76 :: z77 :: z78 :: z79 :: z80 :: z81 :: z82 :: z83 :: z84 :: z85 :: z86 :: z87 :: z88 :: z89 :: z90 :: z91 :: z92 :: z93 :: z94 :: z95 :: .int .i64 (n : Int) :: .int .i64 (i : Int) :: .bool true :: .int .i64 (i : Int) :: y100 :: y101 :: y102 :: y103 :: y104 :: y105 :: y106 :: y107 :: y108 :: y109 :: y110 :: y111 :: y112 :: y113 :: y114 :: y115 :: y116 :: .bool false :: u118 :: []), defers := [] } ∧ RowQ W (.slice (some ⟨VB, 0, none⟩) n vcap) (ks.map (given (docLevel (rat m d) ks))) ∧ RowQ W (.slice (some ⟨WB, 0, none⟩) n wcap) ((rot kk ks).map (given (docLevel (rat m d) ks))) ∧ RQ W p q (g1) ∧ RQ W p2 q2 (g1) ∧ SC W VB i p q ∧ SC W WB j p2 q2 ∧ Below w.heap.size w W) (by kernel_rfl) (by kernel_rfl) (by kernel_rfl) ⟨sc, sd⟩ ?tree ?next
            case tree =>
              generalize wr.drew = w36 at hv1 hv2 hq hq2 sc sd hB ⊢
              refine Rd.tr_float (.slice (some ⟨VB, 0, none⟩) n vcap) (by simp only [List.getElem?_toArray, List.getElem?_cons_zero]; rfl) rfl (by rfl) (fun X _ => by go_simp) ?_
              simp only [Act.put, List.setIfInBounds_toArray, List.set_cons_succ, List.set_cons_zero]
              refine Rd.tr_float (.int .i64 (i : Int)) (by simp only [List.getElem?_toArray, List.getElem?_cons_succ, List.getElem?_cons_zero]; rfl) rfl (by rfl) (fun X _ => by go_simp) ?_
              simp only [Act.put, List.setIfInBounds_toArray, List.set_cons_succ, List.set_cons_zero]
              refine Rd.tr_float (.pointer (some ⟨VB, i * 2, none⟩)) (by simp only [List.getElem?_toArray, List.getElem?_cons_succ, List.getElem?_cons_zero]; rfl) rfl (by rfl) (fun X _ => by go_simp) ?_
              simp only [Act.put, List.setIfInBounds_toArray, List.set_cons_succ, List.set_cons_zero]
              refine Rd.tr_float (.agg #[.slice p.a p.n p.c, .slice q.a q.n q.c]) (by simp only [List.getElem?_toArray, List.getElem?_cons_succ, List.getElem?_cons_zero]; rfl) rfl (by rfl) (fun X hX => by have h0 := (hX.1).2.1; have h1 := (hX.1).2.2; go_simp) ?_
              simp only [Act.put, List.setIfInBounds_toArray, List.set_cons_succ, List.set_cons_zero]
              refine Rd.tr_float (.slice (some ⟨WB, 0, none⟩) n wcap) (by simp only [List.getElem?_toArray, List.getElem?_cons_succ, List.getElem?_cons_zero]; rfl) rfl (by rfl) (fun X _ => by go_simp) ?_
              simp only [Act.put, List.setIfInBounds_toArray, List.set_cons_succ, List.set_cons_zero]
              refine Rd.tr_float (.int .i64 (i : Int)) (by simp only [List.getElem?_toArray, List.getElem?_cons_succ, List.getElem?_cons_zero]; rfl) rfl (by rfl) (fun X _ => by go_simp) ?_
              simp only [Act.put, List.setIfInBounds_toArray, List.set_cons_succ, List.set_cons_zero]
              refine Rd.tr_float (.slice (some ⟨WB, 0, none⟩) n wcap) (by simp only [List.getElem?_toArray, List.getElem?_cons_succ, List.getElem?_cons_zero]; rfl) rfl (by rfl) (fun X _ => by go_simp) ?_
              simp only [Act.put, List.setIfInBounds_toArray, List.set_cons_succ, List.set_cons_zero]
              refine Rd.tr_float (.int .i64 (n : Int)) (by simp only [List.getElem?_toArray, List.getElem?_cons_succ, List.getElem?_cons_zero]; rfl) rfl (by rfl) (fun X _ => by go_simp) ?_
              simp only [Act.put, List.setIfInBounds_toArray, List.set_cons_succ, List.set_cons_zero]
              refine Rd.tr_float (.int .i64 ((i : Int) + (n : Int))) (by simp only [List.getElem?_toArray, List.getElem?_cons_succ, List.getElem?_cons_zero]; rfl) rfl (by rfl) (fun X _ => by have hO := HW.out.1; go_simp) ?_
              simp only [Act.put, List.setIfInBounds_toArray, List.set_cons_succ, List.set_cons_zero]
              refine Rd.tr_float (.int .i64 (kk : Int)) (by simp only [List.getElem?_toArray, List.getElem?_cons_succ, List.getElem?_cons_zero]; rfl) rfl (by rfl) (fun X _ => by go_simp) ?_
              simp only [Act.put, List.setIfInBounds_toArray, List.set_cons_succ, List.set_cons_zero]
              refine Rd.tr_float (.int .i64 ((i : Int) + (n : Int) - (kk : Int))) (by simp only [List.getElem?_toArray, List.getElem?_cons_succ, List.getElem?_cons_zero]; rfl) rfl (by rfl) (fun X _ => by have hO := HW.out.2.1; go_simp) ?_
              simp only [Act.put, List.setIfInBounds_toArray, List.set_cons_succ, List.set_cons_zero]
              refine Rd.tr_float (.slice (some ⟨WB, 0, none⟩) n wcap) (by simp only [List.getElem?_toArray, List.getElem?_cons_succ, List.getElem?_cons_zero]; rfl) rfl (by rfl) (fun X _ => by go_simp) ?_
              simp only [Act.put, List.setIfInBounds_toArray, List.set_cons_succ, List.set_cons_zero]
              refine Rd.tr_float (.int .i64 (n : Int)) (by simp only [List.getElem?_toArray, List.getElem?_cons_succ, List.getElem?_cons_zero]; rfl) rfl (by rfl) (fun X _ => by go_simp) ?_
              simp only [Act.put, List.setIfInBounds_toArray, List.set_cons_succ, List.set_cons_zero]
              refine Rd.tr_float (.int .i64 (j : Int)) (by simp only [List.getElem?_toArray, List.getElem?_cons_succ, List.getElem?_cons_zero]; rfl) rfl (by rfl) (fun X _ => by have hO := HW.out.2.2; go_simp) ?_
              simp only [Act.put, List.setIfInBounds_toArray, List.set_cons_succ, List.set_cons_zero]
              refine Rd.tr_float (.pointer (some ⟨WB, j * 2, none⟩)) (by simp only [List.getElem?_toArray, List.getElem?_cons_succ, List.getElem?_cons_zero]; rfl) rfl (by rfl) (fun X _ => by go_simp) ?_
              simp only [Act.put, List.setIfInBounds_toArray, List.set_cons_succ, List.set_cons_zero]
              refine Rd.tr_float (.agg #[.slice p2.a p2.n p2.c, .slice q2.a q2.n q2.c]) (by simp only [List.getElem?_toArray, List.getElem?_cons_succ, List.getElem?_cons_zero]; rfl) rfl (by rfl) (fun X hX => by have h0 := (hX.2).2.1; have h1 := (hX.2).2.2; go_simp) ?_
              simp only [Act.put, List.setIfInBounds_toArray, List.set_cons_succ, List.set_cons_zero]
              refine Rd.tr_move (by simp only [List.getElem?_toArray, List.getElem?_cons_succ, List.getElem?_cons_zero]; rfl) rfl (by rfl) (fun K hK => ?_)
              have H37 := Lib.hid (Qcmp p q p2 q2 (g1) (g1) w36 hq hq2)
              go_simp
              refine H37.out.mono ?_
              rintro e w38 ⟨rfl, hb⟩
              clear H37
              replace hv1 := hv1.below hb
              replace hv2 := hv2.below hb
              replace hq := hq.below hb
              replace hq2 := hq2.below hb
              replace sc := sc.below hb
              replace sd := sd.below hb
              replace hB := hB.trans (hb.mono hB.size)
              clear hb
              refine hK _ _ ⟨sc, sd⟩ ?_
              clear hK K
              refine Rd.tr_float (.bool false) (by simp only [List.getElem?_toArray, List.getElem?_cons_succ, List.getElem?_cons_zero]; rfl) rfl (by rfl) (fun X _ => by have hO := cmpQ_self g1; go_simp) ?_
              simp only [Act.put, List.setIfInBounds_toArray, List.set_cons_succ, List.set_cons_zero]
              exact Rd.tr_end (⟨_, _, _, _, _, _, _, _, _, _, _, _, _, _, _, _, _, rfl, hv1, hv2, hq, hq2, sc, sd, hB⟩)
            case next =>
              rintro a40 W39 ⟨y100, y101, y102, y103, y104, y105, y106, y107, y108, y109, y110, y111, y112, y113, y114, y115, y116, rfl, hv1, hv2, hq, hq2, sc, sd, hB⟩
              go_wp2_with fail
              go_round
              case rel => exact ⟨i + 1, by omega, by go_num, Lib.hid hv1, Lib.hid hv2, Lib.hid hB⟩
              case measure => simp [intOf]; omega
          · skip
            clear hv1 hv2
            go_wp2_with fail
            go_ret
            exact ⟨rfl, hB⟩

theorem fillOrder_any (A B : Int) (a b : Sl) (ws cs : List Int) (u : Int) (w : World) (ha : RI w a ws) (hc : RI w b cs) (hA1 : A < 9223372036854775808) (hB1 : B < 9223372036854775808) (hu0 : 0 ≤ u) (hu1 : u < 256) :
    Calls Tryz.prog 6 #[.agg #[.int .i64 A, .int .i64 B], .agg #[.slice a.a a.n a.c, .slice b.a b.n b.c], .int .u8 u] w fun e w' => e = .returned (.bool true) ∧ Below w.heap.size w w' := by
  obtain ⟨t, rfl⟩ : ∃ t : Nat, u = (t : Int) := ⟨u.toNat, by omega⟩
  by_cases h1 : 12 < ws.length
  · exact order_l1 A B a b ws cs t (by omega) w ha hc h1
  by_cases h2 : cs.length ≠ ws.length
  · exact order_l2 A B a b ws cs t (by omega) w ha hc (by omega) h2
  by_cases h3 : ws.length = 0
  · exact order_l3 A B a b ws cs t (by omega) w ha hc h3 (by omega)
  have hA : max A 0 = (((max A 0).toNat : Nat) : Int) := by omega
  have hD : max B 1 = (((max B 1).toNat : Nat) : Int) := by omega
  have hm : (max A 0).toNat < 9223372036854775808 := by omega
  have hd : (max B 1).toNat < 9223372036854775808 := by omega
  have HD0 : Hid ((max B 1).toNat ≠ 0) := Lib.hid (by omega)
  generalize (max A 0).toNat = m at hA hm
  generalize (max B 1).toNat = d at hD hd HD0
  obtain ⟨b2, o2, ea, _, _⟩ := ha.open (by intro e; rw [e] at h3; exact h3 rfl)
  obtain ⟨b1, o1, eb, _, _⟩ := hc.open (by intro e; rw [e] at h2; simp at h2; omega)
  obtain ⟨aa, an, al⟩ := a
  obtain ⟨ba, bn, bl⟩ := b
  dsimp only at ea eb ⊢
  subst ea eb
  have en : an = ws.length := ha.len
  have em : bn = ws.length := by have h := hc.len; dsimp only at h; omega
  subst en em
  have hkk : (t : Int) % (ws.length : Int) = ((t % ws.length : Nat) : Int) := (Int.natCast_emod _ _).symm
  have hkn : t % ws.length < ws.length := Nat.mod_lt _ (by omega)
  by_cases h0 : errOf (rat m d) ws cs = 0
  · obtain ⟨ks, rfl, rfl, hk, hl, hx⟩ := err_kids h0
    exact order_good A B m d _ b2 o2 b1 o1 _ al bl ks t (by omega) w ha hc (Lib.hid rfl) (Lib.hid (by rw [List.length_map, List.length_map])) (by omega) hkn hkk hA hD hm hd HD0 (Lib.hid (by rw [List.length_map])) (Lib.hid hk) (Lib.hid hx) (Lib.hid h0)
  · exact order_bad A B m d _ b2 o2 b1 o1 _ al bl ws cs t (by omega) w ha hc (Lib.hid rfl) (Lib.hid (by omega)) (by omega) hkn hkk hA hD hm hd HD0 _ h0 (by simpa using h0) (Lib.hid rfl)
end Go.Proofs.YtphllajedkpcbaaGreatDoor
