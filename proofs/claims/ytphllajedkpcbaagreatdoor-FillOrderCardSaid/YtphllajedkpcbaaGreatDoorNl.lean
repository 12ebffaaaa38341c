/-
  Contract of nat.divLong: limbs by several limbs: the quotient, and what is left. Conditions: the divisor has two limbs or more, the highest isn't 0, and isn't longer than what is divided; not more than a thousand limbs.
-/
import Derived.Test.YtphllajedkpcbaaGreatDoorNi
namespace Go.Proofs.YtphllajedkpcbaaGreatDoor
open Go.RowKit Go.Dig Go.Shelf Go.Proofs Go.Dv
attribute [local go_sem] Oper.semAt_some

theorem Own64.base {w : World} {base base' g n cap : Nat} {l : List Nat} (h : Own64 w base g n cap l) (hb : base' ≤ base) : Own64 w base' g n cap l := by
  refine ⟨h.1, ?_⟩
  rcases h.2 with ⟨h', _⟩ | ⟨g', cap', cur, h', h1, rest⟩
  · cases h'
  · exact .inr ⟨g', cap', cur, h', Nat.le_trans hb h1, rest⟩

theorem wpListIn_make_full {F : Fence} {n : Nat} {P : Program} (w : World) {ops : Array Oper} {rest : List Oper} {o : Oper} {a : Act} {Q : Exit → Act → World → Prop}
    (hg : o.guard = none) (l c : Operand) (t : TypeId) (hop : o.op = Op.makeSlice t l c)
    (base : Nat) (e : TypeId) (i : TypeInfo) (z : Value) (size : Nat) (h1 : P.underlying t = some (.slice e)) (h2 : P.info? e = some i) (h3 : i.zero = some z) (h4 : i.size = size)
    (kl kc : IntKind) (L C : Int) (m : Nat) (hl : a.eval l = .int kl L) (hc : a.eval c = .int kc C) (hL : L = (m : Int)) (hC : C = (m : Int)) (b2 : i.bytes * m ≤ 281474976710656) (b3 : m ≤ maxLen) (b4 : base ≤ w.heap.size)
    (hK : ∀ w', w'.ownsRow base e size (.slice (some ⟨w.heap.size, 0, none⟩) m m) m (madeCells z.cells (m * size)).toList → w.grownBy w' none → wpListIn F n P ops Q rest (a.put o.dst (.slice (some ⟨w.heap.size, 0, none⟩) m m)) w') :
    wpListIn F n P ops Q (o :: rest) a w := by
  refine wpListIn_plain hg fun K hK' => ?_
  obtain ⟨w', hrun, r1, r2⟩ := run_make_full (P := P) w base t e i z size h1 h2 h3 h4 kl kc m b2 b3 b4
  subst hL
  subst hC
  unfold Oper.wpIn
  refine ⟨?_, ?_⟩
  · simp [Oper.about, hop]
  · rw [Oper.semAt_plain F _ _ (by rw [hop]; intro c hc'; cases hc')]
    simp [execOp, hop, hl, hc, hrun, Result.andThen]
    exact hK' _ _ (hK w' r1 r2)

theorem Lim.keep {q : IntKind} {W W' : World} {row : Option Nat} {v : Value} {l : List Nat} (h : Lim q W v l) (hg : W.grownBy W' row) (hr : ∀ r, row = some r → ∃ o : Obj, W.heap[r]? = some o ∧ o.isCells = false) : Lim q W' v l := by
  obtain ⟨ad, cap, rfl, h1, h2⟩ := h
  refine ⟨ad, cap, rfl, h1, fun hne => ?_⟩
  obtain ⟨b, off, rfl, hb, hc⟩ := h2 hne
  exact ⟨b, off, rfl, Nat.lt_of_lt_of_le hb hg.size, fun j hj => cell_kept (hc j hj) hg hr⟩
theorem Fr.put (W : World) (p : Addr) (u : Value) : Fr (· = p.block) W (W.setCell p u) := (Fr.refl (· = p.block) W).setCell (p := p) (.inr rfl) u

/-- what the loop of divLong keeps while m places are to come. -/
def LongW (w : World) (Bd B9 B10 Bb g1 g2 g3 n N1 M : Nat) (od : List Nat) (d a : Nat) (m : Nat) (W : World) : Prop :=
  ∃ Q R : List Nat, Hid (LongI 18446744073709551616 d a Q R m ∧ ∀ j, j < m → Q.getD j 0 = 0) ∧ Own64 W w.heap.size g1 N1 N1 R ∧ Own64 W w.heap.size g3 M M Q ∧ Own64 W w.heap.size g2 (n + 1) (n + 1) od ∧ Boxed W w.heap.size 3 (.int .i64 (n : Int)) ∧
    Boxed W Bd 27 (.slice (some ⟨g2, 0, none⟩) n (n + 1)) ∧ Boxed W B9 27 (.slice (some ⟨g1, 0, none⟩) N1 N1) ∧ Boxed W B10 27 (.slice (some ⟨g3, 0, none⟩) M M) ∧ Boxed W Bb 27 (.slice (some ⟨g3, 0, none⟩) M M) ∧ Below w.heap.size w W
theorem LongW.own {w : World} {Bd B9 B10 Bb g1 g2 g3 n N1 M : Nat} {od : List Nat} {d a B : Nat} (hB : w.heap.size ≤ B) : OwnFrom B (LongW w Bd B9 B10 Bb g1 g2 g3 n N1 M od d a) := by
  rintro m X Y row ⟨Q, R, H, h1, h2, h3, h4, h5, h6, h7, h8, hF⟩ hg hr
  have hr2 := fun r e => (hr r e).2
  exact ⟨Q, R, H, owns_own h1 hg hr2, owns_own h2 hg hr2, owns_own h3 hg hr2, boxed_keep h4 hg hr2, boxed_keep h5 hg hr2, boxed_keep h6 hg hr2, boxed_keep h7 hg hr2, boxed_keep h8 hg hr2, ownFrom_below (β := Unit) (Nat.le_refl _) hB () X Y row hF hg hr⟩

/-- one place: a piece of the rest is divided. -/
theorem divStep_at (base g1 g2 n N1 k d a : Nat) (Q R dl : List Nat) (W : World) (h : LongI 18446744073709551616 d a Q R (k + 1)) (hdl : dl.length = n) (hsd : SmallU dl) (hvd : V dl = d) (hd0 : 0 < d) (hdn : d ≤ 18446744073709551616 ^ n) (hk : k + (n + 1) ≤ N1) (hkQ : k < Q.length)
    (hn : 1 ≤ n) (hnl : n ≤ 100000) (hne : g2 ≠ g1) (hO : Own64 W base g1 N1 N1 R) (hD : RowU W (.slice (some ⟨g2, 0, none⟩) n (n + 1)) dl) :
    Calls Tryz.prog 98 #[.slice (some ⟨g1, k, none⟩) (n + 1) (N1 - k), .slice (some ⟨g2, 0, none⟩) n (n + 1)] W fun e W' => ∃ (q : Nat) (R' : List Nat), e = .returned (.int .u64 (q : Int)) ∧ Own64 W' base g1 N1 N1 R' ∧ LongI 18446744073709551616 d a (Q.set k q) R' k ∧ Fr (· = g1) W W' := by
  have hR := hO.len
  have e1 : (R.take k).length = k := by rw [List.length_take]; omega
  have e2 : ((R.drop k).take (n + 1)).length = n + 1 := by rw [List.length_take, List.length_drop]; omega
  have e3 : R.take k ++ (R.drop k).take (n + 1) ++ R.drop (k + (n + 1)) = R := by
    rw [List.append_assoc, ← List.drop_drop, List.take_append_drop, List.take_append_drop]
  obtain ⟨p1, p2, p3⟩ := h.part (by omega) hdn (by omega)
  have H := divStep_any base g1 N1 N1 (N1 - k) (n + 1) (some ⟨g2, 0, none⟩) (R.take k) ((R.drop k).take (n + 1)) (R.drop (k + (n + 1))) dl W (by rw [e3]; exact hO) (by rw [hdl]; exact hD) (fun b off e => by cases e; exact hne) ((h.small.drop k).take (n + 1)) hsd (by rw [e2, hdl]) (by omega) (by omega)
    (by show val _ _ < _; rw [p1, hvd]; exact p2)
  rw [e1, e2, hdl] at H
  refine H.mono ?_
  rintro e W' ⟨s', q, rfl, hq, hs', hO', hss, hsl, hF⟩
  rw [hvd] at hq hs'
  exact ⟨q, _, rfl, hO', h.step (by omega) hdn hd0 (by omega) hkQ hss hsl hq hs', hF⟩

set_option maxRecDepth 100000 in
set_option maxHeartbeats 8000000 in
theorem divLong_core (v1 : Value) (b2 o2 cap2 y s sc : Nat) (la lb : List Nat) (w : World) (h1 : RowU w v1 la) (h2 : RowU w (.slice (some ⟨b2, o2, none⟩) lb.length cap2) lb) (s1 : SmallU la) (s2 : SmallU lb) (hl1 : la.length ≤ 1000) (hn : 2 ≤ lb.length) (hnm : lb.length ≤ la.length)
    (hb2 : b2 < w.heap.size) (c2 : w.cell? ⟨b2, o2 + (lb.length - 1), none⟩ = some (.int .u64 (y : Int))) (hyl : y < 18446744073709551616) (hs : s + Lib.bitLen y = 64) (hsc : IntKind.u64.wrap (2 ^ min s 64) = (sc : Int)) (hsl : sc < 18446744073709551616) (hs0 : 0 < sc)
    (hd : sc * V lb < 18446744073709551616 ^ lb.length) (hd0 : 0 < V lb) (hst : sc * V la < 18446744073709551616 ^ (la.length - lb.length + 1) * (sc * V lb)) :
    Calls Tryz.prog 79 #[v1, .slice (some ⟨b2, o2, none⟩) lb.length cap2] w fun e w' => ∃ q r, e = .returned (.tuple #[q, r]) ∧ RowU w' q (L (V la / V lb)) ∧ RowU w' r (L (V la % V lb)) ∧ Below w.heap.size w w' := by
  obtain ⟨i0, hi, hz0, hz1, hz2⟩ := info_parts Tryz.info56
  have R1 := Lib.hid h1
  have R2 := Lib.hid h2
  have HH := Lib.hid (And.intro s1 (And.intro s2 (And.intro hd (And.intro hd0 hst))))
  have HL := Lib.hid (fun W => LZ_any y s W hyl hs)
  clear h2 s1 s2 hd hd0 hst hs
  obtain ⟨ad1, cap1, rfl, hc1, -⟩ := h1
  refine (callsIn_wide (n := 3)).1 ?_
  refine callsIn_of_wp_marks Tryz.func79 rfl trivial ?_ rfl
  simp only [Tryz.ntmps79, List.size_toArray, List.length_cons, List.length_nil, Nat.reduceAdd, Nat.reduceSub, Array.replicate_succ, Array.replicate_zero, List.push_toArray, List.append_toArray, List.nil_append, List.cons_append]
  gi_wp2_with fail
  refine ⟨trivial, ?_⟩
  refine (callsIn_wide.2 (HL.out _)).mono ?_
  rintro e w' ⟨rfl, rfl⟩
  have bN := Boxed.new w 3 (.int .i64 (lb.length : Int))
  have hB1 : Below w.heap.size w (w.alloc (.cells #[.int .i64 (lb.length : Int)] 3)) := (Below.refl _ w).alloc (Nat.le_refl _) _
  have hz1' : (w.alloc (.cells #[.int .i64 (lb.length : Int)] 3)).heap.size = w.heap.size + 1 := World.size_alloc _ _
  generalize w.alloc (.cells #[.int .i64 (lb.length : Int)] 3) = W1 at bN hB1 hz1' ⊢
  clear HL c2
  gi_wp2_with fail
  refine wpIn_wide.2 (Rd.regionF (fun X => X.cell? ⟨w.heap.size, 0, none⟩ = some (.int .i64 (lb.length : Int))) [0, 1, 3, 4] [0, 1, 3] 2 [4, 5, 6] 5 [2, 4, 6] (fun a' W => ∃ Bd g2 od, a' = { tmps := List.toArray (.slice ad1 la.length cap1 :: .slice (some ⟨b2, o2, none⟩) lb.length cap2 :: undef :: undef :: .slice none 0 0 :: .slice none 0 0 :: .pointer (some ⟨w.heap.size, 0, none⟩) :: .int .u64 (sc : Int) :: .pointer (some ⟨Bd, 0, none⟩) :: undef :: undef :: undef :: .slice (some ⟨b2, o2, none⟩) lb.length cap2 :: .int .i64 (lb.length : Int) :: .slice (some ⟨b2, o2, none⟩) lb.length cap2 :: .int .i64 (lb.length : Int) :: .int .i64 ((lb.length : Int) - 1) :: .pointer (some ⟨b2, o2 + (lb.length - 1), none⟩) :: .int .u64 (y : Int) :: .int .i64 (s : Int) :: .int .u64 (sc : Int) :: .slice (some ⟨b2, o2, none⟩) lb.length cap2 :: .int .u64 (sc : Int) :: .slice (some ⟨g2, 0, none⟩) (lb.length + 1) (lb.length + 1) :: .int .i64 (lb.length : Int) :: .slice (some ⟨g2, 0, none⟩) lb.length (lb.length + 1) :: undef :: undef :: undef :: undef :: undef :: undef :: undef :: undef :: undef :: undef :: undef :: undef :: undef :: undef :: undef :: undef :: undef :: undef :: undef :: undef :: undef :: undef :: undef :: undef :: undef :: undef :: undef :: undef :: undef :: undef :: undef :: undef :: []), defers := [] } ∧ Own64 W w.heap.size g2 (lb.length + 1) (lb.length + 1) od ∧ Hid (SmallU od ∧ V od = sc * V lb) ∧ Boxed W Bd 27 (.slice (some ⟨g2, 0, none⟩) lb.length (lb.length + 1)) ∧ Boxed W w.heap.size 3 (.int .i64 (lb.length : Int)) ∧ Bd ≠ g2 ∧ w.heap.size < Bd ∧ w.heap.size < g2 ∧ Below w.heap.size w W) (by kernel_rfl) (by kernel_rfl) (by kernel_rfl) rfl rfl bN.cell ?pre ?behind)
  case pre =>
    replace bN : Boxed W1.drew w.heap.size 3 (.int .i64 (lb.length : Int)) := bN
    replace hB1 := hB1.drew
    replace hz1' : W1.drew.heap.size = w.heap.size + 1 := hz1'
    have H64 := Lib.hid (fun W (h : Below w.heap.size w W) => scaled_any (.slice (some ⟨b2, o2, none⟩) lb.length cap2) lb sc W (R2.out.below h) HH.out.2.1 hsl (by omega))
    generalize W1.drew = W1 at bN hB1 hz1' ⊢
    refine Rd.pre_float (.slice (some ⟨b2, o2, none⟩) lb.length cap2) (by simp only [List.getElem?_toArray, List.getElem?_cons_zero]; rfl) rfl (by rfl) (fun X _ => by go_simp) ?_
    simp only [Act.put, List.setIfInBounds_toArray, List.set_cons_succ, List.set_cons_zero]
    refine Rd.pre_float (.int .u64 (sc : Int)) (by simp only [List.getElem?_toArray, List.getElem?_cons_succ, List.getElem?_cons_zero]; rfl) rfl (by rfl) (fun X _ => by go_simp) ?_
    simp only [Act.put, List.setIfInBounds_toArray, List.set_cons_succ, List.set_cons_zero]
    refine Rd.pre_float (.int .i64 (lb.length : Int)) (by simp only [List.getElem?_toArray, List.getElem?_cons_succ, List.getElem?_cons_zero]; rfl) rfl (by rfl) (fun X _ => by go_simp) ?_
    simp only [Act.put, List.setIfInBounds_toArray, List.set_cons_succ, List.set_cons_zero]
    refine Rd.pre_end ?_
    refine Rd.fork_both (by simp only [List.getElem?_toArray, List.getElem?_cons_succ, List.getElem?_cons_zero]; rfl) (by simp only [List.getElem?_toArray, List.getElem?_cons_succ, List.getElem?_cons_zero]; rfl) (by rfl) (by rfl) (fun K hK => ?_) (fun K hK => ?_)
    · go_simp
      refine (H64.out W1 hB1).mono ?_
      rintro e W2 ⟨g2, od, rfl, hO, hso, hvo, hb⟩
      have bN2 : Boxed W2 w.heap.size 3 (.int .i64 (lb.length : Int)) := (Fr.of_below (G := fun _ => False) hb).boxed bN (fun h => h)
      refine hK _ _ bN2.cell ?_
      clear hK K
      refine Rd.pre_float (.slice (some ⟨g2, 0, none⟩) lb.length (lb.length + 1)) (by simp only [List.getElem?_toArray, List.getElem?_cons_succ, List.getElem?_cons_zero]; rfl) rfl (by rfl) (fun X _ => by go_simp; intro h9; omega) ?_
      simp only [Act.put, List.setIfInBounds_toArray, List.set_cons_succ, List.set_cons_zero]
      refine Rd.pre_move (by simp only [List.getElem?_toArray, List.getElem?_cons_succ, List.getElem?_cons_zero]; rfl) rfl (by rfl) (fun K hK => ?_)
      go_simp
      have hO3 := hO.alloc (.cells #[.slice none 0 0] 27)
      have bD := Boxed.new W2 27 (.slice none 0 0)
      have bN3 := bN2.alloc (.cells #[.slice none 0 0] 27)
      have hgl := hO.lt
      have hB3 : Below w.heap.size w (W2.alloc (.cells #[.slice none 0 0] 27)) := (hB1.trans (hb.mono (by omega))).alloc (by have := hB1.size; have := hb.size; omega) _
      refine hK _ _ bN3.cell ?_
      clear hK K
      refine Rd.pre_move (by simp only [List.getElem?_toArray, List.getElem?_cons_succ, List.getElem?_cons_zero]; rfl) rfl (by rfl) (fun K hK => ?_)
      have hcd := bD.cell
      have hfd := bD.frozen
      go_simp
      have bD2 := Boxed.new W2 27 (.slice (some ⟨g2, 0, none⟩) lb.length (lb.length + 1))
      refine hK _ _ ?_ (Rd.pre_end ⟨W2.heap.size, g2, od, rfl, ?_, Lib.hid ⟨hso, hvo⟩, bD2, ?_, by omega, by have := bN2.lt; omega, by omega, ?_⟩)
      · exact (bN2.alloc _).cell
      · exact Own64.base (hO.alloc _) (by omega)
      · exact bN2.alloc _
      · exact (hB1.trans (hb.mono (by omega))).alloc (by have := bN2.lt; omega) _
    · go_simp
      have bD := Boxed.new W1 27 (.slice none 0 0)
      have bN2 := bN.alloc (.cells #[.slice none 0 0] 27)
      have hB2 : Below w.heap.size w (W1.alloc (.cells #[.slice none 0 0] 27)) := hB1.alloc (by omega) _
      have hz2' : (W1.alloc (.cells #[.slice none 0 0] 27)).heap.size = w.heap.size + 2 := by rw [World.size_alloc]; omega
      rw [hz1'] at bD
      refine hK _ _ bN2.cell ?_
      clear hK K
      generalize W1.alloc (.cells #[.slice none 0 0] 27) = W2 at bD bN2 hB2 hz2' ⊢
      refine Rd.pre_move (by simp only [List.getElem?_toArray, List.getElem?_cons_succ, List.getElem?_cons_zero]; rfl) rfl (by rfl) (fun K hK => ?_)
      go_simp
      refine (H64.out W2 hB2).mono ?_
      rintro e W3 ⟨g2, od, rfl, hO, hso, hvo, hb⟩
      have bN3 : Boxed W3 w.heap.size 3 (.int .i64 (lb.length : Int)) := (Fr.of_below (G := fun _ => False) hb).boxed bN2 (fun h => h)
      have bD3 := (Fr.of_below (G := fun _ => False) hb).boxed bD (fun h => h)
      have hgl := hO.lt
      have hB3 : Below w.heap.size w W3 := hB2.trans (hb.mono (by omega))
      refine hK _ _ bN3.cell ?_
      clear hK K
      refine Rd.pre_float (.slice (some ⟨g2, 0, none⟩) lb.length (lb.length + 1)) (by simp only [List.getElem?_toArray, List.getElem?_cons_succ, List.getElem?_cons_zero]; rfl) rfl (by rfl) (fun X _ => by go_simp; intro h9; omega) ?_
      simp only [Act.put, List.setIfInBounds_toArray, List.set_cons_succ, List.set_cons_zero]
      refine Rd.pre_move (by simp only [List.getElem?_toArray, List.getElem?_cons_succ, List.getElem?_cons_zero]; rfl) rfl (by rfl) (fun K hK => ?_)
      have hcd := bD3.cell
      have hfd := bD3.frozen
      go_simp
      have bD2 := bD3.set (.slice (some ⟨g2, 0, none⟩) lb.length (lb.length + 1))
      refine hK _ _ ?_ (Rd.pre_end ⟨w.heap.size + 1, g2, od, rfl, ?_, Lib.hid ⟨hso, hvo⟩, bD2, ?_, by omega, by omega, by omega, ?_⟩)
      · exact (bN3.other (by omega) _).cell
      · exact Own64.base ((Fr.put _ ⟨w.heap.size + 1, 0, none⟩ _).owns hO (by show ¬ g2 = w.heap.size + 1; omega)) (by omega)
      · exact bN3.other (by omega) _
      · exact hB3.setCell (p := ⟨w.heap.size + 1, 0, none⟩) (by show w.heap.size ≤ w.heap.size + 1; omega) _
  case behind =>
    rintro a' W ⟨Bd, g2, od, rfl, hOd, HD, bD, bN, hne1, hne2, hne3, hB⟩
    
    gi_wp2_with fail
    refine ⟨trivial, ?_⟩
    refine (callsIn_wide.2 (scaled_any _ la sc W (R1.out.below hB) HH.out.1 hsl (by omega))).mono ?_
    rintro e W2 ⟨g1, oa, rfl, hOa, hsa, hva, hb⟩
    obtain ⟨HA⟩ : Nonempty (Hid (SmallU oa ∧ V oa = sc * V la)) := ⟨Lib.hid ⟨hsa, hva⟩⟩
    clear hsa hva
    have hF := Fr.of_below (G := fun _ => False) hb
    have hg1' := hOa.lt
    have hg2' := hOd.lt
    have hBd' := bD.lt
    have hBn' := bN.lt
    have n1 : g2 ≠ g1 := by omega
    have n3 : Bd ≠ g1 := by omega
    have n4 : w.heap.size < g1 := by omega
    clear hg1' hg2' hBd' hBn'
    replace hOd : Own64 W2 w.heap.size g2 (lb.length + 1) (lb.length + 1) od := hF.owns hOd (fun h => h)
    replace bD := hF.boxed bD (fun h => h)
    replace bN := hF.boxed bN (fun h => h)
    have hg1 := hOa.lt
    have hg2 := hOd.lt
    have hBd := bD.lt
    have hBn := bN.lt
    replace hOa : Own64 W2 w.heap.size g1 (la.length + 1) (la.length + 1) oa := Own64.base hOa hB.size
    replace hB : Below w.heap.size w W2 := hB.trans (hb.mono hB.size)
    clear hb hF
    obtain ⟨M, hM⟩ : ∃ M, M + lb.length = la.length + 1 := ⟨la.length + 1 - lb.length, by omega⟩
    have HM := Lib.hid hM
    have hM0 : 1 ≤ M := by omega
    have hM1 : M ≤ 1000 := by omega
    clear hM
    have hcN := (bN.alloc (.cells #[.slice (some ⟨g1, 0, none⟩) (la.length + 1) (la.length + 1)] 27)).cell
    gi_wp2_with (gi_at_make; refine wpListIn_make_full _ rfl _ _ 27 rfl w.heap.size 56 i0 (.int .u64 0) 1 Tryz.underlying27 hi hz0 hz1 .i64 .i64 _ _ M rfl rfl (by have := HM.out; omega) (by have := HM.out; omega) (by rw [hz2]; omega) (by unfold maxLen; omega) (by rw [World.size_alloc]; omega) ?_; intro w1 hown hgrow)
    have hF := Fr.of_grown (G := fun _ => False) hgrow (fun k _ e => by cases e)
    have b9 := hF.boxed (Boxed.new W2 27 (.slice (some ⟨g1, 0, none⟩) (la.length + 1) (la.length + 1))) (fun h => h)
    replace bN := hF.boxed (bN.alloc _) (fun h => h)
    replace bD := hF.boxed (bD.alloc _) (fun h => h)
    replace hOa : Own64 w1 w.heap.size g1 (la.length + 1) (la.length + 1) oa := hF.owns (hOa.alloc _) (fun h => h)
    replace hOd : Own64 w1 w.heap.size g2 (lb.length + 1) (lb.length + 1) od := hF.owns (hOd.alloc _) (fun h => h)
    have hB9 : w.heap.size ≤ W2.heap.size := hB.size
    replace hB : Below w.heap.size w w1 := (hB.alloc hB.size _).grown hgrow (by rw [World.size_alloc]; omega) (fun j ej => by cases ej)
    rw [World.size_alloc, made_zerosU] at hown
    have hg3 := hown.lt (W2.heap.size + 1) rfl
    clear hgrow hF hcN
    generalize W2.heap.size = B9 at *
    obtain ⟨g3, hg3e⟩ : ∃ g3, g3 = B9 + 1 := ⟨_, rfl⟩
    rw [← hg3e] at hown hg3 ⊢
    refine ⟨trivial, ?_⟩
    refine (callsIn_wide.2 (Backward_any _ _ _ _)).mono ?_
    rintro e w' ⟨rfl, rfl⟩
    simp only [World.size_alloc]
    have b10 := (Boxed.new w1 27 (.slice (some ⟨g3, 0, none⟩) M M)).alloc (.cells #[.slice (some ⟨g3, 0, none⟩) M M] 27)
    have bb := Boxed.new (w1.alloc (.cells #[.slice (some ⟨g3, 0, none⟩) M M] 27)) 27 (.slice (some ⟨g3, 0, none⟩) M M)
    rw [World.size_alloc] at bb
    replace hOa : Own64 _ w.heap.size g1 (la.length + 1) (la.length + 1) oa := (hOa.alloc (.cells #[.slice (some ⟨g3, 0, none⟩) M M] 27)).alloc (.cells #[.slice (some ⟨g3, 0, none⟩) M M] 27)
    replace hOd : Own64 _ w.heap.size g2 (lb.length + 1) (lb.length + 1) od := (hOd.alloc (.cells #[.slice (some ⟨g3, 0, none⟩) M M] 27)).alloc (.cells #[.slice (some ⟨g3, 0, none⟩) M M] 27)
    replace hown : Own64 _ w.heap.size g3 M M (List.replicate M 0) := (hown.alloc (.cells #[.slice (some ⟨g3, 0, none⟩) M M] 27)).alloc (.cells #[.slice (some ⟨g3, 0, none⟩) M M] 27)
    replace bN := (bN.alloc (.cells #[.slice (some ⟨g3, 0, none⟩) M M] 27)).alloc (.cells #[.slice (some ⟨g3, 0, none⟩) M M] 27)
    replace bD := (bD.alloc (.cells #[.slice (some ⟨g3, 0, none⟩) M M] 27)).alloc (.cells #[.slice (some ⟨g3, 0, none⟩) M M] 27)
    replace b9 := (b9.alloc (.cells #[.slice (some ⟨g3, 0, none⟩) M M] 27)).alloc (.cells #[.slice (some ⟨g3, 0, none⟩) M M] 27)
    replace hB : Below w.heap.size w ((w1.alloc (.cells #[.slice (some ⟨g3, 0, none⟩) M M] 27)).alloc (.cells #[.slice (some ⟨g3, 0, none⟩) M M] 27)) := (hB.alloc hB.size _).alloc (by rw [World.size_alloc]; have := hB.size; omega) _
    have hsz : ((w1.alloc (.cells #[.slice (some ⟨g3, 0, none⟩) M M] 27)).alloc (.cells #[.slice (some ⟨g3, 0, none⟩) M M] 27)).heap.size = w1.heap.size + 2 := by simp
    generalize (w1.alloc (.cells #[.slice (some ⟨g3, 0, none⟩) M M] 27)).alloc (.cells #[.slice (some ⟨g3, 0, none⟩) M M] 27) = W6 at bN bD b9 b10 bb hOa hOd hown hB hsz ⊢
    generalize w1.heap.size = B10 at *
    -- blocks apart
    have n2 : g3 ≠ g1 := by omega
    have n5 : g3 ≠ g2 := by omega
    have n6 : g3 ≠ Bd := by omega
    have n7 : B9 < g3 := by omega
    have n8 : g3 < B10 := by omega
    have HG := Lib.hid hg3e
    clear hg3e
    have HV : Hid (SmallU (od.take lb.length) ∧ (od.take lb.length).length = lb.length ∧ V (od.take lb.length) = sc * V lb) := Lib.hid (by
      have hol := hOd.len
      refine ⟨HD.out.1.take _, by rw [List.length_take]; omega, ?_⟩
      have e := val_take_drop (B := 18446744073709551616) od lb.length (by omega)
      have e2 := HD.out.2
      have e3 := HH.out.2.2.1
      have e4 : val 18446744073709551616 (od.drop lb.length) = 0 := by
        apply Nat.eq_zero_of_not_pos
        intro hp
        have h5 : 18446744073709551616 ^ lb.length * 1 ≤ 18446744073709551616 ^ lb.length * val 18446744073709551616 (od.drop lb.length) := Nat.mul_le_mul_left _ hp
        change val _ _ = _ at e2
        omega
      rw [e4, Nat.mul_zero, Nat.add_zero] at e
      show val _ _ = _
      rw [← e]
      exact e2)
    have HLI : Hid (LongI 18446744073709551616 (sc * V lb) (sc * V la) (List.replicate M 0) oa M ∧ ∀ j, j < M → (List.replicate M 0).getD j 0 = 0) := Lib.hid ⟨LongI.start (by omega) HA.out.1 HA.out.2 (by have := hOa.len; have := HM.out; omega) (by have h9 := HH.out.2.2.2.2; rw [show la.length - lb.length + 1 = M by have := HM.out; omega] at h9; exact h9), fun j _ => by simp [List.getD, List.getElem?_replicate]; split <;> rfl⟩
    have hd0 : 0 < sc * V lb := Nat.mul_pos hs0 HH.out.2.2.2.1
    have HD0 := Lib.hid hd0
    have HDn := Lib.hid (Nat.le_of_lt HH.out.2.2.1)
    clear hd0
    gi_wp2_with fail
    refine range_back (B10 + 1) (some ⟨g3, 0, none⟩) M M (by omega) (fun _ => 0) rfl rfl bb.cell
      (LongW w Bd B9 B10 (B10 + 1) g1 g2 g3 lb.length (la.length + 1) M od (sc * V lb) (sc * V la)) (fun _ _ => False) (LongW.own (by omega)) (fun _ _ _ _ hs _ _ => hs)
      (fun k W hk hi => by
        obtain ⟨Q, R, H, hOr, hOq, hOd, bN, bD, b9, b10, bb, hF⟩ := hi
        refine ⟨bb.cell, g3, 0, rfl, ?_⟩
        rw [Nat.zero_add, hOq.cell hk, H.out.2 k (by omega)])
      ⟨_, oa, HLI, hOa, hown, hOd, bN, bD, b9, b10, bb, hB⟩
      (fun k => { tmps := List.toArray (.slice ad1 la.length cap1 :: .slice (some ⟨b2, o2, none⟩) lb.length cap2 :: undef :: undef :: .slice none 0 0 :: .slice none 0 0 :: .pointer (some ⟨w.heap.size, 0, none⟩) :: .int .u64 (sc : Int) :: .pointer (some ⟨Bd, 0, none⟩) :: .pointer (some ⟨B9, 0, none⟩) :: .pointer (some ⟨B10, 0, none⟩) :: .int .i64 (k : Int) :: .slice (some ⟨b2, o2, none⟩) lb.length cap2 :: .int .i64 (lb.length : Int) :: .slice (some ⟨b2, o2, none⟩) lb.length cap2 :: .int .i64 (lb.length : Int) :: .int .i64 ((lb.length : Int) - 1) :: .pointer (some ⟨b2, o2 + (lb.length - 1), none⟩) :: .int .u64 (y : Int) :: .int .i64 (s : Int) :: .int .u64 (sc : Int) :: .slice (some ⟨b2, o2, none⟩) lb.length cap2 :: .int .u64 (sc : Int) :: .slice (some ⟨g2, 0, none⟩) (lb.length + 1) (lb.length + 1) :: .int .i64 (lb.length : Int) :: .slice (some ⟨g2, 0, none⟩) lb.length (lb.length + 1) :: .slice ad1 la.length cap1 :: .int .u64 (sc : Int) :: .slice (some ⟨g1, 0, none⟩) (la.length + 1) (la.length + 1) :: .slice ad1 la.length cap1 :: .int .i64 (la.length : Int) :: .int .i64 (lb.length : Int) :: .int .i64 ((la.length : Int) - lb.length) :: .int .i64 ((la.length : Int) - lb.length + 1) :: .slice (some ⟨g3, 0, none⟩) M M :: .slice (some ⟨g3, 0, none⟩) M M :: .func (.func 88) #[] #[.pointer (some ⟨B10 + 1, 0, none⟩)] :: .int .i64 (k : Int) :: .int .u64 ((0 : Nat) : Int) :: undef :: undef :: undef :: undef :: undef :: undef :: undef :: undef :: undef :: undef :: undef :: undef :: undef :: undef :: undef :: undef :: undef :: undef :: undef :: []), defers := [] }) ?assign ?body ?done ?stop
    case assign =>
      intro ll k W K hK
      gi_wp2
      exact hK
    case stop =>
      rintro D c W hD h hK
      exact h.elim
    case body =>
      clear hOa hown hOd bN bD b9 b10 bb hB HLI HA HD
      rintro ll k W hk _ _ ⟨Q, R, H, hOr, hOq, hOd, bN, bD, b9, b10, bb, hB⟩
      have hM := HM.out
      have hOql := hOq.len
      have H65 := Lib.hid (fun (X : World) (hO : Own64 X w.heap.size g1 (la.length + 1) (la.length + 1) R) (hD : Own64 X w.heap.size g2 (lb.length + 1) (lb.length + 1) od) => divStep_at w.heap.size g1 g2 lb.length (la.length + 1) k (sc * V lb) (sc * V la) Q R (od.take lb.length) X H.out.1 HV.out.2.1 HV.out.1 HV.out.2.2 HD0.out HDn.out (by omega) (by omega) (by omega) (by omega) n1 hO ((Own64.row hD).take (by have := hD.len; omega)))
      clear hM hOql
      gi_wp2_with fail
      refine Rd.regionInK (fun X => X.cell? ⟨B10, 0, none⟩ = some (.slice (some ⟨g3, 0, none⟩) M M) ∧ X.cell? ⟨B9, 0, none⟩ = some (.slice (some ⟨g1, 0, none⟩) (la.length + 1) (la.length + 1)) ∧ X.cell? ⟨w.heap.size, 0, none⟩ = some (.int .i64 (lb.length : Int)) ∧ X.cell? ⟨Bd, 0, none⟩ = some (.slice (some ⟨g2, 0, none⟩) lb.length (lb.length + 1))) 12 [1, 3, 4, 6, 7, 8, 11] [0, 2, 5, 9] [0, 1, 2, 3, 4, 5, 6, 7, 8, 9, 10, 11, 12] (by kernel_rfl) (by kernel_rfl) (by kernel_rfl) (by kernel_rfl) (by kernel_rfl) rfl ⟨b10.cell, b9.cell, bN.cell, bD.cell⟩ ?_
      replace bN : Boxed W.drew w.heap.size 3 (.int .i64 (lb.length : Int)) := bN
      replace bD : Boxed W.drew Bd 27 (.slice (some ⟨g2, 0, none⟩) lb.length (lb.length + 1)) := bD
      replace b9 : Boxed W.drew B9 27 (.slice (some ⟨g1, 0, none⟩) (la.length + 1) (la.length + 1)) := b9
      replace b10 : Boxed W.drew B10 27 (.slice (some ⟨g3, 0, none⟩) M M) := b10
      replace bb : Boxed W.drew (B10 + 1) 27 (.slice (some ⟨g3, 0, none⟩) M M) := bb
      replace hOr : Own64 W.drew w.heap.size g1 (la.length + 1) (la.length + 1) R := hOr
      replace hOq : Own64 W.drew w.heap.size g3 M M Q := hOq
      replace hOd : Own64 W.drew w.heap.size g2 (lb.length + 1) (lb.length + 1) od := hOd
      replace hB := hB.drew
      have hKf : KeepsFrom W6.heap.size W W.drew := (KeepsOthers.drew _).from _
      generalize W.drew = W1 at bN bD b9 b10 bb hOr hOq hOd hB hKf ⊢
      have hM := HM.out
      have hkn : (k : Int) + lb.length + 1 ≤ la.length + 1 := by omega
      clear hM
      refine Rd.seqK_float (.slice (some ⟨g3, 0, none⟩) M M) (by simp only [List.getElem?_toArray, List.getElem?_cons_zero]; rfl) rfl rfl (by rfl) (fun X hX => by have h1 := hX.1; go_simp) ?_
      simp only [Act.put, List.setIfInBounds_toArray, List.set_cons_succ, List.set_cons_zero]
      refine Rd.seqK_plain (.int .i64 (k : Int)) (by simp only [List.getElem?_toArray, List.getElem?_cons_succ, List.getElem?_cons_zero]; rfl) rfl (by rfl) (fun X => by go_simp) ?_
      simp only [Act.put, List.setIfInBounds_toArray, List.set_cons_succ, List.set_cons_zero]
      refine Rd.seqK_float (.slice (some ⟨g1, 0, none⟩) (la.length + 1) (la.length + 1)) (by simp only [List.getElem?_toArray, List.getElem?_cons_succ, List.getElem?_cons_zero]; rfl) rfl rfl (by rfl) (fun X hX => by have h1 := hX.2.1; go_simp) ?_
      simp only [Act.put, List.setIfInBounds_toArray, List.set_cons_succ, List.set_cons_zero]
      refine Rd.seqK_plain (.int .i64 (k : Int)) (by simp only [List.getElem?_toArray, List.getElem?_cons_succ, List.getElem?_cons_zero]; rfl) rfl (by rfl) (fun X => by go_simp) ?_
      simp only [Act.put, List.setIfInBounds_toArray, List.set_cons_succ, List.set_cons_zero]
      refine Rd.seqK_plain (.int .i64 (k : Int)) (by simp only [List.getElem?_toArray, List.getElem?_cons_succ, List.getElem?_cons_zero]; rfl) rfl (by rfl) (fun X => by go_simp) ?_
      simp only [Act.put, List.setIfInBounds_toArray, List.set_cons_succ, List.set_cons_zero]
      refine Rd.seqK_float (.int .i64 (lb.length : Int)) (by simp only [List.getElem?_toArray, List.getElem?_cons_succ, List.getElem?_cons_zero]; rfl) rfl rfl (by rfl) (fun X hX => by have h1 := hX.2.2.1; go_simp) ?_
      simp only [Act.put, List.setIfInBounds_toArray, List.set_cons_succ, List.set_cons_zero]
      refine Rd.seqK_plain (.int .i64 ((k : Int) + lb.length)) (by simp only [List.getElem?_toArray, List.getElem?_cons_succ, List.getElem?_cons_zero]; rfl) rfl (by rfl) (fun X => by go_simp; exact IntWalk.i64_in _ (by omega)) ?_
      simp only [Act.put, List.setIfInBounds_toArray, List.set_cons_succ, List.set_cons_zero]
      refine Rd.seqK_plain (.int .i64 ((k : Int) + lb.length + 1)) (by simp only [List.getElem?_toArray, List.getElem?_cons_succ, List.getElem?_cons_zero]; rfl) rfl (by rfl) (fun X => by go_simp; exact IntWalk.i64_in _ (by omega)) ?_
      simp only [Act.put, List.setIfInBounds_toArray, List.set_cons_succ, List.set_cons_zero]
      refine Rd.seqK_plain (.slice (some ⟨g1, k, none⟩) (lb.length + 1) (la.length + 1 - k)) (by simp only [List.getElem?_toArray, List.getElem?_cons_succ, List.getElem?_cons_zero]; rfl) rfl (by rfl) (fun X => by go_simp; rw [if_pos (by omega), if_pos (by omega), if_neg (by omega), show ((k : Int) + lb.length + 1).toNat - k = lb.length + 1 by omega]) ?_
      simp only [Act.put, List.setIfInBounds_toArray, List.set_cons_succ, List.set_cons_zero]
      refine Rd.seqK_float (.slice (some ⟨g2, 0, none⟩) lb.length (lb.length + 1)) (by simp only [List.getElem?_toArray, List.getElem?_cons_succ, List.getElem?_cons_zero]; rfl) rfl rfl (by rfl) (fun X hX => by have h1 := hX.2.2.2; go_simp) ?_
      simp only [Act.put, List.setIfInBounds_toArray, List.set_cons_succ, List.set_cons_zero]
      refine Rd.seqK_move (by simp only [List.getElem?_toArray, List.getElem?_cons_succ, List.getElem?_cons_zero]; rfl) rfl rfl (by rfl) (fun K hK => ?_)
      go_simp
      refine (H65.out W1 hOr hOd).mono ?_
      rintro e W2 ⟨q, R', rfl, hOr2, hLI, hF⟩
      have HLI2 := Lib.hid (Lib.hid hLI)
      clear hLI
      replace hOq : Own64 W2 w.heap.size g3 M M Q := hF.owns hOq n2
      replace hOd : Own64 W2 w.heap.size g2 (lb.length + 1) (lb.length + 1) od := hF.owns hOd n1
      replace bN := hF.boxed bN (by omega)
      replace bD := hF.boxed bD n3
      replace b9 := hF.boxed b9 (by omega)
      replace b10 := hF.boxed b10 (by omega)
      replace bb := hF.boxed bb (by omega)
      replace hKf : KeepsFrom W6.heap.size W W2 := hKf.trans ⟨hF.size, fun i o h9 hi _ => (hF.block i (Array.getElem?_eq_some_iff.1 hi).1 (by omega)).trans hi⟩
      replace hB : Below w.heap.size w W2 := hB.trans (hF.below hB.size (fun k e => by omega))
      refine hK _ _ (fun _ => ⟨b10.cell, b9.cell, bN.cell, bD.cell⟩) ?_
      clear hF hOr
      clear hK K
      refine Rd.seqK_plain (.pointer (some ⟨g3, k, none⟩)) (by simp only [List.getElem?_toArray, List.getElem?_cons_succ, List.getElem?_cons_zero]; rfl) rfl (by rfl) (fun X => by go_simp) ?_
      simp only [Act.put, List.setIfInBounds_toArray, List.set_cons_succ, List.set_cons_zero]
      refine Rd.seqK_move (by simp only [List.getElem?_toArray, List.getElem?_cons_succ, List.getElem?_cons_zero]; rfl) rfl rfl (by rfl) (fun K hK => ?_)
      go_simp
      have hfz := hOq.frozen k
      have hcz := hOq.cell hk
      go_simp
      have hP := Fr.put W2 ⟨g3, k, none⟩ (.int .u64 (q : Int))
      refine hK _ _ (fun h => absurd h (by omega)) ?_
      refine Rd.seqK_end ?_
      refine ⟨hKf.trans ((KeepsOthers.setCell _ _ _).from _), Q.set k q, R', Lib.hid ⟨HLI2.out.out, fun j hj => ?_⟩, hP.owns hOr2 (fun e => n2 e.symm), hOq.set k q, hP.owns hOd (fun e => n5 e.symm), hP.boxed bN (by show ¬ w.heap.size = g3; omega), hP.boxed bD (fun e => n6 e.symm), hP.boxed b9 (by show ¬ B9 = g3; omega), hP.boxed b10 (by show ¬ B10 = g3; omega), hP.boxed bb (by show ¬ B10 + 1 = g3; omega), hB.setCell (p := ⟨g3, k, none⟩) (by show w.heap.size ≤ g3; omega) _⟩
      rw [Go.Dig.getD_set_ne (by omega)]; exact H.out.2 j (by omega)
    case done =>
      rintro D W hD ⟨Q, R, H, hOr, hOq, hOd, bN, bD, b9, b10, bb, hB⟩ hK
      have hD2 : B10 + 2 ≤ D := by omega
      have HE := Lib.hid H.out.1.done
      have HSR := Lib.hid (And.intro H.out.1.small H.out.1.smallQ)
      have H50 := Lib.hid (divLimb_any w.heap.size g1 (la.length + 1) (la.length + 1) R sc W hOr H.out.1.small (by omega) hs0 hsl)
      have hc9 := b9.cell
      clear H bN bD bb hOd hOa hown HLI HA HD
      gi_wp2_with fail
      refine ⟨trivial, ?_⟩
      refine (callsIn_wide.2 H50.out).mono ?_
      rintro e W2 ⟨rfl, ⟨R2, hOr2, hsr2, hvr2⟩, hF⟩
      have HR2 := Lib.hid (And.intro hsr2 hvr2)
      clear hsr2 hvr2 H50 hc9 hOr
      replace hOq : Own64 W2 w.heap.size g3 M M Q := hF.owns hOq n2
      replace b9 := hF.boxed b9 (by omega)
      replace b10 := hF.boxed b10 (by omega)
      replace hK := (hF.block D (Array.getElem?_eq_some_iff.1 hK).1 (by omega)).trans hK
      replace hB : Below w.heap.size w W2 := hB.trans (hF.below hB.size (fun k e => by omega))
      clear hF
      obtain ⟨qa, qc, hqe, hqr⟩ := trimV_slice hOq.row
      obtain ⟨ra, rc, hre, hrr⟩ := trimV_slice hOr2.row
      have eq1 : trim Q = L (V la / V lb) := by
        rw [trim_L HSR.out.2]
        have h9 := HE.out.1
        rw [Nat.mul_comm sc, Nat.mul_comm sc, (scale_div hs0).1] at h9
        exact congrArg L h9
      have er1 : trim R2 = L (V la % V lb) := by
        rw [trim_L HR2.out.1, HR2.out.2]
        have h9 := HE.out.2
        have h8 := (scale_div (N := V la) (y := V lb) hs0).2
        rw [Nat.mul_comm sc, Nat.mul_comm sc] at h9
        rw [← h8]
        exact congrArg (fun z => L (z / sc)) h9
      have hol := hOq.len
      have hol2 := hOr2.len
      have H38 := fun (X : World) (h : RowU X (.slice (some ⟨g3, 0, none⟩) Q.length M) Q) => nTrim_any (some ⟨g3, 0, none⟩) M Q X h (by omega)
      have H39 := fun (X : World) (h : RowU X (.slice (some ⟨g1, 0, none⟩) R2.length (la.length + 1)) R2) => nTrim_any (some ⟨g1, 0, none⟩) (la.length + 1) R2 X h (by omega)
      rw [hol, hqe] at H38
      rw [hol2, hre] at H39
      rw [eq1] at hqr H38
      rw [er1] at hrr H39
      have HH38 := Lib.hid H38
      have HH39 := Lib.hid H39
      clear H38 H39 hol hol2 eq1 er1 hqe hre HE HSR HR2
      gi_wp2_with fail
      refine wpIn_wide.2 (Rd.regionK (fun X => X.cell? ⟨B10, 0, none⟩ = some (.slice (some ⟨g3, 0, none⟩) M M) ∧ X.cell? ⟨B9, 0, none⟩ = some (.slice (some ⟨g1, 0, none⟩) (la.length + 1) (la.length + 1))) 5 [4] [0, 2] [0, 2, 1, 3, 4, 5] (by kernel_rfl) (by kernel_rfl) (by kernel_rfl) (by kernel_rfl) rfl ⟨b10.cell, b9.cell⟩ ?_)
      replace b9 : Boxed W2.drew B9 27 (.slice (some ⟨g1, 0, none⟩) (la.length + 1) (la.length + 1)) := b9
      replace b10 : Boxed W2.drew B10 27 (.slice (some ⟨g3, 0, none⟩) M M) := b10
      replace hOr2 : Own64 W2.drew w.heap.size g1 (la.length + 1) (la.length + 1) R2 := hOr2
      replace hOq : Own64 W2.drew w.heap.size g3 M M Q := hOq
      replace hqr : RowU W2.drew (.slice qa (L (V la / V lb)).length qc) (L (V la / V lb)) := hqr
      replace hrr : RowU W2.drew (.slice ra (L (V la % V lb)).length rc) (L (V la % V lb)) := hrr
      replace hK : W2.drew.heap[D]? = some (.deferred (some [])) := hK
      replace hB := hB.drew
      generalize W2.drew = W3 at b9 b10 hOr2 hOq hqr hrr hK hB ⊢
      refine Rd.seqK_float (.slice (some ⟨g3, 0, none⟩) M M) (by simp only [List.getElem?_toArray, List.getElem?_cons_zero]; rfl) rfl rfl (by rfl) (fun X hX => by have h1 := hX.1; go_simp) ?_
      simp only [Act.put, List.setIfInBounds_toArray, List.set_cons_succ, List.set_cons_zero]
      refine Rd.seqK_float (.slice (some ⟨g1, 0, none⟩) (la.length + 1) (la.length + 1)) (by simp only [List.getElem?_toArray, List.getElem?_cons_succ, List.getElem?_cons_zero]; rfl) rfl rfl (by rfl) (fun X hX => by have h1 := hX.2; go_simp) ?_
      simp only [Act.put, List.setIfInBounds_toArray, List.set_cons_succ, List.set_cons_zero]
      refine Rd.seqK_move (by simp only [List.getElem?_toArray, List.getElem?_cons_succ, List.getElem?_cons_zero]; rfl) rfl rfl (by rfl) (fun K hK0 => ?_)
      go_simp
      have hK1 := hK0
      refine (HH38.out W3 hOq.row).mono ?_
      rintro e W4 ⟨rfl, hb⟩
      have hF := Fr.of_below (G := fun _ => False) hb
      replace b9 := hF.boxed b9 (fun h => h)
      replace b10 := hF.boxed b10 (fun h => h)
      replace hOr2 : Own64 W4 w.heap.size g1 (la.length + 1) (la.length + 1) R2 := hF.owns hOr2 (fun h => h)
      replace hqr := hqr.below hb
      replace hrr := hrr.below hb
      replace hK := (hb.block D (Array.getElem?_eq_some_iff.1 hK).1).trans hK
      replace hB : Below w.heap.size w W4 := hB.trans (hb.mono hB.size)
      refine hK1 _ _ (fun _ => ⟨b10.cell, b9.cell⟩) ?_
      clear hF hb hOq
      clear hK1
      clear hK0 K
      refine Rd.seqK_move (by simp only [List.getElem?_toArray, List.getElem?_cons_succ, List.getElem?_cons_zero]; rfl) rfl rfl (by rfl) (fun K hK0 => ?_)
      go_simp
      have hK1 := hK0
      refine (HH39.out W4 hOr2.row).mono ?_
      rintro e W5 ⟨rfl, hb⟩
      have hF := Fr.of_below (G := fun _ => False) hb
      replace b9 := hF.boxed b9 (fun h => h)
      replace b10 := hF.boxed b10 (fun h => h)
      replace hOr2 : Own64 W5 w.heap.size g1 (la.length + 1) (la.length + 1) R2 := hF.owns hOr2 (fun h => h)
      replace hqr := hqr.below hb
      replace hrr := hrr.below hb
      replace hK := (hb.block D (Array.getElem?_eq_some_iff.1 hK).1).trans hK
      replace hB : Below w.heap.size w W5 := hB.trans (hb.mono hB.size)
      refine hK1 _ _ (fun _ => ⟨b10.cell, b9.cell⟩) ?_
      clear hF hb
      clear hK1
      clear hK0 K
      refine Rd.seqK_plain (.slice qa (L (V la / V lb)).length qc) (by simp only [List.getElem?_toArray, List.getElem?_cons_succ, List.getElem?_cons_zero]; rfl) rfl (by rfl) (fun X => by go_simp) ?_
      simp only [Act.put, List.setIfInBounds_toArray, List.set_cons_succ, List.set_cons_zero]
      refine Rd.seqK_move (by simp only [List.getElem?_toArray, List.getElem?_cons_succ, List.getElem?_cons_zero]; rfl) rfl rfl (by rfl) (fun K hK0 => ?_)
      go_simp
      refine hK0 _ _ (fun h => absurd h (by omega)) ?_
      refine Rd.seqK_end ?_
      gi_wp2_with fail
      refine ⟨by simp, .inl ⟨_, _, rfl, run_takeDeferred hK, ?_⟩⟩
      have hr9 : ∀ r, some D = some r → ∃ o : Obj, W5.heap[r]? = some o ∧ o.isCells = false := fun r e => by cases e; exact ⟨_, hK, rfl⟩
      have hqr9 := hqr.keep (grownBy_putObj' W5 D (.deferred none)) hr9
      have hrr9 := hrr.keep (grownBy_putObj' W5 D (.deferred none)) hr9
      refine ⟨.tuple #[.slice qa (L (V la / V lb)).length qc, .slice ra (L (V la % V lb)).length rc], ?_, _, _, rfl, hqr9, hrr9, hB.trans (belowK_b (w := w) (Nat.le_refl _) W5 D _ _ (by omega) hK rfl rfl)⟩
      simp [results, Tryz.f79, go_sem]

/-- and over naturals. -/
theorem divLong_any (v1 v2 : Value) (a b : Nat) (w : World) (h1 : RowU w v1 (L a)) (h2 : RowU w v2 (L b)) (hl1 : (L a).length ≤ 1000) (hn : 2 ≤ (L b).length) (hnm : (L b).length ≤ (L a).length) :
    Calls Tryz.prog 79 #[v1, v2] w fun e w' => ∃ q r, e = .returned (.tuple #[q, r]) ∧ RowU w' q (L (a / b)) ∧ RowU w' r (L (a % b)) ∧ Below w.heap.size w w' := by
  obtain ⟨ad2, cap2, rfl, hc2, -⟩ := id h2
  obtain ⟨b2, o2, rfl, hb2, c2⟩ := h2.cell (j := (L b).length - 1) (by omega)
  have hb0 : b ≠ 0 := fun e => by rw [e, show L 0 = [] from rfl] at hn; simp at hn
  have hbig : 18446744073709551616 ^ ((L b).length - 1) ≤ b := dig_big (by omega) hb0
  have hblt : b < 18446744073709551616 ^ (L b).length := dig_lt (by omega) b
  have halt : a < 18446744073709551616 ^ (L a).length := dig_lt (by omega) a
  have hvb := V_L b
  have e1 := val_take_drop (B := 18446744073709551616) (L b) ((L b).length - 1) (by omega)
  rw [val_drop _ _ (by omega), show (L b).length - 1 + 1 = (L b).length by omega, List.drop_length] at e1
  have hy := (small_L b).getD (by omega) ((L b).length - 1)
  have ht := val_lt (B := 18446744073709551616) (by omega) ((L b).take ((L b).length - 1)) ((small_L b).take _)
  rw [List.length_take, Nat.min_eq_left (by omega)] at ht
  change val _ _ = b at hvb
  rw [hvb] at e1
  generalize (L b).getD ((L b).length - 1) 0 = y at c2 e1 hy
  simp only [val, Nat.mul_zero, Nat.add_zero] at e1
  generalize val 18446744073709551616 ((L b).take ((L b).length - 1)) = tl at e1 ht
  obtain ⟨p, hp⟩ : ∃ p, p = 18446744073709551616 ^ ((L b).length - 1) := ⟨_, rfl⟩
  have hpp : 18446744073709551616 ^ (L b).length = p * 18446744073709551616 := by rw [hp, ← Nat.pow_succ]; congr 1; omega
  rw [← hp] at e1 ht hbig
  have hy0 : y ≠ 0 := by rintro rfl; omega
  obtain ⟨s, hs⟩ : ∃ s, s + Lib.bitLen y = 64 := ⟨64 - Lib.bitLen y, by have := bitLen_le hy; omega⟩
  obtain ⟨g1, g2, g3⟩ := scale_high hy0 hy hs
  have hs0 : 0 < 2 ^ s := Nat.pow_pos (by omega)
  have hsl : 2 ^ s < 18446744073709551616 := by
    have : 2 ^ s ≤ 2 ^ 63 := Nat.pow_le_pow_right (by omega) g3
    omega
  have hd : 2 ^ s * b < 18446744073709551616 ^ (L b).length := by
    rw [hpp, e1]
    have h3 : y * 2 ^ s + 2 ^ s ≤ 18446744073709551616 := by
      rw [show 18446744073709551616 = 2 ^ (64 - s) * 2 ^ s by rw [← Nat.pow_add, show 64 - s + s = 64 by omega]] at g2 ⊢
      have := Nat.lt_of_mul_lt_mul_right g2
      have := Nat.mul_le_mul_right (2 ^ s) this
      rw [Nat.succ_mul] at this
      exact this
    have h4 : 2 ^ s * tl < 2 ^ s * p := Nat.mul_lt_mul_of_pos_left ht hs0
    have h5 := Nat.mul_le_mul_left p h3
    rw [Nat.mul_add] at h5
    rw [Nat.mul_add, Nat.mul_left_comm]
    have h6 : p * (2 ^ s * y) = p * (y * 2 ^ s) := by rw [Nat.mul_comm (2 ^ s)]
    have h7 : 2 ^ s * p = p * 2 ^ s := Nat.mul_comm _ _
    omega
  refine (divLong_core v1 b2 o2 cap2 y s (2 ^ s) (L a) (L b) w h1 h2 (small_L a) (small_L b) hl1 hn hnm hb2 c2 hy hs ?_ hsl hs0 (by rw [V_L]; exact hd) (by rw [V_L]; omega) ?_).mono ?_
  · rw [Nat.min_eq_left (by omega), IntKind.wrap_u64]
    have : ((2 ^ s : Nat) : Int) = 2 ^ s := by simp
    rw [← this]
    omega
  · rw [V_L, V_L, Nat.mul_left_comm]
    refine Nat.mul_lt_mul_of_pos_left ?_ hs0
    refine Nat.lt_of_lt_of_le halt ?_
    refine Nat.le_trans ?_ (Nat.mul_le_mul_left _ hbig)
    rw [hp, ← Nat.pow_add]
    exact Nat.pow_le_pow_right (by omega) (by omega)
  · intro e w' h
    rw [V_L, V_L] at h
    exact h
end Go.Proofs.YtphllajedkpcbaaGreatDoor
