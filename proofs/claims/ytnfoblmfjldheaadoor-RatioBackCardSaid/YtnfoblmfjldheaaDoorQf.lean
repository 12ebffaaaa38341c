/-
  Whether limbs are a ratio's, and it, and the document's: made. No condition.
-/
import Derived.Test.YtnfoblmfjldheaaDoorQe
namespace Go.Proofs.YtnfoblmfjldheaaDoor
open Go.RowKit Go.Dig Go.Shelf Go.Proofs

/-- the block B is an empty row of limbs. -/
def Emp (w : World) (B : Nat) : Prop := w.heap[B]? = some (.cells #[] 64)
theorem Emp.lt {w : World} {B : Nat} (h : Emp w B) : B < w.heap.size := (Array.getElem?_eq_some_iff.1 h).1
theorem Emp.below {w w' : World} {B : Nat} (h : Emp w B) (hb : Below w.heap.size w w') : Emp w' B := (hb.block B h.lt).trans h
theorem Emp.pset {w : World} {B C : Nat} {t : TypeId} {x y : Value} (h : Emp w B) (hp : Pair w C t x y) (x' y' : Value) : Emp ((w.setCell ⟨C, 0, none⟩ x').setCell ⟨C, 1, none⟩ y') B := by
  have hne : B ≠ C := by
    rintro rfl
    have h1 := (show w.heap[B]? = _ from h).symm.trans (show w.heap[B]? = _ from hp)
    simp at h1
  exact (Below.heap_setCell _ _ _ _ hne).trans ((Below.heap_setCell _ _ _ _ hne).trans h)
set_option maxHeartbeats 1000000 in
theorem copied_gen (W : World) (B : Nat) (hE : Emp W B) (v : Value) (l : List Nat) (h : RowA W v l) (hl : l.length ≤ 1000000) (ty : TypeId) :
    ∃ v' W', (Builtin.append_ #[28, 22] ty #[.slice (some ⟨B, 0, none⟩) 0 0, v]).run Tryd.prog W = .ok v' W' ∧ RowU W' v' l ∧ Below W.heap.size W W' := by
  obtain ⟨i0, hi, hz0, hz1, hz2⟩ := info_parts Tryd.info64
  have hown : W.ownsRow B 64 1 (.slice (some ⟨B, 0, none⟩) 0 0) 0 [] := ⟨rfl, .inr ⟨B, 0, #[], rfl, Nat.le_refl _, hE, by omega, by omega, by simp, by simp⟩⟩
  rcases h with ⟨rfl, rfl⟩ | ⟨ad, cap, rfl, h1, h2⟩
  · refine ⟨.slice (some ⟨B, 0, none⟩) 0 0, W, ?_, ⟨_, _, rfl, Nat.le_refl _, fun h => absurd rfl h⟩, Below.refl _ _⟩
    rw [append_types]
    exact run_append_owned_none _ B 28 ty 64 i0 1 Tryd.underlying28 hi _ 0 [] hown
  · have hnews : ∀ (j : Nat) (u : Value), (l.map encU)[j]? = some u → W.cell? (Addr.add ad j) = some u := by
      intro j u hu
      have hj : j < l.length := by have := (List.getElem?_eq_some_iff.1 hu).1; simpa using this
      obtain ⟨b, off, rfl, h3, h4⟩ := h2 (by rintro rfl; simp at hj)
      rw [Addr.add_lit, h4 j hj]
      simp [hj, encU] at hu
      rw [← hu]
      simp [List.getD, hj]
    have hone : ∀ u ∈ l.map encU, u.oneCell' = true := fun u hu => by simp [encU] at hu; obtain ⟨x, _, rfl⟩ := hu; rfl
    by_cases hne : l = []
    · subst hne
      refine ⟨.slice (some ⟨B, 0, none⟩) 0 0, W, ?_, ⟨_, _, rfl, Nat.le_refl _, fun h => absurd rfl h⟩, Below.refl _ _⟩
      rw [append_types]
      have h9 := run_append_room (P := Tryd.prog) W 28 ty 64 i0 Tryd.underlying28 hi B 0 0 #[] hE ad 0 cap [] (by simp) (fun j u hu => by simp at hu) (fun u hu => by simp at hu) (by omega) (by simp)
      simp only [List.length_nil] at h9 ⊢
      rw [h9]
      simp only [Nat.zero_mul, Nat.zero_add, List.take_zero, List.drop_zero, List.append_nil]
      rw [setRow_self W B #[] 64 (0, 0) hE]
    · have hpos : 0 < l.length := List.length_pos_iff.2 hne
      obtain ⟨v', W', hr, h4, _, _⟩ := run_append_own (P := Tryd.prog) W B 28 ty 64 i0 (.int .u64 0) 1 8 Tryd.underlying28 hi hz0 hz1 hz2 rfl (by decide) _ 0 [] hown ad l.length cap (l.map encU) (by simp) hnews hone (by unfold maxLen; omega) (by omega) (Nat.le_of_lt hE.lt)
      have h9 := run_append_grow (P := Tryd.prog) W 28 ty 64 i0 (.int .u64 0) Tryd.underlying28 hi hz0 ⟨B, 0, none⟩ 0 0 [] (by simp) (fun j u hu => by simp at hu) ad l.length cap (l.map encU) (by rw [hz1]; simp) hnews (by omega) (by omega)
        (by rw [hz2]; simp [Builtin.nextslicecap]; split <;> omega)
      have h10 := hr.symm.trans h9
      cases h10
      rw [Nat.zero_add, List.nil_append] at h4
      exact ⟨_, _, by rw [append_types]; exact hr, RowU.of_owns (by simpa using h4), ((Below.refl _ W).drew).alloc (by simp) _⟩
theorem wp_append {o : Oper} {a : Act} {Q : Exit → Act → World → Prop} {K : Act → World → Prop} {w : World} (s x : Operand) (t t' : TypeId)
    (ho : o.op = .call { callee := .builtin .append, args := #[s, x], argTypes := #[t, t'] }) (v u v' : Value) (w' : World) (hs : a.eval s = v) (hx : a.eval x = u)
    (hr : (Builtin.append_ #[t, t'] o.type #[v, u]).run Tryd.prog w = .ok v' w') (h : K (a.put o.dst v') w') : o.wp Tryd.prog a w K Q := by
  unfold Oper.wp execOp
  simp only [ho, resolve, invoke, builtin, Sem.run_bind, Sem.run_pure, Result.andThen_ok, List.map_toArray, List.map_cons, List.map_nil, hs, hx, hr]
  exact h
abbrev RA (w : World) (p : Sl) (l : List Nat) : Prop := RowA w (.slice p.a p.n p.c) l
/-- stays where a block of slices is written. -/
theorem RowA.pset {w : World} {B : Nat} {t : TypeId} {v : Value} {l : List Nat} {p r : Option Addr} {n c m d : Nat} (h : RowA w v l) (hp : Pair w B t (.slice p n c) (.slice r m d)) (x' y' : Value) : RowA ((w.setCell ⟨B, 0, none⟩ x').setCell ⟨B, 1, none⟩ y') v l := by
  have h1 := Lim.pset h.row hp x' y'
  rcases h with h | ⟨ad, cap, rfl, h2, h3⟩
  · exact .inl h
  · obtain ⟨ad', cap', e, h4, h5⟩ := h1
    cases e
    refine .inr ⟨ad, cap, rfl, h2, fun hne => ?_⟩
    obtain ⟨b, off, e, h6, h7⟩ := h5 hne
    cases e
    exact ⟨b, off, rfl, h6, h7⟩
theorem rGood_nat (v : Value) (x : Nat) (w : World) (h : RowU w v (L x)) (hl : (L x).length ≤ 1000) : Calls Tryd.prog 11 #[v] w fun e w' => e = .returned (.bool true) ∧ w = w' := by
  have h1 := rGood_any v (L x) w h (by omega)
  rw [goodB_L] at h1
  exact h1

set_option maxRecDepth 100000 in
set_option maxHeartbeats 4000000 in
theorem made_no1 (f1 f2 : Sl) (l1 l2 : List Nat) (w : World) (rf1 : RA w f1 l1) (rf2 : RA w f2 l2) (h1 : 4 < f1.n) :
    Calls Tryd.prog 17 #[.agg #[.slice f1.a f1.n f1.c, .slice f2.a f2.n f2.c]] w fun e w' => e = .returned (.tuple #[.agg #[.slice none 0 0, .slice none 0 0], .agg #[.slice none 0 0, .slice none 0 0], .bool false]) ∧ Below w.heap.size w w' := by
  go_enter Tryd.func17, Tryd.ntmps17
  have hb : Below w.heap.size w (((w.alloc (.cells #[.slice f1.a f1.n f1.c, .slice f2.a f2.n f2.c] 24)).alloc (.cells #[.slice none 0 0, .slice none 0 0] 30)).alloc (.cells #[.slice none 0 0, .slice none 0 0] 35)) := ((((Below.refl _ _).alloc (Nat.le_refl _) _).alloc (by simp) _).alloc (by simp; omega) _)
  replace rf1 := rf1.below hb
  replace rf2 := rf2.below hb
  have hB := hb
  have P1 : Pair (((w.alloc (.cells #[.slice f1.a f1.n f1.c, .slice f2.a f2.n f2.c] 24)).alloc (.cells #[.slice none 0 0, .slice none 0 0] 30)).alloc (.cells #[.slice none 0 0, .slice none 0 0] 35)) (w.heap.size) 24 (.slice f1.a f1.n f1.c) (.slice f2.a f2.n f2.c) := by
    have h := ((Pair.new w 24 (.slice f1.a f1.n f1.c) (.slice f2.a f2.n f2.c)).alloc (.cells #[.slice none 0 0, .slice none 0 0] 30)).alloc (.cells #[.slice none 0 0, .slice none 0 0] 35)
    simpa only [World.size_alloc] using h
  have P2 : Pair (((w.alloc (.cells #[.slice f1.a f1.n f1.c, .slice f2.a f2.n f2.c] 24)).alloc (.cells #[.slice none 0 0, .slice none 0 0] 30)).alloc (.cells #[.slice none 0 0, .slice none 0 0] 35)) (w.heap.size + 1) 30 (.slice none 0 0) (.slice none 0 0) := by
    have h := (Pair.new (w.alloc (.cells #[.slice f1.a f1.n f1.c, .slice f2.a f2.n f2.c] 24)) 30 (.slice none 0 0) (.slice none 0 0)).alloc (.cells #[.slice none 0 0, .slice none 0 0] 35)
    simpa only [World.size_alloc] using h
  have P3 : Pair (((w.alloc (.cells #[.slice f1.a f1.n f1.c, .slice f2.a f2.n f2.c] 24)).alloc (.cells #[.slice none 0 0, .slice none 0 0] 30)).alloc (.cells #[.slice none 0 0, .slice none 0 0] 35)) (w.heap.size + 1 + 1) 35 (.slice none 0 0) (.slice none 0 0) := by
    have h := Pair.new ((w.alloc (.cells #[.slice f1.a f1.n f1.c, .slice f2.a f2.n f2.c] 24)).alloc (.cells #[.slice none 0 0, .slice none 0 0] 30)) 35 (.slice none 0 0) (.slice none 0 0)
    simpa only [World.size_alloc] using h
  clear hb
  have c0P1 := P1.c0
  have c1P1 := P1.c1
  have c0P2 := P2.c0
  have c1P2 := P2.c1
  have c0P3 := P3.c0
  have c1P3 := P3.c1
  have z0 := P2.z0
  have z1 := P2.z1
  have z2 := P3.z0
  have z3 := P3.z1
  go_wp2_with fail
  refine bodyPost_ret (v := .tuple #[.agg #[.slice none 0 0, .slice none 0 0], .agg #[.slice none 0 0, .slice none 0 0], .bool false]) ?_ rfl ⟨rfl, hB⟩
  simp [results, Tryd.f17, go_sem, P2.c0, P2.c1, P3.c0, P3.c1]

set_option maxRecDepth 100000 in
set_option maxHeartbeats 4000000 in
theorem made_no2 (f1 f2 : Sl) (l1 l2 : List Nat) (w : World) (rf1 : RA w f1 l1) (rf2 : RA w f2 l2) (h1 : f1.n ≤ 4) (h2 : 4 < f2.n) :
    Calls Tryd.prog 17 #[.agg #[.slice f1.a f1.n f1.c, .slice f2.a f2.n f2.c]] w fun e w' => e = .returned (.tuple #[.agg #[.slice none 0 0, .slice none 0 0], .agg #[.slice none 0 0, .slice none 0 0], .bool false]) ∧ Below w.heap.size w w' := by
  go_enter Tryd.func17, Tryd.ntmps17
  have hb : Below w.heap.size w (((w.alloc (.cells #[.slice f1.a f1.n f1.c, .slice f2.a f2.n f2.c] 24)).alloc (.cells #[.slice none 0 0, .slice none 0 0] 30)).alloc (.cells #[.slice none 0 0, .slice none 0 0] 35)) := ((((Below.refl _ _).alloc (Nat.le_refl _) _).alloc (by simp) _).alloc (by simp; omega) _)
  replace rf1 := rf1.below hb
  replace rf2 := rf2.below hb
  have hB := hb
  have P1 : Pair (((w.alloc (.cells #[.slice f1.a f1.n f1.c, .slice f2.a f2.n f2.c] 24)).alloc (.cells #[.slice none 0 0, .slice none 0 0] 30)).alloc (.cells #[.slice none 0 0, .slice none 0 0] 35)) (w.heap.size) 24 (.slice f1.a f1.n f1.c) (.slice f2.a f2.n f2.c) := by
    have h := ((Pair.new w 24 (.slice f1.a f1.n f1.c) (.slice f2.a f2.n f2.c)).alloc (.cells #[.slice none 0 0, .slice none 0 0] 30)).alloc (.cells #[.slice none 0 0, .slice none 0 0] 35)
    simpa only [World.size_alloc] using h
  have P2 : Pair (((w.alloc (.cells #[.slice f1.a f1.n f1.c, .slice f2.a f2.n f2.c] 24)).alloc (.cells #[.slice none 0 0, .slice none 0 0] 30)).alloc (.cells #[.slice none 0 0, .slice none 0 0] 35)) (w.heap.size + 1) 30 (.slice none 0 0) (.slice none 0 0) := by
    have h := (Pair.new (w.alloc (.cells #[.slice f1.a f1.n f1.c, .slice f2.a f2.n f2.c] 24)) 30 (.slice none 0 0) (.slice none 0 0)).alloc (.cells #[.slice none 0 0, .slice none 0 0] 35)
    simpa only [World.size_alloc] using h
  have P3 : Pair (((w.alloc (.cells #[.slice f1.a f1.n f1.c, .slice f2.a f2.n f2.c] 24)).alloc (.cells #[.slice none 0 0, .slice none 0 0] 30)).alloc (.cells #[.slice none 0 0, .slice none 0 0] 35)) (w.heap.size + 1 + 1) 35 (.slice none 0 0) (.slice none 0 0) := by
    have h := Pair.new ((w.alloc (.cells #[.slice f1.a f1.n f1.c, .slice f2.a f2.n f2.c] 24)).alloc (.cells #[.slice none 0 0, .slice none 0 0] 30)) 35 (.slice none 0 0) (.slice none 0 0)
    simpa only [World.size_alloc] using h
  clear hb
  have c0P1 := P1.c0
  have c1P1 := P1.c1
  have c0P2 := P2.c0
  have c1P2 := P2.c1
  have c0P3 := P3.c0
  have c1P3 := P3.c1
  have z0 := P2.z0
  have z1 := P2.z1
  have z2 := P3.z0
  have z3 := P3.z1
  go_wp2_with fail
  refine bodyPost_ret (v := .tuple #[.agg #[.slice none 0 0, .slice none 0 0], .agg #[.slice none 0 0, .slice none 0 0], .bool false]) ?_ rfl ⟨rfl, hB⟩
  simp [results, Tryd.f17, go_sem, P2.c0, P2.c1, P3.c0, P3.c1]

set_option maxRecDepth 100000 in
set_option maxHeartbeats 4000000 in
theorem made_no3 (f1 f2 : Sl) (l1 l2 : List Nat) (w : World) (rf1 : RA w f1 l1) (rf2 : RA w f2 l2) (h1 : f1.n ≤ 4) (h2 : f2.n ≤ 4) (h3 : ((f2.n : Int) == 0) = true) :
    Calls Tryd.prog 17 #[.agg #[.slice f1.a f1.n f1.c, .slice f2.a f2.n f2.c]] w fun e w' => e = .returned (.tuple #[.agg #[.slice none 0 0, .slice none 0 0], .agg #[.slice none 0 0, .slice none 0 0], .bool false]) ∧ Below w.heap.size w w' := by
  go_enter Tryd.func17, Tryd.ntmps17
  have hb : Below w.heap.size w (((w.alloc (.cells #[.slice f1.a f1.n f1.c, .slice f2.a f2.n f2.c] 24)).alloc (.cells #[.slice none 0 0, .slice none 0 0] 30)).alloc (.cells #[.slice none 0 0, .slice none 0 0] 35)) := ((((Below.refl _ _).alloc (Nat.le_refl _) _).alloc (by simp) _).alloc (by simp; omega) _)
  replace rf1 := rf1.below hb
  replace rf2 := rf2.below hb
  have hB := hb
  have P1 : Pair (((w.alloc (.cells #[.slice f1.a f1.n f1.c, .slice f2.a f2.n f2.c] 24)).alloc (.cells #[.slice none 0 0, .slice none 0 0] 30)).alloc (.cells #[.slice none 0 0, .slice none 0 0] 35)) (w.heap.size) 24 (.slice f1.a f1.n f1.c) (.slice f2.a f2.n f2.c) := by
    have h := ((Pair.new w 24 (.slice f1.a f1.n f1.c) (.slice f2.a f2.n f2.c)).alloc (.cells #[.slice none 0 0, .slice none 0 0] 30)).alloc (.cells #[.slice none 0 0, .slice none 0 0] 35)
    simpa only [World.size_alloc] using h
  have P2 : Pair (((w.alloc (.cells #[.slice f1.a f1.n f1.c, .slice f2.a f2.n f2.c] 24)).alloc (.cells #[.slice none 0 0, .slice none 0 0] 30)).alloc (.cells #[.slice none 0 0, .slice none 0 0] 35)) (w.heap.size + 1) 30 (.slice none 0 0) (.slice none 0 0) := by
    have h := (Pair.new (w.alloc (.cells #[.slice f1.a f1.n f1.c, .slice f2.a f2.n f2.c] 24)) 30 (.slice none 0 0) (.slice none 0 0)).alloc (.cells #[.slice none 0 0, .slice none 0 0] 35)
    simpa only [World.size_alloc] using h
  have P3 : Pair (((w.alloc (.cells #[.slice f1.a f1.n f1.c, .slice f2.a f2.n f2.c] 24)).alloc (.cells #[.slice none 0 0, .slice none 0 0] 30)).alloc (.cells #[.slice none 0 0, .slice none 0 0] 35)) (w.heap.size + 1 + 1) 35 (.slice none 0 0) (.slice none 0 0) := by
    have h := Pair.new ((w.alloc (.cells #[.slice f1.a f1.n f1.c, .slice f2.a f2.n f2.c] 24)).alloc (.cells #[.slice none 0 0, .slice none 0 0] 30)) 35 (.slice none 0 0) (.slice none 0 0)
    simpa only [World.size_alloc] using h
  clear hb
  have c0P1 := P1.c0
  have c1P1 := P1.c1
  have c0P2 := P2.c0
  have c1P2 := P2.c1
  have c0P3 := P3.c0
  have c1P3 := P3.c1
  have z0 := P2.z0
  have z1 := P2.z1
  have z2 := P3.z0
  have z3 := P3.z1
  go_wp2_with fail
  refine bodyPost_ret (v := .tuple #[.agg #[.slice none 0 0, .slice none 0 0], .agg #[.slice none 0 0, .slice none 0 0], .bool false]) ?_ rfl ⟨rfl, hB⟩
  simp [results, Tryd.f17, go_sem, P2.c0, P2.c1, P3.c0, P3.c1]

set_option maxRecDepth 100000 in
set_option maxHeartbeats 4000000 in
theorem made_no4 (f1 f2 : Sl) (l1 l2 : List Nat) (w : World) (rf1 : RA w f1 l1) (rf2 : RA w f2 l2) (h1 : f1.n ≤ 4) (h2 : f2.n ≤ 4) (h3 : ((f2.n : Int) == 0) = false) (hl1 : Hid (l1.length ≤ 1000000)) (HG1 : Hid (goodB l1 = false)) :
    Calls Tryd.prog 17 #[.agg #[.slice f1.a f1.n f1.c, .slice f2.a f2.n f2.c]] w fun e w' => e = .returned (.tuple #[.agg #[.slice none 0 0, .slice none 0 0], .agg #[.slice none 0 0, .slice none 0 0], .bool false]) ∧ Below w.heap.size w w' := by
  go_enter Tryd.func17, Tryd.ntmps17
  have hb : Below w.heap.size w (((w.alloc (.cells #[.slice f1.a f1.n f1.c, .slice f2.a f2.n f2.c] 24)).alloc (.cells #[.slice none 0 0, .slice none 0 0] 30)).alloc (.cells #[.slice none 0 0, .slice none 0 0] 35)) := ((((Below.refl _ _).alloc (Nat.le_refl _) _).alloc (by simp) _).alloc (by simp; omega) _)
  replace rf1 := rf1.below hb
  replace rf2 := rf2.below hb
  have hB := hb
  have P1 : Pair (((w.alloc (.cells #[.slice f1.a f1.n f1.c, .slice f2.a f2.n f2.c] 24)).alloc (.cells #[.slice none 0 0, .slice none 0 0] 30)).alloc (.cells #[.slice none 0 0, .slice none 0 0] 35)) (w.heap.size) 24 (.slice f1.a f1.n f1.c) (.slice f2.a f2.n f2.c) := by
    have h := ((Pair.new w 24 (.slice f1.a f1.n f1.c) (.slice f2.a f2.n f2.c)).alloc (.cells #[.slice none 0 0, .slice none 0 0] 30)).alloc (.cells #[.slice none 0 0, .slice none 0 0] 35)
    simpa only [World.size_alloc] using h
  have P2 : Pair (((w.alloc (.cells #[.slice f1.a f1.n f1.c, .slice f2.a f2.n f2.c] 24)).alloc (.cells #[.slice none 0 0, .slice none 0 0] 30)).alloc (.cells #[.slice none 0 0, .slice none 0 0] 35)) (w.heap.size + 1) 30 (.slice none 0 0) (.slice none 0 0) := by
    have h := (Pair.new (w.alloc (.cells #[.slice f1.a f1.n f1.c, .slice f2.a f2.n f2.c] 24)) 30 (.slice none 0 0) (.slice none 0 0)).alloc (.cells #[.slice none 0 0, .slice none 0 0] 35)
    simpa only [World.size_alloc] using h
  have P3 : Pair (((w.alloc (.cells #[.slice f1.a f1.n f1.c, .slice f2.a f2.n f2.c] 24)).alloc (.cells #[.slice none 0 0, .slice none 0 0] 30)).alloc (.cells #[.slice none 0 0, .slice none 0 0] 35)) (w.heap.size + 1 + 1) 35 (.slice none 0 0) (.slice none 0 0) := by
    have h := Pair.new ((w.alloc (.cells #[.slice f1.a f1.n f1.c, .slice f2.a f2.n f2.c] 24)).alloc (.cells #[.slice none 0 0, .slice none 0 0] 30)) 35 (.slice none 0 0) (.slice none 0 0)
    simpa only [World.size_alloc] using h
  clear hb
  have c0P1 := P1.c0
  have c1P1 := P1.c1
  have c0P2 := P2.c0
  have c1P2 := P2.c1
  have c0P3 := P3.c0
  have c1P3 := P3.c1
  have H4 := Lib.hid (rGood_any (.slice f1.a f1.n f1.c) l1 (((w.alloc (.cells #[.slice f1.a f1.n f1.c, .slice f2.a f2.n f2.c] 24)).alloc (.cells #[.slice none 0 0, .slice none 0 0] 30)).alloc (.cells #[.slice none 0 0, .slice none 0 0] 35)) rf1.row hl1.out)
  rw [HG1.out] at H4
  go_wp2_with fail
  clear c0P1 c1P1 c0P2 c1P2 c0P3 c1P3
  refine H4.out.mono ?_
  rintro e w5 ⟨rfl, rfl⟩
  clear H4
  have c0P1 := P1.c0
  have c1P1 := P1.c1
  have c0P2 := P2.c0
  have c1P2 := P2.c1
  have c0P3 := P3.c0
  have c1P3 := P3.c1
  have z0 := P2.z0
  have z1 := P2.z1
  have z2 := P3.z0
  have z3 := P3.z1
  go_wp2_with fail
  refine bodyPost_ret (v := .tuple #[.agg #[.slice none 0 0, .slice none 0 0], .agg #[.slice none 0 0, .slice none 0 0], .bool false]) ?_ rfl ⟨rfl, hB⟩
  simp [results, Tryd.f17, go_sem, P2.c0, P2.c1, P3.c0, P3.c1]

set_option maxRecDepth 100000 in
set_option maxHeartbeats 4000000 in
theorem made_no5 (f1 f2 : Sl) (l1 l2 : List Nat) (w : World) (rf1 : RA w f1 l1) (rf2 : RA w f2 l2) (h1 : f1.n ≤ 4) (h2 : f2.n ≤ 4) (h3 : ((f2.n : Int) == 0) = false) (hl1 : Hid (l1.length ≤ 1000000)) (hl2 : Hid (l2.length ≤ 1000000)) (HG1 : Hid (goodB l1 = true)) (HG2 : Hid (goodB l2 = false)) :
    Calls Tryd.prog 17 #[.agg #[.slice f1.a f1.n f1.c, .slice f2.a f2.n f2.c]] w fun e w' => e = .returned (.tuple #[.agg #[.slice none 0 0, .slice none 0 0], .agg #[.slice none 0 0, .slice none 0 0], .bool false]) ∧ Below w.heap.size w w' := by
  go_enter Tryd.func17, Tryd.ntmps17
  have hb : Below w.heap.size w (((w.alloc (.cells #[.slice f1.a f1.n f1.c, .slice f2.a f2.n f2.c] 24)).alloc (.cells #[.slice none 0 0, .slice none 0 0] 30)).alloc (.cells #[.slice none 0 0, .slice none 0 0] 35)) := ((((Below.refl _ _).alloc (Nat.le_refl _) _).alloc (by simp) _).alloc (by simp; omega) _)
  replace rf1 := rf1.below hb
  replace rf2 := rf2.below hb
  have hB := hb
  have P1 : Pair (((w.alloc (.cells #[.slice f1.a f1.n f1.c, .slice f2.a f2.n f2.c] 24)).alloc (.cells #[.slice none 0 0, .slice none 0 0] 30)).alloc (.cells #[.slice none 0 0, .slice none 0 0] 35)) (w.heap.size) 24 (.slice f1.a f1.n f1.c) (.slice f2.a f2.n f2.c) := by
    have h := ((Pair.new w 24 (.slice f1.a f1.n f1.c) (.slice f2.a f2.n f2.c)).alloc (.cells #[.slice none 0 0, .slice none 0 0] 30)).alloc (.cells #[.slice none 0 0, .slice none 0 0] 35)
    simpa only [World.size_alloc] using h
  have P2 : Pair (((w.alloc (.cells #[.slice f1.a f1.n f1.c, .slice f2.a f2.n f2.c] 24)).alloc (.cells #[.slice none 0 0, .slice none 0 0] 30)).alloc (.cells #[.slice none 0 0, .slice none 0 0] 35)) (w.heap.size + 1) 30 (.slice none 0 0) (.slice none 0 0) := by
    have h := (Pair.new (w.alloc (.cells #[.slice f1.a f1.n f1.c, .slice f2.a f2.n f2.c] 24)) 30 (.slice none 0 0) (.slice none 0 0)).alloc (.cells #[.slice none 0 0, .slice none 0 0] 35)
    simpa only [World.size_alloc] using h
  have P3 : Pair (((w.alloc (.cells #[.slice f1.a f1.n f1.c, .slice f2.a f2.n f2.c] 24)).alloc (.cells #[.slice none 0 0, .slice none 0 0] 30)).alloc (.cells #[.slice none 0 0, .slice none 0 0] 35)) (w.heap.size + 1 + 1) 35 (.slice none 0 0) (.slice none 0 0) := by
    have h := Pair.new ((w.alloc (.cells #[.slice f1.a f1.n f1.c, .slice f2.a f2.n f2.c] 24)).alloc (.cells #[.slice none 0 0, .slice none 0 0] 30)) 35 (.slice none 0 0) (.slice none 0 0)
    simpa only [World.size_alloc] using h
  clear hb
  have c0P1 := P1.c0
  have c1P1 := P1.c1
  have c0P2 := P2.c0
  have c1P2 := P2.c1
  have c0P3 := P3.c0
  have c1P3 := P3.c1
  have H4 := Lib.hid (rGood_any (.slice f1.a f1.n f1.c) l1 (((w.alloc (.cells #[.slice f1.a f1.n f1.c, .slice f2.a f2.n f2.c] 24)).alloc (.cells #[.slice none 0 0, .slice none 0 0] 30)).alloc (.cells #[.slice none 0 0, .slice none 0 0] 35)) rf1.row hl1.out)
  rw [HG1.out] at H4
  go_wp2_with fail
  clear c0P1 c1P1 c0P2 c1P2 c0P3 c1P3
  refine H4.out.mono ?_
  rintro e w5 ⟨rfl, rfl⟩
  clear H4
  have c0P1 := P1.c0
  have c1P1 := P1.c1
  have c0P2 := P2.c0
  have c1P2 := P2.c1
  have c0P3 := P3.c0
  have c1P3 := P3.c1
  have H6 := Lib.hid (rGood_any (.slice f2.a f2.n f2.c) l2 (((w.alloc (.cells #[.slice f1.a f1.n f1.c, .slice f2.a f2.n f2.c] 24)).alloc (.cells #[.slice none 0 0, .slice none 0 0] 30)).alloc (.cells #[.slice none 0 0, .slice none 0 0] 35)) rf2.row hl2.out)
  rw [HG2.out] at H6
  go_wp2_with fail
  clear c0P1 c1P1 c0P2 c1P2 c0P3 c1P3
  refine H6.out.mono ?_
  rintro e w7 ⟨rfl, rfl⟩
  clear H6
  have c0P1 := P1.c0
  have c1P1 := P1.c1
  have c0P2 := P2.c0
  have c1P2 := P2.c1
  have c0P3 := P3.c0
  have c1P3 := P3.c1
  have z0 := P2.z0
  have z1 := P2.z1
  have z2 := P3.z0
  have z3 := P3.z1
  go_wp2_with fail
  refine bodyPost_ret (v := .tuple #[.agg #[.slice none 0 0, .slice none 0 0], .agg #[.slice none 0 0, .slice none 0 0], .bool false]) ?_ rfl ⟨rfl, hB⟩
  simp [results, Tryd.f17, go_sem, P2.c0, P2.c1, P3.c0, P3.c1]

end Go.Proofs.YtnfoblmfjldheaaDoor
