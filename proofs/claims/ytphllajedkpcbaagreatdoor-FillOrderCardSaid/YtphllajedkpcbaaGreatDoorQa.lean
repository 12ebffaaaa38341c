/-
  A ratio's value: two rows of limbs (RatU), or of the document's digits (RatD); a block that holds one (Pair). isZero, isOne, Of. No condition beyond a thousand limbs. crossed, Cmp, Floor, Good, Int of ratio: their answers, in naturals. Condition: not more than a hundred limbs.
-/
import Derived.Test.YtphllajedkpcbaaGreatDoorNm
import Derived.Test.YtphllajedkpcbaaGreatDoorRg
import Derived.Test.YtphllajedkpcbaaGreatDoorRd
namespace Go.Proofs.YtphllajedkpcbaaGreatDoor
open Go.RowKit Go.Dig Go.Shelf Go.Proofs

/-- the block B holds two cells. -/
def Pair (w : World) (B : Nat) (t : TypeId) (x y : Value) : Prop := w.heap[B]? = some (.cells #[x, y] t)
section
variable {w w' : World} {B C : Nat} {t : TypeId} {x y : Value}
theorem Pair.new (w : World) (t : TypeId) (x y : Value) : Pair (w.alloc (.cells #[x, y] t)) w.heap.size t x y := World.alloc_heap_new w _
theorem Pair.lt (h : Pair w B t x y) : B < w.heap.size := (Array.getElem?_eq_some_iff.1 h).1
theorem Pair.c0 (h : Pair w B t x y) : w.cell? ⟨B, 0, none⟩ = some x := by simp [World.cell?, show w.heap[B]? = _ from h]
theorem Pair.c1 (h : Pair w B t x y) : w.cell? ⟨B, 1, none⟩ = some y := by simp [World.cell?, show w.heap[B]? = _ from h]
theorem Pair.z0 (h : Pair w B t x y) : w.frozen? ⟨B, 0, none⟩ = false := by simp [World.frozen?, show w.heap[B]? = _ from h]
theorem Pair.z1 (h : Pair w B t x y) : w.frozen? ⟨B, 1, none⟩ = false := by simp [World.frozen?, show w.heap[B]? = _ from h]
theorem Pair.below (h : Pair w B t x y) (hb : Below w.heap.size w w') : Pair w' B t x y := (hb.block B h.lt).trans h
theorem Pair.alloc (h : Pair w B t x y) (o : Obj) : Pair (w.alloc o) B t x y := (Below.heap_alloc _ _ _ h.lt).trans h
theorem cell_set (w : World) (B k : Nat) (x : Value) (o : Obj) (c : Array Value) (e : TypeId) (z : Nat × Nat) (h : w.heap[B]? = some o) (ho : o = .cells c e z) : (w.setCell ⟨B, k, none⟩ x).heap[B]? = some (.cells (c.setIfInBounds k x) e z) := by
  have hl : B < w.heap.size := (Array.getElem?_eq_some_iff.1 h).1
  subst ho
  unfold World.setCell
  simp [Array.getElem?_modify, h]
theorem Pair.set (h : Pair w B t x y) (x' y' : Value) : Pair ((w.setCell ⟨B, 0, none⟩ x').setCell ⟨B, 1, none⟩ y') B t x' y' := by
  have h1 := cell_set w B 0 x' _ _ _ _ h rfl
  have h2 := cell_set _ B 1 y' _ _ _ _ h1 rfl
  unfold Pair
  simpa using h2
theorem Pair.other (h : Pair w C t x y) (hne : C ≠ B) (x' y' : Value) : Pair ((w.setCell ⟨B, 0, none⟩ x').setCell ⟨B, 1, none⟩ y') C t x y :=
  (Below.heap_setCell _ _ _ _ hne).trans ((Below.heap_setCell _ _ _ _ hne).trans h)
/-- rows of numbers stay where a block of slices is written. -/
theorem Lim.pset {q : IntKind} {v : Value} {l : List Nat} {p r : Option Addr} {n c m d : Nat} (h : Lim q w v l) (hp : Pair w B t (.slice p n c) (.slice r m d)) (x' y' : Value) : Lim q ((w.setCell ⟨B, 0, none⟩ x').setCell ⟨B, 1, none⟩ y') v l := by
  obtain ⟨ad, cap, e, h1, h2⟩ := h
  refine ⟨ad, cap, e, h1, fun hne => ?_⟩
  obtain ⟨b, off, rfl, hb, hc⟩ := h2 hne
  have hbB : b ≠ B := by
    rintro rfl
    have h3 := hc 0 (List.length_pos_iff.2 hne)
    simp only [World.cell?, show w.heap[b]? = _ from hp] at h3
    match off, h3 with
    | 0, h3 => simp at h3
    | 1, h3 => simp at h3
    | k + 2, h3 => simp at h3
  refine ⟨b, off, rfl, by simpa [World.setCell] using hb, fun j hj => ?_⟩
  rw [World.cell?_of_block (w := w) ((Below.heap_setCell _ _ _ _ hbB).trans (Below.heap_setCell _ _ _ _ hbB)), hc j hj]
theorem Below.pset {B0 : Nat} (h : Below B0 w w') (hB : B0 ≤ B) (x' y' : Value) : Below B0 w ((w'.setCell ⟨B, 0, none⟩ x').setCell ⟨B, 1, none⟩ y') := (h.setCell (p := ⟨B, 0, none⟩) hB x').setCell (p := ⟨B, 1, none⟩) hB y'
theorem Pair.drew (h : Pair w B t x y) : Pair w.drew B t x y := h
end
/-- a slice's three words. -/
structure Sl where
  a : Option Addr
  n : Nat
  c : Nat
abbrev RU (w : World) (p : Sl) (x : Nat) : Prop := RowU w (.slice p.a p.n p.c) (L x)
abbrev RD (w : World) (p : Sl) (x : Nat) : Prop := Row w (.slice p.a p.n p.c) (D x)
theorem RowU.sl {w : World} {v : Value} {x : Nat} (h : RowU w v (L x)) : ∃ p : Sl, v = .slice p.a p.n p.c ∧ RU w p x := by
  obtain ⟨a, c, rfl, h1, h2⟩ := h
  exact ⟨⟨a, (L x).length, c⟩, rfl, ⟨a, c, rfl, h1, h2⟩⟩
theorem Row.sl {w : World} {v : Value} {x : Nat} (h : Row w v (D x)) : ∃ p : Sl, v = .slice p.a p.n p.c ∧ RD w p x := by
  obtain ⟨a, c, rfl, h1, h2⟩ := h
  exact ⟨⟨a, (D x).length, c⟩, rfl, ⟨a, c, rfl, h1, h2⟩⟩
theorem RU.len {w : World} {p : Sl} {x : Nat} (h : RU w p x) : p.n = (L x).length := by
  obtain ⟨a, c, e, -, -⟩ := h
  cases p; cases e; rfl
theorem RD.len {w : World} {p : Sl} {x : Nat} (h : RD w p x) : p.n = (D x).length := by
  obtain ⟨a, c, e, -, -⟩ := h
  cases p; cases e; rfl
theorem RU.zero {w : World} {x : Nat} (h : x = 0) : RowU w (.slice none 0 0) (L x) := by subst h; exact ⟨_, _, rfl, Nat.le_refl _, fun h => absurd rfl h⟩
theorem zero_eq (a : Nat) : (cmpZ a 0 == 0) = decide (a = 0) := by
  by_cases h0 : a = 0
  · rw [h0, cmpZ_eq]; simp
  · rw [cmpZ_gt (by omega)]; simp [h0]
theorem one_eq (a : Nat) : (cmpZ a 1 == 0) = decide (a = 1) := by
  rcases Nat.lt_trichotomy a 1 with h0 | h0 | h0
  · rw [cmpZ_lt h0]; simp; omega
  · rw [h0, cmpZ_eq]; simp
  · rw [cmpZ_gt h0]; simp; omega
theorem one_row (a : Nat) (h : a < 18446744073709551616) : (L a).length ≤ 1 := (dig_len (by omega) a 1).2 (by omega)
/-! ### isZero, isOne -/
theorem isZero_nat (v : Value) (a : Nat) (w : World) (h : RowU w v (L a)) (hl : (L a).length ≤ 1000) (t : Bool) (ht : t = decide (a = 0)) :
    Calls Tryz.prog 44 #[v] w fun e w' => e = .returned (.bool t) ∧ Below w.heap.size w w' := by
  have H1 := Lib.hid (cmp_nat v (.slice none 0 0) a 0 w h (RU.zero rfl) hl (by show (0 : Nat) ≤ 1000; omega))
  have HZ := Lib.hid (zero_eq a)
  have HT := Lib.hid ht
  clear h hl ht
  go_enter Tryz.func44, Tryz.ntmps44
  go_wp2_with fail
  refine H1.out.mono ?_
  rintro e w1 ⟨rfl, hb⟩
  generalize cmpZ a 0 = z at HZ
  go_wp2_with fail
  go_ret
  exact ⟨by rw [HT.out, ← HZ.out]; rfl, hb⟩
theorem isOne_nat (v : Value) (a : Nat) (w : World) (h : RowU w v (L a)) (hl : (L a).length ≤ 1000) (t : Bool) (ht : t = decide (a = 1)) :
    Calls Tryz.prog 42 #[v] w fun e w' => e = .returned (.bool t) ∧ Below w.heap.size w w' := by
  have H1 := Lib.hid (nOf_any 1 w (by omega))
  have HZ := Lib.hid (one_eq a)
  have HT := Lib.hid ht
  clear ht
  go_enter Tryz.func42, Tryz.ntmps42
  go_wp2_with fail
  refine H1.out.mono ?_
  rintro e w1 ⟨x, rfl, rx, hb⟩
  have H2 := Lib.hid (cmp_nat v x a 1 w1 (h.below hb) rx hl (Nat.le_trans (one_row 1 (by omega)) (by omega)))
  clear H1
  go_wp2_with fail
  refine H2.out.mono ?_
  rintro e w2 ⟨rfl, hb2⟩
  generalize cmpZ a 1 = z at HZ
  go_wp2_with fail
  go_ret
  exact ⟨by rw [HT.out, ← HZ.out]; rfl, hb.trans (hb2.mono hb.size)⟩

/-! ### Of -/
theorem gcd_le_r (a : Nat) {b : Nat} (h : b ≠ 0) : Nat.gcd a b ≤ b := Nat.gcd_le_right a (Nat.pos_of_ne_zero h)
set_option maxRecDepth 100000 in
set_option maxHeartbeats 1000000 in
theorem of_nat (v0 v1 : Value) (a b : Nat) (w : World) (h0 : RowU w v0 (L a)) (h1 : RowU w v1 (L b)) (l0 : (L a).length ≤ 500) (l1 : (L b).length ≤ 500) (hb : b ≠ 0) :
    Calls Tryz.prog 20 #[v0, v1] w fun e w' => ∃ p q : Sl, e = .returned (.tuple #[.agg #[.slice p.a p.n p.c, .slice q.a q.n q.c], .int .i64 0]) ∧ RU w' p (a / Nat.gcd a b) ∧ RU w' q (b / Nat.gcd a b) ∧ Below w.heap.size w w' := by
  have hp := Pair.new w 29 (.slice none 0 0) (.slice none 0 0)
  have hB : Below w.heap.size w (w.alloc (.cells #[.slice none 0 0, .slice none 0 0] 29)) := (Below.refl _ w).alloc (Nat.le_refl _) _
  replace h0 := h0.below hB
  replace h1 := h1.below hB
  have H1 := Lib.hid (isZero_nat v1 b _ h1 (by omega) false (by simp [hb]))
  have HG : Hid (Nat.gcd a b ≠ 0) := Lib.hid (fun e => hb (Nat.eq_zero_of_gcd_eq_zero_right e))
  have HL := Lib.hid (Nat.le_trans (len_mono (gcd_le_r a hb)) (Nat.le_trans l1 (by omega)) : (L (Nat.gcd a b)).length ≤ 1000)
  clear hb
  go_enter Tryz.func20, Tryz.ntmps20
  go_wp2_with fail
  refine H1.out.mono ?_
  rintro e w1 ⟨rfl, hb⟩
  replace h0 := h0.below hb
  replace h1 := h1.below hb
  replace hp := hp.below hb
  replace hB := hB.trans (hb.mono hB.size)
  clear hb H1
  have H2 := Lib.hid (gcd_nat v0 v1 a b w1 h0 h1 (by omega) (by omega))
  go_wp2_with fail
  refine H2.out.mono ?_
  rintro e w2 ⟨g, rfl, rg, hb⟩
  replace h0 := h0.below hb
  replace h1 := h1.below hb
  replace hp := hp.below hb
  replace hB := hB.trans (hb.mono hB.size)
  clear hb H2
  have H3 := Lib.hid (divmod_nat v0 g a (Nat.gcd a b) w2 h0 rg (by omega) HL.out HG.out)
  go_wp2_with fail
  refine H3.out.mono ?_
  rintro e w3 ⟨p, r, rfl, rp, -, hb⟩
  replace h1 := h1.below hb
  replace rg := rg.below hb
  replace hp := hp.below hb
  replace hB := hB.trans (hb.mono hB.size)
  clear hb H3 h0
  obtain ⟨p, rfl, rp⟩ := rp.sl
  have H4 := Lib.hid (divmod_nat v1 g b (Nat.gcd a b) w3 h1 rg (by omega) HL.out HG.out)
  go_wp2_with fail
  refine H4.out.mono ?_
  rintro e w4 ⟨q, s, rfl, rq, -, hb⟩
  replace rp := rp.below hb
  replace hp := hp.below hb
  replace hB := hB.trans (hb.mono hB.size)
  clear hb H4 h1
  obtain ⟨q, rfl, rq⟩ := rq.sl
  have hc0 := hp.c0
  have hc1 := hp.c1
  have hz0 := hp.z0
  have hz1 := hp.z1
  go_wp2_with fail
  clear hc0 hc1 hz0 hz1
  replace rp := rp.pset hp (.slice p.a p.n p.c) (.slice q.a q.n q.c)
  replace rq := rq.pset hp (.slice p.a p.n p.c) (.slice q.a q.n q.c)
  replace hp := hp.set (.slice p.a p.n p.c) (.slice q.a q.n q.c)
  replace hB := Below.pset hB (Nat.le_refl _) (.slice p.a p.n p.c) (.slice q.a q.n q.c)
  generalize (w4.setCell ⟨w.heap.size, 0, none⟩ (.slice p.a p.n p.c)).setCell ⟨w.heap.size, 1, none⟩ (.slice q.a q.n q.c) = W at rp rq hp hB ⊢
  refine bodyPost_ret (v := .tuple #[.agg #[.slice p.a p.n p.c, .slice q.a q.n q.c], .int .i64 0]) ?_ rfl ⟨p, q, rfl, rp, rq, hB⟩
  simp [results, Tryz.f20, go_sem, hp.c0, hp.c1]
end Go.Proofs.YtphllajedkpcbaaGreatDoor

namespace Go.Proofs.YtphllajedkpcbaaGreatDoor
open Go.RowKit Go.Dig Go.Shelf Go.Proofs

theorem len_mul_le {a b m n : Nat} (h1 : (L a).length ≤ m) (h2 : (L b).length ≤ n) : (L (a * b)).length ≤ m + n := Nat.le_trans (len_mul a b) (by omega)
theorem len_add_le {a b m n : Nat} (h1 : (L a).length ≤ m) (h2 : (L b).length ≤ n) : (L (a + b)).length ≤ m + n + 1 := Nat.le_trans (len_add a b) (by omega)
theorem len_div_le {a b m : Nat} (h : (L a).length ≤ m) : (L (a / b)).length ≤ m := Nat.le_trans (len_mono (Nat.div_le_self a b)) h
theorem len_sub_le {a b m : Nat} (h : (L a).length ≤ m) : (L (a - b)).length ≤ m := Nat.le_trans (len_mono (Nat.sub_le a b)) h
set_option maxRecDepth 100000 in
set_option maxHeartbeats 4000000 in
theorem crossed_nat (a1 b1 a2 b2 : Sl) (a b c d : Nat) (w : World) (ra1 : RU w a1 a) (rb1 : RU w b1 b) (ra2 : RU w a2 c) (rb2 : RU w b2 d) (la : Hid ((L a).length ≤ 100)) (lb : Hid ((L b).length ≤ 100)) (lc : Hid ((L c).length ≤ 100)) (ld : Hid ((L d).length ≤ 100)) :
    Calls Tryz.prog 31 #[.agg #[.slice a1.a a1.n a1.c, .slice b1.a b1.n b1.c], .agg #[.slice a2.a a2.n a2.c, .slice b2.a b2.n b2.c]] w fun e w' => ∃ p q : Sl, e = .returned (.tuple #[.slice p.a p.n p.c, .slice q.a q.n q.c]) ∧ RU w' p (a * d) ∧ RU w' q (c * b) ∧ Below w.heap.size w w' := by
  go_enter Tryz.func31, Tryz.ntmps31
  have hb : Below w.heap.size w ((w.alloc (.cells #[.slice a1.a a1.n a1.c, .slice b1.a b1.n b1.c] 29)).alloc (.cells #[.slice a2.a a2.n a2.c, .slice b2.a b2.n b2.c] 29)) := (((Below.refl _ _).alloc (Nat.le_refl _) _).alloc (by simp) _)
  replace ra1 := ra1.below hb
  replace rb1 := rb1.below hb
  replace ra2 := ra2.below hb
  replace rb2 := rb2.below hb
  have hB := hb
  have P1 : Pair ((w.alloc (.cells #[.slice a1.a a1.n a1.c, .slice b1.a b1.n b1.c] 29)).alloc (.cells #[.slice a2.a a2.n a2.c, .slice b2.a b2.n b2.c] 29)) (w.heap.size) 29 (.slice a1.a a1.n a1.c) (.slice b1.a b1.n b1.c) := by
    have h := (Pair.new w 29 (.slice a1.a a1.n a1.c) (.slice b1.a b1.n b1.c)).alloc (.cells #[.slice a2.a a2.n a2.c, .slice b2.a b2.n b2.c] 29)
    simpa only [World.size_alloc] using h
  have P2 : Pair ((w.alloc (.cells #[.slice a1.a a1.n a1.c, .slice b1.a b1.n b1.c] 29)).alloc (.cells #[.slice a2.a a2.n a2.c, .slice b2.a b2.n b2.c] 29)) (w.heap.size + 1) 29 (.slice a2.a a2.n a2.c) (.slice b2.a b2.n b2.c) := by
    have h := Pair.new (w.alloc (.cells #[.slice a1.a a1.n a1.c, .slice b1.a b1.n b1.c] 29)) 29 (.slice a2.a a2.n a2.c) (.slice b2.a b2.n b2.c)
    simpa only [World.size_alloc] using h
  clear hb
  have c0P1 := P1.c0
  have c1P1 := P1.c1
  have c0P2 := P2.c0
  have c1P2 := P2.c1
  go_wp2_with fail
  clear c0P1 c1P1 c0P2 c1P2
  have hb : Below ((w.alloc (.cells #[.slice a1.a a1.n a1.c, .slice b1.a b1.n b1.c] 29)).alloc (.cells #[.slice a2.a a2.n a2.c, .slice b2.a b2.n b2.c] 29)).heap.size ((w.alloc (.cells #[.slice a1.a a1.n a1.c, .slice b1.a b1.n b1.c] 29)).alloc (.cells #[.slice a2.a a2.n a2.c, .slice b2.a b2.n b2.c] 29)) ((w.alloc (.cells #[.slice a1.a a1.n a1.c, .slice b1.a b1.n b1.c] 29)).alloc (.cells #[.slice a2.a a2.n a2.c, .slice b2.a b2.n b2.c] 29)).drew := (Below.refl _ _).drew
  replace P1 := P1.below hb
  replace P2 := P2.below hb
  replace ra1 := ra1.below hb
  replace rb1 := rb1.below hb
  replace ra2 := ra2.below hb
  replace rb2 := rb2.below hb
  replace hB := hB.trans (hb.mono hB.size)
  clear hb
  refine Rd.regionT (fun X => Pair X (w.heap.size) 29 (.slice a1.a a1.n a1.c) (.slice b1.a b1.n b1.c) ∧ Pair X (w.heap.size + 1) 29 (.slice a2.a a2.n a2.c) (.slice b2.a b2.n b2.c)) [0, 1, 2, 3, 5, 6, 7, 8, 10, 11] (.one 0 (.one 1 (.one 2 (.one 3 (.one 5 (.one 6 (.one 7 (.one 8 (.one 4 (.one 9 (.one 10 (.one 11 .done)))))))))))) (fun ac W => ∃ (p : Sl) (q : Sl) (y2 y3 y6 y7 y8 y9 y10 y11 y12 y13 y14 y15 : Value), ac = { tmps := List.toArray (.agg #[.slice a1.a a1.n a1.c, .slice b1.a b1.n b1.c] :: .agg #[.slice a2.a a2.n a2.c, .slice b2.a b2.n b2.c] :: y2 :: y3 :: .slice p.a p.n p.c :: .slice q.a q.n q.c :: y6 :: y7 :: y8 :: y9 :: y10 :: y11 :: y12 :: y13 :: y14 :: y15 :: []), defers := [] } ∧ RU W p (a * d) ∧ RU W q (c * b) ∧ Below w.heap.size w W) (by kernel_rfl) (by kernel_rfl) (by kernel_rfl) ⟨P1, P2⟩ ?tree ?next
  case tree =>
    generalize ((w.alloc (.cells #[.slice a1.a a1.n a1.c, .slice b1.a b1.n b1.c] 29)).alloc (.cells #[.slice a2.a a2.n a2.c, .slice b2.a b2.n b2.c] 29)).drew = w3 at P1 P2 ra1 rb1 ra2 rb2 hB ⊢
    refine Rd.tr_float (.pointer (some ⟨w.heap.size, 0, none⟩)) (by simp only [List.getElem?_toArray, List.getElem?_cons_zero]; rfl) rfl (by rfl) (fun X _ => by go_simp) ?_
    simp only [Act.put, List.setIfInBounds_toArray, List.set_cons_succ, List.set_cons_zero]
    refine Rd.tr_float (.slice a1.a a1.n a1.c) (by simp only [List.getElem?_toArray, List.getElem?_cons_succ, List.getElem?_cons_zero]; rfl) rfl (by rfl) (fun X hX => by have h0 := hX.1.c0; have h1 := hX.1.c1; go_simp) ?_
    simp only [Act.put, List.setIfInBounds_toArray, List.set_cons_succ, List.set_cons_zero]
    refine Rd.tr_float (.pointer (some ⟨w.heap.size + 1, 1, none⟩)) (by simp only [List.getElem?_toArray, List.getElem?_cons_succ, List.getElem?_cons_zero]; rfl) rfl (by rfl) (fun X _ => by go_simp) ?_
    simp only [Act.put, List.setIfInBounds_toArray, List.set_cons_succ, List.set_cons_zero]
    refine Rd.tr_float (.slice b2.a b2.n b2.c) (by simp only [List.getElem?_toArray, List.getElem?_cons_succ, List.getElem?_cons_zero]; rfl) rfl (by rfl) (fun X hX => by have h0 := hX.2.c0; have h1 := hX.2.c1; go_simp) ?_
    simp only [Act.put, List.setIfInBounds_toArray, List.set_cons_succ, List.set_cons_zero]
    refine Rd.tr_float (.pointer (some ⟨w.heap.size + 1, 0, none⟩)) (by simp only [List.getElem?_toArray, List.getElem?_cons_succ, List.getElem?_cons_zero]; rfl) rfl (by rfl) (fun X _ => by go_simp) ?_
    simp only [Act.put, List.setIfInBounds_toArray, List.set_cons_succ, List.set_cons_zero]
    refine Rd.tr_float (.slice a2.a a2.n a2.c) (by simp only [List.getElem?_toArray, List.getElem?_cons_succ, List.getElem?_cons_zero]; rfl) rfl (by rfl) (fun X hX => by have h0 := hX.2.c0; have h1 := hX.2.c1; go_simp) ?_
    simp only [Act.put, List.setIfInBounds_toArray, List.set_cons_succ, List.set_cons_zero]
    refine Rd.tr_float (.pointer (some ⟨w.heap.size, 1, none⟩)) (by simp only [List.getElem?_toArray, List.getElem?_cons_succ, List.getElem?_cons_zero]; rfl) rfl (by rfl) (fun X _ => by go_simp) ?_
    simp only [Act.put, List.setIfInBounds_toArray, List.set_cons_succ, List.set_cons_zero]
    refine Rd.tr_float (.slice b1.a b1.n b1.c) (by simp only [List.getElem?_toArray, List.getElem?_cons_succ, List.getElem?_cons_zero]; rfl) rfl (by rfl) (fun X hX => by have h0 := hX.1.c0; have h1 := hX.1.c1; go_simp) ?_
    simp only [Act.put, List.setIfInBounds_toArray, List.set_cons_succ, List.set_cons_zero]
    refine Rd.tr_move (by simp only [List.getElem?_toArray, List.getElem?_cons_succ, List.getElem?_cons_zero]; rfl) rfl (by rfl) (fun K hK => ?_)
    have H6 := Lib.hid (mul_nat (.slice a1.a a1.n a1.c) (.slice b2.a b2.n b2.c) (a) (d) w3 ra1 rb2 (Nat.le_trans la.out (by omega)) (Nat.le_trans ld.out (by omega)))
    go_simp
    refine H6.out.mono ?_
    rintro e w7 ⟨v5, rfl, rx4, hb⟩
    clear H6
    replace P1 := P1.below hb
    replace P2 := P2.below hb
    replace ra1 := ra1.below hb
    replace rb1 := rb1.below hb
    replace ra2 := ra2.below hb
    replace rb2 := rb2.below hb
    replace hB := hB.trans (hb.mono hB.size)
    clear hb
    obtain ⟨x4, rfl, rx4⟩ := rx4.sl
    have HLx4 : Hid ((L (a * d)).length ≤ 200) := Lib.hid (len_mul_le la.out ld.out)
    refine hK _ _ ⟨P1, P2⟩ ?_
    clear hK K
    refine Rd.tr_move (by simp only [List.getElem?_toArray, List.getElem?_cons_succ, List.getElem?_cons_zero]; rfl) rfl (by rfl) (fun K hK => ?_)
    have H10 := Lib.hid (mul_nat (.slice a2.a a2.n a2.c) (.slice b1.a b1.n b1.c) (c) (b) w7 ra2 rb1 (Nat.le_trans lc.out (by omega)) (Nat.le_trans lb.out (by omega)))
    go_simp
    refine H10.out.mono ?_
    rintro e w11 ⟨v9, rfl, rx8, hb⟩
    clear H10
    replace P1 := P1.below hb
    replace P2 := P2.below hb
    replace ra1 := ra1.below hb
    replace rb1 := rb1.below hb
    replace ra2 := ra2.below hb
    replace rb2 := rb2.below hb
    replace rx4 := rx4.below hb
    replace hB := hB.trans (hb.mono hB.size)
    clear hb
    obtain ⟨x8, rfl, rx8⟩ := rx8.sl
    have HLx8 : Hid ((L (c * b)).length ≤ 200) := Lib.hid (len_mul_le lc.out lb.out)
    refine hK _ _ ⟨P1, P2⟩ ?_
    clear hK K
    refine Rd.tr_float (.slice x4.a x4.n x4.c) (by simp only [List.getElem?_toArray, List.getElem?_cons_succ, List.getElem?_cons_zero]; rfl) rfl (by rfl) (fun X _ => by go_simp) ?_
    simp only [Act.put, List.setIfInBounds_toArray, List.set_cons_succ, List.set_cons_zero]
    refine Rd.tr_float (.slice x8.a x8.n x8.c) (by simp only [List.getElem?_toArray, List.getElem?_cons_succ, List.getElem?_cons_zero]; rfl) rfl (by rfl) (fun X _ => by go_simp) ?_
    simp only [Act.put, List.setIfInBounds_toArray, List.set_cons_succ, List.set_cons_zero]
    exact Rd.tr_end (⟨x4, x8, _, _, _, _, _, _, _, _, _, _, _, _, rfl, rx4, rx8, hB⟩)
  case next =>
    rintro a3 W ⟨p, q, _, _, _, _, _, _, _, _, _, _, _, _, rfl, rp, rq, hB⟩
    go_wp2_with fail
    go_ret2
    exact ⟨p, q, rfl, rp, rq, hB⟩

end Go.Proofs.YtphllajedkpcbaaGreatDoor
