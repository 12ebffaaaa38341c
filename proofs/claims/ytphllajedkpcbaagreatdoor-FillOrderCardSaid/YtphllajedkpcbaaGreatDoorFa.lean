/-
  Calls of ratios, the program's and the document's, told in rationals. Condition: not more than a hundred limbs.
-/
import Derived.Test.YtphllajedkpcbaaGreatDoorQe
import Derived.Test.YtphllajedkpcbaaGreatDoorQhp
import Derived.Test.YtphllajedkpcbaaGreatDoorRq
namespace Go.Proofs.YtphllajedkpcbaaGreatDoor
open Go.RowKit Go.Dig Go.Shelf Go.Proofs Go.Rq

/-- a rational from 0 on, of not more than a hundred limbs. -/
structure Sz (r : Rat) : Prop where
  pos : 0 ≤ r
  num : (L (N r)).length ≤ 100
  den : (L r.den).length ≤ 100
/-- the program's ratio; the document's. -/
def RQ (w : World) (p q : Sl) (r : Rat) : Prop := Sz r ∧ RU w p (N r) ∧ RU w q r.den
def RK (w : World) (p q : Sl) (r : Rat) : Prop := Sz r ∧ RD w p (N r) ∧ RD w q r.den
theorem RQ.below {w w' : World} {p q : Sl} {r : Rat} (h : RQ w p q r) (hb : Below w.heap.size w w') : RQ w' p q r := ⟨h.1, h.2.1.below hb, h.2.2.below hb⟩
theorem RK.below {w w' : World} {p q : Sl} {r : Rat} (h : RK w p q r) (hb : Below w.heap.size w w') : RK w' p q r := ⟨h.1, h.2.1.below hb, h.2.2.below hb⟩
section
variable {w : World} {B : Nat} {t : TypeId} {p q p1 p2 : Sl} {r : Rat}
theorem RQ.pset {a b : Option Addr} {n c m d : Nat} (h : RQ w p q r) (hp : Pair w B t (.slice a n c) (.slice b m d)) (x' y' : Value) : RQ ((w.setCell ⟨B, 0, none⟩ x').setCell ⟨B, 1, none⟩ y') p q r :=
  ⟨h.1, h.2.1.pset hp x' y', h.2.2.pset hp x' y'⟩
theorem RK.pset {a b : Option Addr} {n c m d : Nat} (h : RK w p q r) (hp : Pair w B t (.slice a n c) (.slice b m d)) (x' y' : Value) : RK ((w.setCell ⟨B, 0, none⟩ x').setCell ⟨B, 1, none⟩ y') p q r :=
  ⟨h.1, h.2.1.pset hp x' y', h.2.2.pset hp x' y'⟩
end
/-- 2 to a power. -/
def big (k : Nat) : Nat := 2 ^ k
theorem big_add (a b : Nat) : big a * big b = big (a + b) := (Nat.pow_add 2 a b).symm
theorem big_lt {a b : Nat} (h : a < b) : big a < big b := Nat.pow_lt_pow_right (by omega) h
theorem big_le {a b : Nat} (h : a ≤ b) : big a ≤ big b := Nat.pow_le_pow_right (by omega) h
theorem big_lim : (18446744073709551616 : Nat) ^ 100 = big 6400 := by decide +kernel
theorem len_big (n : Nat) (h : n < big 6400) : (L n).length ≤ 100 := (dig_len (by omega) n 100).2 (by rw [big_lim]; exact h)
theorem Sz.rat {n D : Nat} (hD : D ≠ 0) (hn : n < big 6400) (hd : D < big 6400) : Sz (Rq.rat n D) := by
  refine ⟨rat_nonneg n D, ?_, ?_⟩
  · rw [rat_N n hD]; exact len_big _ (Nat.lt_of_le_of_lt (Nat.div_le_self _ _) hn)
  · rw [rat_den n hD]; exact len_big _ (Nat.lt_of_le_of_lt (Nat.div_le_self _ _) hd)
theorem pow_mul_lt {a b : Nat} (ha : a ≤ big 3000) (hb : b ≤ big 3000) : a * b < big 6400 :=
  Nat.lt_of_le_of_lt (Nat.mul_le_mul ha hb) (by rw [big_add]; exact big_lt (by decide))
theorem Sz.whole {D B : Nat} {r : Rat} (hD : D ≠ 0) (hw : Whole D r) (_h0 : 0 ≤ r) (hB : r ≤ B) (hd : D ≤ big 3000) (hb : B ≤ big 3000) : Sz r := by
  obtain ⟨n, e, hn⟩ := whole_eq hD hw
  rw [e]
  have h1 : (n : Rat) ≤ ((B * D : Nat) : Rat) := by rw [← hn, Rat.natCast_mul]; exact le_mul hB
  have h2 : n ≤ B * D := Rat.natCast_le_natCast.1 h1
  exact Sz.rat hD (Nat.lt_of_le_of_lt h2 (pow_mul_lt hb hd)) (Nat.lt_of_le_of_lt hd (big_lt (by decide)))
theorem N_nat (n : Nat) : N (n : Rat) = n := by
  rw [← rat_int, rat_N n (by omega)]; simp
theorem den_nat (n : Nat) : ((n : Rat)).den = 1 := by
  rw [← rat_int, rat_den n (by omega)]; simp
theorem Sz.nat (n : Nat) (h : n < 18446744073709551616) : Sz (n : Rat) := by
  have := one_row n h
  have := one_row 1 (by omega)
  exact ⟨Rat.natCast_nonneg, by rw [N_nat]; omega, by rw [den_nat]; omega⟩
/-- how two rationals compare. -/
def cmpQ (r s : Rat) : Int := if r < s then -1 else if s < r then 1 else 0
theorem cmp_rat {r s : Rat} (h1 : 0 ≤ r) (h2 : 0 ≤ s) : cmpZ (N r * s.den) (N s * r.den) = cmpQ r s := by
  have e1 := rat_back h1
  have e2 := rat_back h2
  have g1 := rat_lt (N r) (N s) r.den_nz s.den_nz
  have g2 := rat_lt (N s) (N r) s.den_nz r.den_nz
  rw [e1, e2] at g1 g2
  unfold cmpZ cmpQ
  simp only [g1, g2]
theorem cmpQ_gt {r s : Rat} : (0 < cmpQ r s) ↔ s < r := by
  unfold cmpQ
  by_cases h1 : r < s
  · rw [if_pos h1]; exact ⟨fun h => absurd h (by decide), fun h => absurd h (by grind)⟩
  · rw [if_neg h1]
    by_cases h2 : s < r
    · rw [if_pos h2]; exact ⟨fun _ => h2, fun _ => by decide⟩
    · rw [if_neg h2]; exact ⟨fun h => absurd h (by decide), fun h => absurd h h2⟩
theorem cmpQ_lt {r s : Rat} : (cmpQ r s < 0) ↔ r < s := by
  unfold cmpQ
  by_cases h1 : r < s
  · rw [if_pos h1]; exact ⟨fun _ => h1, fun _ => by decide⟩
  · rw [if_neg h1]
    by_cases h2 : s < r
    · rw [if_pos h2]; exact ⟨fun h => absurd h (by decide), fun h => absurd h h1⟩
    · rw [if_neg h2]; exact ⟨fun h => absurd h (by decide), fun h => absurd h h1⟩
theorem cmpQ_self (r : Rat) : cmpQ r r = 0 := by
  unfold cmpQ
  rw [if_neg (by grind), if_neg (by grind)]
theorem add_parts {r s : Rat} (h1 : 0 ≤ r) (h2 : 0 ≤ s) : N (r + s) = (N r * s.den + N s * r.den) / Nat.gcd (N r * s.den + N s * r.den) (r.den * s.den) ∧ (r + s).den = r.den * s.den / Nat.gcd (N r * s.den + N s * r.den) (r.den * s.den) := by
  have e : r + s = Rq.rat (N r * s.den + N s * r.den) (r.den * s.den) := by rw [← rat_add _ _ r.den_nz s.den_nz, rat_back h1, rat_back h2]
  have hz := Nat.mul_ne_zero r.den_nz s.den_nz
  exact ⟨by conv => lhs; rw [e]
            rw [rat_N _ hz], by conv => lhs; rw [e]
                                rw [rat_den _ hz]⟩
theorem sub_le {r s : Rat} (h1 : 0 ≤ r) (h2 : 0 ≤ s) (h : s ≤ r) : N s * r.den ≤ N r * s.den := by
  refine Nat.not_lt.1 fun h3 => ?_
  have := (rat_lt (N r) (N s) r.den_nz s.den_nz).2 h3
  rw [rat_back h1, rat_back h2] at this
  grind
theorem sub_parts {r s : Rat} (h1 : 0 ≤ r) (h2 : 0 ≤ s) (h : s ≤ r) : N (r - s) = (N r * s.den - N s * r.den) / Nat.gcd (N r * s.den - N s * r.den) (r.den * s.den) ∧ (r - s).den = r.den * s.den / Nat.gcd (N r * s.den - N s * r.den) (r.den * s.den) := by
  have e : r - s = Rq.rat (N r * s.den - N s * r.den) (r.den * s.den) := by rw [← rat_sub _ _ r.den_nz s.den_nz (sub_le h1 h2 h), rat_back h1, rat_back h2]
  have hz := Nat.mul_ne_zero r.den_nz s.den_nz
  exact ⟨by conv => lhs; rw [e]
            rw [rat_N _ hz], by conv => lhs; rw [e]
                                rw [rat_den _ hz]⟩
theorem mul_parts {r s : Rat} (h1 : 0 ≤ r) (h2 : 0 ≤ s) : N (r * s) = (N r * N s) / Nat.gcd (N r * N s) (r.den * s.den) ∧ (r * s).den = r.den * s.den / Nat.gcd (N r * N s) (r.den * s.den) := by
  have e : r * s = Rq.rat (N r * N s) (r.den * s.den) := by rw [← rat_mul _ _ r.den_nz s.den_nz, rat_back h1, rat_back h2]
  have hz := Nat.mul_ne_zero r.den_nz s.den_nz
  exact ⟨by conv => lhs; rw [e]
            rw [rat_N _ hz], by conv => lhs; rw [e]
                                rw [rat_den _ hz]⟩
theorem N_ne {s : Rat} (h1 : 0 ≤ s) (h2 : s ≠ 0) : N s ≠ 0 := by
  intro e
  have := rat_back h1
  rw [e] at this
  apply h2
  rw [← this, rat_eq]
  have := pos_cast s.den_nz
  grind
theorem div_parts {r s : Rat} (h1 : 0 ≤ r) (h2 : 0 ≤ s) (h : s ≠ 0) : N (r / s) = (N r * s.den) / Nat.gcd (N r * s.den) (N s * r.den) ∧ (r / s).den = N s * r.den / Nat.gcd (N r * s.den) (N s * r.den) := by
  have e : r / s = Rq.rat (N r * s.den) (N s * r.den) := by rw [← rat_div _ r.den_nz s.den_nz (N_ne h2 h), rat_back h1, rat_back h2]
  have hz := Nat.mul_ne_zero (N_ne h2 h) r.den_nz
  exact ⟨by conv => lhs; rw [e]
            rw [rat_N _ hz], by conv => lhs; rw [e]
                                rw [rat_den _ hz]⟩
section
variable (p q p2 q2 : Sl) (r s : Rat) (w : World)
theorem Qadd (h1 : RQ w p q r) (h2 : RQ w p2 q2 s) (hz : Sz (r + s))  :
    Calls Tryz.prog 15 #[.agg #[.slice p.a p.n p.c, .slice q.a q.n q.c], .agg #[.slice p2.a p2.n p2.c, .slice q2.a q2.n q2.c]] w fun e w' => ∃ x y : Sl, e = .returned (.agg #[.slice x.a x.n x.c, .slice y.a y.n y.c]) ∧ RQ w' x y (r + s) ∧ Below w.heap.size w w' := by
  refine (qadd_nat p q p2 q2 (N r) r.den (N s) s.den w h1.2.1 h1.2.2 h2.2.1 h2.2.2 (Lib.hid h1.1.num) (Lib.hid h1.1.den) (Lib.hid h2.1.num) (Lib.hid h2.1.den) (Lib.hid (Nat.mul_ne_zero r.den_nz s.den_nz))).mono ?_
  rintro e w' ⟨x, y, rfl, hx, hy, hb⟩
  have e := add_parts h1.1.pos h2.1.pos
  refine ⟨x, y, rfl, ⟨hz, ?_, ?_⟩, hb⟩
  · rw [e.1]; exact hx
  · rw [e.2]; exact hy
theorem Qmul (h1 : RQ w p q r) (h2 : RQ w p2 q2 s) (hz : Sz (r * s))  :
    Calls Tryz.prog 18 #[.agg #[.slice p.a p.n p.c, .slice q.a q.n q.c], .agg #[.slice p2.a p2.n p2.c, .slice q2.a q2.n q2.c]] w fun e w' => ∃ x y : Sl, e = .returned (.agg #[.slice x.a x.n x.c, .slice y.a y.n y.c]) ∧ RQ w' x y (r * s) ∧ Below w.heap.size w w' := by
  refine (qmul_nat p q p2 q2 (N r) r.den (N s) s.den w h1.2.1 h1.2.2 h2.2.1 h2.2.2 (Lib.hid h1.1.num) (Lib.hid h1.1.den) (Lib.hid h2.1.num) (Lib.hid h2.1.den) (Lib.hid (Nat.mul_ne_zero r.den_nz s.den_nz))).mono ?_
  rintro e w' ⟨x, y, rfl, hx, hy, hb⟩
  have e := mul_parts h1.1.pos h2.1.pos
  refine ⟨x, y, rfl, ⟨hz, ?_, ?_⟩, hb⟩
  · rw [e.1]; exact hx
  · rw [e.2]; exact hy
theorem Qsub (h1 : RQ w p q r) (h2 : RQ w p2 q2 s) (hz : Sz (r - s)) (hle : s ≤ r) :
    Calls Tryz.prog 60 #[.agg #[.slice p.a p.n p.c, .slice q.a q.n q.c], .agg #[.slice p2.a p2.n p2.c, .slice q2.a q2.n q2.c]] w fun e w' => ∃ x y : Sl, e = .returned (.tuple #[.agg #[.slice x.a x.n x.c, .slice y.a y.n y.c], .int .i64 0]) ∧ RQ w' x y (r - s) ∧ Below w.heap.size w w' := by
  refine (qsub_nat p q p2 q2 (N r) r.den (N s) s.den w h1.2.1 h1.2.2 h2.2.1 h2.2.2 (Lib.hid h1.1.num) (Lib.hid h1.1.den) (Lib.hid h2.1.num) (Lib.hid h2.1.den) (Lib.hid (sub_le h1.1.pos h2.1.pos hle)) (Lib.hid (Nat.mul_ne_zero r.den_nz s.den_nz))).mono ?_
  rintro e w' ⟨x, y, rfl, hx, hy, hb⟩
  have e := sub_parts h1.1.pos h2.1.pos hle
  refine ⟨x, y, rfl, ⟨hz, ?_, ?_⟩, hb⟩
  · rw [e.1]; exact hx
  · rw [e.2]; exact hy
theorem Qdiv (h1 : RQ w p q r) (h2 : RQ w p2 q2 s) (hz : Sz (r / s)) (hs : s ≠ 0) :
    Calls Tryz.prog 59 #[.agg #[.slice p.a p.n p.c, .slice q.a q.n q.c], .agg #[.slice p2.a p2.n p2.c, .slice q2.a q2.n q2.c]] w fun e w' => ∃ x y : Sl, e = .returned (.tuple #[.agg #[.slice x.a x.n x.c, .slice y.a y.n y.c], .int .i64 0]) ∧ RQ w' x y (r / s) ∧ Below w.heap.size w w' := by
  refine (qdiv_nat p q p2 q2 (N r) r.den (N s) s.den w h1.2.1 h1.2.2 h2.2.1 h2.2.2 (Lib.hid h1.1.num) (Lib.hid h1.1.den) (Lib.hid h2.1.num) (Lib.hid h2.1.den) (Lib.hid (Nat.mul_ne_zero (N_ne h2.1.pos hs) r.den_nz))).mono ?_
  rintro e w' ⟨x, y, rfl, hx, hy, hb⟩
  have e := div_parts h1.1.pos h2.1.pos hs
  refine ⟨x, y, rfl, ⟨hz, ?_, ?_⟩, hb⟩
  · rw [e.1]; exact hx
  · rw [e.2]; exact hy
theorem Kadd (h1 : RK w p q r) (h2 : RK w p2 q2 s) (hz : Sz (r + s))  :
    Calls Tryz.prog 40 #[.agg #[.slice p.a p.n p.c, .slice q.a q.n q.c], .agg #[.slice p2.a p2.n p2.c, .slice q2.a q2.n q2.c]] w fun e w' => ∃ x y : Sl, e = .returned (.agg #[.slice x.a x.n x.c, .slice y.a y.n y.c]) ∧ RK w' x y (r + s) ∧ Below w.heap.size w w' := by
  refine (rqadd_nat p q p2 q2 (N r) r.den (N s) s.den w h1.2.1 h1.2.2 h2.2.1 h2.2.2 (Lib.hid h1.1.num) (Lib.hid h1.1.den) (Lib.hid h2.1.num) (Lib.hid h2.1.den) (Lib.hid (Nat.mul_ne_zero r.den_nz s.den_nz))).mono ?_
  rintro e w' ⟨x, y, rfl, hx, hy, hb⟩
  have e := add_parts h1.1.pos h2.1.pos
  refine ⟨x, y, rfl, ⟨hz, ?_, ?_⟩, hb⟩
  · rw [e.1]; exact hx
  · rw [e.2]; exact hy
theorem Kmul (h1 : RK w p q r) (h2 : RK w p2 q2 s) (hz : Sz (r * s))  :
    Calls Tryz.prog 61 #[.agg #[.slice p.a p.n p.c, .slice q.a q.n q.c], .agg #[.slice p2.a p2.n p2.c, .slice q2.a q2.n q2.c]] w fun e w' => ∃ x y : Sl, e = .returned (.agg #[.slice x.a x.n x.c, .slice y.a y.n y.c]) ∧ RK w' x y (r * s) ∧ Below w.heap.size w w' := by
  refine (rqmul_nat p q p2 q2 (N r) r.den (N s) s.den w h1.2.1 h1.2.2 h2.2.1 h2.2.2 (Lib.hid h1.1.num) (Lib.hid h1.1.den) (Lib.hid h2.1.num) (Lib.hid h2.1.den) (Lib.hid (Nat.mul_ne_zero r.den_nz s.den_nz))).mono ?_
  rintro e w' ⟨x, y, rfl, hx, hy, hb⟩
  have e := mul_parts h1.1.pos h2.1.pos
  refine ⟨x, y, rfl, ⟨hz, ?_, ?_⟩, hb⟩
  · rw [e.1]; exact hx
  · rw [e.2]; exact hy
theorem Ksub (h1 : RK w p q r) (h2 : RK w p2 q2 s) (hz : Sz (r - s)) (hle : s ≤ r) :
    Calls Tryz.prog 39 #[.agg #[.slice p.a p.n p.c, .slice q.a q.n q.c], .agg #[.slice p2.a p2.n p2.c, .slice q2.a q2.n q2.c]] w fun e w' => ∃ x y : Sl, e = .returned (.agg #[.slice x.a x.n x.c, .slice y.a y.n y.c]) ∧ RK w' x y (r - s) ∧ Below w.heap.size w w' := by
  refine (rqsub_nat p q p2 q2 (N r) r.den (N s) s.den w h1.2.1 h1.2.2 h2.2.1 h2.2.2 (Lib.hid h1.1.num) (Lib.hid h1.1.den) (Lib.hid h2.1.num) (Lib.hid h2.1.den) (Lib.hid (sub_le h1.1.pos h2.1.pos hle)) (Lib.hid (Nat.mul_ne_zero r.den_nz s.den_nz))).mono ?_
  rintro e w' ⟨x, y, rfl, hx, hy, hb⟩
  have e := sub_parts h1.1.pos h2.1.pos hle
  refine ⟨x, y, rfl, ⟨hz, ?_, ?_⟩, hb⟩
  · rw [e.1]; exact hx
  · rw [e.2]; exact hy
theorem Kdiv (h1 : RK w p q r) (h2 : RK w p2 q2 s) (hz : Sz (r / s)) (hs : s ≠ 0) :
    Calls Tryz.prog 41 #[.agg #[.slice p.a p.n p.c, .slice q.a q.n q.c], .agg #[.slice p2.a p2.n p2.c, .slice q2.a q2.n q2.c]] w fun e w' => ∃ x y : Sl, e = .returned (.agg #[.slice x.a x.n x.c, .slice y.a y.n y.c]) ∧ RK w' x y (r / s) ∧ Below w.heap.size w w' := by
  refine (rqdiv_nat p q p2 q2 (N r) r.den (N s) s.den w h1.2.1 h1.2.2 h2.2.1 h2.2.2 (Lib.hid h1.1.num) (Lib.hid h1.1.den) (Lib.hid h2.1.num) (Lib.hid h2.1.den) (Lib.hid (Nat.mul_ne_zero r.den_nz (N_ne h2.1.pos hs)))).mono ?_
  rintro e w' ⟨x, y, rfl, hx, hy, hb⟩
  have e := div_parts h1.1.pos h2.1.pos hs
  rw [Nat.mul_comm r.den (N s)] at hx hy
  refine ⟨x, y, rfl, ⟨hz, ?_, ?_⟩, hb⟩
  · rw [e.1]; exact hx
  · rw [e.2]; exact hy
theorem Qcmp (h1 : RQ w p q r) (h2 : RQ w p2 q2 s) :
    Calls Tryz.prog 16 #[.agg #[.slice p.a p.n p.c, .slice q.a q.n q.c], .agg #[.slice p2.a p2.n p2.c, .slice q2.a q2.n q2.c]] w fun e w' => e = .returned (.int .i64 (cmpQ r s)) ∧ Below w.heap.size w w' := by
  rw [← cmp_rat h1.1.pos h2.1.pos]
  exact qcmp_nat p q p2 q2 (N r) r.den (N s) s.den w h1.2.1 h1.2.2 h2.2.1 h2.2.2 (Lib.hid h1.1.num) (Lib.hid h1.1.den) (Lib.hid h2.1.num) (Lib.hid h2.1.den)
theorem Kcmp (h1 : RK w p q r) (h2 : RK w p2 q2 s) :
    Calls Tryz.prog 37 #[.agg #[.slice p.a p.n p.c, .slice q.a q.n q.c], .agg #[.slice p2.a p2.n p2.c, .slice q2.a q2.n q2.c]] w fun e w' => e = .returned (.int .i64 (cmpQ r s)) ∧ Below w.heap.size w w' := by
  rw [← cmp_rat h1.1.pos h2.1.pos]
  exact rqcmp_nat p q p2 q2 (N r) r.den (N s) s.den w h1.2.1 h1.2.2 h2.2.1 h2.2.2 (Lib.hid h1.1.num) (Lib.hid h1.1.den) (Lib.hid h2.1.num) (Lib.hid h2.1.den)
theorem Qis (h1 : RQ w p q r) (h2 : RK w p2 q2 r) :
    Calls Tryz.prog 14 #[.agg #[.slice p.a p.n p.c, .slice q.a q.n q.c], .agg #[.slice p2.a p2.n p2.c, .slice q2.a q2.n q2.c]] w fun e w' => e = .returned (.bool true) ∧ Below w.heap.size w w' :=
  qis_nat p q p2 q2 (N r) r.den w h1.2.1 h1.2.2 h2.2.1 h2.2.2 (Lib.hid (Nat.le_trans h1.1.num (by omega))) (Lib.hid (Nat.le_trans h1.1.den (by omega)))
theorem Qgood (h1 : RQ w p q r) :
    Calls Tryz.prog 52 #[.agg #[.slice p.a p.n p.c, .slice q.a q.n q.c]] w fun e w' => e = .returned (.bool true) ∧ Below w.heap.size w w' :=
  qgood_nat p q (N r) r.den w h1.2.1 h1.2.2 (Lib.hid (Nat.le_trans h1.1.num (by omega))) (Lib.hid (Nat.le_trans h1.1.den (by omega))) (Lib.hid r.den_nz) true (Lib.hid (by simp [N_gcd h1.1.pos]))
theorem Qtext (h1 : RQ w p q r) :
    Calls Tryz.prog 19 #[.agg #[.slice p.a p.n p.c, .slice q.a q.n q.c]] w fun e w' => e = .returned (.string ⟨(qtext (N r) r.den).toArray⟩) ∧ Below w.heap.size w w' :=
  qtext_nat p q (N r) r.den w h1.2.1 h1.2.2 (Lib.hid (Nat.le_trans h1.1.num (by omega))) (Lib.hid (Nat.le_trans h1.1.den (by omega)))
end
theorem Qint (n : Nat) (hn : n < 9223372036854775808) (w : World) :
    Calls Tryz.prog 13 #[.int .i64 (n : Int)] w fun e w' => ∃ x y : Sl, e = .returned (.agg #[.slice x.a x.n x.c, .slice y.a y.n y.c]) ∧ RQ w' x y (n : Rat) ∧ Below w.heap.size w w' := by
  refine (qint_pos n (Lib.hid hn) w).mono ?_
  rintro e w' ⟨x, y, rfl, hx, hy, hb⟩
  exact ⟨x, y, rfl, ⟨Sz.nat n (by omega), by rw [N_nat]; exact hx, by rw [den_nat]; exact hy⟩, hb⟩
theorem Kint (n : Nat) (hn : n < 9223372036854775808) (w : World) :
    Calls Tryz.prog 35 #[.int .i64 (n : Int)] w fun e w' => ∃ x y : Sl, e = .returned (.agg #[.slice x.a x.n x.c, .slice y.a y.n y.c]) ∧ RK w' x y (n : Rat) ∧ Below w.heap.size w w' := by
  refine (rint_pos n (Lib.hid hn) w).mono ?_
  rintro e w' ⟨x, y, rfl, hx, hy, hb⟩
  exact ⟨x, y, rfl, ⟨Sz.nat n (by omega), by rw [N_nat]; exact hx, by rw [den_nat]; exact hy⟩, hb⟩
theorem Qof (v0 v1 : Value) (a b : Nat) (w : World) (h0 : RowU w v0 (L a)) (h1 : RowU w v1 (L b)) (ha : a < big 6400) (hb : b < big 6400) (hz : b ≠ 0) :
    Calls Tryz.prog 20 #[v0, v1] w fun e w' => ∃ x y : Sl, e = .returned (.tuple #[.agg #[.slice x.a x.n x.c, .slice y.a y.n y.c], .int .i64 0]) ∧ RQ w' x y (rat a b) ∧ Below w.heap.size w w' := by
  refine (of_nat v0 v1 a b w h0 h1 (Nat.le_trans (len_big a ha) (by omega)) (Nat.le_trans (len_big b hb) (by omega)) hz).mono ?_
  rintro e w' ⟨x, y, rfl, hx, hy, hb⟩
  exact ⟨x, y, rfl, ⟨Sz.rat hz ha ‹_›, by rw [rat_N a hz]; exact hx, by rw [rat_den a hz]; exact hy⟩, hb⟩
theorem Kof (v0 v1 : Value) (a b : Nat) (w : World) (h0 : Row w v0 (D a)) (h1 : Row w v1 (D b)) (ha : a < big 6400) (hb : b < big 6400) (hz : b ≠ 0) :
    Calls Tryz.prog 22 #[v0, v1] w fun e w' => ∃ x y : Sl, e = .returned (.agg #[.slice x.a x.n x.c, .slice y.a y.n y.c]) ∧ RK w' x y (rat a b) ∧ Below w.heap.size w w' := by
  obtain ⟨p, rfl, h0⟩ := h0.sl
  obtain ⟨q, rfl, h1⟩ := h1.sl
  refine (rof_sl p q a b w h0 h1 (Lib.hid (Nat.le_trans (len_big a ha) (by omega))) (Lib.hid (Nat.le_trans (len_big b hb) (by omega))) (Lib.hid hz)).mono ?_
  rintro e w' ⟨x, y, rfl, hx, hy, hb⟩
  exact ⟨x, y, rfl, ⟨Sz.rat hz ha ‹_›, by rw [rat_N a hz]; exact hx, by rw [rat_den a hz]; exact hy⟩, hb⟩
end Go.Proofs.YtphllajedkpcbaaGreatDoor
