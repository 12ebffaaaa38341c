/-
  Plain facts on cores parted in domains: lists of numbers of 64 bits as sets, which of them are on, which domain has a core. No program here. No condition.
-/
import Derived.Test.YtbeklkgoiigccaaWe
namespace Go.Proofs.Ytbeklkgoiigccaa
open Go.RowKit

/-- all cores of some sets. -/
def uni (l : List Nat) : Nat := l.foldr (· ||| ·) 0
theorem uni_nil : uni [] = 0 := rfl
theorem uni_snoc (l : List Nat) (a : Nat) : uni (l ++ [a]) = uni l ||| a := by
  induction l with
  | nil => simp [uni]
  | cons x l ih =>
    show x ||| uni (l ++ [a]) = (x ||| uni l) ||| a
    rw [ih, Nat.or_assoc]
theorem uni_bit (l : List Nat) (k : Nat) : (uni l).testBit k = l.any (·.testBit k) := by
  induction l with
  | nil => simp [uni]
  | cons x l ih =>
    show (x ||| uni l).testBit k = _
    rw [Nat.testBit_or, ih, List.any_cons]
theorem uni_lt {l : List Nat} (h : ∀ j, l.getD j 0 < 18446744073709551616) : uni l < 18446744073709551616 := by
  induction l with
  | nil => simp [uni]
  | cons x l ih =>
    have h1 : uni l < 2 ^ 64 := ih fun j => by have := h (j + 1); simpa using this
    have h2 : x < 2 ^ 64 := by have := h 0; simpa using this
    exact Nat.or_lt_two_pow h2 h1
theorem take_snoc {l : List Nat} {d : Nat} (h : d < l.length) : l.take (d + 1) = l.take d ++ [l.getD d 0] := by
  rw [List.take_add_one]
  simp [List.getD, h]
theorem uni_take {l : List Nat} {d : Nat} (h : d < l.length) : uni (l.take (d + 1)) = uni (l.take d) ||| l.getD d 0 := by
  rw [take_snoc h, uni_snoc]
theorem small_take {l : List Nat} (h : ∀ j, l.getD j 0 < 18446744073709551616) (d : Nat) : ∀ j, (l.take d).getD j 0 < 18446744073709551616 := by
  intro j
  have := h j
  simp only [List.getD, List.getElem?_take] at *
  split
  · exact this
  · simp

def badAt (l : List Nat) (d : Nat) : Prop := l.getD d 0 = 0 ∨ meetsB (l.getD d 0) (uni (l.take d)) = true
def GoodT (l : List Nat) : Prop := ∀ d, d < l.length → ¬ badAt l d
/-- there is a topology of these domains. -/
def Good8 (l : List Nat) : Prop := 0 < l.length ∧ l.length ≤ 8 ∧ GoodT l
/-- why there is none. -/
def errNew (l : List Nat) : Int := if l.length = 0 ∨ 8 < l.length then 14 else 8

theorem meets_bits {a b : Nat} : meetsB a b = true ↔ ∃ k, a.testBit k = true ∧ b.testBit k = true := by
  unfold meetsB
  rw [bne_iff_ne]
  constructor
  · intro h
    obtain ⟨k, hk⟩ := Nat.exists_testBit_of_ne_zero h
    rw [Nat.testBit_and, Bool.and_eq_true] at hk
    exact ⟨k, hk⟩
  · rintro ⟨k, h1, h2⟩ h
    have : (a &&& b).testBit k = false := by rw [h]; simp
    rw [Nat.testBit_and, h1, h2] at this
    cases this
theorem Good8.apart {l : List Nat} (h : Good8 l) {i j k : Nat} (hij : i < j) (hj : j < l.length) (hi : (l.getD i 0).testBit k = true) : (l.getD j 0).testBit k = false := by
  cases hb : (l.getD j 0).testBit k
  · rfl
  · exfalso
    apply h.2.2 j hj
    right
    rw [meets_bits]
    refine ⟨k, hb, ?_⟩
    rw [uni_bit, List.any_eq_true]
    refine ⟨l.getD i 0, ?_, hi⟩
    rw [List.mem_take_iff_getElem]
    exact ⟨i, by omega, by simp [List.getD, show i < l.length by omega]⟩
theorem Good8.one {l : List Nat} (h : Good8 l) {i j k : Nat} (hi : i < l.length) (hj : j < l.length) (h1 : (l.getD i 0).testBit k = true) (h2 : (l.getD j 0).testBit k = true) : i = j := by
  rcases Nat.lt_trichotomy i j with hl | hl | hl
  · rw [h.apart hl hj h1] at h2; cases h2
  · exact hl
  · rw [h.apart hl hi h2] at h1; cases h1

/-- the first domain that has a core. -/
def domN (cs : List Nat) (c : Int) : Nat := cs.findIdx fun a => hasB a c
theorem dom_le (cs : List Nat) (c : Int) : domN cs c ≤ cs.length := List.findIdx_le_length
theorem dom_has {cs : List Nat} {c : Int} (h : domN cs c < cs.length) : hasB (cs.getD (domN cs c) 0) c = true := by
  have := List.findIdx_getElem (w := h)
  rw [List.getD_eq_getElem?_getD, List.getElem?_eq_getElem h]
  exact this
theorem dom_not {cs : List Nat} {c : Int} {j : Nat} (h : j < domN cs c) : hasB (cs.getD j 0) c = false := by
  have h2 : j < cs.length := Nat.lt_of_lt_of_le h (dom_le cs c)
  have := List.not_of_lt_findIdx h
  rw [List.getD_eq_getElem?_getD, List.getElem?_eq_getElem h2]
  simpa using this
theorem dom_here {cs : List Nat} {c : Int} {i : Nat} (h : i ≤ domN cs c) (hh : hasB (cs.getD i 0) c = true) : domN cs c = i := by
  rcases Nat.lt_or_ge i (domN cs c) with hl | hl
  · rw [dom_not hl] at hh; cases hh
  · omega
theorem dom_on {cs : List Nat} {c : Int} {i : Nat} (hi : i < cs.length) (h : i ≤ domN cs c) (hh : hasB (cs.getD i 0) c = false) : i + 1 ≤ domN cs c := by
  rcases Nat.lt_or_ge i (domN cs c) with hl | hl
  · exact hl
  · have : domN cs c = i := by omega
    have h2 := dom_has (cs := cs) (c := c) (by omega)
    rw [this, hh] at h2
    cases h2
theorem has_core {a : Nat} {c : Int} (h : hasB a c = true) : coreB c = true := by
  cases hc : coreB c
  · rw [hasB_no hc] at h; cases h
  · rfl
theorem Good8.dom {cs : List Nat} (h : Good8 cs) {c : Int} {d : Nat} (hd : d < cs.length) : hasB (cs.getD d 0) c = true ↔ domN cs c = d := by
  constructor
  · intro hh
    obtain ⟨k, hk, rfl⟩ := core_nat (has_core hh)
    have h1 : domN cs (k : Int) ≤ d := by
      rcases Nat.lt_or_ge d (domN cs k) with hl | hl
      · rw [dom_not hl] at hh; cases hh
      · exact hl
    have h2 := dom_has (cs := cs) (c := (k : Int)) (by omega)
    rw [hasB_nat hk] at hh h2
    exact h.one (by omega) hd h2 hh
  · rintro rfl
    exact dom_has hd
/-- a core's domain, or -1. -/
def ofI (cs : List Nat) (c : Int) : Int := if domN cs c < cs.length then (domN cs c : Int) else -1
theorem ofI_range (cs : List Nat) (c : Int) (h : cs.length ≤ 8) : -1 ≤ ofI cs c ∧ ofI cs c < 8 := by
  unfold ofI; split <;> omega
theorem ofI_yes {cs : List Nat} {c : Int} (h : domN cs c < cs.length) : ofI cs c = (domN cs c : Int) := by simp [ofI, h]
theorem ofI_no {cs : List Nat} {c : Int} (h : ¬ domN cs c < cs.length) : ofI cs c = -1 := by simp [ofI, h]
theorem dom_none {cs : List Nat} {c : Int} (h : coreB c = false) : ¬ domN cs c < cs.length := fun hl => by
  have := dom_has hl
  rw [hasB_no h] at this; cases this

/-- domains' cores, and those that are on. -/
structure TopoOk (cs : List Nat) (on : Nat) : Prop where
  good : Good8 cs
  small : ∀ j, cs.getD j 0 < 18446744073709551616
  onlt : on < 18446744073709551616
  some : ∀ d, d < cs.length → cs.getD d 0 &&& on ≠ 0
theorem and_lt {a b : Nat} (h : a < 18446744073709551616) : a &&& b < 18446744073709551616 := Nat.lt_of_le_of_lt Nat.and_le_left h
theorem TopoOk.new {l : List Nat} (h : Good8 l) (hs : ∀ j, l.getD j 0 < 18446744073709551616) : TopoOk l (uni l) := by
  refine ⟨h, hs, uni_lt hs, fun d hd h0 => ?_⟩
  apply h.2.2 d hd
  left
  apply Nat.eq_of_testBit_eq
  intro k
  rw [Nat.zero_testBit]
  cases hb : (l.getD d 0).testBit k
  · rfl
  · have h1 : (uni l).testBit k = true := by
      rw [uni_bit, List.any_eq_true]
      exact ⟨l.getD d 0, by simp [List.getD, hd], hb⟩
    have h2 : (l.getD d 0 &&& uni l).testBit k = false := by rw [h0]; simp
    rw [Nat.testBit_and, hb, h1] at h2
    cases h2
theorem and_uni {l : List Nat} {d : Nat} (hd : d < l.length) : l.getD d 0 &&& uni l = l.getD d 0 := by
  apply Nat.eq_of_testBit_eq
  intro k
  rw [Nat.testBit_and]
  cases hb : (l.getD d 0).testBit k
  · rfl
  · have h1 : (uni l).testBit k = true := by
      rw [uni_bit, List.any_eq_true]
      exact ⟨l.getD d 0, by simp [List.getD, hd], hb⟩
    rw [h1]; rfl

theorem and_with_in {a n : Nat} {c : Int} (h : hasB a c = true) : withN (a &&& n) c = a &&& withN n c := by
  obtain ⟨k, hk, rfl⟩ := core_nat (has_core h)
  rw [hasB_nat hk] at h
  apply Nat.eq_of_testBit_eq
  intro j
  rw [withN_bit hk, Nat.testBit_and, Nat.testBit_and, withN_bit hk]
  by_cases e : k = j
  · subst e; simp [h]
  · simp [e]
theorem and_with_out {a n : Nat} {c : Int} (h : hasB a c = false) (hc : coreB c = true) : a &&& withN n c = a &&& n := by
  obtain ⟨k, hk, rfl⟩ := core_nat hc
  rw [hasB_nat hk] at h
  apply Nat.eq_of_testBit_eq
  intro j
  rw [Nat.testBit_and, Nat.testBit_and, withN_bit hk]
  by_cases e : k = j
  · subst e; simp [h]
  · simp [e]
theorem and_without_in {a n : Nat} {c : Int} (ha : a < 18446744073709551616) (hn : n < 18446744073709551616) (h : hasB a c = true) : withoutN (a &&& n) c = a &&& withoutN n c := by
  obtain ⟨k, hk, rfl⟩ := core_nat (has_core h)
  apply Nat.eq_of_testBit_eq
  intro j
  rw [withoutN_bit (and_lt ha) hk, Nat.testBit_and, Nat.testBit_and, withoutN_bit hn hk, Bool.and_assoc]
theorem and_without_out {a n : Nat} {c : Int} (hn : n < 18446744073709551616) (h : hasB a c = false) (hc : coreB c = true) : a &&& withoutN n c = a &&& n := by
  obtain ⟨k, hk, rfl⟩ := core_nat hc
  rw [hasB_nat hk] at h
  apply Nat.eq_of_testBit_eq
  intro j
  rw [Nat.testBit_and, Nat.testBit_and, withoutN_bit hn hk]
  by_cases e : k = j
  · subst e; simp [h]
  · simp [e]
theorem has_and {a n : Nat} {c : Int} (h : hasB a c = true) : hasB (a &&& n) c = hasB n c := by
  obtain ⟨k, hk, rfl⟩ := core_nat (has_core h)
  rw [hasB_nat hk] at h
  rw [hasB_nat hk, hasB_nat hk, Nat.testBit_and, h, Bool.true_and]
theorem with_same {n : Nat} {c : Int} (h : hasB n c = true) : withN n c = n := by
  obtain ⟨k, hk, rfl⟩ := core_nat (has_core h)
  rw [hasB_nat hk] at h
  apply Nat.eq_of_testBit_eq
  intro j
  rw [withN_bit hk]
  by_cases e : k = j
  · subst e; simp [h]
  · simp [e]
theorem without_some {n : Nat} {c : Int} (hn : n < 18446744073709551616) (h : hasB n c = true) (hp : popN 64 n ≠ 1) : withoutN n c ≠ 0 := by
  intro h0
  apply hp
  have h1 := pop_with_without (c := c) hn (has_core h)
  rw [with_same h, h0] at h1
  rw [h1]
  decide

theorem TopoOk.dom_other {cs : List Nat} {on : Nat} (h : TopoOk cs on) {c : Int} {d : Nat} (hd : d < cs.length) (hne : d ≠ domN cs c) : hasB (cs.getD d 0) c = false := by
  cases hb : hasB (cs.getD d 0) c
  · rfl
  · exact absurd ((h.good.dom hd).1 hb).symm hne
theorem TopoOk.up {cs : List Nat} {on : Nat} (h : TopoOk cs on) {c : Int} (hd : domN cs c < cs.length) : TopoOk cs (withN on c) := by
  refine ⟨h.good, h.small, withN_lt c h.onlt, fun d hdl => ?_⟩
  have hh := dom_has hd
  by_cases e : d = domN cs c
  · rw [e, ← and_with_in hh]
    intro h0
    have h1 := has_with (n := cs.getD (domN cs c) 0 &&& on) (c := c)
    rw [h0, has_core hh] at h1
    simp [hasB] at h1
  · rw [and_with_out (h.dom_other hdl e) (has_core hh)]
    exact h.some d hdl
theorem TopoOk.down {cs : List Nat} {on : Nat} (h : TopoOk cs on) {c : Int} (hd : domN cs c < cs.length) (hon : hasB (cs.getD (domN cs c) 0 &&& on) c = true) (hp : popN 64 (cs.getD (domN cs c) 0 &&& on) ≠ 1) : TopoOk cs (withoutN on c) := by
  refine ⟨h.good, h.small, Nat.lt_of_le_of_lt (withoutN_le on c) h.onlt, fun d hdl => ?_⟩
  have hh := dom_has hd
  by_cases e : d = domN cs c
  · rw [e, ← and_without_in (h.small _) h.onlt hh]
    exact without_some (and_lt (h.small _)) hon hp
  · rw [and_without_out h.onlt (h.dom_other hdl e) (has_core hh)]
    exact h.some d hdl

/-- the program's row of domains. -/
def drow (cs : List Nat) (on : Nat) : List Value := cs.flatMap fun (a : Nat) => [.int .u64 (a : Int), .int .u64 ((a &&& on : Nat) : Int)]
theorem drow_len (cs : List Nat) (on : Nat) : (drow cs on).length = cs.length * 2 := by
  induction cs with
  | nil => rfl
  | cons a cs ih => simp only [drow, List.flatMap_cons, List.length_append, List.length_cons, List.length_nil] at *; omega
theorem drow_cores (cs : List Nat) (on d : Nat) (h : d < cs.length) : (drow cs on)[d * 2]? = some (.int .u64 ((cs.getD d 0 : Nat) : Int)) := by
  induction cs generalizing d with
  | nil => simp at h
  | cons a cs ih =>
    cases d with
    | zero => simp [drow]
    | succ d =>
      have := ih d (by simpa using h)
      rw [show (d + 1) * 2 = d * 2 + 2 by omega]
      simpa [drow] using this
theorem drow_on (cs : List Nat) (on d : Nat) (h : d < cs.length) : (drow cs on)[d * 2 + 1]? = some (.int .u64 ((cs.getD d 0 &&& on : Nat) : Int)) := by
  induction cs generalizing d with
  | nil => simp at h
  | cons a cs ih =>
    cases d with
    | zero => simp [drow]
    | succ d =>
      have := ih d (by simpa using h)
      rw [show (d + 1) * 2 + 1 = d * 2 + 1 + 2 by omega]
      simpa [drow] using this
theorem drow_ext {l : List Value} {cs : List Nat} {on : Nat} (hl : l.length = cs.length * 2) (h : ∀ d, d < cs.length → l[d * 2]? = some (.int .u64 ((cs.getD d 0 : Nat) : Int)) ∧ l[d * 2 + 1]? = some (.int .u64 ((cs.getD d 0 &&& on : Nat) : Int))) : l = drow cs on := by
  apply List.ext_getElem?
  intro i
  by_cases hi : i < cs.length * 2
  · have hd : i / 2 < cs.length := by omega
    obtain ⟨h1, h2⟩ := h (i / 2) hd
    rcases Nat.mod_two_eq_zero_or_one i with e | e
    · have e2 : i / 2 * 2 = i := by omega
      rw [e2] at h1
      rw [h1, ← drow_cores cs on (i / 2) hd, e2]
    · have e2 : i / 2 * 2 + 1 = i := by omega
      rw [e2] at h2
      rw [h2, ← drow_on cs on (i / 2) hd, e2]
  · rw [List.getElem?_eq_none (by omega), List.getElem?_eq_none (by rw [drow_len]; omega)]
/-- one domain's cores that are on, turned. -/
theorem drow_set {cs : List Nat} {on on' d : Nat} (hd : d < cs.length) (hne : ∀ e, e < cs.length → e ≠ d → cs.getD e 0 &&& on' = cs.getD e 0 &&& on) :
    (drow cs on).set (d * 2 + 1) (.int .u64 ((cs.getD d 0 &&& on' : Nat) : Int)) = drow cs on' := by
  apply drow_ext
  · rw [List.length_set, drow_len]
  · intro e he
    rw [List.getElem?_set, List.getElem?_set, drow_cores cs on e he, drow_on cs on e he, if_neg (by omega)]
    refine ⟨rfl, ?_⟩
    by_cases e1 : e = d
    · subst e1; simp [drow_len]; omega
    · rw [if_neg (by omega), hne e he e1]
theorem drow_snoc (cs : List Nat) (a on : Nat) : drow (cs ++ [a]) on = drow cs on ++ [.int .u64 (a : Int), .int .u64 ((a &&& on : Nat) : Int)] := by simp [drow]
end Go.Proofs.Ytbeklkgoiigccaa
