/-
  made, whatever the limbs: a ratio in lowest terms and the document's, or none. No condition.
-/
import Derived.Test.YtnfoblmfjldheaaDoorQg
import Derived.Test.YtnfoblmfjldheaaDoorQm
namespace Go.Proofs.YtnfoblmfjldheaaDoor
open Go.RowKit Go.Dig Go.Shelf Go.Proofs

/-- limbs are a ratio's, not a great one's. -/
def madeB (l1 l2 : List Nat) : Bool := decide (l1.length ≤ 4) && (decide (l2.length ≤ 4) && (decide (l2 ≠ []) && (goodB l1 && goodB l2)))
theorem RA.len {w : World} {p : Sl} {l : List Nat} (h : RA w p l) : p.n = l.length := by
  obtain ⟨a, c, e, -, -⟩ := h.row
  cases p; cases e; rfl
theorem eq0 {n : Nat} (h : n ≠ 0) : ((n : Int) == 0) = false := by rw [beq_eq_false_iff_ne]; omega
theorem eq1 {n : Nat} (h : n = 0) : ((n : Int) == 0) = true := by subst h; rfl
theorem made_false (f1 f2 : Sl) (l1 l2 : List Nat) (w : World) (rf1 : RA w f1 l1) (rf2 : RA w f2 l2) (h : Hid (madeB l1 l2 = false)) :
    Calls Tryd.prog 17 #[.agg #[.slice f1.a f1.n f1.c, .slice f2.a f2.n f2.c]] w fun e w' => e = .returned (.tuple #[.agg #[.slice none 0 0, .slice none 0 0], .agg #[.slice none 0 0, .slice none 0 0], .bool false]) ∧ Below w.heap.size w w' := by
  have h := h.out
  have e1 := rf1.len
  have e2 := rf2.len
  by_cases h1 : l1.length ≤ 4
  · by_cases h2 : l2.length ≤ 4
    · by_cases h3 : l2 = []
      · exact made_no3 f1 f2 l1 l2 w rf1 rf2 (by omega) (by omega) (eq1 (by rw [e2, h3]; rfl))
      · have h3' : f2.n ≠ 0 := by
          have := List.length_pos_iff.2 h3
          omega
        cases hg1 : goodB l1
        · exact made_no4 f1 f2 l1 l2 w rf1 rf2 (by omega) (by omega) (eq0 h3') (Lib.hid (by omega)) (Lib.hid hg1)
        · cases hg2 : goodB l2
          · exact made_no5 f1 f2 l1 l2 w rf1 rf2 (by omega) (by omega) (eq0 h3') (Lib.hid (by omega)) (Lib.hid (by omega)) (Lib.hid hg1) (Lib.hid hg2)
          · simp [madeB, h1, h2, h3, hg1, hg2] at h
    · exact made_no2 f1 f2 l1 l2 w rf1 rf2 (by omega) (by omega)
  · exact made_no1 f1 f2 l1 l2 w rf1 rf2 (by omega)
theorem made_parts {l1 l2 : List Nat} (h : madeB l1 l2 = true) : l1.length ≤ 4 ∧ l2.length ≤ 4 ∧ l2 ≠ [] ∧ goodB l1 = true ∧ goodB l2 = true := by
  simpa [madeB] using h
theorem made_true (f1 f2 : Sl) (l1 l2 : List Nat) (w : World) (rf1 : RA w f1 l1) (rf2 : RA w f2 l2) (s1 : Hid (SmallU l1)) (s2 : Hid (SmallU l2)) (h : Hid (madeB l1 l2 = true)) :
    Calls Tryd.prog 17 #[.agg #[.slice f1.a f1.n f1.c, .slice f2.a f2.n f2.c]] w fun e w' => ∃ (x y : Nat) (p q r s : Sl), e = .returned (.tuple #[.agg #[.slice p.a p.n p.c, .slice q.a q.n q.c], .agg #[.slice r.a r.n r.c, .slice s.a s.n s.c], .bool true]) ∧
      Hid ((L x).length ≤ 4) ∧ Hid ((L y).length ≤ 4) ∧ Hid (y ≠ 0 ∧ Nat.gcd x y = 1) ∧ RU w' p x ∧ RU w' q y ∧ RD w' r x ∧ RD w' s y ∧ Below w.heap.size w w' := by
  obtain ⟨h1, h2, h3, g1, g2⟩ := made_parts h.out
  have e1 := rf1.len
  have e2 := rf2.len
  have h3' : f2.n ≠ 0 := by
    have := List.length_pos_iff.2 h3
    omega
  obtain ⟨a, rfl⟩ := nat_of_good g1 s1.out
  obtain ⟨b, rfl⟩ := nat_of_good g2 s2.out
  have hb : b ≠ 0 := by
    rintro rfl
    exact h3 rfl
  refine (made_yes f1 f2 a b w rf1 rf2 (Lib.hid h1) (Lib.hid h2) (by omega) (by omega) (eq0 h3') (Lib.hid hb)).mono ?_
  rintro e w' ⟨p, q, r, s, rfl, rp, rq, rr, rs, hB⟩
  exact ⟨_, _, p, q, r, s, rfl, Lib.hid (len_div_le h1), Lib.hid (len_div_le h2), Lib.hid ⟨low_ne a hb, low_gcd a hb⟩, rp, rq, rr, rs, hB⟩
end Go.Proofs.YtnfoblmfjldheaaDoor
