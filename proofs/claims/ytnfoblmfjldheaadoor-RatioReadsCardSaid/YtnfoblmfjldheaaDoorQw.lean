/-
  Reading a ratio, the program's way and the document's: just the texts of fractions in lowest terms are read. Condition: not more than 200 bytes.
-/
import Derived.Test.YtnfoblmfjldheaaDoorQv
namespace Go.Proofs.YtnfoblmfjldheaaDoor
open Go.RowKit Go.Dig Go.Shelf Go.Proofs

theorem qtext_ne {x y : Nat} (h : y ≠ 1) : qtext x y = text x ++ 47 :: text y := by unfold qtext; rw [if_neg h]
theorem text_ne_one {y : Nat} (h : y ≠ 1) : (text y == [49]) = false := beq_eq_false_iff_ne.2 fun e => h (text_inj (e.trans one_is.symm))
/-- the program reads the text of a fraction in lowest terms. -/
theorem qread_yes (s : List UInt8) (x y : Nat) (h : IsQ s x y) (hl : s.length ≤ 200) (w : World) :
    Calls Tryd.prog 35 #[.string ⟨s.toArray⟩] w fun e w' => ∃ p q : Sl, e = .returned (.tuple #[.agg #[.slice p.a p.n p.c, .slice q.a q.n q.c], .int .i64 0]) ∧ RU w' p x ∧ RU w' q y ∧ Below w.heap.size w w' := by
  obtain ⟨rfl, hy, hg⟩ := h
  by_cases h1 : y = 1
  · subst h1
    rw [show qtext x 1 = text x by unfold qtext; rw [if_pos rfl]] at hl ⊢
    exact qread_one x w (Lib.hid (by omega)) (Lib.hid (len_text hl)) (Lib.hid (text_slash x))
  · rw [qtext_ne h1] at hl ⊢
    have e := hl
    rw [List.length_append, List.length_cons] at e
    exact qread_two _ x y w (Lib.hid (by omega)) (Lib.hid (by omega)) (Lib.hid (len_text (by omega))) (Lib.hid (by omega)) (Lib.hid (len_text (by omega))) (Lib.hid hy) (Lib.hid (by simp [hg])) (text_ne_one h1) (Lib.hid (text_slash x)) (Lib.hid rfl)
/-- and no other one. -/
theorem qread_no (s : List UInt8) (h : ∀ x y, ¬ IsQ s x y) (hl : s.length ≤ 200) (w : World) :
    Calls Tryd.prog 35 #[.string ⟨s.toArray⟩] w fun e w' => e = .returned (.tuple #[.agg #[.slice none 0 0, .slice none 0 0], .int .i64 17]) ∧ Below w.heap.size w w' := by
  by_cases hs : (47 : UInt8) ∈ s
  · obtain ⟨u, t, rfl, hu⟩ := split_at hs
    have e := hl
    rw [List.length_append, List.length_cons] at e
    by_cases h1 : t = [49]
    · subst h1
      exact qread_n2 _ u w (Lib.hid (by omega)) (Lib.hid hu) (Lib.hid rfl)
    · have ht1 : (t == [49]) = false := beq_eq_false_iff_ne.2 h1
      by_cases hU : IsText u
      · obtain ⟨x, rfl⟩ := text_of hU
        by_cases hT : IsText t
        · obtain ⟨y, rfl⟩ := text_of hT
          have hy1 : y ≠ 1 := by rintro rfl; exact h1 one_is
          by_cases hy : y = 0
          · subst hy
            exact qread_n6 _ x w (Lib.hid (by omega)) (Lib.hid (by omega)) (Lib.hid (len_text (by omega))) (Lib.hid (by omega)) ht1 (Lib.hid hu) (Lib.hid rfl)
          · have hg : Nat.gcd x y ≠ 1 := fun hg => h x y ⟨(qtext_ne hy1).symm, hy, hg⟩
            exact qread_n7 _ x y w (Lib.hid (by omega)) (Lib.hid (by omega)) (Lib.hid (len_text (by omega))) (Lib.hid (by omega)) (Lib.hid (len_text (by omega))) (Lib.hid hy) (Lib.hid (by simp [hg])) ht1 (Lib.hid hu) (Lib.hid rfl)
        · exact qread_n5 _ t x w (Lib.hid (by omega)) (Lib.hid (by omega)) (Lib.hid (by omega)) (Lib.hid hT) ht1 (Lib.hid hu) (Lib.hid rfl)
      · by_cases hT : IsText t
        · obtain ⟨y, rfl⟩ := text_of hT
          exact qread_n4 _ u y w (Lib.hid (by omega)) (Lib.hid (by omega)) (Lib.hid (by omega)) (Lib.hid hU) ht1 (Lib.hid hu) (Lib.hid rfl)
        · exact qread_n3 _ u t w (Lib.hid (by omega)) (Lib.hid (by omega)) (Lib.hid (by omega)) (Lib.hid hU) (Lib.hid hT) ht1 (Lib.hid hu) (Lib.hid rfl)
  · have hT : ¬ IsText s := fun hT => by
      obtain ⟨x, rfl⟩ := text_of hT
      exact h x 1 (isQ_whole x)
    exact qread_n1 s w (Lib.hid (by omega)) (Lib.hid hT) (Lib.hid hs)
theorem ext_all (s : List UInt8) : (⟨s.toArray⟩ : ByteArray).extract 0 s.length = ⟨s.toArray⟩ := bytes_pre s s [] (by simp)
/-- so does the document. -/
theorem rread_yes (s : List UInt8) (x y : Nat) (h : IsQ s x y) (hl : s.length ≤ 200) (w : World) :
    Calls Tryd.prog 38 #[.string ⟨s.toArray⟩] w fun e w' => ∃ p q : Sl, e = .returned (.tuple #[.agg #[.slice p.a p.n p.c, .slice q.a q.n q.c], .bool true]) ∧ RD w' p x ∧ RD w' q y ∧ Below w.heap.size w w' := by
  obtain ⟨rfl, hy, hg⟩ := h
  by_cases h1 : y = 1
  · subst h1
    rw [show qtext x 1 = text x by unfold qtext; rw [if_pos rfl]] at hl ⊢
    have h9 := rread_one (text x) x w (by omega) (Lib.hid (byte_s (text_slash x))) (ext_all _) (Lib.hid (by omega)) (Lib.hid (len_text hl)) (Lib.hid (by omega)) (Lib.hid (qtext_whole1 x))
    rw [hg, Nat.div_one, Nat.div_one] at h9
    exact h9
  · rw [qtext_ne h1] at hl ⊢
    have e := hl
    rw [List.length_append, List.length_cons] at e
    have h9 := rread_two (text x ++ 47 :: text y) x y w (by omega) (Lib.hid (byte_u rfl (text_slash x))) (Lib.hid (byte_sep rfl)) (by simp) (bytes_pre _ _ _ rfl) (bytes_post _ _ _ rfl) (Lib.hid (by omega)) (Lib.hid (by omega)) (Lib.hid (len_text (by omega))) (Lib.hid (len_text (by omega))) (Lib.hid hy) (Lib.hid (qtext_low hg h1))
    rw [hg, Nat.div_one, Nat.div_one] at h9
    exact h9
theorem rread_no (s : List UInt8) (h : ∀ x y, ¬ IsQ s x y) (hl : s.length ≤ 200) (w : World) :
    Calls Tryd.prog 38 #[.string ⟨s.toArray⟩] w fun e w' => e = .returned (.tuple #[.agg #[.slice none 0 0, .slice none 0 0], .bool false]) ∧ Below w.heap.size w w' := by
  by_cases hs : (47 : UInt8) ∈ s
  · obtain ⟨u, t, rfl, hu⟩ := split_at hs
    have e := hl
    rw [List.length_append, List.length_cons] at e
    have HB := Lib.hid (byte_u (s := u ++ 47 :: t) rfl hu)
    have H47 := Lib.hid (byte_sep (s := u ++ 47 :: t) rfl)
    have x1 := bytes_pre (u ++ 47 :: t) u (47 :: t) rfl
    have x2 := bytes_post (u ++ 47 :: t) u t rfl
    have hlu : u.length < (u ++ 47 :: t).length := by simp
    by_cases hU : IsText u
    · obtain ⟨x, rfl⟩ := text_of hU
      by_cases hT : IsText t
      · obtain ⟨y, rfl⟩ := text_of hT
        by_cases hy : y = 0
        · subst hy
          exact rread_n4 _ x w (by omega) HB H47 hlu x1 x2 (Lib.hid (by omega)) (Lib.hid (by omega))
        · have hq : qtext (x / Nat.gcd x y) (y / Nat.gcd x y) ≠ text x ++ 47 :: text y := fun hq => by
            have h2 := qtext_back hy hq
            exact h x y ⟨(qtext_ne h2.2).symm, hy, h2.1⟩
          exact rread_n5 _ _ x y w (by omega) HB H47 hlu x1 x2 (Lib.hid (by omega)) (Lib.hid (by omega)) (Lib.hid (len_text (by omega))) (Lib.hid (len_text (by omega))) (Lib.hid hy) (Lib.hid rfl) (beq_eq_false_iff_ne.2 hq)
      · exact rread_n3 _ t x w (by omega) HB H47 hlu x1 x2 (Lib.hid (by omega)) (Lib.hid (by omega)) (Lib.hid hT)
    · exact rread_n2 _ u w (by omega) HB H47 hlu x1 (Lib.hid (by omega)) (Lib.hid hU)
  · have hT : ¬ IsText s := fun hT => by
      obtain ⟨x, rfl⟩ := text_of hT
      exact h x 1 (isQ_whole x)
    exact rread_n1 s w (by omega) (Lib.hid (byte_s hs)) (ext_all s) (Lib.hid hT)
end Go.Proofs.YtnfoblmfjldheaaDoor
