/-
  Plain facts on texts of fractions: where a text is cut, when it is a fraction's. No program, no condition.
-/
import Derived.Lib.Bytealg
import Derived.Test.YtnfoblmfjldheaaDoorQm
namespace Go.Proofs.YtnfoblmfjldheaaDoor
open Go.RowKit Go.Dig Go.Shelf Go.Proofs

theorem index_no : ∀ {s : List UInt8}, (47 : UInt8) ∉ s → Lib.indexByte s 47 = -1
  | [], _ => rfl
  | c :: s, h => by
    have hc : ¬ c = (47 : UInt8) := fun e => h (by rw [e]; exact List.mem_cons_self)
    have hs : (47 : UInt8) ∉ s := fun e => h (List.mem_cons_of_mem _ e)
    rw [Lib.indexByte, index_no hs]
    simp [hc]
theorem index_at : ∀ {u : List UInt8} (t : List UInt8), (47 : UInt8) ∉ u → Lib.indexByte (u ++ 47 :: t) 47 = (u.length : Int)
  | [], t, _ => by rw [List.nil_append, Lib.indexByte]; simp
  | c :: u, t, h => by
    have hc : ¬ c = (47 : UInt8) := fun e => h (by rw [e]; exact List.mem_cons_self)
    have hs : (47 : UInt8) ∉ u := fun e => h (List.mem_cons_of_mem _ e)
    have h1 : ¬ (u.length : Int) = -1 := by omega
    rw [List.cons_append, Lib.indexByte, index_at t hs]
    simp [hc, h1]
theorem split_at : ∀ {s : List UInt8}, (47 : UInt8) ∈ s → ∃ u t, s = u ++ 47 :: t ∧ (47 : UInt8) ∉ u
  | [], h => by simp at h
  | c :: s, h => by
    by_cases hc : c = 47
    · exact ⟨[], s, by rw [hc]; rfl, by simp⟩
    · have hs : (47 : UInt8) ∈ s := by
        rcases List.mem_cons.1 h with e | e
        · exact absurd e.symm hc
        · exact e
      obtain ⟨u, t, e, hu⟩ := split_at hs
      refine ⟨c :: u, t, by rw [e]; rfl, fun h9 => ?_⟩
      rcases List.mem_cons.1 h9 with h8 | h8
      · exact hc h8.symm
      · exact hu h8
theorem split_one : ∀ {u u' t t' : List UInt8}, (47 : UInt8) ∉ u → (47 : UInt8) ∉ u' → u ++ 47 :: t = u' ++ 47 :: t' → u = u' ∧ t = t'
  | [], [], _, _, _, _, e => ⟨rfl, by simpa using e⟩
  | [], c :: u', _, _, _, h', e => by
    have h1 : (47 : UInt8) = c := by simpa using (List.cons.inj e).1
    exact absurd (by rw [h1]; exact List.mem_cons_self) h'
  | c :: u, [], _, _, h, _, e => by
    have h1 : c = (47 : UInt8) := by simpa using (List.cons.inj e).1
    exact absurd (by rw [h1]; exact List.mem_cons_self) h
  | c :: u, d :: u', t, t', h, h', e => by
    have h1 := List.cons.inj e
    have h2 := split_one (fun x => h (List.mem_cons_of_mem _ x)) (fun x => h' (List.mem_cons_of_mem _ x)) h1.2
    exact ⟨by rw [h1.1, h2.1], h2.2⟩
theorem text_slash (n : Nat) : (47 : UInt8) ∉ text n := fun h => by
  have := (text_is n).1 47 h
  simp at this
theorem text_inj {m n : Nat} (h : text m = text n) : m = n := by rw [← readN_text m, h, readN_text]
theorem text_of {s : List UInt8} (h : IsText s) : ∃ n, s = text n := ⟨readN 0 s, (text_read h.1 h.2.1 h.2.2).symm⟩
theorem one_is : text 1 = [49] := one_text
/-- a text is that of one fraction in lowest terms. -/
structure IsQ (s : List UInt8) (x y : Nat) : Prop where
  eq : s = qtext x y
  ne : y ≠ 0
  low : Nat.gcd x y = 1
theorem isQ_whole (x : Nat) : IsQ (text x) x 1 := ⟨by unfold qtext; rw [if_pos rfl], by omega, Nat.gcd_one_right x⟩
/-- the text of a fraction that is put in lowest terms is the text that was there just if it was so. -/
theorem qtext_back {x y : Nat} (hy : y ≠ 0) (h : qtext (x / Nat.gcd x y) (y / Nat.gcd x y) = text x ++ 47 :: text y) : Nat.gcd x y = 1 ∧ y ≠ 1 := by
  unfold qtext at h
  split at h
  · exact absurd (by rw [h]; simp) (text_slash (x / Nat.gcd x y))
  · rename_i h1
    have h2 := split_one (text_slash _) (text_slash _) h
    have h3 := text_inj h2.2
    have hp := Nat.pos_of_ne_zero (gcd_ne x hy)
    have hg : Nat.gcd x y = 1 := by
      rcases Nat.lt_or_ge 1 (Nat.gcd x y) with h4 | h4
      · have := Nat.div_lt_self (Nat.pos_of_ne_zero hy) h4
        omega
      · omega
    refine ⟨hg, fun e => h1 ?_⟩
    rw [h3, e]
theorem qtext_low {x y : Nat} (h1 : Nat.gcd x y = 1) (h2 : y ≠ 1) : qtext (x / Nat.gcd x y) (y / Nat.gcd x y) = text x ++ 47 :: text y := by
  rw [h1, Nat.div_one, Nat.div_one]
  unfold qtext
  rw [if_neg h2]
theorem qtext_whole1 (x : Nat) : qtext (x / Nat.gcd x 1) (1 / Nat.gcd x 1) = text x := by
  rw [Nat.gcd_one_right, Nat.div_one, Nat.div_one]
  unfold qtext
  rw [if_pos rfl]
theorem len_text {x n : Nat} (h : (text x).length ≤ n) : (L x).length ≤ n := by
  by_cases h0 : x = 0
  · subst h0; exact Nat.zero_le _
  · have h1 := readN_lt _ (text x) rfl (text_is x).1
    rw [readN_text] at h1
    refine (dig_len (by omega) x n).2 (Nat.lt_of_lt_of_le h1 (Nat.le_trans (Nat.pow_le_pow_left (by omega : 10 ≤ 18446744073709551616) _) (Nat.pow_le_pow_right (by omega) h)))
end Go.Proofs.YtnfoblmfjldheaaDoor
