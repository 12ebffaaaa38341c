/-
  Contract of the document's answer roundelref01.number. Condition: a text of at most 400 bytes.
-/
import Derived.Test.YtgmdbgdbjmlolaaDoorWr
import Derived.Test.YtgmdbgdbjmlolaaDoorMathn
namespace Go.Proofs.YtgmdbgdbjmlolaaDoor
open Go.RowKit Go.Shelf

/-- a number and its end, as values. -/
def numVals (o : Option (Nat × Nat)) : Value := .tuple #[.int .i64 ((o.getD (0, 0)).1 : Int), .int .i64 ((o.getD (0, 0)).2 : Int)]

/-- what is still to be tried. -/
def numRest (l : List UInt8) (e k : Nat) : Option Nat := if e ≤ l.length then findN (l.take e) (64 - k) k else none
theorem numFrom_step {l : List UInt8} {e : Nat} (h : ¬ e = 0) : numFrom l e = match numAt l e with | some n => some (n, e) | none => numFrom l (e - 1) := by
  cases e with
  | zero => exact absurd rfl h
  | succ e => rfl
theorem take_bytes (l : List UInt8) (e : Nat) : (⟨l.toArray⟩ : ByteArray).extract 0 e = ⟨(l.take e).toArray⟩ := by
  apply ByteArray.ext; simp

theorem same_bytes {a b : List UInt8} (h : a = b) : ((⟨a.toArray⟩ : ByteArray).toList == (⟨b.toArray⟩ : ByteArray).toList) = true := by subst h; exact beq_self_eq_true _
theorem other_bytes {a b : List UInt8} (h : ¬ a = b) : ((⟨a.toArray⟩ : ByteArray).toList == (⟨b.toArray⟩ : ByteArray).toList) = false := by
  rw [ByteArray.toList_eq, ByteArray.toList_eq]; exact beq_eq_false_iff_ne.2 (by simpa using h)

set_option maxRecDepth 100000 in
set_option maxHeartbeats 2000000 in
theorem number_any (l : List UInt8) (_hl : l.length ≤ 400) (w : World) :
    Calls Tryd.prog 43 #[encS l] w fun e w' => e = .returned (numVals (numFrom l 2)) ∧ Below w.heap.size w w' := by
  unfold encS
  generalize hr : numFrom l 2 = r
  have HR := Lib.hid hr
  clear hr
  go_enter Tryd.func43, Tryd.ntmps43
  go_wp2_with fail
  go_loopw [4] (fun i wr => ∃ e : Nat, e ≤ 2 ∧ i = .int .i64 e ∧ Hid (numFrom l e = r) ∧ Below w.heap.size w wr) (fun i _ => (intOf i).toNat)
  case atStart => exact ⟨2, by omega, rfl, HR, Below.refl _ _⟩
  case round =>
    obtain ⟨e, he, rfl, HE, hb⟩ := hrel
    by_cases h0 : e = 0
    · subst h0
      have HN : Hid (r = none) := Lib.hid HE.out.symm
      go_wp2_with fail
      go_ret2
      exact ⟨by rw [HN.out]; rfl, hb⟩
    · have hee := HE.out
      rw [numFrom_step h0] at hee
      have HE2 := Lib.hid hee
      clear hee HE HR
      have hpos : 0 < e := by omega
      go_wp2_with fail
      go_loopw [5] (fun i wr2 => ∃ k : Nat, k ≤ 64 ∧ i = .int .i64 k ∧ Hid (numAt l e = numRest l e k) ∧ Below w.heap.size w wr2) (fun i _ => 64 - (intOf i).toNat)
      case atStart => exact ⟨0, by omega, rfl, Lib.hid rfl, hb⟩
      case round =>
        obtain ⟨k, hk, rfl, HK, hb2⟩ := hrel
        by_cases hel : e ≤ l.length
        · have h1 := HK.out
          unfold numRest at h1
          rw [if_pos hel] at h1
          by_cases hk64 : k < 64
          · rw [show 64 - k = (64 - (k + 1)) + 1 by omega, findN] at h1
            have H1 := Lib.hid h1
            clear h1 HK
            go_wp2_with fail
            refine Rd.region (fun X => Below w.heap.size w X) 6 [0, 2, 3, 4] [0, 2, 3, 4, 1, 5] (by kernel_rfl) (by kernel_rfl) (by kernel_rfl) (by kernel_rfl) rfl hb2.drew ?_
            have B0 := hb2.drew
            generalize wr.drew = W0 at B0 ⊢
            refine Rd.seq_float (.int .i64 (k : Int)) (by simp only [List.getElem?_toArray, List.getElem?_cons_zero]; rfl) rfl (by rfl) (fun X _ => by go_simp) ?_
            simp only [Act.put, List.setIfInBounds_toArray, List.set_cons_succ, List.set_cons_zero]
            refine Rd.seq_float (.string ⟨l.toArray⟩) (by simp only [List.getElem?_toArray, List.getElem?_cons_succ, List.getElem?_cons_zero]; rfl) rfl (by rfl) (fun X _ => by go_simp) ?_
            simp only [Act.put, List.setIfInBounds_toArray, List.set_cons_succ, List.set_cons_zero]
            refine Rd.seq_float (.int .i64 (e : Int)) (by simp only [List.getElem?_toArray, List.getElem?_cons_succ, List.getElem?_cons_zero]; rfl) rfl (by rfl) (fun X _ => by go_simp) ?_
            simp only [Act.put, List.setIfInBounds_toArray, List.set_cons_succ, List.set_cons_zero]
            refine Rd.seq_float (.string ⟨(l.take e).toArray⟩) (by simp only [List.getElem?_toArray, List.getElem?_cons_succ, List.getElem?_cons_zero]; rfl) rfl (by rfl) (fun X _ => by rw [← take_bytes]; go_simp) ?_
            simp only [Act.put, List.setIfInBounds_toArray, List.set_cons_succ, List.set_cons_zero]
            refine Rd.seq_move (by simp only [List.getElem?_toArray, List.getElem?_cons_succ, List.getElem?_cons_zero]; rfl) rfl (by rfl) (fun K hK => ?_)
            go_simp
            refine (digits_any k hk64 W0).mono ?_
            rintro e w' ⟨rfl, rfl⟩
            refine hK _ _ (fun _ => B0) ?_
            clear hK K
            refine Rd.seq_move (by simp only [List.getElem?_toArray, List.getElem?_cons_succ, List.getElem?_cons_zero]; rfl) rfl (by rfl) (fun K hK => ?_)
            go_simp
            refine hK _ _ (fun _ => B0) ?_
            refine Rd.seq_end ?_
            by_cases hq : dec2 k = l.take e
            · rw [same_bytes (by rw [dec_eq (by omega)]; exact hq)]
              have H2 := H1.out
              rw [if_pos hq] at H2
              have H4 : Hid (r = some (k, e)) := Lib.hid (by rw [← HE2.out, H2])
              clear H1 H2 hq HE2
              go_wp2_with fail
              go_ret2
              exact ⟨by rw [H4.out]; rfl, B0⟩
            · rw [other_bytes (by rw [dec_eq (by omega)]; exact hq)]
              have H2 := H1.out
              rw [if_neg hq] at H2
              have H4 : Hid (numAt l e = numRest l e (k + 1)) := Lib.hid (by unfold numRest; rw [if_pos hel]; exact H2)
              clear H1 H2 hq hel
              go_wp2_with fail
              go_round
              case rel => exact ⟨k + 1, by omega, by go_num, H4, B0⟩
              case measure => simp [intOf]; omega
          · rw [show 64 - k = 0 by omega, findN] at h1
            have H3 : Hid (numFrom l (e - 1) = r) := Lib.hid (by rw [← HE2.out, h1])
            clear h1 HK HE2
            go_wp2_with fail
            exact ⟨⟨e - 1, by omega, by go_num, H3, hb2⟩, by simp [intOf]; omega⟩
        · have h1 := HK.out
          unfold numRest at h1
          rw [if_neg hel] at h1
          have H3 : Hid (numFrom l (e - 1) = r) := Lib.hid (by rw [← HE2.out, h1])
          clear h1 HK HE2
          by_cases hk64 : k < 64
          · go_wp2_with fail
            exact ⟨⟨e - 1, by omega, by go_num, H3, hb2⟩, by simp [intOf]; omega⟩
          · go_wp2_with fail
            exact ⟨⟨e - 1, by omega, by go_num, H3, hb2⟩, by simp [intOf]; omega⟩
end Go.Proofs.YtgmdbgdbjmlolaaDoor
