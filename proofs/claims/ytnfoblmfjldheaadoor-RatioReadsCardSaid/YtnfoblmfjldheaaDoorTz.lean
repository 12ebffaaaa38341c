/-
  Contract of the document's answer roundelref02.Read. Condition: a text of not more than a thousand bytes.
-/
import Derived.Test.YtnfoblmfjldheaaDoorTx
import Derived.Test.YtnfoblmfjldheaaDoorRg
namespace Go.Proofs.YtnfoblmfjldheaaDoor
open Go.RowKit Go.Dig Go.Shelf Go.Proofs

/-- what it answers, where the text isn't empty, and begins with 0 only alone. -/
def ReadR (s : List UInt8) (w : World) (v : Value) : Prop := (Dgt s → Row w v (D (readN 0 s))) ∧ (¬ Dgt s → v = .slice none 0 0)
set_option maxRecDepth 100000 in
set_option maxHeartbeats 4000000 in
theorem rRead_plain (s : List UInt8) (ok : Bool) (ho : ok = true ↔ Dgt s) (hl : s.length ≤ 1000) (h0 : s ≠ []) (h1 : s.head? ≠ some 48) (w : World) :
    Calls Tryd.prog 59 #[.string ⟨s.toArray⟩] w fun e w' => ∃ v, e = .returned (.tuple #[v, .bool ok]) ∧ ReadR s w' v ∧ Below w.heap.size w w' := by
  have HO := Lib.hid ho
  have e1 : (s == []) = false := beq_eq_false_iff_ne.2 h0
  have hpos : 0 < s.length := List.length_pos_iff.2 h0
  have hsz : 0 < (⟨s.toArray⟩ : ByteArray).size := hpos
  obtain ⟨y, hy⟩ : ∃ y : Nat, ((⟨s.toArray⟩ : ByteArray)[0]'hsz).toNat = y := ⟨_, rfl⟩
  have hy2 : ((y : Int) == 48) = false := beq_eq_false_iff_ne.2 (fun e => h1 (by
    rw [byte_at] at hy
    have hh : s.head? = some (s.getD 0 0) := by
      cases s with
      | nil => exact absurd rfl h0
      | cons c t => rfl
    rw [hh, UInt8.toNat_inj.1 (show (s.getD 0 0).toNat = (48 : UInt8).toNat by rw [hy]; show y = 48; omega)]))
  clear h0 h1 ho
  go_enter Tryd.func59, Tryd.ntmps59
  go_wp2_with fail
  go_loopw [4, 20] (fun O i wr => ∃ (k M n c : Nat) (ad : Option Addr), k ≤ s.length ∧ O = .slice ad n c ∧ i = .int .i64 (k : Int) ∧ Row wr (.slice ad n c) (D M) ∧ Hid (M = readN 0 (s.take k) ∧ Dgt (s.take k)) ∧ Below w.heap.size w wr) (fun _ i _ => s.length - (intOf i).toNat)
  case atStart => exact ⟨0, 0, 0, 0, none, Nat.zero_le _, rfl, rfl, ⟨_, _, rfl, Nat.le_refl _, fun h => absurd rfl h⟩, Lib.hid ⟨rfl, fun c hc => by simp at hc⟩, Below.refl _ _⟩
  case round =>
    obtain ⟨k, M, n, c, ad, hk, rfl, rfl, hr, HI, hB⟩ := hrel
    by_cases hlt : k < s.length
    · have hsz : k < (⟨s.toArray⟩ : ByteArray).size := hlt
      obtain ⟨x, hx⟩ : ∃ x : Nat, ((⟨s.toArray⟩ : ByteArray)[k]'hsz).toNat = x := ⟨_, rfl⟩
      have HX : Hid ((s.getD k 0).toNat = x) := Lib.hid (by rw [← hx, byte_at])
      by_cases hd : 48 ≤ x ∧ x ≤ 57
      · have hML : (D M).length ≤ 1000 := by
          have h1 := readN_lt _ (s.take k) rfl HI.out.2
          rw [← HI.out.1, List.length_take, Nat.min_eq_left hk] at h1
          refine Nat.le_trans ((dig_len (by omega) M k).2 (Nat.lt_of_lt_of_le h1 ?_)) (by omega)
          exact Nat.pow_le_pow_left (by omega) _
        have HI2 : Hid (Hid (M * 10 + (x - 48) = readN 0 (s.take (k + 1)) ∧ Dgt (s.take (k + 1)))) := Lib.hid (Lib.hid ⟨by rw [take_snoc hlt, readN_snoc, ← HI.out.1, HX.out], fun c hc => by
          rw [take_snoc hlt] at hc
          rcases List.mem_append.1 hc with hc | hc
          · exact HI.out.2 c hc
          · rw [List.mem_singleton.1 hc, HX.out]; exact hd⟩)
        obtain ⟨hd1, hd2⟩ := hd
        have hx48 : ((x : Int) - 48) = ((x - 48 : Nat) : Int) := by omega
        have HX48 := Lib.hid hx48
        clear HI hx48
        go_wp2_with fail
        refine Rd.regionK (fun _ => True) 10 [0, 3, 4, 5, 6, 7] [] [0, 3, 4, 5, 6, 7, 1, 2, 8, 9, 10] (by kernel_rfl) (by kernel_rfl) (by kernel_rfl) (by kernel_rfl) rfl trivial ?_
        have B0 : Below w.heap.size w wr.drew := hB.drew
        replace hr : Row wr.drew (.slice ad n c) (D M) := hr
        clear hB
        generalize wr.drew = W0 at hr B0 ⊢
        refine Rd.seqK_plain (.slice ad n c) (by simp only [List.getElem?_toArray, List.getElem?_cons_zero]; rfl) rfl (by rfl) (fun X => by go_simp) ?_
        simp only [Act.put, List.setIfInBounds_toArray, List.set_cons_succ, List.set_cons_zero]
        refine Rd.seqK_plain (.string ⟨s.toArray⟩) (by simp only [List.getElem?_toArray, List.getElem?_cons_succ, List.getElem?_cons_zero]; rfl) rfl (by rfl) (fun X => by go_simp) ?_
        simp only [Act.put, List.setIfInBounds_toArray, List.set_cons_succ, List.set_cons_zero]
        refine Rd.seqK_plain (.int .i64 (k : Int)) (by simp only [List.getElem?_toArray, List.getElem?_cons_succ, List.getElem?_cons_zero]; rfl) rfl (by rfl) (fun X => by go_simp) ?_
        simp only [Act.put, List.setIfInBounds_toArray, List.set_cons_succ, List.set_cons_zero]
        refine Rd.seqK_plain (.int .u8 (x : Int)) (by simp only [List.getElem?_toArray, List.getElem?_cons_succ, List.getElem?_cons_zero]; rfl) rfl (by rfl) (fun X => by go_simp) ?_
        simp only [Act.put, List.setIfInBounds_toArray, List.set_cons_succ, List.set_cons_zero]
        refine Rd.seqK_plain (.int .u8 ((x : Int) - 48)) (by simp only [List.getElem?_toArray, List.getElem?_cons_succ, List.getElem?_cons_zero]; rfl) rfl (by rfl) (fun X => by go_simp; try exact IntWalk.u8_in _ (by omega)) ?_
        simp only [Act.put, List.setIfInBounds_toArray, List.set_cons_succ, List.set_cons_zero]
        refine Rd.seqK_plain (.int .i64 ((x : Int) - 48)) (by simp only [List.getElem?_toArray, List.getElem?_cons_succ, List.getElem?_cons_zero]; rfl) rfl (by rfl) (fun X => by go_simp; try exact IntWalk.i64_in _ (by omega)) ?_
        simp only [Act.put, List.setIfInBounds_toArray, List.set_cons_succ, List.set_cons_zero]
        refine Rd.seqK_move (by simp only [List.getElem?_toArray, List.getElem?_cons_succ, List.getElem?_cons_zero]; rfl) rfl rfl (by rfl) (fun K hK => ?_)
        go_simp
        refine (Of_any 10 W0 (by omega)).mono ?_
        rintro e W1 ⟨v1, rfl, hv1, hb1⟩
        have hr1 := hr.below hb1
        have B1 := B0.trans (hb1.mono B0.size)
        refine hK _ _ (fun _ => trivial) ?_
        clear hK K
        refine Rd.seqK_move (by simp only [List.getElem?_toArray, List.getElem?_cons_succ, List.getElem?_cons_zero]; rfl) rfl rfl (by rfl) (fun K hK => ?_)
        go_simp
        refine (Mul_any _ v1 M 10 W1 hr1 hv1 (by omega) (by have := D_one (m := 10) (by omega); omega)).mono ?_
        rintro e W2 ⟨v2, rfl, hv2, hb2⟩
        have B2 := B1.trans (hb2.mono B1.size)
        refine hK _ _ (fun _ => trivial) ?_
        clear hK K
        refine Rd.seqK_move (by simp only [List.getElem?_toArray, List.getElem?_cons_succ, List.getElem?_cons_zero]; rfl) rfl rfl (by rfl) (fun K hK => ?_)
        go_simp
        rw [HX48.out]
        refine (Of_any (x - 48) W2 (by omega)).mono ?_
        rintro e W3 ⟨v3, rfl, hv3, hb3⟩
        have hv2' := hv2.below hb3
        have B3 := B2.trans (hb3.mono B2.size)
        refine hK _ _ (fun _ => trivial) ?_
        clear hK K
        refine Rd.seqK_move (by simp only [List.getElem?_toArray, List.getElem?_cons_succ, List.getElem?_cons_zero]; rfl) rfl rfl (by rfl) (fun K hK => ?_)
        go_simp
        refine (Add_any v2 v3 (M * 10) (x - 48) W3 hv2' hv3 (by have := D_mul (b := M) (m := 10) (by omega); omega) (by have := D_one (m := x - 48) (by omega); omega)).mono ?_
        rintro e W4 ⟨v4, rfl, hv4, hb4⟩
        have B4 := B3.trans (hb4.mono B3.size)
        obtain ⟨ad4, c4, rfl, -, -⟩ := id hv4
        refine hK _ _ (fun _ => trivial) ?_
        clear hK K
        refine Rd.seqK_move (by simp only [List.getElem?_toArray, List.getElem?_cons_succ, List.getElem?_cons_zero]; rfl) rfl rfl (by rfl) (fun K hK => ?_)
        go_simp
        refine hK _ _ (fun h => absurd h (by omega)) ?_
        refine Rd.seqK_end ?_
        go_wp2_with fail
        go_round
        case rel => exact ⟨k + 1, _, _, c4, ad4, by omega, rfl, by go_num, hv4, HI2.out, B4⟩
        case measure => simp [intOf]; omega
      · have HN : Hid (¬ Dgt s) := Lib.hid (fun h9 => by
          have := h9 _ (byte_mem hlt)
          rw [HX.out] at this
          exact hd this)
        have HF : Hid (ok = false) := Lib.hid (by rw [← Bool.not_eq_true]; exact fun h9 => HN.out (HO.out.1 h9))
        rcases Nat.lt_or_ge x 48 with h1 | h1
        · clear hd HI hr
          go_wp2_with fail
          go_ret2
          exact ⟨.slice none 0 0, by rw [HF.out]; rfl, ⟨fun h => absurd h HN.out, fun _ => rfl⟩, hB⟩
        · have h2 : 57 < x := by omega
          clear hd HI hr
          go_wp2_with fail
          go_ret2
          exact ⟨.slice none 0 0, by rw [HF.out]; rfl, ⟨fun h => absurd h HN.out, fun _ => rfl⟩, hB⟩
    · have HE : Hid (M = readN 0 s ∧ Dgt s) := Lib.hid (by have h9 := HI.out; rw [List.take_of_length_le (by omega)] at h9; exact h9)
      have HF : Hid (ok = true) := Lib.hid (HO.out.2 HE.out.2)
      clear HI
      go_wp2_with fail
      go_ret2
      exact ⟨.slice ad n c, by rw [HF.out]; rfl, ⟨fun _ => by rw [← HE.out.1]; exact hr, fun h => absurd HE.out.2 h⟩, hB⟩
set_option maxRecDepth 100000 in
set_option maxHeartbeats 4000000 in
theorem rRead_nought (s : List UInt8) (ok : Bool) (ho : ok = true ↔ Dgt s) (hl : s.length ≤ 1000) (h0 : s ≠ []) (h1 : s.head? = some 48) (hl1 : s.length ≤ 1) (w : World) :
    Calls Tryd.prog 59 #[.string ⟨s.toArray⟩] w fun e w' => ∃ v, e = .returned (.tuple #[v, .bool ok]) ∧ ReadR s w' v ∧ Below w.heap.size w w' := by
  have HO := Lib.hid ho
  have e1 : (s == []) = false := beq_eq_false_iff_ne.2 h0
  have hpos : 0 < s.length := List.length_pos_iff.2 h0
  have hsz : 0 < (⟨s.toArray⟩ : ByteArray).size := hpos
  have hy : ((⟨s.toArray⟩ : ByteArray)[0]'hsz).toNat = 48 := by
    rw [byte_at]
    cases s with
    | nil => exact absurd rfl h0
    | cons c t =>
      have hc : c = 48 := Option.some.inj h1
      rw [hc]; rfl
  clear h0 h1 ho
  go_enter Tryd.func59, Tryd.ntmps59
  go_wp2_with fail
  go_loopw [4, 20] (fun O i wr => ∃ (k M n c : Nat) (ad : Option Addr), k ≤ s.length ∧ O = .slice ad n c ∧ i = .int .i64 (k : Int) ∧ Row wr (.slice ad n c) (D M) ∧ Hid (M = readN 0 (s.take k) ∧ Dgt (s.take k)) ∧ Below w.heap.size w wr) (fun _ i _ => s.length - (intOf i).toNat)
  case atStart => exact ⟨0, 0, 0, 0, none, Nat.zero_le _, rfl, rfl, ⟨_, _, rfl, Nat.le_refl _, fun h => absurd rfl h⟩, Lib.hid ⟨rfl, fun c hc => by simp at hc⟩, Below.refl _ _⟩
  case round =>
    obtain ⟨k, M, n, c, ad, hk, rfl, rfl, hr, HI, hB⟩ := hrel
    by_cases hlt : k < s.length
    · have hsz : k < (⟨s.toArray⟩ : ByteArray).size := hlt
      obtain ⟨x, hx⟩ : ∃ x : Nat, ((⟨s.toArray⟩ : ByteArray)[k]'hsz).toNat = x := ⟨_, rfl⟩
      have HX : Hid ((s.getD k 0).toNat = x) := Lib.hid (by rw [← hx, byte_at])
      by_cases hd : 48 ≤ x ∧ x ≤ 57
      · have hML : (D M).length ≤ 1000 := by
          have h1 := readN_lt _ (s.take k) rfl HI.out.2
          rw [← HI.out.1, List.length_take, Nat.min_eq_left hk] at h1
          refine Nat.le_trans ((dig_len (by omega) M k).2 (Nat.lt_of_lt_of_le h1 ?_)) (by omega)
          exact Nat.pow_le_pow_left (by omega) _
        have HI2 : Hid (Hid (M * 10 + (x - 48) = readN 0 (s.take (k + 1)) ∧ Dgt (s.take (k + 1)))) := Lib.hid (Lib.hid ⟨by rw [take_snoc hlt, readN_snoc, ← HI.out.1, HX.out], fun c hc => by
          rw [take_snoc hlt] at hc
          rcases List.mem_append.1 hc with hc | hc
          · exact HI.out.2 c hc
          · rw [List.mem_singleton.1 hc, HX.out]; exact hd⟩)
        obtain ⟨hd1, hd2⟩ := hd
        have hx48 : ((x : Int) - 48) = ((x - 48 : Nat) : Int) := by omega
        have HX48 := Lib.hid hx48
        clear HI hx48
        go_wp2_with fail
        refine Rd.regionK (fun _ => True) 10 [0, 3, 4, 5, 6, 7] [] [0, 3, 4, 5, 6, 7, 1, 2, 8, 9, 10] (by kernel_rfl) (by kernel_rfl) (by kernel_rfl) (by kernel_rfl) rfl trivial ?_
        have B0 : Below w.heap.size w wr.drew := hB.drew
        replace hr : Row wr.drew (.slice ad n c) (D M) := hr
        clear hB
        generalize wr.drew = W0 at hr B0 ⊢
        refine Rd.seqK_plain (.slice ad n c) (by simp only [List.getElem?_toArray, List.getElem?_cons_zero]; rfl) rfl (by rfl) (fun X => by go_simp) ?_
        simp only [Act.put, List.setIfInBounds_toArray, List.set_cons_succ, List.set_cons_zero]
        refine Rd.seqK_plain (.string ⟨s.toArray⟩) (by simp only [List.getElem?_toArray, List.getElem?_cons_succ, List.getElem?_cons_zero]; rfl) rfl (by rfl) (fun X => by go_simp) ?_
        simp only [Act.put, List.setIfInBounds_toArray, List.set_cons_succ, List.set_cons_zero]
        refine Rd.seqK_plain (.int .i64 (k : Int)) (by simp only [List.getElem?_toArray, List.getElem?_cons_succ, List.getElem?_cons_zero]; rfl) rfl (by rfl) (fun X => by go_simp) ?_
        simp only [Act.put, List.setIfInBounds_toArray, List.set_cons_succ, List.set_cons_zero]
        refine Rd.seqK_plain (.int .u8 (x : Int)) (by simp only [List.getElem?_toArray, List.getElem?_cons_succ, List.getElem?_cons_zero]; rfl) rfl (by rfl) (fun X => by go_simp) ?_
        simp only [Act.put, List.setIfInBounds_toArray, List.set_cons_succ, List.set_cons_zero]
        refine Rd.seqK_plain (.int .u8 ((x : Int) - 48)) (by simp only [List.getElem?_toArray, List.getElem?_cons_succ, List.getElem?_cons_zero]; rfl) rfl (by rfl) (fun X => by go_simp; try exact IntWalk.u8_in _ (by omega)) ?_
        simp only [Act.put, List.setIfInBounds_toArray, List.set_cons_succ, List.set_cons_zero]
        refine Rd.seqK_plain (.int .i64 ((x : Int) - 48)) (by simp only [List.getElem?_toArray, List.getElem?_cons_succ, List.getElem?_cons_zero]; rfl) rfl (by rfl) (fun X => by go_simp; try exact IntWalk.i64_in _ (by omega)) ?_
        simp only [Act.put, List.setIfInBounds_toArray, List.set_cons_succ, List.set_cons_zero]
        refine Rd.seqK_move (by simp only [List.getElem?_toArray, List.getElem?_cons_succ, List.getElem?_cons_zero]; rfl) rfl rfl (by rfl) (fun K hK => ?_)
        go_simp
        refine (Of_any 10 W0 (by omega)).mono ?_
        rintro e W1 ⟨v1, rfl, hv1, hb1⟩
        have hr1 := hr.below hb1
        have B1 := B0.trans (hb1.mono B0.size)
        refine hK _ _ (fun _ => trivial) ?_
        clear hK K
        refine Rd.seqK_move (by simp only [List.getElem?_toArray, List.getElem?_cons_succ, List.getElem?_cons_zero]; rfl) rfl rfl (by rfl) (fun K hK => ?_)
        go_simp
        refine (Mul_any _ v1 M 10 W1 hr1 hv1 (by omega) (by have := D_one (m := 10) (by omega); omega)).mono ?_
        rintro e W2 ⟨v2, rfl, hv2, hb2⟩
        have B2 := B1.trans (hb2.mono B1.size)
        refine hK _ _ (fun _ => trivial) ?_
        clear hK K
        refine Rd.seqK_move (by simp only [List.getElem?_toArray, List.getElem?_cons_succ, List.getElem?_cons_zero]; rfl) rfl rfl (by rfl) (fun K hK => ?_)
        go_simp
        rw [HX48.out]
        refine (Of_any (x - 48) W2 (by omega)).mono ?_
        rintro e W3 ⟨v3, rfl, hv3, hb3⟩
        have hv2' := hv2.below hb3
        have B3 := B2.trans (hb3.mono B2.size)
        refine hK _ _ (fun _ => trivial) ?_
        clear hK K
        refine Rd.seqK_move (by simp only [List.getElem?_toArray, List.getElem?_cons_succ, List.getElem?_cons_zero]; rfl) rfl rfl (by rfl) (fun K hK => ?_)
        go_simp
        refine (Add_any v2 v3 (M * 10) (x - 48) W3 hv2' hv3 (by have := D_mul (b := M) (m := 10) (by omega); omega) (by have := D_one (m := x - 48) (by omega); omega)).mono ?_
        rintro e W4 ⟨v4, rfl, hv4, hb4⟩
        have B4 := B3.trans (hb4.mono B3.size)
        obtain ⟨ad4, c4, rfl, -, -⟩ := id hv4
        refine hK _ _ (fun _ => trivial) ?_
        clear hK K
        refine Rd.seqK_move (by simp only [List.getElem?_toArray, List.getElem?_cons_succ, List.getElem?_cons_zero]; rfl) rfl rfl (by rfl) (fun K hK => ?_)
        go_simp
        refine hK _ _ (fun h => absurd h (by omega)) ?_
        refine Rd.seqK_end ?_
        go_wp2_with fail
        go_round
        case rel => exact ⟨k + 1, _, _, c4, ad4, by omega, rfl, by go_num, hv4, HI2.out, B4⟩
        case measure => simp [intOf]; omega
      · have HN : Hid (¬ Dgt s) := Lib.hid (fun h9 => by
          have := h9 _ (byte_mem hlt)
          rw [HX.out] at this
          exact hd this)
        have HF : Hid (ok = false) := Lib.hid (by rw [← Bool.not_eq_true]; exact fun h9 => HN.out (HO.out.1 h9))
        rcases Nat.lt_or_ge x 48 with h1 | h1
        · clear hd HI hr
          go_wp2_with fail
          go_ret2
          exact ⟨.slice none 0 0, by rw [HF.out]; rfl, ⟨fun h => absurd h HN.out, fun _ => rfl⟩, hB⟩
        · have h2 : 57 < x := by omega
          clear hd HI hr
          go_wp2_with fail
          go_ret2
          exact ⟨.slice none 0 0, by rw [HF.out]; rfl, ⟨fun h => absurd h HN.out, fun _ => rfl⟩, hB⟩
    · have HE : Hid (M = readN 0 s ∧ Dgt s) := Lib.hid (by have h9 := HI.out; rw [List.take_of_length_le (by omega)] at h9; exact h9)
      have HF : Hid (ok = true) := Lib.hid (HO.out.2 HE.out.2)
      clear HI
      go_wp2_with fail
      go_ret2
      exact ⟨.slice ad n c, by rw [HF.out]; rfl, ⟨fun _ => by rw [← HE.out.1]; exact hr, fun h => absurd HE.out.2 h⟩, hB⟩
set_option maxRecDepth 100000 in
set_option maxHeartbeats 4000000 in
theorem rRead_none (s : List UInt8) (h : s = [] ∨ (s.head? = some 48 ∧ 1 < s.length)) (w : World) :
    Calls Tryd.prog 59 #[.string ⟨s.toArray⟩] w fun e w' => e = .returned (.tuple #[.slice none 0 0, .bool false]) ∧ w = w' := by
  rcases h with h | ⟨h1, h2⟩
  · subst h
    go_enter Tryd.func59, Tryd.ntmps59
    go_wp2_with fail
    go_ret2
    exact ⟨rfl, rfl⟩
  · have h0 : s ≠ [] := fun e => by rw [e] at h2; simp at h2
    have e1 : (s == []) = false := beq_eq_false_iff_ne.2 h0
    have hsz : 0 < (⟨s.toArray⟩ : ByteArray).size := Nat.lt_trans (by omega) h2
    have hy : ((⟨s.toArray⟩ : ByteArray)[0]'hsz).toNat = 48 := by
      rw [byte_at]
      cases s with
      | nil => exact absurd rfl h0
      | cons c t =>
        have hc : c = 48 := Option.some.inj h1
        rw [hc]; rfl
    clear h0 h1
    go_enter Tryd.func59, Tryd.ntmps59
    go_wp2_with fail
    go_ret2
    exact ⟨rfl, rfl⟩
theorem rRead_yes (s : List UInt8) (hl : s.length ≤ 1000) (h : IsText s) (w : World) :
    Calls Tryd.prog 59 #[.string ⟨s.toArray⟩] w fun e w' => ∃ v, e = .returned (.tuple #[v, .bool true]) ∧ Row w' v (D (readN 0 s)) ∧ Below w.heap.size w w' := by
  have hk : Calls Tryd.prog 59 #[.string ⟨s.toArray⟩] w fun e w' => ∃ v, e = .returned (.tuple #[v, .bool true]) ∧ ReadR s w' v ∧ Below w.heap.size w w' := by
    by_cases h1 : s.head? = some 48
    · exact rRead_nought s true ⟨fun _ => h.1, fun _ => rfl⟩ hl h.2.1 h1 (Nat.le_of_eq (h.2.2.resolve_left (fun h9 => h9 h1))) w
    · exact rRead_plain s true ⟨fun _ => h.1, fun _ => rfl⟩ hl h.2.1 h1 w
  refine hk.mono ?_
  rintro e w' ⟨v, rfl, hr, hb⟩
  exact ⟨v, rfl, hr.1 h.1, hb⟩
theorem rRead_no (s : List UInt8) (hl : s.length ≤ 1000) (h : ¬ IsText s) (w : World) :
    Calls Tryd.prog 59 #[.string ⟨s.toArray⟩] w fun e w' => e = .returned (.tuple #[.slice none 0 0, .bool false]) ∧ Below w.heap.size w w' := by
  by_cases h0 : s = [] ∨ (s.head? = some 48 ∧ 1 < s.length)
  · refine (rRead_none s h0 w).mono ?_
    rintro e w' ⟨rfl, rfl⟩
    exact ⟨rfl, Below.refl _ _⟩
  · have hne : s ≠ [] := fun e => h0 (.inl e)
    have hpos : 0 < s.length := List.length_pos_iff.2 hne
    have hd : ¬ Dgt s := fun hd => h ⟨hd, hne, by
      by_cases h1 : s.head? = some 48
      · right
        have h2 : ¬ 1 < s.length := fun h3 => h0 (.inr ⟨h1, h3⟩)
        omega
      · exact .inl h1⟩
    have hk : Calls Tryd.prog 59 #[.string ⟨s.toArray⟩] w fun e w' => ∃ v, e = .returned (.tuple #[v, .bool false]) ∧ ReadR s w' v ∧ Below w.heap.size w w' := by
      by_cases h1 : s.head? = some 48
      · exact rRead_nought s false ⟨fun e => (by cases e), fun e => absurd e hd⟩ hl hne h1 (by
          have h2 : ¬ 1 < s.length := fun h3 => h0 (.inr ⟨h1, h3⟩)
          omega) w
      · exact rRead_plain s false ⟨fun e => (by cases e), fun e => absurd e hd⟩ hl hne h1 w
    refine hk.mono ?_
    rintro e w' ⟨v, rfl, hr, hb⟩
    rw [hr.2 hd]
    exact ⟨rfl, hb⟩
end Go.Proofs.YtnfoblmfjldheaaDoor
