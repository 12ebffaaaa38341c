/-
  Reading a ratio, the program's way and the document's: just the texts of fractions in lowest terms are read. Condition: not more than 200 bytes.
-/
import Derived.Shelf.Strings.Search1
import Derived.Shelf.Strings.Search2
import Derived.Test.YtnfoblmfjldheaaDoorProg
import Derived.Test.YtnfoblmfjldheaaDoorTx
import Derived.Test.YtnfoblmfjldheaaDoorRg
import Derived.Test.YtnfoblmfjldheaaDoorQf
import Derived.Lib.Bytealg
import Derived.Test.YtnfoblmfjldheaaDoorQm
import Derived.Test.YtnfoblmfjldheaaDoorTy
namespace Go.Proofs
open Go.Shelf
def Tryd.lays219_ren : Go.Shelf.Ren := ⟨fun | 219 => 92 | 217 => 101 | 225 => 102 | 224 => 103 | 267 => 104 | 266 => 107 | 314 => 108 | n => n, fun | 9 => 9 | 3 => 3 | 4 => 4 | 5 => 5 | 46 => 121 | 146 => 131 | 51 => 130 | n => n, fun | 1 => 2 | n => n⟩
theorem Tryd.lays219 : Go.Proofs.Lays.n219 Tryd.prog Tryd.lays219_ren := {
  mixed := by kernel_rfl
  f217 := Tryd.func101.trans (congrArg some (by kernel_rfl))
  f219 := Tryd.func92.trans (congrArg some (by kernel_rfl))
  f224 := Tryd.func103.trans (congrArg some (by kernel_rfl))
  f225 := Tryd.func102.trans (congrArg some (by kernel_rfl))
  f266 := Tryd.func107.trans (congrArg some (by kernel_rfl))
  f267 := Tryd.func104.trans (congrArg some (by kernel_rfl))
  f314 := Tryd.func108.trans (congrArg some (by kernel_rfl))
  t3 := Tryd.underlying3
  a3 := Tryd.isAgg3
  z3 := Tryd.sizeOf3
  v3 := Tryd.zeroValue3
  t4 := Tryd.underlying4
  a4 := Tryd.isAgg4
  z4 := Tryd.sizeOf4
  v4 := Tryd.zeroValue4
  t5 := Tryd.underlying5
  a5 := Tryd.isAgg5
  z5 := Tryd.sizeOf5
  v5 := Tryd.zeroValue5
  t9 := Tryd.underlying9
  a9 := Tryd.isAgg9
  z9 := Tryd.sizeOf9
  v9 := Tryd.zeroValue9
  t46 := Tryd.underlying121
  a46 := Tryd.isAgg121
  z46 := Tryd.sizeOf121
  v46 := Tryd.zeroValue121
  t51 := Tryd.underlying130
  a51 := Tryd.isAgg130
  z51 := Tryd.sizeOf130
  v51 := Tryd.zeroValue130
  t146 := Tryd.underlying131
  a146 := Tryd.isAgg131
  z146 := Tryd.sizeOf131
  v146 := Tryd.zeroValue131
  g1 := by kernel_rfl }
open Go.RowKit Go.Lib in
/-- internal/stringslite.Index (what strings.Index calls) AT A substr OF ONE BYTE c: IT RETURNS 'Lib.indexByte s c'; the world is as it was. (LAID: no walk: one application.) -/
theorem Tryd.stringslite_Index_one (s : ByteArray) (c : UInt8) (w : World) :
    Calls Tryd.prog 92 #[.string s, .string ⟨#[c]⟩] w fun e w' => e = .returned (.int .i64 (Lib.indexByte s.data.toList c)) ∧ w' = w := Any.stringslite_Index_one Tryd.lays219 s c w
end Go.Proofs
namespace Go.Proofs.YtnfoblmfjldheaaDoor
open Go.RowKit Go.Dig Go.Shelf Go.Proofs

/-- what it answers, where the text isn't empty, and begins with 0 only alone. -/
def ReadR (s : List UInt8) (w : World) (v : Value) : Prop := (Dgt s → Row w v (D (readN 0 s))) ∧ (¬ Dgt s → v = .slice none 0 0)
set_option maxRecDepth 100000 in
set_option maxHeartbeats 4000000 in
theorem rRead_plain (s : List UInt8) (ok : Bool) (ho : ok = true ↔ Dgt s) (hl : s.length ≤ 1000) (h0 : s ≠ []) (h1 : s.head? ≠ some 48) (w : World) :
    Calls Tryd.prog 59 #[.string ⟨s.toArray⟩] w fun e w' => ∃ v, e = .returned (.tuple #[v, .bool ok]) ∧ ReadR s w' v ∧ Below w.heap.size w w' := by
  have HO := Lib.hid ho
  have e1 : (s == []) = false := beq_eq_false_iff_ne.2 h0
  have hpos : 0 < s.length := List.length_pos_iff.2 h0
  have hsz : 0 < (⟨s.toArray⟩ : ByteArray).size := hpos
  obtain ⟨y, hy⟩ : ∃ y : Nat, ((⟨s.toArray⟩ : ByteArray)[0]'hsz).toNat = y := ⟨_, rfl⟩
  have hy2 : ((y : Int) == 48) = false := beq_eq_false_iff_ne.2 (fun e => h1 (by
    rw [byte_at] at hy
    have hh : s.head? = some (s.getD 0 0) := by
      cases s with
      | nil => exact absurd rfl h0
      | cons c t => rfl
    rw [hh, UInt8.toNat_inj.1 (show (s.getD 0 0).toNat = (48 : UInt8).toNat by rw [hy]; show y = 48; omega)]))
  clear h0 h1 ho
  go_enter Tryd.func59, Tryd.ntmps59
  go_wp2_with fail
  go_loopw [4, 20] (fun O i wr => ∃ (k M n c : Nat) (ad : Option Addr), k ≤ s.length ∧ O = .slice ad n c ∧ i = .int .i64 (k : Int) ∧ Row wr (.slice ad n c) (D M) ∧ Hid (M = readN 0 (s.take k) ∧ Dgt (s.take k)) ∧ Below w.heap.size w wr) (fun _ i _ => s.length - (intOf i).toNat)
  case atStart => exact ⟨0, 0, 0, 0, none, Nat.zero_le _, rfl, rfl, ⟨_, _, rfl, Nat.le_refl _, fun h => absurd rfl h⟩, Lib.hid ⟨rfl, fun c hc => by simp at hc⟩, Below.refl _ _⟩
  case round =>
    obtain ⟨k, M, n, c, ad, hk, rfl, rfl, hr, HI, hB⟩ := hrel
    by_cases hlt : k < s.length
    · have hsz : k < (⟨s.toArray⟩ : ByteArray).size := hlt
      obtain ⟨x, hx⟩ : ∃ x : Nat, ((⟨s.toArray⟩ : ByteArray)[k]'hsz).toNat = x := ⟨_, rfl⟩
      have HX : Hid ((s.getD k 0).toNat = x) := Lib.hid (by rw [← hx, byte_at])
      by_cases hd : 48 ≤ x ∧ x ≤ 57
      · have hML : (D M).length ≤ 1000 := by
          have h1 := readN_lt _ (s.take k) rfl HI.out.2
          rw [← HI.out.1, List.length_take, Nat.min_eq_left hk] at h1
          refine Nat.le_trans ((dig_len (by omega) M k).2 (Nat.lt_of_lt_of_le h1 ?_)) (by omega)
          exact Nat.pow_le_pow_left (by omega) _
        have HI2 : Hid (Hid (M * 10 + (x - 48) = readN 0 (s.take (k + 1)) ∧ Dgt (s.take (k + 1)))) := Lib.hid (Lib.hid ⟨by rw [take_snoc hlt, readN_snoc, ← HI.out.1, HX.out], fun c hc => by
          rw [take_snoc hlt] at hc
          rcases List.mem_append.1 hc with hc | hc
          · exact HI.out.2 c hc
          · rw [List.mem_singleton.1 hc, HX.out]; exact hd⟩)
        obtain ⟨hd1, hd2⟩ := hd
        have hx48 : ((x : Int) - 48) = ((x - 48 : Nat) : Int) := by omega
        have HX48 := Lib.hid hx48
        clear HI hx48
        go_wp2_with fail
        refine Rd.regionK (fun _ => True) 10 [0, 3, 4, 5, 6, 7] [] [0, 3, 4, 5, 6, 7, 1, 2, 8, 9, 10] (by kernel_rfl) (by kernel_rfl) (by kernel_rfl) (by kernel_rfl) rfl trivial ?_
        have B0 : Below w.heap.size w wr.drew := hB.drew
        replace hr : Row wr.drew (.slice ad n c) (D M) := hr
        clear hB
        generalize wr.drew = W0 at hr B0 ⊢
        refine Rd.seqK_plain (.slice ad n c) (by simp only [List.getElem?_toArray, List.getElem?_cons_zero]; rfl) rfl (by rfl) (fun X => by go_simp) ?_
        simp only [Act.put, List.setIfInBounds_toArray, List.set_cons_succ, List.set_cons_zero]
        refine Rd.seqK_plain (.string ⟨s.toArray⟩) (by simp only [List.getElem?_toArray, List.getElem?_cons_succ, List.getElem?_cons_zero]; rfl) rfl (by rfl) (fun X => by go_simp) ?_
        simp only [Act.put, List.setIfInBounds_toArray, List.set_cons_succ, List.set_cons_zero]
        refine Rd.seqK_plain (.int .i64 (k : Int)) (by simp only [List.getElem?_toArray, List.getElem?_cons_succ, List.getElem?_cons_zero]; rfl) rfl (by rfl) (fun X => by go_simp) ?_
        simp only [Act.put, List.setIfInBounds_toArray, List.set_cons_succ, List.set_cons_zero]
        refine Rd.seqK_plain (.int .u8 (x : Int)) (by simp only [List.getElem?_toArray, List.getElem?_cons_succ, List.getElem?_cons_zero]; rfl) rfl (by rfl) (fun X => by go_simp) ?_
        simp only [Act.put, List.setIfInBounds_toArray, List.set_cons_succ, List.set_cons_zero]
        refine Rd.seqK_plain (.int .u8 ((x : Int) - 48)) (by simp only [List.getElem?_toArray, List.getElem?_cons_succ, List.getElem?_cons_zero]; rfl) rfl (by rfl) (fun X => by go_simp; try exact IntWalk.u8_in _ (by omega)) ?_
        simp only [Act.put, List.setIfInBounds_toArray, List.set_cons_succ, List.set_cons_zero]
        refine Rd.seqK_plain (.int .i64 ((x : Int) - 48)) (by simp only [List.getElem?_toArray, List.getElem?_cons_succ, List.getElem?_cons_zero]; rfl) rfl (by rfl) (fun X => by go_simp; try exact IntWalk.i64_in _ (by omega)) ?_
        simp only [Act.put, List.setIfInBounds_toArray, List.set_cons_succ, List.set_cons_zero]
        refine Rd.seqK_move (by simp only [List.getElem?_toArray, List.getElem?_cons_succ, List.getElem?_cons_zero]; rfl) rfl rfl (by rfl) (fun K hK => ?_)
        go_simp
        refine (Of_any 10 W0 (by omega)).mono ?_
        rintro e W1 ⟨v1, rfl, hv1, hb1⟩
        have hr1 := hr.below hb1
        have B1 := B0.trans (hb1.mono B0.size)
        refine hK _ _ (fun _ => trivial) ?_
        clear hK K
        refine Rd.seqK_move (by simp only [List.getElem?_toArray, List.getElem?_cons_succ, List.getElem?_cons_zero]; rfl) rfl rfl (by rfl) (fun K hK => ?_)
        go_simp
        refine (Mul_any _ v1 M 10 W1 hr1 hv1 (by omega) (by have := D_one (m := 10) (by omega); omega)).mono ?_
        rintro e W2 ⟨v2, rfl, hv2, hb2⟩
        have B2 := B1.trans (hb2.mono B1.size)
        refine hK _ _ (fun _ => trivial) ?_
        clear hK K
        refine Rd.seqK_move (by simp only [List.getElem?_toArray, List.getElem?_cons_succ, List.getElem?_cons_zero]; rfl) rfl rfl (by rfl) (fun K hK => ?_)
        go_simp
        rw [HX48.out]
        refine (Of_any (x - 48) W2 (by omega)).mono ?_
        rintro e W3 ⟨v3, rfl, hv3, hb3⟩
        have hv2' := hv2.below hb3
        have B3 := B2.trans (hb3.mono B2.size)
        refine hK _ _ (fun _ => trivial) ?_
        clear hK K
        refine Rd.seqK_move (by simp only [List.getElem?_toArray, List.getElem?_cons_succ, List.getElem?_cons_zero]; rfl) rfl rfl (by rfl) (fun K hK => ?_)
        go_simp
        refine (Add_any v2 v3 (M * 10) (x - 48) W3 hv2' hv3 (by have := D_mul (b := M) (m := 10) (by omega); omega) (by have := D_one (m := x - 48) (by omega); omega)).mono ?_
        rintro e W4 ⟨v4, rfl, hv4, hb4⟩
        have B4 := B3.trans (hb4.mono B3.size)
        obtain ⟨ad4, c4, rfl, -, -⟩ := id hv4
        refine hK _ _ (fun _ => trivial) ?_
        clear hK K
        refine Rd.seqK_move (by simp only [List.getElem?_toArray, List.getElem?_cons_succ, List.getElem?_cons_zero]; rfl) rfl rfl (by rfl) (fun K hK => ?_)
        go_simp
        refine hK _ _ (fun h => absurd h (by omega)) ?_
        refine Rd.seqK_end ?_
        go_wp2_with fail
        go_round
        case rel => exact ⟨k + 1, _, _, c4, ad4, by omega, rfl, by go_num, hv4, HI2.out, B4⟩
        case measure => simp [intOf]; omega
      · have HN : Hid (¬ Dgt s) := Lib.hid (fun h9 => by
          have := h9 _ (byte_mem hlt)
          rw [HX.out] at this
          exact hd this)
        have HF : Hid (ok = false) := Lib.hid (by rw [← Bool.not_eq_true]; exact fun h9 => HN.out (HO.out.1 h9))
        rcases Nat.lt_or_ge x 48 with h1 | h1
        · clear hd HI hr
          go_wp2_with fail
          go_ret2
          exact ⟨.slice none 0 0, by rw [HF.out]; rfl, ⟨fun h => absurd h HN.out, fun _ => rfl⟩, hB⟩
        · have h2 : 57 < x := by omega
          clear hd HI hr
          go_wp2_with fail
          go_ret2
          exact ⟨.slice none 0 0, by rw [HF.out]; rfl, ⟨fun h => absurd h HN.out, fun _ => rfl⟩, hB⟩
    · have HE : Hid (M = readN 0 s ∧ Dgt s) := Lib.hid (by have h9 := HI.out; rw [List.take_of_length_le (by omega)] at h9; exact h9)
      have HF : Hid (ok = true) := Lib.hid (HO.out.2 HE.out.2)
      clear HI
      go_wp2_with fail
      go_ret2
      exact ⟨.slice ad n c, by rw [HF.out]; rfl, ⟨fun _ => by rw [← HE.out.1]; exact hr, fun h => absurd HE.out.2 h⟩, hB⟩
set_option maxRecDepth 100000 in
set_option maxHeartbeats 4000000 in
theorem rRead_nought (s : List UInt8) (ok : Bool) (ho : ok = true ↔ Dgt s) (hl : s.length ≤ 1000) (h0 : s ≠ []) (h1 : s.head? = some 48) (hl1 : s.length ≤ 1) (w : World) :
    Calls Tryd.prog 59 #[.string ⟨s.toArray⟩] w fun e w' => ∃ v, e = .returned (.tuple #[v, .bool ok]) ∧ ReadR s w' v ∧ Below w.heap.size w w' := by
  have HO := Lib.hid ho
  have e1 : (s == []) = false := beq_eq_false_iff_ne.2 h0
  have hpos : 0 < s.length := List.length_pos_iff.2 h0
  have hsz : 0 < (⟨s.toArray⟩ : ByteArray).size := hpos
  have hy : ((⟨s.toArray⟩ : ByteArray)[0]'hsz).toNat = 48 := by
    rw [byte_at]
    cases s with
    | nil => exact absurd rfl h0
    | cons c t =>
      have hc : c = 48 := Option.some.inj h1
      rw [hc]; rfl
  clear h0 h1 ho
  go_enter Tryd.func59, Tryd.ntmps59
  go_wp2_with fail
  go_loopw [4, 20] (fun O i wr => ∃ (k M n c : Nat) (ad : Option Addr), k ≤ s.length ∧ O = .slice ad n c ∧ i = .int .i64 (k : Int) ∧ Row wr (.slice ad n c) (D M) ∧ Hid (M = readN 0 (s.take k) ∧ Dgt (s.take k)) ∧ Below w.heap.size w wr) (fun _ i _ => s.length - (intOf i).toNat)
  case atStart => exact ⟨0, 0, 0, 0, none, Nat.zero_le _, rfl, rfl, ⟨_, _, rfl, Nat.le_refl _, fun h => absurd rfl h⟩, Lib.hid ⟨rfl, fun c hc => by simp at hc⟩, Below.refl _ _⟩
  case round =>
    obtain ⟨k, M, n, c, ad, hk, rfl, rfl, hr, HI, hB⟩ := hrel
    by_cases hlt : k < s.length
    · have hsz : k < (⟨s.toArray⟩ : ByteArray).size := hlt
      obtain ⟨x, hx⟩ : ∃ x : Nat, ((⟨s.toArray⟩ : ByteArray)[k]'hsz).toNat = x := ⟨_, rfl⟩
      have HX : Hid ((s.getD k 0).toNat = x) := Lib.hid (by rw [← hx, byte_at])
      by_cases hd : 48 ≤ x ∧ x ≤ 57
      · have hML : (D M).length ≤ 1000 := by
          have h1 := readN_lt _ (s.take k) rfl HI.out.2
          rw [← HI.out.1, List.length_take, Nat.min_eq_left hk] at h1
          refine Nat.le_trans ((dig_len (by omega) M k).2 (Nat.lt_of_lt_of_le h1 ?_)) (by omega)
          exact Nat.pow_le_pow_left (by omega) _
        have HI2 : Hid (Hid (M * 10 + (x - 48) = readN 0 (s.take (k + 1)) ∧ Dgt (s.take (k + 1)))) := Lib.hid (Lib.hid ⟨by rw [take_snoc hlt, readN_snoc, ← HI.out.1, HX.out], fun c hc => by
          rw [take_snoc hlt] at hc
          rcases List.mem_append.1 hc with hc | hc
          · exact HI.out.2 c hc
          · rw [List.mem_singleton.1 hc, HX.out]; exact hd⟩)
        obtain ⟨hd1, hd2⟩ := hd
        have hx48 : ((x : Int) - 48) = ((x - 48 : Nat) : Int) := by omega
        have HX48 := Lib.hid hx48
        clear HI hx48
        go_wp2_with fail
        refine Rd.regionK (fun _ => True) 10 [0, 3, 4, 5, 6, 7] [] [0, 3, 4, 5, 6, 7, 1, 2, 8, 9, 10] (by kernel_rfl) (by kernel_rfl) (by kernel_rfl) (by kernel_rfl) rfl trivial ?_
        have B0 : Below w.heap.size w wr.drew := hB.drew
        replace hr : Row wr.drew (.slice ad n c) (D M) := hr
        clear hB
        generalize wr.drew = W0 at hr B0 ⊢
        refine Rd.seqK_plain (.slice ad n c) (by simp only [List.getElem?_toArray, List.getElem?_cons_zero]; rfl) rfl (by rfl) (fun X => by go_simp) ?_
        simp only [Act.put, List.setIfInBounds_toArray, List.set_cons_succ, List.set_cons_zero]
        refine Rd.seqK_plain (.string ⟨s.toArray⟩) (by simp only [List.getElem?_toArray, List.getElem?_cons_succ, List.getElem?_cons_zero]; rfl) rfl (by rfl) (fun X => by go_simp) ?_
        simp only [Act.put, List.setIfInBounds_toArray, List.set_cons_succ, List.set_cons_zero]
        refine Rd.seqK_plain (.int .i64 (k : Int)) (by simp only [List.getElem?_toArray, List.getElem?_cons_succ, List.getElem?_cons_zero]; rfl) rfl (by rfl) (fun X => by go_simp) ?_
        simp only [Act.put, List.setIfInBounds_toArray, List.set_cons_succ, List.set_cons_zero]
        refine Rd.seqK_plain (.int .u8 (x : Int)) (by simp only [List.getElem?_toArray, List.getElem?_cons_succ, List.getElem?_cons_zero]; rfl) rfl (by rfl) (fun X => by go_simp) ?_
        simp only [Act.put, List.setIfInBounds_toArray, List.set_cons_succ, List.set_cons_zero]
        refine Rd.seqK_plain (.int .u8 ((x : Int) - 48)) (by simp only [List.getElem?_toArray, List.getElem?_cons_succ, List.getElem?_cons_zero]; rfl) rfl (by rfl) (fun X => by go_simp; try exact IntWalk.u8_in _ (by omega)) ?_
        simp only [Act.put, List.setIfInBounds_toArray, List.set_cons_succ, List.set_cons_zero]
        refine Rd.seqK_plain (.int .i64 ((x : Int) - 48)) (by simp only [List.getElem?_toArray, List.getElem?_cons_succ, List.getElem?_cons_zero]; rfl) rfl (by rfl) (fun X => by go_simp; try exact IntWalk.i64_in _ (by omega)) ?_
        simp only [Act.put, List.setIfInBounds_toArray, List.set_cons_succ, List.set_cons_zero]
        refine Rd.seqK_move (by simp only [List.getElem?_toArray, List.getElem?_cons_succ, List.getElem?_cons_zero]; rfl) rfl rfl (by rfl) (fun K hK => ?_)
        go_simp
        refine (Of_any 10 W0 (by omega)).mono ?_
        rintro e W1 ⟨v1, rfl, hv1, hb1⟩
        have hr1 := hr.below hb1
        have B1 := B0.trans (hb1.mono B0.size)
        refine hK _ _ (fun _ => trivial) ?_
        clear hK K
        refine Rd.seqK_move (by simp only [List.getElem?_toArray, List.getElem?_cons_succ, List.getElem?_cons_zero]; rfl) rfl rfl (by rfl) (fun K hK => ?_)
        go_simp
        refine (Mul_any _ v1 M 10 W1 hr1 hv1 (by omega) (by have := D_one (m := 10) (by omega); omega)).mono ?_
        rintro e W2 ⟨v2, rfl, hv2, hb2⟩
        have B2 := B1.trans (hb2.mono B1.size)
        refine hK _ _ (fun _ => trivial) ?_
        clear hK K
        refine Rd.seqK_move (by simp only [List.getElem?_toArray, List.getElem?_cons_succ, List.getElem?_cons_zero]; rfl) rfl rfl (by rfl) (fun K hK => ?_)
        go_simp
        rw [HX48.out]
        refine (Of_any (x - 48) W2 (by omega)).mono ?_
        rintro e W3 ⟨v3, rfl, hv3, hb3⟩
        have hv2' := hv2.below hb3
        have B3 := B2.trans (hb3.mono B2.size)
        refine hK _ _ (fun _ => trivial) ?_
        clear hK K
        refine Rd.seqK_move (by simp only [List.getElem?_toArray, List.getElem?_cons_succ, List.getElem?_cons_zero]; rfl) rfl rfl (by rfl) (fun K hK => ?_)
        go_simp
        refine (Add_any v2 v3 (M * 10) (x - 48) W3 hv2' hv3 (by have := D_mul (b := M) (m := 10) (by omega); omega) (by have := D_one (m := x - 48) (by omega); omega)).mono ?_
        rintro e W4 ⟨v4, rfl, hv4, hb4⟩
        have B4 := B3.trans (hb4.mono B3.size)
        obtain ⟨ad4, c4, rfl, -, -⟩ := id hv4
        refine hK _ _ (fun _ => trivial) ?_
        clear hK K
        refine Rd.seqK_move (by simp only [List.getElem?_toArray, List.getElem?_cons_succ, List.getElem?_cons_zero]; rfl) rfl rfl (by rfl) (fun K hK => ?_)
        go_simp
        refine hK _ _ (fun h => absurd h (by omega)) ?_
        refine Rd.seqK_end ?_
        go_wp2_with fail
        go_round
        case rel => exact ⟨k + 1, _, _, c4, ad4, by omega, rfl, by go_num, hv4, HI2.out, B4⟩
        case measure => simp [intOf]; omega
      · have HN : Hid (¬ Dgt s) := Lib.hid (fun h9 => by
          have := h9 _ (byte_mem hlt)
          rw [HX.out] at this
          exact hd this)
        have HF : Hid (ok = false) := Lib.hid (by rw [← Bool.not_eq_true]; exact fun h9 => HN.out (HO.out.1 h9))
        rcases Nat.lt_or_ge x 48 with h1 | h1
        · clear hd HI hr
          go_wp2_with fail
          go_ret2
          exact ⟨.slice none 0 0, by rw [HF.out]; rfl, ⟨fun h => absurd h HN.out, fun _ => rfl⟩, hB⟩
        · have h2 : 57 < x := by omega
          clear hd HI hr
          go_wp2_with fail
          go_ret2
          exact ⟨.slice none 0 0, by rw [HF.out]; rfl, ⟨fun h => absurd h HN.out, fun _ => rfl⟩, hB⟩
    · have HE : Hid (M = readN 0 s ∧ Dgt s) := Lib.hid (by have h9 := HI.out; rw [List.take_of_length_le (by omega)] at h9; exact h9)
      have HF : Hid (ok = true) := Lib.hid (HO.out.2 HE.out.2)
      clear HI
      go_wp2_with fail
      go_ret2
      exact ⟨.slice ad n c, by rw [HF.out]; rfl, ⟨fun _ => by rw [← HE.out.1]; exact hr, fun h => absurd HE.out.2 h⟩, hB⟩
set_option maxRecDepth 100000 in
set_option maxHeartbeats 4000000 in
theorem rRead_none (s : List UInt8) (h : s = [] ∨ (s.head? = some 48 ∧ 1 < s.length)) (w : World) :
    Calls Tryd.prog 59 #[.string ⟨s.toArray⟩] w fun e w' => e = .returned (.tuple #[.slice none 0 0, .bool false]) ∧ w = w' := by
  rcases h with h | ⟨h1, h2⟩
  · subst h
    go_enter Tryd.func59, Tryd.ntmps59
    go_wp2_with fail
    go_ret2
    exact ⟨rfl, rfl⟩
  · have h0 : s ≠ [] := fun e => by rw [e] at h2; simp at h2
    have e1 : (s == []) = false := beq_eq_false_iff_ne.2 h0
    have hsz : 0 < (⟨s.toArray⟩ : ByteArray).size := Nat.lt_trans (by omega) h2
    have hy : ((⟨s.toArray⟩ : ByteArray)[0]'hsz).toNat = 48 := by
      rw [byte_at]
      cases s with
      | nil => exact absurd rfl h0
      | cons c t =>
        have hc : c = 48 := Option.some.inj h1
        rw [hc]; rfl
    clear h0 h1
    go_enter Tryd.func59, Tryd.ntmps59
    go_wp2_with fail
    go_ret2
    exact ⟨rfl, rfl⟩
theorem rRead_yes (s : List UInt8) (hl : s.length ≤ 1000) (h : IsText s) (w : World) :
    Calls Tryd.prog 59 #[.string ⟨s.toArray⟩] w fun e w' => ∃ v, e = .returned (.tuple #[v, .bool true]) ∧ Row w' v (D (readN 0 s)) ∧ Below w.heap.size w w' := by
  have hk : Calls Tryd.prog 59 #[.string ⟨s.toArray⟩] w fun e w' => ∃ v, e = .returned (.tuple #[v, .bool true]) ∧ ReadR s w' v ∧ Below w.heap.size w w' := by
    by_cases h1 : s.head? = some 48
    · exact rRead_nought s true ⟨fun _ => h.1, fun _ => rfl⟩ hl h.2.1 h1 (Nat.le_of_eq (h.2.2.resolve_left (fun h9 => h9 h1))) w
    · exact rRead_plain s true ⟨fun _ => h.1, fun _ => rfl⟩ hl h.2.1 h1 w
  refine hk.mono ?_
  rintro e w' ⟨v, rfl, hr, hb⟩
  exact ⟨v, rfl, hr.1 h.1, hb⟩
theorem rRead_no (s : List UInt8) (hl : s.length ≤ 1000) (h : ¬ IsText s) (w : World) :
    Calls Tryd.prog 59 #[.string ⟨s.toArray⟩] w fun e w' => e = .returned (.tuple #[.slice none 0 0, .bool false]) ∧ Below w.heap.size w w' := by
  by_cases h0 : s = [] ∨ (s.head? = some 48 ∧ 1 < s.length)
  · refine (rRead_none s h0 w).mono ?_
    rintro e w' ⟨rfl, rfl⟩
    exact ⟨rfl, Below.refl _ _⟩
  · have hne : s ≠ [] := fun e => h0 (.inl e)
    have hpos : 0 < s.length := List.length_pos_iff.2 hne
    have hd : ¬ Dgt s := fun hd => h ⟨hd, hne, by
      by_cases h1 : s.head? = some 48
      · right
        have h2 : ¬ 1 < s.length := fun h3 => h0 (.inr ⟨h1, h3⟩)
        omega
      · exact .inl h1⟩
    have hk : Calls Tryd.prog 59 #[.string ⟨s.toArray⟩] w fun e w' => ∃ v, e = .returned (.tuple #[v, .bool false]) ∧ ReadR s w' v ∧ Below w.heap.size w w' := by
      by_cases h1 : s.head? = some 48
      · exact rRead_nought s false ⟨fun e => (by cases e), fun e => absurd e hd⟩ hl hne h1 (by
          have h2 : ¬ 1 < s.length := fun h3 => h0 (.inr ⟨h1, h3⟩)
          omega) w
      · exact rRead_plain s false ⟨fun e => (by cases e), fun e => absurd e hd⟩ hl hne h1 w
    refine hk.mono ?_
    rintro e w' ⟨v, rfl, hr, hb⟩
    rw [hr.2 hd]
    exact ⟨rfl, hb⟩
end Go.Proofs.YtnfoblmfjldheaaDoor
namespace Go.Proofs.YtnfoblmfjldheaaDoor
open Go.RowKit Go.Dig Go.Shelf Go.Proofs

theorem RowU.slg {w : World} {v : Value} {l : List Nat} (h : RowU w v l) : ∃ p : Sl, v = .slice p.a p.n p.c ∧ RowU w (.slice p.a p.n p.c) l := by
  obtain ⟨a, c, rfl, h1, h2⟩ := h
  exact ⟨⟨a, l.length, c⟩, rfl, ⟨a, c, rfl, h1, h2⟩⟩
abbrev RL (w : World) (p : Sl) (l : List Nat) : Prop := RowU w (.slice p.a p.n p.c) l
set_option maxRecDepth 100000 in
set_option maxHeartbeats 4000000 in
theorem qgood_no1 (a1 b1 : Sl) (l11 l12 : List Nat) (w : World) (ra1 : RL w a1 l11) (rb1 : RL w b1 l12) (K1 : Hid (l11.length ≤ 1000000)) (HG1 : Hid (goodB l11 = false)) :
    Calls Tryd.prog 15 #[.agg #[.slice a1.a a1.n a1.c, .slice b1.a b1.n b1.c]] w fun e w' => e = .returned (.bool false) ∧ Below w.heap.size w w' := by
  go_enter Tryd.func15, Tryd.ntmps15
  have hb : Below w.heap.size w (w.alloc (.cells #[.slice a1.a a1.n a1.c, .slice b1.a b1.n b1.c] 30)) := ((Below.refl _ _).alloc (Nat.le_refl _) _)
  replace ra1 := ra1.below hb
  replace rb1 := rb1.below hb
  have hB := hb
  have P1 : Pair (w.alloc (.cells #[.slice a1.a a1.n a1.c, .slice b1.a b1.n b1.c] 30)) (w.heap.size) 30 (.slice a1.a a1.n a1.c) (.slice b1.a b1.n b1.c) := by
    have h := Pair.new w 30 (.slice a1.a a1.n a1.c) (.slice b1.a b1.n b1.c)
    simpa only [World.size_alloc] using h
  clear hb
  have c0P1 := P1.c0
  have c1P1 := P1.c1
  have H2 := Lib.hid (nGood_any (.slice a1.a a1.n a1.c) l11 (w.alloc (.cells #[.slice a1.a a1.n a1.c, .slice b1.a b1.n b1.c] 30)) ra1 K1.out)
  rw [HG1.out] at H2
  go_wp2_with fail
  clear c0P1 c1P1
  refine H2.out.mono ?_
  rintro e w3 ⟨rfl, rfl⟩
  clear H2
  have c0P1 := P1.c0
  have c1P1 := P1.c1
  go_wp2_with fail
  go_ret
  exact ⟨rfl, hB⟩

set_option maxRecDepth 100000 in
set_option maxHeartbeats 4000000 in
theorem qgood_no2 (a1 b1 : Sl) (l11 l12 : List Nat) (w : World) (ra1 : RL w a1 l11) (rb1 : RL w b1 l12) (K1 : Hid (l11.length ≤ 1000000)) (K2 : Hid (l12.length ≤ 1000000)) (HG1 : Hid (goodB l11 = true)) (HG2 : Hid (goodB l12 = false)) :
    Calls Tryd.prog 15 #[.agg #[.slice a1.a a1.n a1.c, .slice b1.a b1.n b1.c]] w fun e w' => e = .returned (.bool false) ∧ Below w.heap.size w w' := by
  go_enter Tryd.func15, Tryd.ntmps15
  have hb : Below w.heap.size w (w.alloc (.cells #[.slice a1.a a1.n a1.c, .slice b1.a b1.n b1.c] 30)) := ((Below.refl _ _).alloc (Nat.le_refl _) _)
  replace ra1 := ra1.below hb
  replace rb1 := rb1.below hb
  have hB := hb
  have P1 : Pair (w.alloc (.cells #[.slice a1.a a1.n a1.c, .slice b1.a b1.n b1.c] 30)) (w.heap.size) 30 (.slice a1.a a1.n a1.c) (.slice b1.a b1.n b1.c) := by
    have h := Pair.new w 30 (.slice a1.a a1.n a1.c) (.slice b1.a b1.n b1.c)
    simpa only [World.size_alloc] using h
  clear hb
  have c0P1 := P1.c0
  have c1P1 := P1.c1
  have H2 := Lib.hid (nGood_any (.slice a1.a a1.n a1.c) l11 (w.alloc (.cells #[.slice a1.a a1.n a1.c, .slice b1.a b1.n b1.c] 30)) ra1 K1.out)
  rw [HG1.out] at H2
  go_wp2_with fail
  clear c0P1 c1P1
  refine H2.out.mono ?_
  rintro e w3 ⟨rfl, rfl⟩
  clear H2
  have c0P1 := P1.c0
  have c1P1 := P1.c1
  have H4 := Lib.hid (nGood_any (.slice b1.a b1.n b1.c) l12 (w.alloc (.cells #[.slice a1.a a1.n a1.c, .slice b1.a b1.n b1.c] 30)) rb1 K2.out)
  rw [HG2.out] at H4
  go_wp2_with fail
  clear c0P1 c1P1
  refine H4.out.mono ?_
  rintro e w5 ⟨rfl, rfl⟩
  clear H4
  have c0P1 := P1.c0
  have c1P1 := P1.c1
  go_wp2_with fail
  go_ret
  exact ⟨rfl, hB⟩

set_option maxRecDepth 100000 in
set_option maxHeartbeats 4000000 in
theorem qgood_no3 (a1 b1 : Sl) (l11 : List Nat) (w : World) (ra1 : RL w a1 l11) (rb1 : RL w b1 (L 0)) (K1 : Hid (l11.length ≤ 1000000)) (K2 : Hid ((L 0).length ≤ 1000000)) (HG1 : Hid (goodB l11 = true)) (HG2 : Hid (goodB (L 0) = true)) :
    Calls Tryd.prog 15 #[.agg #[.slice a1.a a1.n a1.c, .slice b1.a b1.n b1.c]] w fun e w' => e = .returned (.bool false) ∧ Below w.heap.size w w' := by
  go_enter Tryd.func15, Tryd.ntmps15
  have hb : Below w.heap.size w (w.alloc (.cells #[.slice a1.a a1.n a1.c, .slice b1.a b1.n b1.c] 30)) := ((Below.refl _ _).alloc (Nat.le_refl _) _)
  replace ra1 := ra1.below hb
  replace rb1 := rb1.below hb
  have hB := hb
  have P1 : Pair (w.alloc (.cells #[.slice a1.a a1.n a1.c, .slice b1.a b1.n b1.c] 30)) (w.heap.size) 30 (.slice a1.a a1.n a1.c) (.slice b1.a b1.n b1.c) := by
    have h := Pair.new w 30 (.slice a1.a a1.n a1.c) (.slice b1.a b1.n b1.c)
    simpa only [World.size_alloc] using h
  clear hb
  have c0P1 := P1.c0
  have c1P1 := P1.c1
  have H2 := Lib.hid (nGood_any (.slice a1.a a1.n a1.c) l11 (w.alloc (.cells #[.slice a1.a a1.n a1.c, .slice b1.a b1.n b1.c] 30)) ra1 K1.out)
  rw [HG1.out] at H2
  go_wp2_with fail
  clear c0P1 c1P1
  refine H2.out.mono ?_
  rintro e w3 ⟨rfl, rfl⟩
  clear H2
  have c0P1 := P1.c0
  have c1P1 := P1.c1
  have H4 := Lib.hid (nGood_any (.slice b1.a b1.n b1.c) (L 0) (w.alloc (.cells #[.slice a1.a a1.n a1.c, .slice b1.a b1.n b1.c] 30)) rb1 K2.out)
  rw [HG2.out] at H4
  go_wp2_with fail
  clear c0P1 c1P1
  refine H4.out.mono ?_
  rintro e w5 ⟨rfl, rfl⟩
  clear H4
  have c0P1 := P1.c0
  have c1P1 := P1.c1
  have H6 := Lib.hid (isZero_nat (.slice b1.a b1.n b1.c) 0 (w.alloc (.cells #[.slice a1.a a1.n a1.c, .slice b1.a b1.n b1.c] 30)) rb1 (by show (0 : Nat) ≤ 1000; omega) true rfl)
  go_wp2_with fail
  clear c0P1 c1P1
  refine H6.out.mono ?_
  rintro e w7 ⟨rfl, hb⟩
  clear H6
  replace P1 := P1.below hb
  replace ra1 := ra1.below hb
  replace rb1 := rb1.below hb
  replace hB := hB.trans (hb.mono hB.size)
  clear hb
  have c0P1 := P1.c0
  have c1P1 := P1.c1
  go_wp2_with fail
  go_ret
  exact ⟨rfl, hB⟩

end Go.Proofs.YtnfoblmfjldheaaDoor
namespace Go.Proofs.YtnfoblmfjldheaaDoor
open Go.RowKit Go.Dig Go.Shelf Go.Proofs

theorem index_no : ∀ {s : List UInt8}, (47 : UInt8) ∉ s → Lib.indexByte s 47 = -1
  | [], _ => rfl
  | c :: s, h => by
    have hc : ¬ c = (47 : UInt8) := fun e => h (by rw [e]; exact List.mem_cons_self)
    have hs : (47 : UInt8) ∉ s := fun e => h (List.mem_cons_of_mem _ e)
    rw [Lib.indexByte, index_no hs]
    simp [hc]
theorem index_at : ∀ {u : List UInt8} (t : List UInt8), (47 : UInt8) ∉ u → Lib.indexByte (u ++ 47 :: t) 47 = (u.length : Int)
  | [], t, _ => by rw [List.nil_append, Lib.indexByte]; simp
  | c :: u, t, h => by
    have hc : ¬ c = (47 : UInt8) := fun e => h (by rw [e]; exact List.mem_cons_self)
    have hs : (47 : UInt8) ∉ u := fun e => h (List.mem_cons_of_mem _ e)
    have h1 : ¬ (u.length : Int) = -1 := by omega
    rw [List.cons_append, Lib.indexByte, index_at t hs]
    simp [hc, h1]
theorem split_at : ∀ {s : List UInt8}, (47 : UInt8) ∈ s → ∃ u t, s = u ++ 47 :: t ∧ (47 : UInt8) ∉ u
  | [], h => by simp at h
  | c :: s, h => by
    by_cases hc : c = 47
    · exact ⟨[], s, by rw [hc]; rfl, by simp⟩
    · have hs : (47 : UInt8) ∈ s := by
        rcases List.mem_cons.1 h with e | e
        · exact absurd e.symm hc
        · exact e
      obtain ⟨u, t, e, hu⟩ := split_at hs
      refine ⟨c :: u, t, by rw [e]; rfl, fun h9 => ?_⟩
      rcases List.mem_cons.1 h9 with h8 | h8
      · exact hc h8.symm
      · exact hu h8
theorem split_one : ∀ {u u' t t' : List UInt8}, (47 : UInt8) ∉ u → (47 : UInt8) ∉ u' → u ++ 47 :: t = u' ++ 47 :: t' → u = u' ∧ t = t'
  | [], [], _, _, _, _, e => ⟨rfl, by simpa using e⟩
  | [], c :: u', _, _, _, h', e => by
    have h1 : (47 : UInt8) = c := by simpa using (List.cons.inj e).1
    exact absurd (by rw [h1]; exact List.mem_cons_self) h'
  | c :: u, [], _, _, h, _, e => by
    have h1 : c = (47 : UInt8) := by simpa using (List.cons.inj e).1
    exact absurd (by rw [h1]; exact List.mem_cons_self) h
  | c :: u, d :: u', t, t', h, h', e => by
    have h1 := List.cons.inj e
    have h2 := split_one (fun x => h (List.mem_cons_of_mem _ x)) (fun x => h' (List.mem_cons_of_mem _ x)) h1.2
    exact ⟨by rw [h1.1, h2.1], h2.2⟩
theorem text_slash (n : Nat) : (47 : UInt8) ∉ text n := fun h => by
  have := (text_is n).1 47 h
  simp at this
theorem text_inj {m n : Nat} (h : text m = text n) : m = n := by rw [← readN_text m, h, readN_text]
theorem text_of {s : List UInt8} (h : IsText s) : ∃ n, s = text n := ⟨readN 0 s, (text_read h.1 h.2.1 h.2.2).symm⟩
theorem one_is : text 1 = [49] := one_text
/-- a text is that of one fraction in lowest terms. -/
structure IsQ (s : List UInt8) (x y : Nat) : Prop where
  eq : s = qtext x y
  ne : y ≠ 0
  low : Nat.gcd x y = 1
theorem isQ_whole (x : Nat) : IsQ (text x) x 1 := ⟨by unfold qtext; rw [if_pos rfl], by omega, Nat.gcd_one_right x⟩
/-- the text of a fraction that is put in lowest terms is the text that was there just if it was so. -/
theorem qtext_back {x y : Nat} (hy : y ≠ 0) (h : qtext (x / Nat.gcd x y) (y / Nat.gcd x y) = text x ++ 47 :: text y) : Nat.gcd x y = 1 ∧ y ≠ 1 := by
  unfold qtext at h
  split at h
  · exact absurd (by rw [h]; simp) (text_slash (x / Nat.gcd x y))
  · rename_i h1
    have h2 := split_one (text_slash _) (text_slash _) h
    have h3 := text_inj h2.2
    have hp := Nat.pos_of_ne_zero (gcd_ne x hy)
    have hg : Nat.gcd x y = 1 := by
      rcases Nat.lt_or_ge 1 (Nat.gcd x y) with h4 | h4
      · have := Nat.div_lt_self (Nat.pos_of_ne_zero hy) h4
        omega
      · omega
    refine ⟨hg, fun e => h1 ?_⟩
    rw [h3, e]
theorem qtext_low {x y : Nat} (h1 : Nat.gcd x y = 1) (h2 : y ≠ 1) : qtext (x / Nat.gcd x y) (y / Nat.gcd x y) = text x ++ 47 :: text y := by
  rw [h1, Nat.div_one, Nat.div_one]
  unfold qtext
  rw [if_neg h2]
theorem qtext_whole1 (x : Nat) : qtext (x / Nat.gcd x 1) (1 / Nat.gcd x 1) = text x := by
  rw [Nat.gcd_one_right, Nat.div_one, Nat.div_one]
  unfold qtext
  rw [if_pos rfl]
theorem len_text {x n : Nat} (h : (text x).length ≤ n) : (L x).length ≤ n := by
  by_cases h0 : x = 0
  · subst h0; exact Nat.zero_le _
  · have h1 := readN_lt _ (text x) rfl (text_is x).1
    rw [readN_text] at h1
    refine (dig_len (by omega) x n).2 (Nat.lt_of_lt_of_le h1 (Nat.le_trans (Nat.pow_le_pow_left (by omega : 10 ≤ 18446744073709551616) _) (Nat.pow_le_pow_right (by omega) h)))
end Go.Proofs.YtnfoblmfjldheaaDoor
namespace Go.Proofs.YtnfoblmfjldheaaDoor
open Go.RowKit Go.Dig Go.Shelf Go.Proofs

theorem bytes_pre (s u t : List UInt8) (h : s = u ++ t) : (⟨s.toArray⟩ : ByteArray).extract 0 u.length = ⟨u.toArray⟩ := by
  subst h
  apply ByteArray.ext
  simp [ByteArray.data_extract]
theorem bytes_post (s u t : List UInt8) (h : s = u ++ 47 :: t) : (⟨s.toArray⟩ : ByteArray).extract (u.length + 1) s.length = ⟨t.toArray⟩ := by
  subst h
  apply ByteArray.ext
  rw [ByteArray.data_extract]
  simp
  rw [List.take_of_length_le (by omega)]
theorem index_sl (s : List UInt8) (z : Int) (h : Lib.indexByte s 47 = z) (w : World) : Calls Tryd.prog 92 #[.string ⟨s.toArray⟩, .string ⟨#[47]⟩] w fun e w' => e = .returned (.int .i64 z) ∧ w' = w := by
  have h1 := Tryd.stringslite_Index_one ⟨s.toArray⟩ 47 w
  rw [show ((⟨s.toArray⟩ : ByteArray).data.toList) = s by simp, h] at h1
  exact h1
set_option maxRecDepth 100000 in
theorem cut_no (s : List UInt8) (HN : Hid ((47 : UInt8) ∉ s)) (w : World) :
    Calls Tryd.prog 56 #[.string ⟨s.toArray⟩, .string ⟨#[47]⟩] w fun e w' => e = .returned (.tuple #[.string ⟨s.toArray⟩, .string ⟨#[]⟩, .bool false]) ∧ Below w.heap.size w w' := by
  have H1 := Lib.hid (index_sl s (-1) (index_no HN.out) w)
  have H2 : Hid (Calls Tryd.prog 76 #[.string ⟨s.toArray⟩, .string ⟨#[47]⟩] w fun e w' => e = .returned (.tuple #[.string ⟨s.toArray⟩, .string ⟨#[]⟩, .bool false]) ∧ w' = w) := by
    refine Lib.hid ?_
    go_enter Tryd.func76, Tryd.ntmps76
    go_wp2_with fail
    refine H1.out.mono ?_
    rintro e w1 ⟨rfl, rfl⟩
    go_wp2_with fail
    go_ret3
    exact ⟨rfl, rfl⟩
  go_enter Tryd.func56, Tryd.ntmps56
  go_wp2_with fail
  refine H2.out.mono ?_
  rintro e w1 ⟨rfl, rfl⟩
  go_wp2_with fail
  go_ret3
  exact ⟨rfl, Below.refl _ _⟩
set_option maxRecDepth 100000 in
set_option maxHeartbeats 4000000 in
theorem cut_lite (s u t : List UInt8) (HI : Hid (Lib.indexByte s 47 = (u.length : Int))) (hlt : u.length < s.length) (hll : s.length ≤ 1000) (x1 : (⟨s.toArray⟩ : ByteArray).extract 0 u.length = ⟨u.toArray⟩) (x2 : (⟨s.toArray⟩ : ByteArray).extract (u.length + 1) s.length = ⟨t.toArray⟩) (w : World) :
    Calls Tryd.prog 76 #[.string ⟨s.toArray⟩, .string ⟨#[47]⟩] w fun e w' => e = .returned (.tuple #[.string ⟨u.toArray⟩, .string ⟨t.toArray⟩, .bool true]) ∧ Below w.heap.size w w' := by
  have hw : IntKind.i64.wrap ((u.length : Int) + 1) = (u.length : Int) + 1 := by
    simp [IntKind.wrap, IntKind.signed, IntKind.bits]
    omega
  go_enter Tryd.func76, Tryd.ntmps76
  have H1 := Lib.hid (index_sl s (u.length : Int) HI.out w)
  go_wp2_with fail
  refine H1.out.mono ?_
  rintro e w1 ⟨rfl, rfl⟩
  clear H1
  go_wp2_with fail
  have hb : Below w1.heap.size w1 w1.drew := (Below.refl _ _).drew
  have hB := hb
  clear hb
  refine Rd.regionT (fun X => True) [0, 1, 2, 3, 4, 5, 6, 7, 8, 9, 10, 11] (.one 0 (.one 1 (.one 2 (.one 3 (.one 4 (.one 5 (.one 6 (.one 7 (.one 8 (.one 9 (.one 10 (.one 11 .done)))))))))))) (fun ac W => ∃ (y13 y14 y15 y16 y17 y18 y19 y20 y21 : Value), ac = { tmps := List.toArray (.string (⟨s.toArray⟩ : ByteArray) :: .string (⟨#[47]⟩ : ByteArray) :: undef :: undef :: .string (⟨u.toArray⟩ : ByteArray) :: .string (⟨t.toArray⟩ : ByteArray) :: .bool true :: .int .i64 (u.length : Int) :: .string (⟨s.toArray⟩ : ByteArray) :: .string (⟨#[47]⟩ : ByteArray) :: .int .i64 (u.length : Int) :: .int .i64 (u.length : Int) :: .bool true :: y13 :: y14 :: y15 :: y16 :: y17 :: y18 :: y19 :: y20 :: y21 :: undef :: []), defers := [] } ∧ Below w1.heap.size w1 W) (by kernel_rfl) (by kernel_rfl) (by kernel_rfl) trivial ?tree ?next
  case tree =>
    generalize w1.drew = w1 at hB ⊢
    refine Rd.tr_float (.string (⟨s.toArray⟩ : ByteArray)) (by simp only [List.getElem?_toArray, List.getElem?_cons_zero]; rfl) rfl (by rfl) (fun X _ => by go_simp) ?_
    simp only [Act.put, List.setIfInBounds_toArray, List.set_cons_succ, List.set_cons_zero]
    refine Rd.tr_float (.int .i64 (u.length : Int)) (by simp only [List.getElem?_toArray, List.getElem?_cons_succ, List.getElem?_cons_zero]; rfl) rfl (by rfl) (fun X _ => by go_simp) ?_
    simp only [Act.put, List.setIfInBounds_toArray, List.set_cons_succ, List.set_cons_zero]
    refine Rd.tr_float (.string (⟨u.toArray⟩ : ByteArray)) (by simp only [List.getElem?_toArray, List.getElem?_cons_succ, List.getElem?_cons_zero]; rfl) rfl (by rfl) (fun X _ => by go_simp <;> (intro h9; omega)) ?_
    simp only [Act.put, List.setIfInBounds_toArray, List.set_cons_succ, List.set_cons_zero]
    refine Rd.tr_float (.string (⟨s.toArray⟩ : ByteArray)) (by simp only [List.getElem?_toArray, List.getElem?_cons_succ, List.getElem?_cons_zero]; rfl) rfl (by rfl) (fun X _ => by go_simp) ?_
    simp only [Act.put, List.setIfInBounds_toArray, List.set_cons_succ, List.set_cons_zero]
    refine Rd.tr_float (.int .i64 (u.length : Int)) (by simp only [List.getElem?_toArray, List.getElem?_cons_succ, List.getElem?_cons_zero]; rfl) rfl (by rfl) (fun X _ => by go_simp) ?_
    simp only [Act.put, List.setIfInBounds_toArray, List.set_cons_succ, List.set_cons_zero]
    refine Rd.tr_float (.string (⟨#[47]⟩ : ByteArray)) (by simp only [List.getElem?_toArray, List.getElem?_cons_succ, List.getElem?_cons_zero]; rfl) rfl (by rfl) (fun X _ => by go_simp) ?_
    simp only [Act.put, List.setIfInBounds_toArray, List.set_cons_succ, List.set_cons_zero]
    refine Rd.tr_float (.int .i64 1) (by simp only [List.getElem?_toArray, List.getElem?_cons_succ, List.getElem?_cons_zero]; rfl) rfl (by rfl) (fun X _ => by go_simp) ?_
    simp only [Act.put, List.setIfInBounds_toArray, List.set_cons_succ, List.set_cons_zero]
    refine Rd.tr_float (.int .i64 ((u.length : Int) + 1)) (by simp only [List.getElem?_toArray, List.getElem?_cons_succ, List.getElem?_cons_zero]; rfl) rfl (by rfl) (fun X _ => by go_simp) ?_
    simp only [Act.put, List.setIfInBounds_toArray, List.set_cons_succ, List.set_cons_zero]
    refine Rd.tr_float (.string (⟨t.toArray⟩ : ByteArray)) (by simp only [List.getElem?_toArray, List.getElem?_cons_succ, List.getElem?_cons_zero]; rfl) rfl (by rfl) (fun X _ => by go_simp <;> (intro h9; omega)) ?_
    simp only [Act.put, List.setIfInBounds_toArray, List.set_cons_succ, List.set_cons_zero]
    refine Rd.tr_float (.string (⟨u.toArray⟩ : ByteArray)) (by simp only [List.getElem?_toArray, List.getElem?_cons_succ, List.getElem?_cons_zero]; rfl) rfl (by rfl) (fun X _ => by go_simp <;> (intro h9; omega)) ?_
    simp only [Act.put, List.setIfInBounds_toArray, List.set_cons_succ, List.set_cons_zero]
    refine Rd.tr_float (.string (⟨t.toArray⟩ : ByteArray)) (by simp only [List.getElem?_toArray, List.getElem?_cons_succ, List.getElem?_cons_zero]; rfl) rfl (by rfl) (fun X _ => by go_simp <;> (intro h9; omega)) ?_
    simp only [Act.put, List.setIfInBounds_toArray, List.set_cons_succ, List.set_cons_zero]
    refine Rd.tr_float (.bool true) (by simp only [List.getElem?_toArray, List.getElem?_cons_succ, List.getElem?_cons_zero]; rfl) rfl (by rfl) (fun X _ => by go_simp) ?_
    simp only [Act.put, List.setIfInBounds_toArray, List.set_cons_succ, List.set_cons_zero]
    exact Rd.tr_end (⟨_, _, _, _, _, _, _, _, _, rfl, hB⟩)
  case next =>
    rintro a3 W ⟨_, _, _, _, _, _, _, _, _, rfl, hB⟩
    go_wp2_with fail
    go_ret3
    exact ⟨rfl, hB⟩
set_option maxRecDepth 100000 in
theorem cut_at (s u t : List UInt8) (HU : Hid ((47 : UInt8) ∉ u)) (HS : Hid (s = u ++ 47 :: t)) (HL : Hid (s.length ≤ 1000)) (w : World) :
    Calls Tryd.prog 56 #[.string ⟨s.toArray⟩, .string ⟨#[47]⟩] w fun e w' => e = .returned (.tuple #[.string ⟨u.toArray⟩, .string ⟨t.toArray⟩, .bool true]) ∧ Below w.heap.size w w' := by
  have H2 := Lib.hid (cut_lite s u t (Lib.hid (by rw [HS.out]; exact index_at t HU.out)) (by rw [HS.out]; simp) HL.out (bytes_pre s u (47 :: t) HS.out) (bytes_post s u t HS.out) w)
  go_enter Tryd.func56, Tryd.ntmps56
  go_wp2_with fail
  refine H2.out.mono ?_
  rintro e w1 ⟨rfl, hb⟩
  go_wp2_with fail
  go_ret3
  exact ⟨rfl, hb⟩
theorem nread_nat (x : Nat) (hl : (text x).length ≤ 1000) (w : World) :
    Calls Tryd.prog 57 #[.string ⟨(text x).toArray⟩] w fun e w' => ∃ v, e = .returned (.tuple #[v, .int .i64 0]) ∧ RowU w' v (L x) ∧ Below w.heap.size w w' := by
  have h := nRead_yes (text x) hl (text_is x) w
  rw [readN_text] at h
  exact h
theorem nread_one (w : World) :
    Calls Tryd.prog 57 #[.string ⟨#[49]⟩] w fun e w' => ∃ v, e = .returned (.tuple #[v, .int .i64 0]) ∧ RowU w' v (L 1) ∧ Below w.heap.size w w' := by
  have h := nread_nat 1 (by rw [one_is]; decide) w
  rw [one_is] at h
  exact h
theorem rread_nat (x : Nat) (hl : (text x).length ≤ 1000) (w : World) :
    Calls Tryd.prog 59 #[.string ⟨(text x).toArray⟩] w fun e w' => ∃ v, e = .returned (.tuple #[v, .bool true]) ∧ Row w' v (D x) ∧ Below w.heap.size w w' := by
  have h := rRead_yes (text x) hl (text_is x) w
  rw [readN_text] at h
  exact h
set_option maxRecDepth 100000 in
set_option maxHeartbeats 4000000 in
theorem qread_one (x : Nat) (w : World) (HTx : Hid ((text x).length ≤ 1000)) (HLx : Hid ((L x).length ≤ 200)) (HC : Hid ((47 : UInt8) ∉ (text x))) :
    Calls Tryd.prog 35 #[.string ⟨(text x).toArray⟩] w fun e w' => ∃ p q : Sl, e = .returned (.tuple #[.agg #[.slice p.a p.n p.c, .slice q.a q.n q.c], .int .i64 0]) ∧ RU w' p x ∧ RU w' q 1 ∧ Below w.heap.size w w' := by
  go_enter Tryd.func35, Tryd.ntmps35
  have hb : Below w.heap.size w (w.alloc (.cells #[.slice none 0 0, .slice none 0 0] 30)) := ((Below.refl _ _).alloc (Nat.le_refl _) _)
  have hB := hb
  have P1 : Pair (w.alloc (.cells #[.slice none 0 0, .slice none 0 0] 30)) (w.heap.size) 30 (.slice none 0 0) (.slice none 0 0) := by
    have h := Pair.new w 30 (.slice none 0 0) (.slice none 0 0)
    simpa only [World.size_alloc] using h
  clear hb
  have c0P1 := P1.c0
  have c1P1 := P1.c1
  have H2 := Lib.hid (cut_no _ HC (w.alloc (.cells #[.slice none 0 0, .slice none 0 0] 30)))
  go_wp2_with fail
  clear c0P1 c1P1
  refine H2.out.mono ?_
  rintro e w3 ⟨rfl, hb⟩
  clear H2
  replace P1 := P1.below hb
  replace hB := hB.trans (hb.mono hB.size)
  clear hb
  have c0P1 := P1.c0
  have c1P1 := P1.c1
  have H6 := Lib.hid (nread_nat x HTx.out w3)
  go_wp2_with fail
  clear c0P1 c1P1
  refine H6.out.mono ?_
  rintro e w7 ⟨v5, rfl, rx4, hb⟩
  clear H6
  replace P1 := P1.below hb
  replace hB := hB.trans (hb.mono hB.size)
  clear hb
  obtain ⟨x4, rfl, rx4⟩ := rx4.sl
  have c0P1 := P1.c0
  have c1P1 := P1.c1
  have H10 := Lib.hid (nread_one w7)
  go_wp2_with fail
  clear c0P1 c1P1
  refine H10.out.mono ?_
  rintro e w11 ⟨v9, rfl, rx8, hb⟩
  clear H10
  replace P1 := P1.below hb
  replace rx4 := rx4.below hb
  replace hB := hB.trans (hb.mono hB.size)
  clear hb
  obtain ⟨x8, rfl, rx8⟩ := rx8.sl
  have hb : Below w11.heap.size w11 (w11.alloc (.cells #[.slice x4.a x4.n x4.c, .slice x8.a x8.n x8.c] 30)) := ((Below.refl _ _).alloc (Nat.le_refl _) _)
  replace P1 := P1.below hb
  replace rx4 := rx4.below hb
  replace rx8 := rx8.below hb
  replace hB := hB.trans (hb.mono hB.size)
  have P12 : Pair (w11.alloc (.cells #[.slice x4.a x4.n x4.c, .slice x8.a x8.n x8.c] 30)) (w11.heap.size) 30 (.slice x4.a x4.n x4.c) (.slice x8.a x8.n x8.c) := by
    have h := Pair.new w11 30 (.slice x4.a x4.n x4.c) (.slice x8.a x8.n x8.c)
    simpa only [World.size_alloc] using h
  clear hb
  have c0P1 := P1.c0
  have c1P1 := P1.c1
  have c0P12 := P12.c0
  have c1P12 := P12.c1
  have H13 := Lib.hid (qgood_nat x4 x8 (x) (1) (w11.alloc (.cells #[.slice x4.a x4.n x4.c, .slice x8.a x8.n x8.c] 30)) rx4 rx8 (Lib.hid (Nat.le_trans HLx.out (by omega))) (Lib.hid (Nat.le_trans (one_row 1 (by omega)) (by omega))) (Lib.hid (by omega)) true (Lib.hid (by simp)))
  go_wp2_with fail
  clear c0P1 c1P1 c0P12 c1P12
  refine H13.out.mono ?_
  rintro e w14 ⟨rfl, hb⟩
  clear H13
  replace P1 := P1.below hb
  replace P12 := P12.below hb
  replace rx4 := rx4.below hb
  replace rx8 := rx8.below hb
  replace hB := hB.trans (hb.mono hB.size)
  clear hb
  have c0P1 := P1.c0
  have c1P1 := P1.c1
  have c0P12 := P12.c0
  have c1P12 := P12.c1
  have z0P1 := P1.z0
  have z1P1 := P1.z1
  go_wp2_with fail
  replace rx4 := rx4.pset P1 (.slice x4.a x4.n x4.c) (.slice x8.a x8.n x8.c)
  replace rx8 := rx8.pset P1 (.slice x4.a x4.n x4.c) (.slice x8.a x8.n x8.c)
  replace hB := Below.pset hB (by omega : w.heap.size ≤ w.heap.size) (.slice x4.a x4.n x4.c) (.slice x8.a x8.n x8.c)
  have P1x := P1.set (.slice x4.a x4.n x4.c) (.slice x8.a x8.n x8.c)
  generalize (w14.setCell ⟨w.heap.size, 0, none⟩ (.slice x4.a x4.n x4.c)).setCell ⟨w.heap.size, 1, none⟩ (.slice x8.a x8.n x8.c) = WW at rx4 rx8 P1x hB ⊢
  refine bodyPost_ret (v := .tuple #[.agg #[.slice x4.a x4.n x4.c, .slice x8.a x8.n x8.c], .int .i64 0]) ?_ rfl (⟨x4, x8, rfl, rx4, rx8, hB⟩)
  simp [results, Tryd.f35, go_sem, P1x.c0, P1x.c1]

set_option maxRecDepth 100000 in
set_option maxHeartbeats 4000000 in
theorem qread_n1 (s : List UInt8) (w : World) (HL : Hid (s.length ≤ 1000)) (HN : Hid (¬ IsText s)) (HC : Hid ((47 : UInt8) ∉ s)) :
    Calls Tryd.prog 35 #[.string ⟨s.toArray⟩] w fun e w' => e = .returned (.tuple #[.agg #[.slice none 0 0, .slice none 0 0], .int .i64 17]) ∧ Below w.heap.size w w' := by
  go_enter Tryd.func35, Tryd.ntmps35
  have hb : Below w.heap.size w (w.alloc (.cells #[.slice none 0 0, .slice none 0 0] 30)) := ((Below.refl _ _).alloc (Nat.le_refl _) _)
  have hB := hb
  have P1 : Pair (w.alloc (.cells #[.slice none 0 0, .slice none 0 0] 30)) (w.heap.size) 30 (.slice none 0 0) (.slice none 0 0) := by
    have h := Pair.new w 30 (.slice none 0 0) (.slice none 0 0)
    simpa only [World.size_alloc] using h
  clear hb
  have c0P1 := P1.c0
  have c1P1 := P1.c1
  have H2 := Lib.hid (cut_no _ HC (w.alloc (.cells #[.slice none 0 0, .slice none 0 0] 30)))
  go_wp2_with fail
  clear c0P1 c1P1
  refine H2.out.mono ?_
  rintro e w3 ⟨rfl, hb⟩
  clear H2
  replace P1 := P1.below hb
  replace hB := hB.trans (hb.mono hB.size)
  clear hb
  have c0P1 := P1.c0
  have c1P1 := P1.c1
  have H4 := Lib.hid (nRead_no s HL.out HN.out w3)
  go_wp2_with fail
  clear c0P1 c1P1
  refine H4.out.mono ?_
  rintro e w5 ⟨rfl, rfl⟩
  clear H4
  have c0P1 := P1.c0
  have c1P1 := P1.c1
  have H8 := Lib.hid (nread_one w3)
  go_wp2_with fail
  clear c0P1 c1P1
  refine H8.out.mono ?_
  rintro e w9 ⟨v7, rfl, rx6, hb⟩
  clear H8
  replace P1 := P1.below hb
  replace hB := hB.trans (hb.mono hB.size)
  clear hb
  obtain ⟨x6, rfl, rx6⟩ := rx6.sl
  have hb : Below w9.heap.size w9 (w9.alloc (.cells #[.slice none 0 0, .slice x6.a x6.n x6.c] 30)) := ((Below.refl _ _).alloc (Nat.le_refl _) _)
  replace P1 := P1.below hb
  replace rx6 := rx6.below hb
  replace hB := hB.trans (hb.mono hB.size)
  have P10 : Pair (w9.alloc (.cells #[.slice none 0 0, .slice x6.a x6.n x6.c] 30)) (w9.heap.size) 30 (.slice none 0 0) (.slice x6.a x6.n x6.c) := by
    have h := Pair.new w9 30 (.slice none 0 0) (.slice x6.a x6.n x6.c)
    simpa only [World.size_alloc] using h
  clear hb
  have c0P1 := P1.c0
  have c1P1 := P1.c1
  have c0P10 := P10.c0
  have c1P10 := P10.c1
  have z0P1 := P1.z0
  have z1P1 := P1.z1
  go_wp2_with fail
  replace rx6 := rx6.pset P1 (.slice none 0 0) (.slice none 0 0)
  replace hB := Below.pset hB (by omega : w.heap.size ≤ w.heap.size) (.slice none 0 0) (.slice none 0 0)
  have P1x := P1.set (.slice none 0 0) (.slice none 0 0)
  generalize ((w9.alloc (.cells #[.slice none 0 0, .slice x6.a x6.n x6.c] 30)).setCell ⟨w.heap.size, 0, none⟩ (.slice none 0 0)).setCell ⟨w.heap.size, 1, none⟩ (.slice none 0 0) = WW at rx6 P1x hB ⊢
  refine bodyPost_ret (v := .tuple #[.agg #[.slice none 0 0, .slice none 0 0], .int .i64 17]) ?_ rfl (⟨rfl, hB⟩)
  simp [results, Tryd.f35, go_sem, P1x.c0, P1x.c1]

set_option maxRecDepth 100000 in
set_option maxHeartbeats 4000000 in
theorem qread_n2 (s u : List UInt8) (w : World) (HL : Hid (s.length ≤ 1000)) (HU : Hid ((47 : UInt8) ∉ u)) (HS : Hid (s = u ++ 47 :: [49])) :
    Calls Tryd.prog 35 #[.string ⟨s.toArray⟩] w fun e w' => e = .returned (.tuple #[.agg #[.slice none 0 0, .slice none 0 0], .int .i64 17]) ∧ Below w.heap.size w w' := by
  go_enter Tryd.func35, Tryd.ntmps35
  have hb : Below w.heap.size w (w.alloc (.cells #[.slice none 0 0, .slice none 0 0] 30)) := ((Below.refl _ _).alloc (Nat.le_refl _) _)
  have hB := hb
  have P1 : Pair (w.alloc (.cells #[.slice none 0 0, .slice none 0 0] 30)) (w.heap.size) 30 (.slice none 0 0) (.slice none 0 0) := by
    have h := Pair.new w 30 (.slice none 0 0) (.slice none 0 0)
    simpa only [World.size_alloc] using h
  clear hb
  have c0P1 := P1.c0
  have c1P1 := P1.c1
  have H2 := Lib.hid (cut_at s _ _ HU HS HL (w.alloc (.cells #[.slice none 0 0, .slice none 0 0] 30)))
  go_wp2_with fail
  clear c0P1 c1P1
  refine H2.out.mono ?_
  rintro e w3 ⟨rfl, hb⟩
  clear H2
  replace P1 := P1.below hb
  replace hB := hB.trans (hb.mono hB.size)
  clear hb
  have c0P1 := P1.c0
  have c1P1 := P1.c1
  have z0P1 := P1.z0
  have z1P1 := P1.z1
  go_wp2_with fail
  replace hB := Below.pset hB (by omega : w.heap.size ≤ w.heap.size) (.slice none 0 0) (.slice none 0 0)
  have P1x := P1.set (.slice none 0 0) (.slice none 0 0)
  generalize (w3.setCell ⟨w.heap.size, 0, none⟩ (.slice none 0 0)).setCell ⟨w.heap.size, 1, none⟩ (.slice none 0 0) = WW at P1x hB ⊢
  refine bodyPost_ret (v := .tuple #[.agg #[.slice none 0 0, .slice none 0 0], .int .i64 17]) ?_ rfl (⟨rfl, hB⟩)
  simp [results, Tryd.f35, go_sem, P1x.c0, P1x.c1]

set_option maxRecDepth 100000 in
set_option maxHeartbeats 4000000 in
theorem qread_n3 (s u t : List UInt8) (w : World) (HL : Hid (s.length ≤ 1000)) (HLu : Hid (u.length ≤ 1000)) (HLt : Hid (t.length ≤ 1000)) (HNu : Hid (¬ IsText u)) (HNt : Hid (¬ IsText t)) (ht1 : (t == [49]) = false) (HU : Hid ((47 : UInt8) ∉ u)) (HS : Hid (s = u ++ 47 :: t)) :
    Calls Tryd.prog 35 #[.string ⟨s.toArray⟩] w fun e w' => e = .returned (.tuple #[.agg #[.slice none 0 0, .slice none 0 0], .int .i64 17]) ∧ Below w.heap.size w w' := by
  go_enter Tryd.func35, Tryd.ntmps35
  have hb : Below w.heap.size w (w.alloc (.cells #[.slice none 0 0, .slice none 0 0] 30)) := ((Below.refl _ _).alloc (Nat.le_refl _) _)
  have hB := hb
  have P1 : Pair (w.alloc (.cells #[.slice none 0 0, .slice none 0 0] 30)) (w.heap.size) 30 (.slice none 0 0) (.slice none 0 0) := by
    have h := Pair.new w 30 (.slice none 0 0) (.slice none 0 0)
    simpa only [World.size_alloc] using h
  clear hb
  have c0P1 := P1.c0
  have c1P1 := P1.c1
  have H2 := Lib.hid (cut_at s _ _ HU HS HL (w.alloc (.cells #[.slice none 0 0, .slice none 0 0] 30)))
  go_wp2_with fail
  clear c0P1 c1P1
  refine H2.out.mono ?_
  rintro e w3 ⟨rfl, hb⟩
  clear H2
  replace P1 := P1.below hb
  replace hB := hB.trans (hb.mono hB.size)
  clear hb
  have c0P1 := P1.c0
  have c1P1 := P1.c1
  have H4 := Lib.hid (nRead_no u HLu.out HNu.out w3)
  go_wp2_with fail
  clear c0P1 c1P1
  refine H4.out.mono ?_
  rintro e w5 ⟨rfl, rfl⟩
  clear H4
  have c0P1 := P1.c0
  have c1P1 := P1.c1
  have H6 := Lib.hid (nRead_no t HLt.out HNt.out w3)
  go_wp2_with fail
  clear c0P1 c1P1
  refine H6.out.mono ?_
  rintro e w7 ⟨rfl, rfl⟩
  clear H6
  have hb : Below w3.heap.size w3 (w3.alloc (.cells #[.slice none 0 0, .slice none 0 0] 30)) := ((Below.refl _ _).alloc (Nat.le_refl _) _)
  replace P1 := P1.below hb
  replace hB := hB.trans (hb.mono hB.size)
  have P8 : Pair (w3.alloc (.cells #[.slice none 0 0, .slice none 0 0] 30)) (w3.heap.size) 30 (.slice none 0 0) (.slice none 0 0) := by
    have h := Pair.new w3 30 (.slice none 0 0) (.slice none 0 0)
    simpa only [World.size_alloc] using h
  clear hb
  have c0P1 := P1.c0
  have c1P1 := P1.c1
  have c0P8 := P8.c0
  have c1P8 := P8.c1
  have z0P1 := P1.z0
  have z1P1 := P1.z1
  go_wp2_with fail
  replace hB := Below.pset hB (by omega : w.heap.size ≤ w.heap.size) (.slice none 0 0) (.slice none 0 0)
  have P1x := P1.set (.slice none 0 0) (.slice none 0 0)
  generalize ((w3.alloc (.cells #[.slice none 0 0, .slice none 0 0] 30)).setCell ⟨w.heap.size, 0, none⟩ (.slice none 0 0)).setCell ⟨w.heap.size, 1, none⟩ (.slice none 0 0) = WW at P1x hB ⊢
  refine bodyPost_ret (v := .tuple #[.agg #[.slice none 0 0, .slice none 0 0], .int .i64 17]) ?_ rfl (⟨rfl, hB⟩)
  simp [results, Tryd.f35, go_sem, P1x.c0, P1x.c1]

set_option maxRecDepth 100000 in
set_option maxHeartbeats 4000000 in
theorem qread_n4 (s u : List UInt8) (y : Nat) (w : World) (HL : Hid (s.length ≤ 1000)) (HLu : Hid (u.length ≤ 1000)) (HTy : Hid ((text y).length ≤ 1000)) (HNu : Hid (¬ IsText u)) (ht1 : (text y == [49]) = false) (HU : Hid ((47 : UInt8) ∉ u)) (HS : Hid (s = u ++ 47 :: text y)) :
    Calls Tryd.prog 35 #[.string ⟨s.toArray⟩] w fun e w' => e = .returned (.tuple #[.agg #[.slice none 0 0, .slice none 0 0], .int .i64 17]) ∧ Below w.heap.size w w' := by
  go_enter Tryd.func35, Tryd.ntmps35
  have hb : Below w.heap.size w (w.alloc (.cells #[.slice none 0 0, .slice none 0 0] 30)) := ((Below.refl _ _).alloc (Nat.le_refl _) _)
  have hB := hb
  have P1 : Pair (w.alloc (.cells #[.slice none 0 0, .slice none 0 0] 30)) (w.heap.size) 30 (.slice none 0 0) (.slice none 0 0) := by
    have h := Pair.new w 30 (.slice none 0 0) (.slice none 0 0)
    simpa only [World.size_alloc] using h
  clear hb
  have c0P1 := P1.c0
  have c1P1 := P1.c1
  have H2 := Lib.hid (cut_at s _ _ HU HS HL (w.alloc (.cells #[.slice none 0 0, .slice none 0 0] 30)))
  go_wp2_with fail
  clear c0P1 c1P1
  refine H2.out.mono ?_
  rintro e w3 ⟨rfl, hb⟩
  clear H2
  replace P1 := P1.below hb
  replace hB := hB.trans (hb.mono hB.size)
  clear hb
  have c0P1 := P1.c0
  have c1P1 := P1.c1
  have H4 := Lib.hid (nRead_no u HLu.out HNu.out w3)
  go_wp2_with fail
  clear c0P1 c1P1
  refine H4.out.mono ?_
  rintro e w5 ⟨rfl, rfl⟩
  clear H4
  have c0P1 := P1.c0
  have c1P1 := P1.c1
  have H8 := Lib.hid (nread_nat y HTy.out w3)
  go_wp2_with fail
  clear c0P1 c1P1
  refine H8.out.mono ?_
  rintro e w9 ⟨v7, rfl, rx6, hb⟩
  clear H8
  replace P1 := P1.below hb
  replace hB := hB.trans (hb.mono hB.size)
  clear hb
  obtain ⟨x6, rfl, rx6⟩ := rx6.sl
  have hb : Below w9.heap.size w9 (w9.alloc (.cells #[.slice none 0 0, .slice x6.a x6.n x6.c] 30)) := ((Below.refl _ _).alloc (Nat.le_refl _) _)
  replace P1 := P1.below hb
  replace rx6 := rx6.below hb
  replace hB := hB.trans (hb.mono hB.size)
  have P10 : Pair (w9.alloc (.cells #[.slice none 0 0, .slice x6.a x6.n x6.c] 30)) (w9.heap.size) 30 (.slice none 0 0) (.slice x6.a x6.n x6.c) := by
    have h := Pair.new w9 30 (.slice none 0 0) (.slice x6.a x6.n x6.c)
    simpa only [World.size_alloc] using h
  clear hb
  have c0P1 := P1.c0
  have c1P1 := P1.c1
  have c0P10 := P10.c0
  have c1P10 := P10.c1
  have z0P1 := P1.z0
  have z1P1 := P1.z1
  go_wp2_with fail
  replace rx6 := rx6.pset P1 (.slice none 0 0) (.slice none 0 0)
  replace hB := Below.pset hB (by omega : w.heap.size ≤ w.heap.size) (.slice none 0 0) (.slice none 0 0)
  have P1x := P1.set (.slice none 0 0) (.slice none 0 0)
  generalize ((w9.alloc (.cells #[.slice none 0 0, .slice x6.a x6.n x6.c] 30)).setCell ⟨w.heap.size, 0, none⟩ (.slice none 0 0)).setCell ⟨w.heap.size, 1, none⟩ (.slice none 0 0) = WW at rx6 P1x hB ⊢
  refine bodyPost_ret (v := .tuple #[.agg #[.slice none 0 0, .slice none 0 0], .int .i64 17]) ?_ rfl (⟨rfl, hB⟩)
  simp [results, Tryd.f35, go_sem, P1x.c0, P1x.c1]

set_option maxRecDepth 100000 in
set_option maxHeartbeats 4000000 in
theorem qread_n5 (s t : List UInt8) (x : Nat) (w : World) (HL : Hid (s.length ≤ 1000)) (HLt : Hid (t.length ≤ 1000)) (HTx : Hid ((text x).length ≤ 1000)) (HNt : Hid (¬ IsText t)) (ht1 : (t == [49]) = false) (HU : Hid ((47 : UInt8) ∉ text x)) (HS : Hid (s = text x ++ 47 :: t)) :
    Calls Tryd.prog 35 #[.string ⟨s.toArray⟩] w fun e w' => e = .returned (.tuple #[.agg #[.slice none 0 0, .slice none 0 0], .int .i64 17]) ∧ Below w.heap.size w w' := by
  go_enter Tryd.func35, Tryd.ntmps35
  have hb : Below w.heap.size w (w.alloc (.cells #[.slice none 0 0, .slice none 0 0] 30)) := ((Below.refl _ _).alloc (Nat.le_refl _) _)
  have hB := hb
  have P1 : Pair (w.alloc (.cells #[.slice none 0 0, .slice none 0 0] 30)) (w.heap.size) 30 (.slice none 0 0) (.slice none 0 0) := by
    have h := Pair.new w 30 (.slice none 0 0) (.slice none 0 0)
    simpa only [World.size_alloc] using h
  clear hb
  have c0P1 := P1.c0
  have c1P1 := P1.c1
  have H2 := Lib.hid (cut_at s _ _ HU HS HL (w.alloc (.cells #[.slice none 0 0, .slice none 0 0] 30)))
  go_wp2_with fail
  clear c0P1 c1P1
  refine H2.out.mono ?_
  rintro e w3 ⟨rfl, hb⟩
  clear H2
  replace P1 := P1.below hb
  replace hB := hB.trans (hb.mono hB.size)
  clear hb
  have c0P1 := P1.c0
  have c1P1 := P1.c1
  have H6 := Lib.hid (nread_nat x HTx.out w3)
  go_wp2_with fail
  clear c0P1 c1P1
  refine H6.out.mono ?_
  rintro e w7 ⟨v5, rfl, rx4, hb⟩
  clear H6
  replace P1 := P1.below hb
  replace hB := hB.trans (hb.mono hB.size)
  clear hb
  obtain ⟨x4, rfl, rx4⟩ := rx4.sl
  have c0P1 := P1.c0
  have c1P1 := P1.c1
  have H8 := Lib.hid (nRead_no t HLt.out HNt.out w7)
  go_wp2_with fail
  clear c0P1 c1P1
  refine H8.out.mono ?_
  rintro e w9 ⟨rfl, rfl⟩
  clear H8
  have hb : Below w7.heap.size w7 (w7.alloc (.cells #[.slice x4.a x4.n x4.c, .slice none 0 0] 30)) := ((Below.refl _ _).alloc (Nat.le_refl _) _)
  replace P1 := P1.below hb
  replace rx4 := rx4.below hb
  replace hB := hB.trans (hb.mono hB.size)
  have P10 : Pair (w7.alloc (.cells #[.slice x4.a x4.n x4.c, .slice none 0 0] 30)) (w7.heap.size) 30 (.slice x4.a x4.n x4.c) (.slice none 0 0) := by
    have h := Pair.new w7 30 (.slice x4.a x4.n x4.c) (.slice none 0 0)
    simpa only [World.size_alloc] using h
  clear hb
  have c0P1 := P1.c0
  have c1P1 := P1.c1
  have c0P10 := P10.c0
  have c1P10 := P10.c1
  have z0P1 := P1.z0
  have z1P1 := P1.z1
  go_wp2_with fail
  replace rx4 := rx4.pset P1 (.slice none 0 0) (.slice none 0 0)
  replace hB := Below.pset hB (by omega : w.heap.size ≤ w.heap.size) (.slice none 0 0) (.slice none 0 0)
  have P1x := P1.set (.slice none 0 0) (.slice none 0 0)
  generalize ((w7.alloc (.cells #[.slice x4.a x4.n x4.c, .slice none 0 0] 30)).setCell ⟨w.heap.size, 0, none⟩ (.slice none 0 0)).setCell ⟨w.heap.size, 1, none⟩ (.slice none 0 0) = WW at rx4 P1x hB ⊢
  refine bodyPost_ret (v := .tuple #[.agg #[.slice none 0 0, .slice none 0 0], .int .i64 17]) ?_ rfl (⟨rfl, hB⟩)
  simp [results, Tryd.f35, go_sem, P1x.c0, P1x.c1]

set_option maxRecDepth 100000 in
set_option maxHeartbeats 4000000 in
theorem qread_n6 (s : List UInt8) (x : Nat) (w : World) (HL : Hid (s.length ≤ 1000)) (HTx : Hid ((text x).length ≤ 1000)) (HLx : Hid ((L x).length ≤ 200)) (HT0 : Hid ((text 0).length ≤ 1000)) (ht1 : (text 0 == [49]) = false) (HU : Hid ((47 : UInt8) ∉ text x)) (HS : Hid (s = text x ++ 47 :: text 0)) :
    Calls Tryd.prog 35 #[.string ⟨s.toArray⟩] w fun e w' => e = .returned (.tuple #[.agg #[.slice none 0 0, .slice none 0 0], .int .i64 17]) ∧ Below w.heap.size w w' := by
  go_enter Tryd.func35, Tryd.ntmps35
  have hb : Below w.heap.size w (w.alloc (.cells #[.slice none 0 0, .slice none 0 0] 30)) := ((Below.refl _ _).alloc (Nat.le_refl _) _)
  have hB := hb
  have P1 : Pair (w.alloc (.cells #[.slice none 0 0, .slice none 0 0] 30)) (w.heap.size) 30 (.slice none 0 0) (.slice none 0 0) := by
    have h := Pair.new w 30 (.slice none 0 0) (.slice none 0 0)
    simpa only [World.size_alloc] using h
  clear hb
  have c0P1 := P1.c0
  have c1P1 := P1.c1
  have H2 := Lib.hid (cut_at s _ _ HU HS HL (w.alloc (.cells #[.slice none 0 0, .slice none 0 0] 30)))
  go_wp2_with fail
  clear c0P1 c1P1
  refine H2.out.mono ?_
  rintro e w3 ⟨rfl, hb⟩
  clear H2
  replace P1 := P1.below hb
  replace hB := hB.trans (hb.mono hB.size)
  clear hb
  have c0P1 := P1.c0
  have c1P1 := P1.c1
  have H6 := Lib.hid (nread_nat x HTx.out w3)
  go_wp2_with fail
  clear c0P1 c1P1
  refine H6.out.mono ?_
  rintro e w7 ⟨v5, rfl, rx4, hb⟩
  clear H6
  replace P1 := P1.below hb
  replace hB := hB.trans (hb.mono hB.size)
  clear hb
  obtain ⟨x4, rfl, rx4⟩ := rx4.sl
  have c0P1 := P1.c0
  have c1P1 := P1.c1
  have H10 := Lib.hid (nread_nat 0 HT0.out w7)
  go_wp2_with fail
  clear c0P1 c1P1
  refine H10.out.mono ?_
  rintro e w11 ⟨v9, rfl, rx8, hb⟩
  clear H10
  replace P1 := P1.below hb
  replace rx4 := rx4.below hb
  replace hB := hB.trans (hb.mono hB.size)
  clear hb
  obtain ⟨x8, rfl, rx8⟩ := rx8.sl
  have hb : Below w11.heap.size w11 (w11.alloc (.cells #[.slice x4.a x4.n x4.c, .slice x8.a x8.n x8.c] 30)) := ((Below.refl _ _).alloc (Nat.le_refl _) _)
  replace P1 := P1.below hb
  replace rx4 := rx4.below hb
  replace rx8 := rx8.below hb
  replace hB := hB.trans (hb.mono hB.size)
  have P12 : Pair (w11.alloc (.cells #[.slice x4.a x4.n x4.c, .slice x8.a x8.n x8.c] 30)) (w11.heap.size) 30 (.slice x4.a x4.n x4.c) (.slice x8.a x8.n x8.c) := by
    have h := Pair.new w11 30 (.slice x4.a x4.n x4.c) (.slice x8.a x8.n x8.c)
    simpa only [World.size_alloc] using h
  clear hb
  have c0P1 := P1.c0
  have c1P1 := P1.c1
  have c0P12 := P12.c0
  have c1P12 := P12.c1
  have H13 := Lib.hid (qgood_no3 x4 x8 (L x) (w11.alloc (.cells #[.slice x4.a x4.n x4.c, .slice x8.a x8.n x8.c] 30)) rx4 rx8 (Lib.hid (Nat.le_trans HLx.out (by omega))) (Lib.hid (by show (0 : Nat) ≤ 1000000; omega)) (Lib.hid (goodB_L _)) (Lib.hid (goodB_L _)))
  go_wp2_with fail
  clear c0P1 c1P1 c0P12 c1P12
  refine H13.out.mono ?_
  rintro e w14 ⟨rfl, hb⟩
  clear H13
  replace P1 := P1.below hb
  replace P12 := P12.below hb
  replace rx4 := rx4.below hb
  replace rx8 := rx8.below hb
  replace hB := hB.trans (hb.mono hB.size)
  clear hb
  have c0P1 := P1.c0
  have c1P1 := P1.c1
  have c0P12 := P12.c0
  have c1P12 := P12.c1
  have z0P1 := P1.z0
  have z1P1 := P1.z1
  go_wp2_with fail
  replace rx4 := rx4.pset P1 (.slice none 0 0) (.slice none 0 0)
  replace rx8 := rx8.pset P1 (.slice none 0 0) (.slice none 0 0)
  replace hB := Below.pset hB (by omega : w.heap.size ≤ w.heap.size) (.slice none 0 0) (.slice none 0 0)
  have P1x := P1.set (.slice none 0 0) (.slice none 0 0)
  generalize (w14.setCell ⟨w.heap.size, 0, none⟩ (.slice none 0 0)).setCell ⟨w.heap.size, 1, none⟩ (.slice none 0 0) = WW at rx4 rx8 P1x hB ⊢
  refine bodyPost_ret (v := .tuple #[.agg #[.slice none 0 0, .slice none 0 0], .int .i64 17]) ?_ rfl (⟨rfl, hB⟩)
  simp [results, Tryd.f35, go_sem, P1x.c0, P1x.c1]

set_option maxRecDepth 100000 in
set_option maxHeartbeats 4000000 in
theorem qread_n7 (s : List UInt8) (x y : Nat) (w : World) (HL : Hid (s.length ≤ 1000)) (HTx : Hid ((text x).length ≤ 1000)) (HLx : Hid ((L x).length ≤ 200)) (HTy : Hid ((text y).length ≤ 1000)) (HLy : Hid ((L y).length ≤ 200)) (HNE : Hid (y ≠ 0)) (HG : Hid (false = decide (Nat.gcd x y = 1))) (ht1 : (text y == [49]) = false) (HU : Hid ((47 : UInt8) ∉ text x)) (HS : Hid (s = text x ++ 47 :: text y)) :
    Calls Tryd.prog 35 #[.string ⟨s.toArray⟩] w fun e w' => e = .returned (.tuple #[.agg #[.slice none 0 0, .slice none 0 0], .int .i64 17]) ∧ Below w.heap.size w w' := by
  go_enter Tryd.func35, Tryd.ntmps35
  have hb : Below w.heap.size w (w.alloc (.cells #[.slice none 0 0, .slice none 0 0] 30)) := ((Below.refl _ _).alloc (Nat.le_refl _) _)
  have hB := hb
  have P1 : Pair (w.alloc (.cells #[.slice none 0 0, .slice none 0 0] 30)) (w.heap.size) 30 (.slice none 0 0) (.slice none 0 0) := by
    have h := Pair.new w 30 (.slice none 0 0) (.slice none 0 0)
    simpa only [World.size_alloc] using h
  clear hb
  have c0P1 := P1.c0
  have c1P1 := P1.c1
  have H2 := Lib.hid (cut_at s _ _ HU HS HL (w.alloc (.cells #[.slice none 0 0, .slice none 0 0] 30)))
  go_wp2_with fail
  clear c0P1 c1P1
  refine H2.out.mono ?_
  rintro e w3 ⟨rfl, hb⟩
  clear H2
  replace P1 := P1.below hb
  replace hB := hB.trans (hb.mono hB.size)
  clear hb
  have c0P1 := P1.c0
  have c1P1 := P1.c1
  have H6 := Lib.hid (nread_nat x HTx.out w3)
  go_wp2_with fail
  clear c0P1 c1P1
  refine H6.out.mono ?_
  rintro e w7 ⟨v5, rfl, rx4, hb⟩
  clear H6
  replace P1 := P1.below hb
  replace hB := hB.trans (hb.mono hB.size)
  clear hb
  obtain ⟨x4, rfl, rx4⟩ := rx4.sl
  have c0P1 := P1.c0
  have c1P1 := P1.c1
  have H10 := Lib.hid (nread_nat y HTy.out w7)
  go_wp2_with fail
  clear c0P1 c1P1
  refine H10.out.mono ?_
  rintro e w11 ⟨v9, rfl, rx8, hb⟩
  clear H10
  replace P1 := P1.below hb
  replace rx4 := rx4.below hb
  replace hB := hB.trans (hb.mono hB.size)
  clear hb
  obtain ⟨x8, rfl, rx8⟩ := rx8.sl
  have hb : Below w11.heap.size w11 (w11.alloc (.cells #[.slice x4.a x4.n x4.c, .slice x8.a x8.n x8.c] 30)) := ((Below.refl _ _).alloc (Nat.le_refl _) _)
  replace P1 := P1.below hb
  replace rx4 := rx4.below hb
  replace rx8 := rx8.below hb
  replace hB := hB.trans (hb.mono hB.size)
  have P12 : Pair (w11.alloc (.cells #[.slice x4.a x4.n x4.c, .slice x8.a x8.n x8.c] 30)) (w11.heap.size) 30 (.slice x4.a x4.n x4.c) (.slice x8.a x8.n x8.c) := by
    have h := Pair.new w11 30 (.slice x4.a x4.n x4.c) (.slice x8.a x8.n x8.c)
    simpa only [World.size_alloc] using h
  clear hb
  have c0P1 := P1.c0
  have c1P1 := P1.c1
  have c0P12 := P12.c0
  have c1P12 := P12.c1
  have H13 := Lib.hid (qgood_nat x4 x8 (x) (y) (w11.alloc (.cells #[.slice x4.a x4.n x4.c, .slice x8.a x8.n x8.c] 30)) rx4 rx8 (Lib.hid (Nat.le_trans HLx.out (by omega))) (Lib.hid (Nat.le_trans HLy.out (by omega))) HNE false HG)
  go_wp2_with fail
  clear c0P1 c1P1 c0P12 c1P12
  refine H13.out.mono ?_
  rintro e w14 ⟨rfl, hb⟩
  clear H13
  replace P1 := P1.below hb
  replace P12 := P12.below hb
  replace rx4 := rx4.below hb
  replace rx8 := rx8.below hb
  replace hB := hB.trans (hb.mono hB.size)
  clear hb
  have c0P1 := P1.c0
  have c1P1 := P1.c1
  have c0P12 := P12.c0
  have c1P12 := P12.c1
  have z0P1 := P1.z0
  have z1P1 := P1.z1
  go_wp2_with fail
  replace rx4 := rx4.pset P1 (.slice none 0 0) (.slice none 0 0)
  replace rx8 := rx8.pset P1 (.slice none 0 0) (.slice none 0 0)
  replace hB := Below.pset hB (by omega : w.heap.size ≤ w.heap.size) (.slice none 0 0) (.slice none 0 0)
  have P1x := P1.set (.slice none 0 0) (.slice none 0 0)
  generalize (w14.setCell ⟨w.heap.size, 0, none⟩ (.slice none 0 0)).setCell ⟨w.heap.size, 1, none⟩ (.slice none 0 0) = WW at rx4 rx8 P1x hB ⊢
  refine bodyPost_ret (v := .tuple #[.agg #[.slice none 0 0, .slice none 0 0], .int .i64 17]) ?_ rfl (⟨rfl, hB⟩)
  simp [results, Tryd.f35, go_sem, P1x.c0, P1x.c1]

set_option maxRecDepth 100000 in
set_option maxHeartbeats 4000000 in
theorem qread_two (s : List UInt8) (x y : Nat) (w : World) (HL : Hid (s.length ≤ 1000)) (HTx : Hid ((text x).length ≤ 1000)) (HLx : Hid ((L x).length ≤ 200)) (HTy : Hid ((text y).length ≤ 1000)) (HLy : Hid ((L y).length ≤ 200)) (HNE : Hid (y ≠ 0)) (HG : Hid (true = decide (Nat.gcd x y = 1))) (ht1 : (text y == [49]) = false) (HU : Hid ((47 : UInt8) ∉ text x)) (HS : Hid (s = text x ++ 47 :: text y)) :
    Calls Tryd.prog 35 #[.string ⟨s.toArray⟩] w fun e w' => ∃ p q : Sl, e = .returned (.tuple #[.agg #[.slice p.a p.n p.c, .slice q.a q.n q.c], .int .i64 0]) ∧ RU w' p x ∧ RU w' q y ∧ Below w.heap.size w w' := by
  go_enter Tryd.func35, Tryd.ntmps35
  have hb : Below w.heap.size w (w.alloc (.cells #[.slice none 0 0, .slice none 0 0] 30)) := ((Below.refl _ _).alloc (Nat.le_refl _) _)
  have hB := hb
  have P1 : Pair (w.alloc (.cells #[.slice none 0 0, .slice none 0 0] 30)) (w.heap.size) 30 (.slice none 0 0) (.slice none 0 0) := by
    have h := Pair.new w 30 (.slice none 0 0) (.slice none 0 0)
    simpa only [World.size_alloc] using h
  clear hb
  have c0P1 := P1.c0
  have c1P1 := P1.c1
  have H2 := Lib.hid (cut_at s _ _ HU HS HL (w.alloc (.cells #[.slice none 0 0, .slice none 0 0] 30)))
  go_wp2_with fail
  clear c0P1 c1P1
  refine H2.out.mono ?_
  rintro e w3 ⟨rfl, hb⟩
  clear H2
  replace P1 := P1.below hb
  replace hB := hB.trans (hb.mono hB.size)
  clear hb
  have c0P1 := P1.c0
  have c1P1 := P1.c1
  have H6 := Lib.hid (nread_nat x HTx.out w3)
  go_wp2_with fail
  clear c0P1 c1P1
  refine H6.out.mono ?_
  rintro e w7 ⟨v5, rfl, rx4, hb⟩
  clear H6
  replace P1 := P1.below hb
  replace hB := hB.trans (hb.mono hB.size)
  clear hb
  obtain ⟨x4, rfl, rx4⟩ := rx4.sl
  have c0P1 := P1.c0
  have c1P1 := P1.c1
  have H10 := Lib.hid (nread_nat y HTy.out w7)
  go_wp2_with fail
  clear c0P1 c1P1
  refine H10.out.mono ?_
  rintro e w11 ⟨v9, rfl, rx8, hb⟩
  clear H10
  replace P1 := P1.below hb
  replace rx4 := rx4.below hb
  replace hB := hB.trans (hb.mono hB.size)
  clear hb
  obtain ⟨x8, rfl, rx8⟩ := rx8.sl
  have hb : Below w11.heap.size w11 (w11.alloc (.cells #[.slice x4.a x4.n x4.c, .slice x8.a x8.n x8.c] 30)) := ((Below.refl _ _).alloc (Nat.le_refl _) _)
  replace P1 := P1.below hb
  replace rx4 := rx4.below hb
  replace rx8 := rx8.below hb
  replace hB := hB.trans (hb.mono hB.size)
  have P12 : Pair (w11.alloc (.cells #[.slice x4.a x4.n x4.c, .slice x8.a x8.n x8.c] 30)) (w11.heap.size) 30 (.slice x4.a x4.n x4.c) (.slice x8.a x8.n x8.c) := by
    have h := Pair.new w11 30 (.slice x4.a x4.n x4.c) (.slice x8.a x8.n x8.c)
    simpa only [World.size_alloc] using h
  clear hb
  have c0P1 := P1.c0
  have c1P1 := P1.c1
  have c0P12 := P12.c0
  have c1P12 := P12.c1
  have H13 := Lib.hid (qgood_nat x4 x8 (x) (y) (w11.alloc (.cells #[.slice x4.a x4.n x4.c, .slice x8.a x8.n x8.c] 30)) rx4 rx8 (Lib.hid (Nat.le_trans HLx.out (by omega))) (Lib.hid (Nat.le_trans HLy.out (by omega))) HNE true HG)
  go_wp2_with fail
  clear c0P1 c1P1 c0P12 c1P12
  refine H13.out.mono ?_
  rintro e w14 ⟨rfl, hb⟩
  clear H13
  replace P1 := P1.below hb
  replace P12 := P12.below hb
  replace rx4 := rx4.below hb
  replace rx8 := rx8.below hb
  replace hB := hB.trans (hb.mono hB.size)
  clear hb
  have c0P1 := P1.c0
  have c1P1 := P1.c1
  have c0P12 := P12.c0
  have c1P12 := P12.c1
  have z0P1 := P1.z0
  have z1P1 := P1.z1
  go_wp2_with fail
  replace rx4 := rx4.pset P1 (.slice x4.a x4.n x4.c) (.slice x8.a x8.n x8.c)
  replace rx8 := rx8.pset P1 (.slice x4.a x4.n x4.c) (.slice x8.a x8.n x8.c)
  replace hB := Below.pset hB (by omega : w.heap.size ≤ w.heap.size) (.slice x4.a x4.n x4.c) (.slice x8.a x8.n x8.c)
  have P1x := P1.set (.slice x4.a x4.n x4.c) (.slice x8.a x8.n x8.c)
  generalize (w14.setCell ⟨w.heap.size, 0, none⟩ (.slice x4.a x4.n x4.c)).setCell ⟨w.heap.size, 1, none⟩ (.slice x8.a x8.n x8.c) = WW at rx4 rx8 P1x hB ⊢
  refine bodyPost_ret (v := .tuple #[.agg #[.slice x4.a x4.n x4.c, .slice x8.a x8.n x8.c], .int .i64 0]) ?_ rfl (⟨x4, x8, rfl, rx4, rx8, hB⟩)
  simp [results, Tryd.f35, go_sem, P1x.c0, P1x.c1]

end Go.Proofs.YtnfoblmfjldheaaDoor
namespace Go.Proofs.YtnfoblmfjldheaaDoor
open Go.RowKit Go.Dig Go.Shelf Go.Proofs

theorem eqz0 {n : Nat} (h : n ≠ 0) : ((n : Int) == 0) = false := by rw [beq_eq_false_iff_ne]; omega
theorem eqz1 {n : Nat} (h : n = 0) : ((n : Int) == 0) = true := by subst h; rfl
theorem D_ne {n : Nat} (h : n ≠ 0) : (D n).length ≠ 0 := fun e => h ((dig_nil (by omega) n).1 (List.length_eq_zero_iff.1 e))
theorem byte_u {s u t : List UInt8} (hs : s = u ++ 47 :: t) (hu : (47 : UInt8) ∉ u) (k : Nat) (hk : k < u.length) : (s.getD k 0).toNat ≠ 47 := by
  subst hs
  have e : (u ++ 47 :: t).getD k 0 = u[k] := by simp [List.getD, List.getElem?_append_left hk, hk]
  rw [e]
  intro h9
  exact hu (by rw [← show u[k] = (47 : UInt8) from UInt8.toNat_inj.1 h9]; exact List.getElem_mem hk)
theorem byte_sep {s u t : List UInt8} (hs : s = u ++ 47 :: t) : (s.getD u.length 0).toNat = 47 := by
  subst hs
  simp [List.getD]
theorem byte_s {s : List UInt8} (hu : (47 : UInt8) ∉ s) (k : Nat) (hk : k < s.length) : (s.getD k 0).toNat ≠ 47 := by
  have e : s.getD k 0 = s[k] := by simp [List.getD, hk]
  rw [e]
  intro h9
  exact hu (by rw [← show s[k] = (47 : UInt8) from UInt8.toNat_inj.1 h9]; exact List.getElem_mem hk)
set_option maxRecDepth 100000 in
set_option maxHeartbeats 4000000 in
theorem rread_n1 (s : List UInt8) (w : World) (hll : s.length ≤ 1000) (HB : Hid (∀ k, k < s.length → (s.getD k 0).toNat ≠ 47)) (ex1 : (⟨s.toArray⟩ : ByteArray).extract 0 s.length = ⟨s.toArray⟩) (HN : Hid (¬ IsText s)) :
    Calls Tryd.prog 38 #[.string ⟨s.toArray⟩] w fun e w' => e = .returned (.tuple #[.agg #[.slice none 0 0, .slice none 0 0], .bool false]) ∧ Below w.heap.size w w' := by
  go_enter Tryd.func38, Tryd.ntmps38
  have hb : Below w.heap.size w (w.alloc (.cells #[.slice none 0 0, .slice none 0 0] 35)) := ((Below.refl _ _).alloc (Nat.le_refl _) _)
  have hB := hb
  have P1 : Pair (w.alloc (.cells #[.slice none 0 0, .slice none 0 0] 35)) (w.heap.size) 35 (.slice none 0 0) (.slice none 0 0) := by
    have h := Pair.new w 35 (.slice none 0 0) (.slice none 0 0)
    simpa only [World.size_alloc] using h
  clear hb
  go_wp2_with fail
  go_loop [4] (fun i => ∃ k : Nat, k ≤ s.length ∧ i = .int .i64 (k : Int)) (fun i => s.length - (intOf i).toNat)
  case atStart => exact ⟨0, Nat.zero_le _, rfl⟩
  case round =>
    obtain ⟨k, hk, rfl⟩ := hrel
    by_cases hlt : k < s.length
    · have hsz : k < (⟨s.toArray⟩ : ByteArray).size := by show k < s.length; omega
      obtain ⟨z, hx⟩ : ∃ z : Nat, ((⟨s.toArray⟩ : ByteArray)[k]'hsz).toNat = z := ⟨_, rfl⟩
      have hx47 : ((z : Int) != 47) = true := bne_iff_ne.2 (by have h8 := HB.out k hlt; rw [← byte_at s k hsz, hx] at h8; omega)
      go_wp2_with fail
      go_round
      case rel => exact ⟨k + 1, by omega, by go_num⟩
      case measure => simp [intOf]; omega
    · obtain rfl : k = s.length := by omega
      clear hlt hk HB
      have c0P1 := P1.c0
      have c1P1 := P1.c1
      have H2 := Lib.hid (rRead_no s hll HN.out (w.alloc (.cells #[.slice none 0 0, .slice none 0 0] 35)))
      go_wp2_with fail
      clear c0P1 c1P1
      refine H2.out.mono ?_
      rintro e w3 ⟨rfl, hb⟩
      clear H2
      replace P1 := P1.below hb
      replace hB := hB.trans (hb.mono hB.size)
      clear hb
      have c0P1 := P1.c0
      have c1P1 := P1.c1
      have z0P1 := P1.z0
      have z1P1 := P1.z1
      go_wp2_with fail
      replace hB := Below.pset hB (by omega : w.heap.size ≤ w.heap.size) (.slice none 0 0) (.slice none 0 0)
      have P1x := P1.set (.slice none 0 0) (.slice none 0 0)
      generalize (w3.setCell ⟨w.heap.size, 0, none⟩ (.slice none 0 0)).setCell ⟨w.heap.size, 1, none⟩ (.slice none 0 0) = WW at P1x hB ⊢
      refine bodyPost_ret (v := .tuple #[.agg #[.slice none 0 0, .slice none 0 0], .bool false]) ?_ rfl (⟨rfl, hB⟩)
      simp [results, Tryd.f38, go_sem, P1x.c0, P1x.c1]

set_option maxRecDepth 100000 in
set_option maxHeartbeats 4000000 in
theorem rread_n2 (s u : List UInt8) (w : World) (hll : s.length ≤ 1000) (HB : Hid (∀ k, k < u.length → (s.getD k 0).toNat ≠ 47)) (H47 : Hid ((s.getD u.length 0).toNat = 47)) (hlu : u.length < s.length) (ex1 : (⟨s.toArray⟩ : ByteArray).extract 0 u.length = ⟨u.toArray⟩) (HLu : Hid (u.length ≤ 1000)) (HN : Hid (¬ IsText u)) :
    Calls Tryd.prog 38 #[.string ⟨s.toArray⟩] w fun e w' => e = .returned (.tuple #[.agg #[.slice none 0 0, .slice none 0 0], .bool false]) ∧ Below w.heap.size w w' := by
  go_enter Tryd.func38, Tryd.ntmps38
  have hb : Below w.heap.size w (w.alloc (.cells #[.slice none 0 0, .slice none 0 0] 35)) := ((Below.refl _ _).alloc (Nat.le_refl _) _)
  have hB := hb
  have P1 : Pair (w.alloc (.cells #[.slice none 0 0, .slice none 0 0] 35)) (w.heap.size) 35 (.slice none 0 0) (.slice none 0 0) := by
    have h := Pair.new w 35 (.slice none 0 0) (.slice none 0 0)
    simpa only [World.size_alloc] using h
  clear hb
  go_wp2_with fail
  go_loop [4] (fun i => ∃ k : Nat, k ≤ u.length ∧ i = .int .i64 (k : Int)) (fun i => u.length - (intOf i).toNat)
  case atStart => exact ⟨0, Nat.zero_le _, rfl⟩
  case round =>
    obtain ⟨k, hk, rfl⟩ := hrel
    by_cases hlt : k < u.length
    · have hsz : k < (⟨s.toArray⟩ : ByteArray).size := by show k < s.length; omega
      obtain ⟨z, hx⟩ : ∃ z : Nat, ((⟨s.toArray⟩ : ByteArray)[k]'hsz).toNat = z := ⟨_, rfl⟩
      have hx47 : ((z : Int) != 47) = true := bne_iff_ne.2 (by have h8 := HB.out k hlt; rw [← byte_at s k hsz, hx] at h8; omega)
      go_wp2_with fail
      go_round
      case rel => exact ⟨k + 1, by omega, by go_num⟩
      case measure => simp [intOf]; omega
    · obtain rfl : k = u.length := by omega
      have hsz : u.length < (⟨s.toArray⟩ : ByteArray).size := by show u.length < s.length; omega
      have hx : ((⟨s.toArray⟩ : ByteArray)[u.length]'hsz).toNat = 47 := by rw [byte_at s _ hsz]; exact H47.out
      clear hlt hk HB H47
      have c0P1 := P1.c0
      have c1P1 := P1.c1
      have H2 := Lib.hid (rRead_no u HLu.out HN.out (w.alloc (.cells #[.slice none 0 0, .slice none 0 0] 35)))
      go_wp2_with fail
      clear c0P1 c1P1
      refine H2.out.mono ?_
      rintro e w3 ⟨rfl, hb⟩
      clear H2
      replace P1 := P1.below hb
      replace hB := hB.trans (hb.mono hB.size)
      clear hb
      have c0P1 := P1.c0
      have c1P1 := P1.c1
      have z0P1 := P1.z0
      have z1P1 := P1.z1
      go_wp2_with fail
      replace hB := Below.pset hB (by omega : w.heap.size ≤ w.heap.size) (.slice none 0 0) (.slice none 0 0)
      have P1x := P1.set (.slice none 0 0) (.slice none 0 0)
      generalize (w3.setCell ⟨w.heap.size, 0, none⟩ (.slice none 0 0)).setCell ⟨w.heap.size, 1, none⟩ (.slice none 0 0) = WW at P1x hB ⊢
      refine bodyPost_ret (v := .tuple #[.agg #[.slice none 0 0, .slice none 0 0], .bool false]) ?_ rfl (⟨rfl, hB⟩)
      simp [results, Tryd.f38, go_sem, P1x.c0, P1x.c1]

set_option maxRecDepth 100000 in
set_option maxHeartbeats 4000000 in
theorem rread_n3 (s t : List UInt8) (x : Nat) (w : World) (hll : s.length ≤ 1000) (HB : Hid (∀ k, k < (text x).length → (s.getD k 0).toNat ≠ 47)) (H47 : Hid ((s.getD (text x).length 0).toNat = 47)) (hlu : (text x).length < s.length) (ex1 : (⟨s.toArray⟩ : ByteArray).extract 0 (text x).length = ⟨(text x).toArray⟩) (ex2 : (⟨s.toArray⟩ : ByteArray).extract ((text x).length + 1) s.length = ⟨t.toArray⟩) (HTx : Hid ((text x).length ≤ 1000)) (HLt : Hid (t.length ≤ 1000)) (HN : Hid (¬ IsText t)) :
    Calls Tryd.prog 38 #[.string ⟨s.toArray⟩] w fun e w' => e = .returned (.tuple #[.agg #[.slice none 0 0, .slice none 0 0], .bool false]) ∧ Below w.heap.size w w' := by
  go_enter Tryd.func38, Tryd.ntmps38
  have hb : Below w.heap.size w (w.alloc (.cells #[.slice none 0 0, .slice none 0 0] 35)) := ((Below.refl _ _).alloc (Nat.le_refl _) _)
  have hB := hb
  have P1 : Pair (w.alloc (.cells #[.slice none 0 0, .slice none 0 0] 35)) (w.heap.size) 35 (.slice none 0 0) (.slice none 0 0) := by
    have h := Pair.new w 35 (.slice none 0 0) (.slice none 0 0)
    simpa only [World.size_alloc] using h
  clear hb
  go_wp2_with fail
  go_loop [4] (fun i => ∃ k : Nat, k ≤ (text x).length ∧ i = .int .i64 (k : Int)) (fun i => (text x).length - (intOf i).toNat)
  case atStart => exact ⟨0, Nat.zero_le _, rfl⟩
  case round =>
    obtain ⟨k, hk, rfl⟩ := hrel
    by_cases hlt : k < (text x).length
    · have hsz : k < (⟨s.toArray⟩ : ByteArray).size := by show k < s.length; omega
      obtain ⟨z, hx⟩ : ∃ z : Nat, ((⟨s.toArray⟩ : ByteArray)[k]'hsz).toNat = z := ⟨_, rfl⟩
      have hx47 : ((z : Int) != 47) = true := bne_iff_ne.2 (by have h8 := HB.out k hlt; rw [← byte_at s k hsz, hx] at h8; omega)
      go_wp2_with fail
      go_round
      case rel => exact ⟨k + 1, by omega, by go_num⟩
      case measure => simp [intOf]; omega
    · obtain rfl : k = (text x).length := by omega
      have hsz : (text x).length < (⟨s.toArray⟩ : ByteArray).size := by show (text x).length < s.length; omega
      have hx : ((⟨s.toArray⟩ : ByteArray)[(text x).length]'hsz).toNat = 47 := by rw [byte_at s _ hsz]; exact H47.out
      clear hlt hk HB H47
      have c0P1 := P1.c0
      have c1P1 := P1.c1
      have H4 := Lib.hid (rread_nat x HTx.out (w.alloc (.cells #[.slice none 0 0, .slice none 0 0] 35)))
      go_wp2_with fail
      clear c0P1 c1P1
      refine H4.out.mono ?_
      rintro e w5 ⟨v3, rfl, rx2, hb⟩
      clear H4
      replace P1 := P1.below hb
      replace hB := hB.trans (hb.mono hB.size)
      clear hb
      obtain ⟨x2, rfl, rx2⟩ := rx2.sl
      have c0P1 := P1.c0
      have c1P1 := P1.c1
      have H8 := Lib.hid (Of_any (1) w5 (by omega))
      go_wp2_with fail
      clear c0P1 c1P1
      refine H8.out.mono ?_
      rintro e w9 ⟨v7, rfl, rx6, hb⟩
      clear H8
      replace P1 := P1.below hb
      replace rx2 := rx2.below hb
      replace hB := hB.trans (hb.mono hB.size)
      clear hb
      obtain ⟨x6, rfl, rx6⟩ := rx6.sl
      have HLx6 : Hid ((L (1)).length ≤ 1) := Lib.hid (one_row (1) (by have h : 1 < 9223372036854775808 := (by omega); omega))
      have c0P1 := P1.c0
      have c1P1 := P1.c1
      have H10 := Lib.hid (rRead_no t HLt.out HN.out w9)
      go_wp2_with fail
      clear c0P1 c1P1
      refine H10.out.mono ?_
      rintro e w11 ⟨rfl, hb⟩
      clear H10
      replace P1 := P1.below hb
      replace rx2 := rx2.below hb
      replace rx6 := rx6.below hb
      replace hB := hB.trans (hb.mono hB.size)
      clear hb
      have c0P1 := P1.c0
      have c1P1 := P1.c1
      have z0P1 := P1.z0
      have z1P1 := P1.z1
      go_wp2_with fail
      replace rx2 := rx2.pset P1 (.slice none 0 0) (.slice none 0 0)
      replace rx6 := rx6.pset P1 (.slice none 0 0) (.slice none 0 0)
      replace hB := Below.pset hB (by omega : w.heap.size ≤ w.heap.size) (.slice none 0 0) (.slice none 0 0)
      have P1x := P1.set (.slice none 0 0) (.slice none 0 0)
      generalize (w11.setCell ⟨w.heap.size, 0, none⟩ (.slice none 0 0)).setCell ⟨w.heap.size, 1, none⟩ (.slice none 0 0) = WW at rx2 rx6 P1x hB ⊢
      refine bodyPost_ret (v := .tuple #[.agg #[.slice none 0 0, .slice none 0 0], .bool false]) ?_ rfl (⟨rfl, hB⟩)
      simp [results, Tryd.f38, go_sem, P1x.c0, P1x.c1]

set_option maxRecDepth 100000 in
set_option maxHeartbeats 4000000 in
theorem rread_n4 (s : List UInt8) (x : Nat) (w : World) (hll : s.length ≤ 1000) (HB : Hid (∀ k, k < (text x).length → (s.getD k 0).toNat ≠ 47)) (H47 : Hid ((s.getD (text x).length 0).toNat = 47)) (hlu : (text x).length < s.length) (ex1 : (⟨s.toArray⟩ : ByteArray).extract 0 (text x).length = ⟨(text x).toArray⟩) (ex2 : (⟨s.toArray⟩ : ByteArray).extract ((text x).length + 1) s.length = ⟨(text 0).toArray⟩) (HTx : Hid ((text x).length ≤ 1000)) (HT0 : Hid ((text 0).length ≤ 1000)) :
    Calls Tryd.prog 38 #[.string ⟨s.toArray⟩] w fun e w' => e = .returned (.tuple #[.agg #[.slice none 0 0, .slice none 0 0], .bool false]) ∧ Below w.heap.size w w' := by
  go_enter Tryd.func38, Tryd.ntmps38
  have hb : Below w.heap.size w (w.alloc (.cells #[.slice none 0 0, .slice none 0 0] 35)) := ((Below.refl _ _).alloc (Nat.le_refl _) _)
  have hB := hb
  have P1 : Pair (w.alloc (.cells #[.slice none 0 0, .slice none 0 0] 35)) (w.heap.size) 35 (.slice none 0 0) (.slice none 0 0) := by
    have h := Pair.new w 35 (.slice none 0 0) (.slice none 0 0)
    simpa only [World.size_alloc] using h
  clear hb
  go_wp2_with fail
  go_loop [4] (fun i => ∃ k : Nat, k ≤ (text x).length ∧ i = .int .i64 (k : Int)) (fun i => (text x).length - (intOf i).toNat)
  case atStart => exact ⟨0, Nat.zero_le _, rfl⟩
  case round =>
    obtain ⟨k, hk, rfl⟩ := hrel
    by_cases hlt : k < (text x).length
    · have hsz : k < (⟨s.toArray⟩ : ByteArray).size := by show k < s.length; omega
      obtain ⟨z, hx⟩ : ∃ z : Nat, ((⟨s.toArray⟩ : ByteArray)[k]'hsz).toNat = z := ⟨_, rfl⟩
      have hx47 : ((z : Int) != 47) = true := bne_iff_ne.2 (by have h8 := HB.out k hlt; rw [← byte_at s k hsz, hx] at h8; omega)
      go_wp2_with fail
      go_round
      case rel => exact ⟨k + 1, by omega, by go_num⟩
      case measure => simp [intOf]; omega
    · obtain rfl : k = (text x).length := by omega
      have hsz : (text x).length < (⟨s.toArray⟩ : ByteArray).size := by show (text x).length < s.length; omega
      have hx : ((⟨s.toArray⟩ : ByteArray)[(text x).length]'hsz).toNat = 47 := by rw [byte_at s _ hsz]; exact H47.out
      clear hlt hk HB H47
      have c0P1 := P1.c0
      have c1P1 := P1.c1
      have H4 := Lib.hid (rread_nat x HTx.out (w.alloc (.cells #[.slice none 0 0, .slice none 0 0] 35)))
      go_wp2_with fail
      clear c0P1 c1P1
      refine H4.out.mono ?_
      rintro e w5 ⟨v3, rfl, rx2, hb⟩
      clear H4
      replace P1 := P1.below hb
      replace hB := hB.trans (hb.mono hB.size)
      clear hb
      obtain ⟨x2, rfl, rx2⟩ := rx2.sl
      have c0P1 := P1.c0
      have c1P1 := P1.c1
      have H8 := Lib.hid (Of_any (1) w5 (by omega))
      go_wp2_with fail
      clear c0P1 c1P1
      refine H8.out.mono ?_
      rintro e w9 ⟨v7, rfl, rx6, hb⟩
      clear H8
      replace P1 := P1.below hb
      replace rx2 := rx2.below hb
      replace hB := hB.trans (hb.mono hB.size)
      clear hb
      obtain ⟨x6, rfl, rx6⟩ := rx6.sl
      have HLx6 : Hid ((L (1)).length ≤ 1) := Lib.hid (one_row (1) (by have h : 1 < 9223372036854775808 := (by omega); omega))
      have c0P1 := P1.c0
      have c1P1 := P1.c1
      have H12 := Lib.hid (rread_nat 0 HT0.out w9)
      go_wp2_with fail
      clear c0P1 c1P1
      refine H12.out.mono ?_
      rintro e w13 ⟨v11, rfl, rx10, hb⟩
      clear H12
      replace P1 := P1.below hb
      replace rx2 := rx2.below hb
      replace rx6 := rx6.below hb
      replace hB := hB.trans (hb.mono hB.size)
      clear hb
      obtain ⟨x10, rfl, rx10⟩ := rx10.sl
      have hzx10 : ((x10.n : Int) == 0) = true := eqz1 (by rw [RD.len rx10]; rfl)
      have c0P1 := P1.c0
      have c1P1 := P1.c1
      have z0P1 := P1.z0
      have z1P1 := P1.z1
      go_wp2_with fail
      replace rx2 := rx2.pset P1 (.slice none 0 0) (.slice none 0 0)
      replace rx6 := rx6.pset P1 (.slice none 0 0) (.slice none 0 0)
      replace rx10 := rx10.pset P1 (.slice none 0 0) (.slice none 0 0)
      replace hB := Below.pset hB (by omega : w.heap.size ≤ w.heap.size) (.slice none 0 0) (.slice none 0 0)
      have P1x := P1.set (.slice none 0 0) (.slice none 0 0)
      generalize (w13.setCell ⟨w.heap.size, 0, none⟩ (.slice none 0 0)).setCell ⟨w.heap.size, 1, none⟩ (.slice none 0 0) = WW at rx2 rx6 rx10 P1x hB ⊢
      refine bodyPost_ret (v := .tuple #[.agg #[.slice none 0 0, .slice none 0 0], .bool false]) ?_ rfl (⟨rfl, hB⟩)
      simp [results, Tryd.f38, go_sem, P1x.c0, P1x.c1]

set_option maxRecDepth 100000 in
set_option maxHeartbeats 4000000 in
theorem rread_n5 (s r : List UInt8) (x y : Nat) (w : World) (hll : s.length ≤ 1000) (HB : Hid (∀ k, k < (text x).length → (s.getD k 0).toNat ≠ 47)) (H47 : Hid ((s.getD (text x).length 0).toNat = 47)) (hlu : (text x).length < s.length) (ex1 : (⟨s.toArray⟩ : ByteArray).extract 0 (text x).length = ⟨(text x).toArray⟩) (ex2 : (⟨s.toArray⟩ : ByteArray).extract ((text x).length + 1) s.length = ⟨(text y).toArray⟩) (HTx : Hid ((text x).length ≤ 1000)) (HTy : Hid ((text y).length ≤ 1000)) (HLx : Hid ((L x).length ≤ 200)) (HLy : Hid ((L y).length ≤ 200)) (HNE : Hid (y ≠ 0)) (HQ : Hid (qtext (x / Nat.gcd x y) (y / Nat.gcd x y) = r)) (hrs : (r == s) = false) :
    Calls Tryd.prog 38 #[.string ⟨s.toArray⟩] w fun e w' => e = .returned (.tuple #[.agg #[.slice none 0 0, .slice none 0 0], .bool false]) ∧ Below w.heap.size w w' := by
  go_enter Tryd.func38, Tryd.ntmps38
  have hb : Below w.heap.size w (w.alloc (.cells #[.slice none 0 0, .slice none 0 0] 35)) := ((Below.refl _ _).alloc (Nat.le_refl _) _)
  have hB := hb
  have P1 : Pair (w.alloc (.cells #[.slice none 0 0, .slice none 0 0] 35)) (w.heap.size) 35 (.slice none 0 0) (.slice none 0 0) := by
    have h := Pair.new w 35 (.slice none 0 0) (.slice none 0 0)
    simpa only [World.size_alloc] using h
  clear hb
  go_wp2_with fail
  go_loop [4] (fun i => ∃ k : Nat, k ≤ (text x).length ∧ i = .int .i64 (k : Int)) (fun i => (text x).length - (intOf i).toNat)
  case atStart => exact ⟨0, Nat.zero_le _, rfl⟩
  case round =>
    obtain ⟨k, hk, rfl⟩ := hrel
    by_cases hlt : k < (text x).length
    · have hsz : k < (⟨s.toArray⟩ : ByteArray).size := by show k < s.length; omega
      obtain ⟨z, hx⟩ : ∃ z : Nat, ((⟨s.toArray⟩ : ByteArray)[k]'hsz).toNat = z := ⟨_, rfl⟩
      have hx47 : ((z : Int) != 47) = true := bne_iff_ne.2 (by have h8 := HB.out k hlt; rw [← byte_at s k hsz, hx] at h8; omega)
      go_wp2_with fail
      go_round
      case rel => exact ⟨k + 1, by omega, by go_num⟩
      case measure => simp [intOf]; omega
    · obtain rfl : k = (text x).length := by omega
      have hsz : (text x).length < (⟨s.toArray⟩ : ByteArray).size := by show (text x).length < s.length; omega
      have hx : ((⟨s.toArray⟩ : ByteArray)[(text x).length]'hsz).toNat = 47 := by rw [byte_at s _ hsz]; exact H47.out
      clear hlt hk HB H47
      have c0P1 := P1.c0
      have c1P1 := P1.c1
      have H4 := Lib.hid (rread_nat x HTx.out (w.alloc (.cells #[.slice none 0 0, .slice none 0 0] 35)))
      go_wp2_with fail
      clear c0P1 c1P1
      refine H4.out.mono ?_
      rintro e w5 ⟨v3, rfl, rx2, hb⟩
      clear H4
      replace P1 := P1.below hb
      replace hB := hB.trans (hb.mono hB.size)
      clear hb
      obtain ⟨x2, rfl, rx2⟩ := rx2.sl
      have c0P1 := P1.c0
      have c1P1 := P1.c1
      have H8 := Lib.hid (Of_any (1) w5 (by omega))
      go_wp2_with fail
      clear c0P1 c1P1
      refine H8.out.mono ?_
      rintro e w9 ⟨v7, rfl, rx6, hb⟩
      clear H8
      replace P1 := P1.below hb
      replace rx2 := rx2.below hb
      replace hB := hB.trans (hb.mono hB.size)
      clear hb
      obtain ⟨x6, rfl, rx6⟩ := rx6.sl
      have HLx6 : Hid ((L (1)).length ≤ 1) := Lib.hid (one_row (1) (by have h : 1 < 9223372036854775808 := (by omega); omega))
      have c0P1 := P1.c0
      have c1P1 := P1.c1
      have H12 := Lib.hid (rread_nat y HTy.out w9)
      go_wp2_with fail
      clear c0P1 c1P1
      refine H12.out.mono ?_
      rintro e w13 ⟨v11, rfl, rx10, hb⟩
      clear H12
      replace P1 := P1.below hb
      replace rx2 := rx2.below hb
      replace rx6 := rx6.below hb
      replace hB := hB.trans (hb.mono hB.size)
      clear hb
      obtain ⟨x10, rfl, rx10⟩ := rx10.sl
      have hzx10 : ((x10.n : Int) == 0) = false := eqz0 (by rw [RD.len rx10]; exact D_ne HNE.out)
      have c0P1 := P1.c0
      have c1P1 := P1.c1
      have H16 := Lib.hid (rof_sl x2 x10 (x) (y) w13 rx2 rx10 (Lib.hid (Nat.le_trans HLx.out (by omega))) (Lib.hid (Nat.le_trans HLy.out (by omega))) (Lib.hid HNE.out))
      go_wp2_with fail
      clear c0P1 c1P1
      refine H16.out.mono ?_
      rintro e w17 ⟨x14, x15, rfl, rx14, rx15, hb⟩
      clear H16
      replace P1 := P1.below hb
      replace rx2 := rx2.below hb
      replace rx6 := rx6.below hb
      replace rx10 := rx10.below hb
      replace hB := hB.trans (hb.mono hB.size)
      clear hb
      have HLx14 : Hid ((L (x / Nat.gcd x y)).length ≤ 200) := Lib.hid (len_div_le HLx.out)
      have HLx15 : Hid ((L (y / Nat.gcd x y)).length ≤ 200) := Lib.hid (len_div_le HLy.out)
      have c0P1 := P1.c0
      have c1P1 := P1.c1
      have H18 := Lib.hid (rqtext_nat x14 x15 (x / Nat.gcd x y) (y / Nat.gcd x y) w17 rx14 rx15 (Lib.hid (Nat.le_trans HLx14.out (by omega))) (Lib.hid (Nat.le_trans HLx15.out (by omega))) (Lib.hid (low_ne _ HNE.out)))
      rw [HQ.out] at H18
      go_wp2_with fail
      clear c0P1 c1P1
      refine H18.out.mono ?_
      rintro e w19 ⟨rfl, hb⟩
      clear H18
      replace P1 := P1.below hb
      replace rx2 := rx2.below hb
      replace rx6 := rx6.below hb
      replace rx10 := rx10.below hb
      replace rx14 := rx14.below hb
      replace rx15 := rx15.below hb
      replace hB := hB.trans (hb.mono hB.size)
      clear hb
      have c0P1 := P1.c0
      have c1P1 := P1.c1
      have z0P1 := P1.z0
      have z1P1 := P1.z1
      go_wp2_with fail
      replace rx2 := rx2.pset P1 (.slice none 0 0) (.slice none 0 0)
      replace rx6 := rx6.pset P1 (.slice none 0 0) (.slice none 0 0)
      replace rx10 := rx10.pset P1 (.slice none 0 0) (.slice none 0 0)
      replace rx14 := rx14.pset P1 (.slice none 0 0) (.slice none 0 0)
      replace rx15 := rx15.pset P1 (.slice none 0 0) (.slice none 0 0)
      replace hB := Below.pset hB (by omega : w.heap.size ≤ w.heap.size) (.slice none 0 0) (.slice none 0 0)
      have P1x := P1.set (.slice none 0 0) (.slice none 0 0)
      generalize (w19.setCell ⟨w.heap.size, 0, none⟩ (.slice none 0 0)).setCell ⟨w.heap.size, 1, none⟩ (.slice none 0 0) = WW at rx2 rx6 rx10 rx14 rx15 P1x hB ⊢
      refine bodyPost_ret (v := .tuple #[.agg #[.slice none 0 0, .slice none 0 0], .bool false]) ?_ rfl (⟨rfl, hB⟩)
      simp [results, Tryd.f38, go_sem, P1x.c0, P1x.c1]

set_option maxRecDepth 100000 in
set_option maxHeartbeats 4000000 in
theorem rread_two (s : List UInt8) (x y : Nat) (w : World) (hll : s.length ≤ 1000) (HB : Hid (∀ k, k < (text x).length → (s.getD k 0).toNat ≠ 47)) (H47 : Hid ((s.getD (text x).length 0).toNat = 47)) (hlu : (text x).length < s.length) (ex1 : (⟨s.toArray⟩ : ByteArray).extract 0 (text x).length = ⟨(text x).toArray⟩) (ex2 : (⟨s.toArray⟩ : ByteArray).extract ((text x).length + 1) s.length = ⟨(text y).toArray⟩) (HTx : Hid ((text x).length ≤ 1000)) (HTy : Hid ((text y).length ≤ 1000)) (HLx : Hid ((L x).length ≤ 200)) (HLy : Hid ((L y).length ≤ 200)) (HNE : Hid (y ≠ 0)) (HQ : Hid (qtext (x / Nat.gcd x y) (y / Nat.gcd x y) = s)) :
    Calls Tryd.prog 38 #[.string ⟨s.toArray⟩] w fun e w' => ∃ p q : Sl, e = .returned (.tuple #[.agg #[.slice p.a p.n p.c, .slice q.a q.n q.c], .bool true]) ∧ RD w' p (x / Nat.gcd x y) ∧ RD w' q (y / Nat.gcd x y) ∧ Below w.heap.size w w' := by
  go_enter Tryd.func38, Tryd.ntmps38
  have hb : Below w.heap.size w (w.alloc (.cells #[.slice none 0 0, .slice none 0 0] 35)) := ((Below.refl _ _).alloc (Nat.le_refl _) _)
  have hB := hb
  have P1 : Pair (w.alloc (.cells #[.slice none 0 0, .slice none 0 0] 35)) (w.heap.size) 35 (.slice none 0 0) (.slice none 0 0) := by
    have h := Pair.new w 35 (.slice none 0 0) (.slice none 0 0)
    simpa only [World.size_alloc] using h
  clear hb
  go_wp2_with fail
  go_loop [4] (fun i => ∃ k : Nat, k ≤ (text x).length ∧ i = .int .i64 (k : Int)) (fun i => (text x).length - (intOf i).toNat)
  case atStart => exact ⟨0, Nat.zero_le _, rfl⟩
  case round =>
    obtain ⟨k, hk, rfl⟩ := hrel
    by_cases hlt : k < (text x).length
    · have hsz : k < (⟨s.toArray⟩ : ByteArray).size := by show k < s.length; omega
      obtain ⟨z, hx⟩ : ∃ z : Nat, ((⟨s.toArray⟩ : ByteArray)[k]'hsz).toNat = z := ⟨_, rfl⟩
      have hx47 : ((z : Int) != 47) = true := bne_iff_ne.2 (by have h8 := HB.out k hlt; rw [← byte_at s k hsz, hx] at h8; omega)
      go_wp2_with fail
      go_round
      case rel => exact ⟨k + 1, by omega, by go_num⟩
      case measure => simp [intOf]; omega
    · obtain rfl : k = (text x).length := by omega
      have hsz : (text x).length < (⟨s.toArray⟩ : ByteArray).size := by show (text x).length < s.length; omega
      have hx : ((⟨s.toArray⟩ : ByteArray)[(text x).length]'hsz).toNat = 47 := by rw [byte_at s _ hsz]; exact H47.out
      clear hlt hk HB H47
      have c0P1 := P1.c0
      have c1P1 := P1.c1
      have H4 := Lib.hid (rread_nat x HTx.out (w.alloc (.cells #[.slice none 0 0, .slice none 0 0] 35)))
      go_wp2_with fail
      clear c0P1 c1P1
      refine H4.out.mono ?_
      rintro e w5 ⟨v3, rfl, rx2, hb⟩
      clear H4
      replace P1 := P1.below hb
      replace hB := hB.trans (hb.mono hB.size)
      clear hb
      obtain ⟨x2, rfl, rx2⟩ := rx2.sl
      have c0P1 := P1.c0
      have c1P1 := P1.c1
      have H8 := Lib.hid (Of_any (1) w5 (by omega))
      go_wp2_with fail
      clear c0P1 c1P1
      refine H8.out.mono ?_
      rintro e w9 ⟨v7, rfl, rx6, hb⟩
      clear H8
      replace P1 := P1.below hb
      replace rx2 := rx2.below hb
      replace hB := hB.trans (hb.mono hB.size)
      clear hb
      obtain ⟨x6, rfl, rx6⟩ := rx6.sl
      have HLx6 : Hid ((L (1)).length ≤ 1) := Lib.hid (one_row (1) (by have h : 1 < 9223372036854775808 := (by omega); omega))
      have c0P1 := P1.c0
      have c1P1 := P1.c1
      have H12 := Lib.hid (rread_nat y HTy.out w9)
      go_wp2_with fail
      clear c0P1 c1P1
      refine H12.out.mono ?_
      rintro e w13 ⟨v11, rfl, rx10, hb⟩
      clear H12
      replace P1 := P1.below hb
      replace rx2 := rx2.below hb
      replace rx6 := rx6.below hb
      replace hB := hB.trans (hb.mono hB.size)
      clear hb
      obtain ⟨x10, rfl, rx10⟩ := rx10.sl
      have hzx10 : ((x10.n : Int) == 0) = false := eqz0 (by rw [RD.len rx10]; exact D_ne HNE.out)
      have c0P1 := P1.c0
      have c1P1 := P1.c1
      have H16 := Lib.hid (rof_sl x2 x10 (x) (y) w13 rx2 rx10 (Lib.hid (Nat.le_trans HLx.out (by omega))) (Lib.hid (Nat.le_trans HLy.out (by omega))) (Lib.hid HNE.out))
      go_wp2_with fail
      clear c0P1 c1P1
      refine H16.out.mono ?_
      rintro e w17 ⟨x14, x15, rfl, rx14, rx15, hb⟩
      clear H16
      replace P1 := P1.below hb
      replace rx2 := rx2.below hb
      replace rx6 := rx6.below hb
      replace rx10 := rx10.below hb
      replace hB := hB.trans (hb.mono hB.size)
      clear hb
      have HLx14 : Hid ((L (x / Nat.gcd x y)).length ≤ 200) := Lib.hid (len_div_le HLx.out)
      have HLx15 : Hid ((L (y / Nat.gcd x y)).length ≤ 200) := Lib.hid (len_div_le HLy.out)
      have c0P1 := P1.c0
      have c1P1 := P1.c1
      have H18 := Lib.hid (rqtext_nat x14 x15 (x / Nat.gcd x y) (y / Nat.gcd x y) w17 rx14 rx15 (Lib.hid (Nat.le_trans HLx14.out (by omega))) (Lib.hid (Nat.le_trans HLx15.out (by omega))) (Lib.hid (low_ne _ HNE.out)))
      rw [HQ.out] at H18
      go_wp2_with fail
      clear c0P1 c1P1
      refine H18.out.mono ?_
      rintro e w19 ⟨rfl, hb⟩
      clear H18
      replace P1 := P1.below hb
      replace rx2 := rx2.below hb
      replace rx6 := rx6.below hb
      replace rx10 := rx10.below hb
      replace rx14 := rx14.below hb
      replace rx15 := rx15.below hb
      replace hB := hB.trans (hb.mono hB.size)
      clear hb
      have c0P1 := P1.c0
      have c1P1 := P1.c1
      have H22 := Lib.hid (rof_sl x2 x10 (x) (y) w19 rx2 rx10 (Lib.hid (Nat.le_trans HLx.out (by omega))) (Lib.hid (Nat.le_trans HLy.out (by omega))) (Lib.hid HNE.out))
      go_wp2_with fail
      clear c0P1 c1P1
      refine H22.out.mono ?_
      rintro e w23 ⟨x20, x21, rfl, rx20, rx21, hb⟩
      clear H22
      replace P1 := P1.below hb
      replace rx2 := rx2.below hb
      replace rx6 := rx6.below hb
      replace rx10 := rx10.below hb
      replace rx14 := rx14.below hb
      replace rx15 := rx15.below hb
      replace hB := hB.trans (hb.mono hB.size)
      clear hb
      have c0P1 := P1.c0
      have c1P1 := P1.c1
      have z0P1 := P1.z0
      have z1P1 := P1.z1
      go_wp2_with fail
      replace rx2 := rx2.pset P1 (.slice x20.a x20.n x20.c) (.slice x21.a x21.n x21.c)
      replace rx6 := rx6.pset P1 (.slice x20.a x20.n x20.c) (.slice x21.a x21.n x21.c)
      replace rx10 := rx10.pset P1 (.slice x20.a x20.n x20.c) (.slice x21.a x21.n x21.c)
      replace rx14 := rx14.pset P1 (.slice x20.a x20.n x20.c) (.slice x21.a x21.n x21.c)
      replace rx15 := rx15.pset P1 (.slice x20.a x20.n x20.c) (.slice x21.a x21.n x21.c)
      replace rx20 := rx20.pset P1 (.slice x20.a x20.n x20.c) (.slice x21.a x21.n x21.c)
      replace rx21 := rx21.pset P1 (.slice x20.a x20.n x20.c) (.slice x21.a x21.n x21.c)
      replace hB := Below.pset hB (by omega : w.heap.size ≤ w.heap.size) (.slice x20.a x20.n x20.c) (.slice x21.a x21.n x21.c)
      have P1x := P1.set (.slice x20.a x20.n x20.c) (.slice x21.a x21.n x21.c)
      generalize (w23.setCell ⟨w.heap.size, 0, none⟩ (.slice x20.a x20.n x20.c)).setCell ⟨w.heap.size, 1, none⟩ (.slice x21.a x21.n x21.c) = WW at rx2 rx6 rx10 rx14 rx15 rx20 rx21 P1x hB ⊢
      refine bodyPost_ret (v := .tuple #[.agg #[.slice x20.a x20.n x20.c, .slice x21.a x21.n x21.c], .bool true]) ?_ rfl (⟨x20, x21, rfl, rx20, rx21, hB⟩)
      simp [results, Tryd.f38, go_sem, P1x.c0, P1x.c1]

set_option maxRecDepth 100000 in
set_option maxHeartbeats 4000000 in
theorem rread_one (s : List UInt8) (x : Nat) (w : World) (hll : s.length ≤ 1000) (HB : Hid (∀ k, k < s.length → (s.getD k 0).toNat ≠ 47)) (ex1 : (⟨s.toArray⟩ : ByteArray).extract 0 s.length = ⟨(text x).toArray⟩) (HTx : Hid ((text x).length ≤ 1000)) (HLx : Hid ((L x).length ≤ 200)) (H1 : Hid ((1 : Nat) ≠ 0)) (HQ : Hid (qtext (x / Nat.gcd x 1) (1 / Nat.gcd x 1) = s)) :
    Calls Tryd.prog 38 #[.string ⟨s.toArray⟩] w fun e w' => ∃ p q : Sl, e = .returned (.tuple #[.agg #[.slice p.a p.n p.c, .slice q.a q.n q.c], .bool true]) ∧ RD w' p (x / Nat.gcd x 1) ∧ RD w' q (1 / Nat.gcd x 1) ∧ Below w.heap.size w w' := by
  go_enter Tryd.func38, Tryd.ntmps38
  have hb : Below w.heap.size w (w.alloc (.cells #[.slice none 0 0, .slice none 0 0] 35)) := ((Below.refl _ _).alloc (Nat.le_refl _) _)
  have hB := hb
  have P1 : Pair (w.alloc (.cells #[.slice none 0 0, .slice none 0 0] 35)) (w.heap.size) 35 (.slice none 0 0) (.slice none 0 0) := by
    have h := Pair.new w 35 (.slice none 0 0) (.slice none 0 0)
    simpa only [World.size_alloc] using h
  clear hb
  go_wp2_with fail
  go_loop [4] (fun i => ∃ k : Nat, k ≤ s.length ∧ i = .int .i64 (k : Int)) (fun i => s.length - (intOf i).toNat)
  case atStart => exact ⟨0, Nat.zero_le _, rfl⟩
  case round =>
    obtain ⟨k, hk, rfl⟩ := hrel
    by_cases hlt : k < s.length
    · have hsz : k < (⟨s.toArray⟩ : ByteArray).size := by show k < s.length; omega
      obtain ⟨z, hx⟩ : ∃ z : Nat, ((⟨s.toArray⟩ : ByteArray)[k]'hsz).toNat = z := ⟨_, rfl⟩
      have hx47 : ((z : Int) != 47) = true := bne_iff_ne.2 (by have h8 := HB.out k hlt; rw [← byte_at s k hsz, hx] at h8; omega)
      go_wp2_with fail
      go_round
      case rel => exact ⟨k + 1, by omega, by go_num⟩
      case measure => simp [intOf]; omega
    · obtain rfl : k = s.length := by omega
      clear hlt hk HB
      have c0P1 := P1.c0
      have c1P1 := P1.c1
      have H4 := Lib.hid (rread_nat x HTx.out (w.alloc (.cells #[.slice none 0 0, .slice none 0 0] 35)))
      go_wp2_with fail
      clear c0P1 c1P1
      refine H4.out.mono ?_
      rintro e w5 ⟨v3, rfl, rx2, hb⟩
      clear H4
      replace P1 := P1.below hb
      replace hB := hB.trans (hb.mono hB.size)
      clear hb
      obtain ⟨x2, rfl, rx2⟩ := rx2.sl
      have c0P1 := P1.c0
      have c1P1 := P1.c1
      have H8 := Lib.hid (Of_any (1) w5 (by omega))
      go_wp2_with fail
      clear c0P1 c1P1
      refine H8.out.mono ?_
      rintro e w9 ⟨v7, rfl, rx6, hb⟩
      clear H8
      replace P1 := P1.below hb
      replace rx2 := rx2.below hb
      replace hB := hB.trans (hb.mono hB.size)
      clear hb
      obtain ⟨x6, rfl, rx6⟩ := rx6.sl
      have HLx6 : Hid ((L (1)).length ≤ 1) := Lib.hid (one_row (1) (by have h : 1 < 9223372036854775808 := (by omega); omega))
      have hzx6 : ((x6.n : Int) == 0) = false := eqz0 (by rw [RD.len rx6]; exact D_ne H1.out)
      have c0P1 := P1.c0
      have c1P1 := P1.c1
      have H12 := Lib.hid (rof_sl x2 x6 (x) (1) w9 rx2 rx6 (Lib.hid (Nat.le_trans HLx.out (by omega))) (Lib.hid (Nat.le_trans HLx6.out (by omega))) (Lib.hid H1.out))
      go_wp2_with fail
      clear c0P1 c1P1
      refine H12.out.mono ?_
      rintro e w13 ⟨x10, x11, rfl, rx10, rx11, hb⟩
      clear H12
      replace P1 := P1.below hb
      replace rx2 := rx2.below hb
      replace rx6 := rx6.below hb
      replace hB := hB.trans (hb.mono hB.size)
      clear hb
      have HLx10 : Hid ((L (x / Nat.gcd x (1))).length ≤ 200) := Lib.hid (len_div_le HLx.out)
      have HLx11 : Hid ((L ((1) / Nat.gcd x (1))).length ≤ 1) := Lib.hid (len_div_le HLx6.out)
      have c0P1 := P1.c0
      have c1P1 := P1.c1
      have H14 := Lib.hid (rqtext_nat x10 x11 (x / Nat.gcd x (1)) ((1) / Nat.gcd x (1)) w13 rx10 rx11 (Lib.hid (Nat.le_trans HLx10.out (by omega))) (Lib.hid (Nat.le_trans HLx11.out (by omega))) (Lib.hid (low_ne _ H1.out)))
      rw [HQ.out] at H14
      go_wp2_with fail
      clear c0P1 c1P1
      refine H14.out.mono ?_
      rintro e w15 ⟨rfl, hb⟩
      clear H14
      replace P1 := P1.below hb
      replace rx2 := rx2.below hb
      replace rx6 := rx6.below hb
      replace rx10 := rx10.below hb
      replace rx11 := rx11.below hb
      replace hB := hB.trans (hb.mono hB.size)
      clear hb
      have c0P1 := P1.c0
      have c1P1 := P1.c1
      have H18 := Lib.hid (rof_sl x2 x6 (x) (1) w15 rx2 rx6 (Lib.hid (Nat.le_trans HLx.out (by omega))) (Lib.hid (Nat.le_trans HLx6.out (by omega))) (Lib.hid H1.out))
      go_wp2_with fail
      clear c0P1 c1P1
      refine H18.out.mono ?_
      rintro e w19 ⟨x16, x17, rfl, rx16, rx17, hb⟩
      clear H18
      replace P1 := P1.below hb
      replace rx2 := rx2.below hb
      replace rx6 := rx6.below hb
      replace rx10 := rx10.below hb
      replace rx11 := rx11.below hb
      replace hB := hB.trans (hb.mono hB.size)
      clear hb
      have c0P1 := P1.c0
      have c1P1 := P1.c1
      have z0P1 := P1.z0
      have z1P1 := P1.z1
      go_wp2_with fail
      replace rx2 := rx2.pset P1 (.slice x16.a x16.n x16.c) (.slice x17.a x17.n x17.c)
      replace rx6 := rx6.pset P1 (.slice x16.a x16.n x16.c) (.slice x17.a x17.n x17.c)
      replace rx10 := rx10.pset P1 (.slice x16.a x16.n x16.c) (.slice x17.a x17.n x17.c)
      replace rx11 := rx11.pset P1 (.slice x16.a x16.n x16.c) (.slice x17.a x17.n x17.c)
      replace rx16 := rx16.pset P1 (.slice x16.a x16.n x16.c) (.slice x17.a x17.n x17.c)
      replace rx17 := rx17.pset P1 (.slice x16.a x16.n x16.c) (.slice x17.a x17.n x17.c)
      replace hB := Below.pset hB (by omega : w.heap.size ≤ w.heap.size) (.slice x16.a x16.n x16.c) (.slice x17.a x17.n x17.c)
      have P1x := P1.set (.slice x16.a x16.n x16.c) (.slice x17.a x17.n x17.c)
      generalize (w19.setCell ⟨w.heap.size, 0, none⟩ (.slice x16.a x16.n x16.c)).setCell ⟨w.heap.size, 1, none⟩ (.slice x17.a x17.n x17.c) = WW at rx2 rx6 rx10 rx11 rx16 rx17 P1x hB ⊢
      refine bodyPost_ret (v := .tuple #[.agg #[.slice x16.a x16.n x16.c, .slice x17.a x17.n x17.c], .bool true]) ?_ rfl (⟨x16, x17, rfl, rx16, rx17, hB⟩)
      simp [results, Tryd.f38, go_sem, P1x.c0, P1x.c1]

end Go.Proofs.YtnfoblmfjldheaaDoor
namespace Go.Proofs.YtnfoblmfjldheaaDoor
open Go.RowKit Go.Dig Go.Shelf Go.Proofs

theorem qtext_ne {x y : Nat} (h : y ≠ 1) : qtext x y = text x ++ 47 :: text y := by unfold qtext; rw [if_neg h]
theorem text_ne_one {y : Nat} (h : y ≠ 1) : (text y == [49]) = false := beq_eq_false_iff_ne.2 fun e => h (text_inj (e.trans one_is.symm))
/-- the program reads the text of a fraction in lowest terms. -/
theorem qread_yes (s : List UInt8) (x y : Nat) (h : IsQ s x y) (hl : s.length ≤ 200) (w : World) :
    Calls Tryd.prog 35 #[.string ⟨s.toArray⟩] w fun e w' => ∃ p q : Sl, e = .returned (.tuple #[.agg #[.slice p.a p.n p.c, .slice q.a q.n q.c], .int .i64 0]) ∧ RU w' p x ∧ RU w' q y ∧ Below w.heap.size w w' := by
  obtain ⟨rfl, hy, hg⟩ := h
  by_cases h1 : y = 1
  · subst h1
    rw [show qtext x 1 = text x by unfold qtext; rw [if_pos rfl]] at hl ⊢
    exact qread_one x w (Lib.hid (by omega)) (Lib.hid (len_text hl)) (Lib.hid (text_slash x))
  · rw [qtext_ne h1] at hl ⊢
    have e := hl
    rw [List.length_append, List.length_cons] at e
    exact qread_two _ x y w (Lib.hid (by omega)) (Lib.hid (by omega)) (Lib.hid (len_text (by omega))) (Lib.hid (by omega)) (Lib.hid (len_text (by omega))) (Lib.hid hy) (Lib.hid (by simp [hg])) (text_ne_one h1) (Lib.hid (text_slash x)) (Lib.hid rfl)
/-- and no other one. -/
theorem qread_no (s : List UInt8) (h : ∀ x y, ¬ IsQ s x y) (hl : s.length ≤ 200) (w : World) :
    Calls Tryd.prog 35 #[.string ⟨s.toArray⟩] w fun e w' => e = .returned (.tuple #[.agg #[.slice none 0 0, .slice none 0 0], .int .i64 17]) ∧ Below w.heap.size w w' := by
  by_cases hs : (47 : UInt8) ∈ s
  · obtain ⟨u, t, rfl, hu⟩ := split_at hs
    have e := hl
    rw [List.length_append, List.length_cons] at e
    by_cases h1 : t = [49]
    · subst h1
      exact qread_n2 _ u w (Lib.hid (by omega)) (Lib.hid hu) (Lib.hid rfl)
    · have ht1 : (t == [49]) = false := beq_eq_false_iff_ne.2 h1
      by_cases hU : IsText u
      · obtain ⟨x, rfl⟩ := text_of hU
        by_cases hT : IsText t
        · obtain ⟨y, rfl⟩ := text_of hT
          have hy1 : y ≠ 1 := by rintro rfl; exact h1 one_is
          by_cases hy : y = 0
          · subst hy
            exact qread_n6 _ x w (Lib.hid (by omega)) (Lib.hid (by omega)) (Lib.hid (len_text (by omega))) (Lib.hid (by omega)) ht1 (Lib.hid hu) (Lib.hid rfl)
          · have hg : Nat.gcd x y ≠ 1 := fun hg => h x y ⟨(qtext_ne hy1).symm, hy, hg⟩
            exact qread_n7 _ x y w (Lib.hid (by omega)) (Lib.hid (by omega)) (Lib.hid (len_text (by omega))) (Lib.hid (by omega)) (Lib.hid (len_text (by omega))) (Lib.hid hy) (Lib.hid (by simp [hg])) ht1 (Lib.hid hu) (Lib.hid rfl)
        · exact qread_n5 _ t x w (Lib.hid (by omega)) (Lib.hid (by omega)) (Lib.hid (by omega)) (Lib.hid hT) ht1 (Lib.hid hu) (Lib.hid rfl)
      · by_cases hT : IsText t
        · obtain ⟨y, rfl⟩ := text_of hT
          exact qread_n4 _ u y w (Lib.hid (by omega)) (Lib.hid (by omega)) (Lib.hid (by omega)) (Lib.hid hU) ht1 (Lib.hid hu) (Lib.hid rfl)
        · exact qread_n3 _ u t w (Lib.hid (by omega)) (Lib.hid (by omega)) (Lib.hid (by omega)) (Lib.hid hU) (Lib.hid hT) ht1 (Lib.hid hu) (Lib.hid rfl)
  · have hT : ¬ IsText s := fun hT => by
      obtain ⟨x, rfl⟩ := text_of hT
      exact h x 1 (isQ_whole x)
    exact qread_n1 s w (Lib.hid (by omega)) (Lib.hid hT) (Lib.hid hs)
theorem ext_all (s : List UInt8) : (⟨s.toArray⟩ : ByteArray).extract 0 s.length = ⟨s.toArray⟩ := bytes_pre s s [] (by simp)
/-- so does the document. -/
theorem rread_yes (s : List UInt8) (x y : Nat) (h : IsQ s x y) (hl : s.length ≤ 200) (w : World) :
    Calls Tryd.prog 38 #[.string ⟨s.toArray⟩] w fun e w' => ∃ p q : Sl, e = .returned (.tuple #[.agg #[.slice p.a p.n p.c, .slice q.a q.n q.c], .bool true]) ∧ RD w' p x ∧ RD w' q y ∧ Below w.heap.size w w' := by
  obtain ⟨rfl, hy, hg⟩ := h
  by_cases h1 : y = 1
  · subst h1
    rw [show qtext x 1 = text x by unfold qtext; rw [if_pos rfl]] at hl ⊢
    have h9 := rread_one (text x) x w (by omega) (Lib.hid (byte_s (text_slash x))) (ext_all _) (Lib.hid (by omega)) (Lib.hid (len_text hl)) (Lib.hid (by omega)) (Lib.hid (qtext_whole1 x))
    rw [hg, Nat.div_one, Nat.div_one] at h9
    exact h9
  · rw [qtext_ne h1] at hl ⊢
    have e := hl
    rw [List.length_append, List.length_cons] at e
    have h9 := rread_two (text x ++ 47 :: text y) x y w (by omega) (Lib.hid (byte_u rfl (text_slash x))) (Lib.hid (byte_sep rfl)) (by simp) (bytes_pre _ _ _ rfl) (bytes_post _ _ _ rfl) (Lib.hid (by omega)) (Lib.hid (by omega)) (Lib.hid (len_text (by omega))) (Lib.hid (len_text (by omega))) (Lib.hid hy) (Lib.hid (qtext_low hg h1))
    rw [hg, Nat.div_one, Nat.div_one] at h9
    exact h9
theorem rread_no (s : List UInt8) (h : ∀ x y, ¬ IsQ s x y) (hl : s.length ≤ 200) (w : World) :
    Calls Tryd.prog 38 #[.string ⟨s.toArray⟩] w fun e w' => e = .returned (.tuple #[.agg #[.slice none 0 0, .slice none 0 0], .bool false]) ∧ Below w.heap.size w w' := by
  by_cases hs : (47 : UInt8) ∈ s
  · obtain ⟨u, t, rfl, hu⟩ := split_at hs
    have e := hl
    rw [List.length_append, List.length_cons] at e
    have HB := Lib.hid (byte_u (s := u ++ 47 :: t) rfl hu)
    have H47 := Lib.hid (byte_sep (s := u ++ 47 :: t) rfl)
    have x1 := bytes_pre (u ++ 47 :: t) u (47 :: t) rfl
    have x2 := bytes_post (u ++ 47 :: t) u t rfl
    have hlu : u.length < (u ++ 47 :: t).length := by simp
    by_cases hU : IsText u
    · obtain ⟨x, rfl⟩ := text_of hU
      by_cases hT : IsText t
      · obtain ⟨y, rfl⟩ := text_of hT
        by_cases hy : y = 0
        · subst hy
          exact rread_n4 _ x w (by omega) HB H47 hlu x1 x2 (Lib.hid (by omega)) (Lib.hid (by omega))
        · have hq : qtext (x / Nat.gcd x y) (y / Nat.gcd x y) ≠ text x ++ 47 :: text y := fun hq => by
            have h2 := qtext_back hy hq
            exact h x y ⟨(qtext_ne h2.2).symm, hy, h2.1⟩
          exact rread_n5 _ _ x y w (by omega) HB H47 hlu x1 x2 (Lib.hid (by omega)) (Lib.hid (by omega)) (Lib.hid (len_text (by omega))) (Lib.hid (len_text (by omega))) (Lib.hid hy) (Lib.hid rfl) (beq_eq_false_iff_ne.2 hq)
      · exact rread_n3 _ t x w (by omega) HB H47 hlu x1 x2 (Lib.hid (by omega)) (Lib.hid (by omega)) (Lib.hid hT)
    · exact rread_n2 _ u w (by omega) HB H47 hlu x1 (Lib.hid (by omega)) (Lib.hid hU)
  · have hT : ¬ IsText s := fun hT => by
      obtain ⟨x, rfl⟩ := text_of hT
      exact h x 1 (isQ_whole x)
    exact rread_n1 s w (by omega) (Lib.hid (byte_s hs)) (ext_all s) (Lib.hid hT)
end Go.Proofs.YtnfoblmfjldheaaDoor
