/-
  Contract of the document's answer roundelref02.Text. Condition: not more than ten thousand digits of four.
-/
import Derived.Test.YtnfoblmfjldheaaDoorTy
import Derived.Test.YtnfoblmfjldheaaDoorRg
namespace Go.Proofs.YtnfoblmfjldheaaDoor
open Go.RowKit Go.Dig Go.Shelf Go.Proofs

theorem decs_snoc : ∀ (j x : Nat), decs (j + 1) x = decs j x ++ [x / 10 ^ j % 10]
  | 0, x => by simp [decs]
  | j + 1, x => by
    have ih := decs_snoc j (x / 10)
    rw [decs, ih, decs, List.cons_append, Nat.div_div_eq_div_mul, Nat.pow_succ, Nat.mul_comm (10 ^ j) 10]
theorem decs_four (x : Nat) : decs 4 x = four x := rfl
theorem digit_cut : ∀ (r : Nat), r < 10 → (⟨#[48, 49, 50, 51, 52, 53, 54, 55, 56, 57]⟩ : ByteArray).extract r (r + 1) = ⟨[UInt8.ofNat (48 + r)].toArray⟩
  | 0, _ => by rfl
  | 1, _ => by rfl
  | 2, _ => by rfl
  | 3, _ => by rfl
  | 4, _ => by rfl
  | 5, _ => by rfl
  | 6, _ => by rfl
  | 7, _ => by rfl
  | 8, _ => by rfl
  | 9, _ => by rfl
  | r + 10, h => absurd h (by omega)
theorem strip_cases {u : List UInt8} (h : u ≠ []) : ((u.getD 0 0).toNat = 48 → strip u = strip (u.drop 1)) ∧ ((u.getD 0 0).toNat ≠ 48 → strip u = u) := by
  match u, h with
  | c :: u, _ =>
    constructor
    · intro hc
      have hc' : c = 48 := UInt8.toNat_inj.1 hc
      rw [strip, if_pos hc']; rfl
    · intro hc
      rw [strip, if_neg (fun e => hc (by rw [e]; rfl))]
theorem str_append (a b : List UInt8) : (⟨a.toArray⟩ : ByteArray) ++ (⟨b.toArray⟩ : ByteArray) = ⟨(a ++ b).toArray⟩ := by
  apply ByteArray.ext
  rw [ByteArray.data_append]
  simp

set_option maxRecDepth 100000 in
set_option maxHeartbeats 4000000 in
theorem rText_any (v : Value) (n : Nat) (w : World) (h : Row w v (D n)) (hl : (D n).length ≤ 10000) (h0 : n ≠ 0) :
    Calls Tryd.prog 58 #[v] w fun e w' => e = .returned (.string ⟨(text n).toArray⟩) ∧ w = w' := by
  have R := Lib.hid h
  obtain ⟨ad, cap, rfl, hcap, -⟩ := h
  have HS := Lib.hid (dig_small (B := 10000) (by omega) n)
  have HF := Lib.hid (strip_fours h0)
  have hpos : 0 < (D n).length := List.length_pos_iff.2 (fun e => h0 ((dig_nil (by omega) n).1 e))
  unfold D at *
  generalize dig 10000 n = la at *
  have hn0 : ((la.length : Int) == 0) = false := by rw [beq_eq_false_iff_ne]; omega
  clear h0
  go_enter Tryd.func58, Tryd.ntmps58
  go_wp2_with fail
  go_loop [3, 11] (fun S i => ∃ (k : Nat) (t : List UInt8), k ≤ la.length ∧ t.length ≤ 4 * k ∧ S = .string ⟨t.toArray⟩ ∧ i = .int .i64 (k : Int) ∧ Hid (t = Dig.bytes (fours (la.take k)))) (fun _ i => la.length - (intOf i).toNat)
  case atStart => exact ⟨0, [], Nat.zero_le _, Nat.le_refl _, rfl, rfl, Lib.hid rfl⟩
  case round =>
    obtain ⟨k, t, hk, htl, rfl, rfl, HT⟩ := hrel
    by_cases hlt : k < la.length
    · obtain ⟨b, off, rfl, hb, hc⟩ := R.out.cell (j := k) hlt
      have hx := HS.out.getD (by omega) k
      have HSN : Hid (fours (la.take (k + 1)) = fours (la.take k) ++ four (la.getD k 0)) := Lib.hid (by
        rw [← fours_snoc]
        congr 1
        rw [List.take_add_one]; simp [List.getD, hlt])
      generalize la.getD k 0 = x at hc hx HSN
      go_wp2_with fail
      go_loop [3, 5, 18] (fun S d j => ∃ (i y : Nat) (u : List UInt8), i ≤ 4 ∧ y < 10000 ∧ u.length ≤ 4 * k + i ∧ S = .string ⟨u.toArray⟩ ∧ d = .int .i64 (y : Int) ∧ j = .int .i64 (i : Int) ∧ Hid (u = Dig.bytes (fours (la.take k) ++ decs i x) ∧ y = x / 10 ^ i)) (fun _ _ j => 4 - (intOf j).toNat)
      case atStart => exact ⟨0, x, t, by omega, hx, htl, rfl, rfl, rfl, Lib.hid ⟨by rw [HT.out]; simp [decs], by simp⟩⟩
      case round =>
        obtain ⟨i, y, u, hi, hy, hul, rfl, rfl, rfl, HU⟩ := hrel
        by_cases hi4 : i < 4
        · have hcut := digit_cut (y % 10) (Nat.mod_lt _ (by omega))
          have hm : (y : Int).tmod 10 = ((y % 10 : Nat) : Int) := by rw [Int.tmod_eq_emod_of_nonneg (by omega)]; omega
          have hq : (y : Int).tdiv 10 = ((y / 10 : Nat) : Int) := by rw [Int.tdiv_eq_ediv_of_nonneg (by omega)]; omega
          have HU2 : Hid (Hid (UInt8.ofNat (48 + y % 10) :: u = Dig.bytes (fours (la.take k) ++ decs (i + 1) x) ∧ y / 10 = x / 10 ^ (i + 1))) := Lib.hid (Lib.hid ⟨by rw [decs_snoc, ← List.append_assoc, bytes_snoc, ← HU.out.1, HU.out.2], by rw [HU.out.2, Nat.div_div_eq_div_mul, Nat.pow_succ]⟩)
          have hr10 : y % 10 < 10 := Nat.mod_lt _ (by omega)
          have hq10 : y / 10 < 10000 := by omega
          have hap := str_append [UInt8.ofNat (48 + y % 10)] u
          rw [List.cons_append, List.nil_append] at hap
          generalize y % 10 = r at *
          generalize y / 10 = q at *
          generalize UInt8.ofNat (48 + r) = c at *
          have HAP := Lib.hid hap
          clear HU hap
          go_wp2_with fail
          go_round
          case rel => exact ⟨i + 1, q, c :: u, by omega, hq10, by rw [List.length_cons]; omega, congrArg Value.string HAP.out, rfl, by go_num, HU2.out⟩
          case measure => simp [intOf]; omega
        · have hi5 : i = 4 := by omega
          subst hi5
          have HT2 : Hid (Hid (u = Dig.bytes (fours (la.take (k + 1))))) := Lib.hid (Lib.hid (by rw [HSN.out, HU.out.1, decs_four]))
          clear HU
          go_wp2_with fail
          go_round
          case rel => exact ⟨k + 1, u, by omega, by omega, rfl, by go_num, HT2.out⟩
          case measure => simp [intOf]; omega
    · have HE : Hid (strip t = text n) := Lib.hid (by rw [HT.out, List.take_of_length_le (by omega)]; exact HF.out)
      have htl2 : t.length ≤ 40000 := by omega
      clear HT
      go_wp2_with fail
      go_loop [3] (fun S => ∃ u : List UInt8, u.length ≤ 40000 ∧ S = .string ⟨u.toArray⟩ ∧ Hid (strip u = text n)) (fun S => strSize S)
      case atStart => exact ⟨t, htl2, rfl, HE⟩
      case round =>
        clear HE htl htl2
        obtain ⟨u, hul, rfl, HU⟩ := hrel
        have hne : u ≠ [] := fun e => absurd (text_pos n) (by rw [← HU.out, e]; simp [strip])
        have hpu : 0 < u.length := List.length_pos_iff.2 hne
        have hsz : 0 < (⟨u.toArray⟩ : ByteArray).size := hpu
        obtain ⟨y, hy⟩ : ∃ y : Nat, ((⟨u.toArray⟩ : ByteArray)[0]'hsz).toNat = y := ⟨_, rfl⟩
        have HY : Hid ((u.getD 0 0).toNat = y) := Lib.hid (by rw [← hy, byte_at])
        have hdr := drop_bytes u 1
        have htd : (u.drop 1).length + 1 = u.length := by rw [List.length_drop]; omega
        by_cases hy48 : y = 48
        · have HS2 : Hid (strip (u.drop 1) = text n) := Lib.hid (by rw [← (strip_cases hne).1 (by rw [HY.out, hy48])]; exact HU.out)
          generalize u.drop 1 = td at HS2 hdr htd
          subst hy48
          clear HU hne HY
          go_wp2_with fail
          go_round
          case rel => exact ⟨td, by omega, rfl, HS2⟩
          case measure => show td.length < u.length; omega
        · have HS2 : Hid (u = text n) := Lib.hid (by rw [← HU.out, (strip_cases hne).2 (by rw [HY.out]; exact hy48)])
          have hy49 : ((y : Int) == 48) = false := beq_eq_false_iff_ne.2 (by omega)
          clear HU hne HY hdr htd
          go_wp2_with fail
          go_ret
          exact ⟨by rw [← HS2.out]; rfl, rfl⟩

set_option maxRecDepth 100000 in
theorem rText_zero (ad : Option Addr) (cap : Nat) (w : World) : Calls Tryd.prog 58 #[.slice ad 0 cap] w fun e w' => e = .returned (.string ⟨#[48]⟩) ∧ w = w' := by
  go_enter Tryd.func58, Tryd.ntmps58
  go_wp2_with fail
  go_ret
  exact ⟨rfl, rfl⟩
theorem rText_all (v : Value) (n : Nat) (w : World) (h : Row w v (D n)) (hl : (D n).length ≤ 10000) :
    Calls Tryd.prog 58 #[v] w fun e w' => e = .returned (.string ⟨(text n).toArray⟩) ∧ w = w' := by
  by_cases h0 : n = 0
  · subst h0
    obtain ⟨ad, cap, rfl, -, -⟩ := h
    exact rText_zero ad cap w
  · exact rText_any v n w h hl h0

/-! ### the text of a natural is one -/
theorem text_is (n : Nat) : IsText (text n) := by
  by_cases h0 : n = 0
  · subst h0
    exact ⟨fun c hc => by rw [List.mem_singleton.1 hc]; decide, by decide, .inr rfl⟩
  · refine ⟨fun c hc => ?_, fun e => ?_, .inl (text_head h0)⟩
    · unfold text at hc
      rw [if_neg h0] at hc
      simp only [Dig.bytes, List.mem_map, List.mem_reverse] at hc
      obtain ⟨d, hd, rfl⟩ := hc
      have hd10 : d < 10 := dig_small (B := 10) (by omega) n d hd
      rw [UInt8.toNat_ofNat_of_lt' (by show 48 + d < 256; omega)]
      omega
    · have := text_pos n
      rw [e] at this
      simp at this
theorem text_len {n : Nat} (h : (L n).length ≤ 12) : (text n).length ≤ 240 := by
  unfold text
  split
  · simp
  · have h1 : n < 18446744073709551616 ^ 12 := (dig_len (by omega) n 12).1 h
    have h2 : (dig 10 n).length ≤ 240 := (dig_len (by omega) n 240).2 (Nat.lt_of_lt_of_le h1 (by decide +kernel))
    simpa [Dig.bytes] using h2
end Go.Proofs.YtnfoblmfjldheaaDoor
