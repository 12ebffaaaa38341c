/-
  Contracts of nat.isText and nat.readGroup. Conditions: a text of at most a hundred thousand bytes; a group of at most 19 digits.
-/
import Derived.Test.YtnfoblmfjldheaaDoorLc
namespace Go.Proofs.YtnfoblmfjldheaaDoor
open Go.RowKit Go.Dig Go.Shelf Go.Proofs

/-- digits only. -/
def Dgt (s : List UInt8) : Prop := ∀ c ∈ s, 48 ≤ c.toNat ∧ c.toNat ≤ 57
/-- a natural's text. -/
def IsText (s : List UInt8) : Prop := Dgt s ∧ s ≠ [] ∧ (s.head? ≠ some 48 ∨ s.length = 1)
theorem byte_at (s : List UInt8) (k : Nat) (h : k < (⟨s.toArray⟩ : ByteArray).size) : ((⟨s.toArray⟩ : ByteArray)[k]'h) = s.getD k 0 := by
  have h' : k < s.length := h
  have e : ((⟨s.toArray⟩ : ByteArray)[k]'h) = s[k]'h' := rfl
  rw [e]
  simp [List.getD, h']
theorem take_bytes (l : List UInt8) (e : Nat) : (⟨l.toArray⟩ : ByteArray).extract 0 e = ⟨(l.take e).toArray⟩ := by
  apply ByteArray.ext; simp
theorem drop_bytes (s : List UInt8) (e : Nat) : (⟨s.toArray⟩ : ByteArray).extract e s.length = ⟨(s.drop e).toArray⟩ := by
  apply ByteArray.ext
  apply Array.ext'
  simp [List.take_of_length_le]
theorem byte_mem {s : List UInt8} {k : Nat} (h : k < s.length) : s.getD k 0 ∈ s := by simp [List.getD, h]
theorem take_snoc {s : List UInt8} {k : Nat} (h : k < s.length) : s.take (k + 1) = s.take k ++ [s.getD k 0] := by
  rw [List.take_add_one]; simp [List.getD, h]
theorem same_bytes {a b : List UInt8} (h : a = b) : ((⟨a.toArray⟩ : ByteArray).toList == (⟨b.toArray⟩ : ByteArray).toList) = true := by subst h; exact beq_self_eq_true _
theorem other_bytes {a b : List UInt8} (h : ¬ a = b) : ((⟨a.toArray⟩ : ByteArray).toList == (⟨b.toArray⟩ : ByteArray).toList) = false := by
  rw [ByteArray.toList_eq, ByteArray.toList_eq]; exact beq_eq_false_iff_ne.2 (by simpa using h)

set_option maxRecDepth 100000 in
set_option maxHeartbeats 4000000 in
theorem isText_is (s : List UInt8) (b : Bool) (hb : b = true ↔ IsText s) (hl : s.length ≤ 100000) (w : World) :
    Calls Tryd.prog 77 #[.string ⟨s.toArray⟩] w fun e w' => e = .returned (.bool b) ∧ w = w' := by
  have HB := Lib.hid hb
  clear hb
  go_enter Tryd.func77, Tryd.ntmps77
  go_wp2_with fail
  go_loop [6] (fun i => ∃ k : Nat, k ≤ s.length ∧ i = .int .i64 (k : Int) ∧ Hid (Dgt (s.take k))) (fun i => s.length - (intOf i).toNat)
  case atStart => exact ⟨0, Nat.zero_le _, rfl, Lib.hid (fun c hc => by simp at hc)⟩
  case round =>
    obtain ⟨k, hk, rfl, HK⟩ := hrel
    by_cases hlt : k < s.length
    · have hsz : k < (⟨s.toArray⟩ : ByteArray).size := hlt
      obtain ⟨x, hx⟩ : ∃ x : Nat, ((⟨s.toArray⟩ : ByteArray)[k]'hsz).toNat = x := ⟨_, rfl⟩
      have HX : Hid ((s.getD k 0).toNat = x) := Lib.hid (by rw [← hx, byte_at])
      by_cases hd : 48 ≤ x ∧ x ≤ 57
      · have HK2 : Hid (Dgt (s.take (k + 1))) := Lib.hid (fun c hc => by
          rw [take_snoc hlt] at hc
          rcases List.mem_append.1 hc with hc | hc
          · exact HK.out c hc
          · rw [List.mem_singleton.1 hc, HX.out]; exact hd)
        obtain ⟨hd1, hd2⟩ := hd
        clear HK
        go_wp2_with fail
        go_round
        case rel => exact ⟨k + 1, by omega, by go_num, HK2⟩
        case measure => simp [intOf]; omega
      · have HN : Hid (b = false) := Lib.hid (by
          rw [← Bool.not_eq_true]
          intro h9
          have := (HB.out.1 h9).1 _ (byte_mem hlt)
          rw [HX.out] at this
          exact hd this)
        rcases Nat.lt_or_ge x 48 with h1 | h1
        · clear hd HK
          go_wp2_with fail
          go_ret
          exact ⟨by rw [HN.out]; rfl, rfl⟩
        · have h2 : 57 < x := by omega
          clear hd HK
          go_wp2_with fail
          go_ret
          exact ⟨by rw [HN.out]; rfl, rfl⟩
    · have HD : Hid (Dgt s) := Lib.hid (by have h9 := HK.out; rw [List.take_of_length_le (by omega)] at h9; exact h9)
      clear HK
      by_cases h48 : s = [48]
      · have HN : Hid (b = true) := Lib.hid (HB.out.2 (by rw [h48]; exact ⟨fun c hc => by rw [List.mem_singleton.1 hc]; decide, by simp, .inr rfl⟩))
        have e1 : (s == [48]) = true := by rw [h48]; rfl
        clear h48
        go_wp2_with fail
        go_ret
        exact ⟨by rw [HN.out]; rfl, rfl⟩
      · have e1 : (s == [48]) = false := beq_eq_false_iff_ne.2 h48
        by_cases hnil : s = []
        · have HN : Hid (b = false) := Lib.hid (by
            rw [← Bool.not_eq_true]
            intro h9
            exact (HB.out.1 h9).2.1 hnil)
          have e2 : (s == []) = true := by rw [hnil]; rfl
          clear hnil h48
          go_wp2_with fail
          go_ret
          exact ⟨by rw [HN.out]; rfl, rfl⟩
        · have e2 : (s == []) = false := beq_eq_false_iff_ne.2 hnil
          have hpos : 0 < s.length := List.length_pos_iff.2 hnil
          have hsz : 0 < (⟨s.toArray⟩ : ByteArray).size := hpos
          obtain ⟨x, hx⟩ : ∃ x : Nat, ((⟨s.toArray⟩ : ByteArray)[0]'hsz).toNat = x := ⟨_, rfl⟩
          have HX : Hid ((s.getD 0 0).toNat = x) := Lib.hid (by rw [← hx, byte_at])
          have hh : s.head? = some (s.getD 0 0) := by
            cases s with
            | nil => exact absurd rfl hnil
            | cons c t => rfl
          by_cases hx48 : x = 48
          · have HN : Hid (b = false) := Lib.hid (by
              rw [← Bool.not_eq_true]
              intro h9
              have hc : s.getD 0 0 = 48 := UInt8.toNat_inj.1 (by rw [HX.out, hx48]; rfl)
              rcases (HB.out.1 h9).2.2 with h8 | h8
              · rw [hh, hc] at h8; exact h8 rfl
              · cases s with
                | nil => exact hnil rfl
                | cons c t =>
                  have ht : t = [] := List.eq_nil_of_length_eq_zero (by simpa using h8)
                  have hc' : c = 48 := hc
                  exact h48 (by rw [ht, hc']))
            subst hx48
            clear hnil h48 hh
            go_wp2_with fail
            go_ret
            exact ⟨by rw [HN.out]; rfl, rfl⟩
          · have HN : Hid (b = true) := Lib.hid (HB.out.2 ⟨HD.out, hnil, .inl (fun h8 => hx48 (by
              rw [hh] at h8
              rw [← HX.out, Option.some.inj h8]; rfl))⟩)
            have hx49 : ((x : Int) != 48) = true := bne_iff_ne.2 (by omega)
            clear hnil h48 hh
            go_wp2_with fail
            go_ret
            exact ⟨by rw [HN.out]; rfl, rfl⟩

theorem readN_snoc (s : List UInt8) (c : UInt8) (acc : Nat) : readN acc (s ++ [c]) = readN acc s * 10 + (c.toNat - 48) := by
  unfold readN; rw [List.foldl_append]; rfl
theorem readN_lt : ∀ (k : Nat) (s : List UInt8), s.length = k → Dgt s → readN 0 s < 10 ^ k
  | 0, s, h, _ => by rw [List.eq_nil_of_length_eq_zero h]; decide
  | k + 1, s, h, hd => by
    rcases List.eq_nil_or_concat s with e | ⟨s', c, e⟩
    · rw [e] at h; cases h
    · rw [List.concat_eq_append] at e
      subst e
      have ih := readN_lt k s' (by simpa using h) (fun x hx => hd x (by simp [hx]))
      have hc := hd c (by simp)
      rw [readN_snoc, Nat.pow_succ]
      omega
set_option maxRecDepth 100000 in
set_option maxHeartbeats 4000000 in
theorem readGroup_any (s : List UInt8) (hl : s.length ≤ 19) (hd : Dgt s) (w : World) :
    Calls Tryd.prog 79 #[.string ⟨s.toArray⟩] w fun e w' => e = .returned (.int .u64 (readN 0 s : Nat)) ∧ w = w' := by
  have HD := Lib.hid hd
  clear hd
  go_enter Tryd.func79, Tryd.ntmps79
  go_wp2_with fail
  go_loop [3, 7] (fun g i => ∃ k n : Nat, k ≤ s.length ∧ g = .int .u64 (n : Int) ∧ i = .int .i64 (k : Int) ∧ Hid (n = readN 0 (s.take k))) (fun _ i => s.length - (intOf i).toNat)
  case atStart => exact ⟨0, 0, Nat.zero_le _, rfl, rfl, Lib.hid (by rfl)⟩
  case round =>
    obtain ⟨k, n, hk, rfl, rfl, HK⟩ := hrel
    by_cases hlt : k < s.length
    · have hsz : k < (⟨s.toArray⟩ : ByteArray).size := hlt
      obtain ⟨x, hx⟩ : ∃ x : Nat, ((⟨s.toArray⟩ : ByteArray)[k]'hsz).toNat = x := ⟨_, rfl⟩
      have HX : Hid ((s.getD k 0).toNat = x) := Lib.hid (by rw [← hx, byte_at])
      have hd : 48 ≤ x ∧ x ≤ 57 := by rw [← HX.out]; exact HD.out _ (byte_mem hlt)
      have hn : n < 1000000000000000000 := by
        have h1 := readN_lt _ (s.take k) rfl (fun c hc => HD.out c (List.mem_of_mem_take hc))
        rw [← HK.out, List.length_take, Nat.min_eq_left (by omega)] at h1
        have h2 : 10 ^ k ≤ 10 ^ 18 := Nat.pow_le_pow_right (by omega) (by omega)
        omega
      have HK2 : Hid (n * 10 + (x - 48) = readN 0 (s.take (k + 1))) := Lib.hid (by rw [take_snoc hlt, readN_snoc, ← HK.out, HX.out])
      obtain ⟨hd1, hd2⟩ := hd
      clear HK
      go_wp2_with fail
      go_round
      case rel => exact ⟨k + 1, n * 10 + (x - 48), by omega, by congr 1; omega, by go_num, HK2⟩
      case measure => simp [intOf]; omega
    · have HE : Hid (n = readN 0 s) := Lib.hid (by have h9 := HK.out; rw [List.take_of_length_le (by omega)] at h9; exact h9)
      clear HK
      go_wp2_with fail
      go_ret
      exact ⟨by rw [← HE.out]; rfl, rfl⟩
end Go.Proofs.YtnfoblmfjldheaaDoor
