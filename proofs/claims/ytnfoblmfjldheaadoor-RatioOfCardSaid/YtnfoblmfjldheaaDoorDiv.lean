/-
  Plain facts on long division of digits of a base, a digit found by halving; on the greatest common divisor; and on decimal texts: four decimal digits to a digit of 10000, noughts ahead, reading digit by digit. No program, no condition.
-/
import Derived.Test.YtnfoblmfjldheaaDoorOps
namespace Go.Dig
variable {B : Nat}

/-! ### a digit of the quotient, by halving -/
theorem half_low {b left low high mid : Nat} (hb : 0 < b) (hmid : mid = (low + high + 1) / 2) (hlt : low < high) (h : left / b ≤ high) (hle : b * mid ≤ left) :
    mid ≤ left / b ∧ low < mid ∧ mid ≤ high ∧ left / b ≤ high := by
  refine ⟨(Nat.le_div_iff_mul_le hb).2 (by rw [Nat.mul_comm]; exact hle), by omega, by omega, h⟩
theorem half_high {b left low high mid : Nat} (hb : 0 < b) (hmid : mid = (low + high + 1) / 2) (hlt : low < high) (hgt : left < b * mid) :
    left / b ≤ mid - 1 ∧ low ≤ mid - 1 ∧ mid - 1 < high := by
  have h1 : left / b < mid := (Nat.div_lt_iff_lt_mul hb).2 (by rw [Nat.mul_comm]; exact hgt)
  omega
/-- such a digit is one. -/
theorem digit_lt {b left d : Nat} (hd : d < B) (hleft : left < b) : (d + B * left) / b < B := by
  rw [Nat.div_lt_iff_lt_mul (by omega)]
  have h : B * (left + 1) ≤ B * b := Nat.mul_le_mul_left B hleft
  rw [Nat.mul_add] at h
  omega

/-! ### long division: what the loop keeps behind the digits from i on -/
structure DivI (B : Nat) (a out : List Nat) (b left i : Nat) : Prop where
  small : Small B out
  len : out.length = a.length
  low : left < b
  eq : val B (a.drop i) = b * val B (out.drop i) + left
theorem DivI.zero (hB : 0 < B) {a : List Nat} {b : Nat} (hb : 0 < b) : DivI B a (List.replicate a.length 0) b 0 a.length :=
  ⟨Small.zeros hB _, by simp, hb, by simp [val]⟩
theorem drop_set (l : List Nat) (i d : Nat) : (l.set i d).drop (i + 1) = l.drop (i + 1) := by
  rw [List.drop_set_of_lt (by omega)]
theorem DivI.step (hB : 0 < B) {a out : List Nat} {b left i : Nat} (ha : Small B a) (hi : i < a.length) (h : DivI B a out b left (i + 1)) :
    DivI B a (out.set i ((a.getD i 0 + B * left) / b)) b (a.getD i 0 + B * left - b * ((a.getD i 0 + B * left) / b)) i := by
  have hd := ha.getD hB i
  have hq := digit_lt hd h.low
  have hb : 0 < b := by have := h.low; omega
  have hm : a.getD i 0 + B * left - b * ((a.getD i 0 + B * left) / b) = (a.getD i 0 + B * left) % b := by
    have := Nat.mod_add_div (a.getD i 0 + B * left) b; omega
  refine ⟨h.small.set i hq, by rw [List.length_set, h.len], by rw [hm]; exact Nat.mod_lt _ hb, ?_⟩
  have hlen : i < (out.set i ((a.getD i 0 + B * left) / b)).length := by rw [List.length_set, h.len]; exact hi
  have hg : (out.set i ((a.getD i 0 + B * left) / b)).getD i 0 = (a.getD i 0 + B * left) / b := by
    have : i < out.length := by rw [h.len]; exact hi
    simp [List.getD, this]
  rw [val_drop a i hi, val_drop _ i hlen, hg, drop_set, h.eq, hm]
  have e := Nat.mod_add_div (a.getD i 0 + B * left) b
  have e1 : B * (b * val B (out.drop (i + 1)) + left) = b * (B * val B (out.drop (i + 1))) + B * left := by
    rw [Nat.mul_add, Nat.mul_left_comm]
  rw [e1, Nat.mul_add]
  omega
theorem DivI.done {a out : List Nat} {b left : Nat} (h : DivI B a out b left 0) : val B out = val B a / b ∧ left = val B a % b := by
  have e := h.eq
  rw [List.drop_zero, List.drop_zero] at e
  have hb : 0 < b := by have := h.low; omega
  rw [e]
  constructor
  · rw [Nat.mul_add_div hb, Nat.div_eq_of_lt h.low, Nat.add_zero]
  · rw [Nat.mul_add_mod, Nat.mod_eq_of_lt h.low]

/-! ### the greatest that divides both -/
theorem gcd_step (a b : Nat) : Nat.gcd a b = Nat.gcd b (a % b) := by rw [Nat.gcd_comm a b, Nat.gcd_rec b a, Nat.gcd_comm]

/-! ### decimal digits -/
/-- four decimal digits, the least first. -/
def four (d : Nat) : List Nat := [d % 10, d / 10 % 10, d / 10 / 10 % 10, d / 10 / 10 / 10 % 10]
def fours : List Nat → List Nat
  | [] => []
  | d :: l => four d ++ fours l
theorem fours_small : ∀ (l : List Nat), Small 10 (fours l)
  | [] => Small.nil
  | d :: l => fun x hx => by
    rcases List.mem_append.1 hx with h | h
    · simp only [four, List.mem_cons, List.not_mem_nil, or_false] at h
      omega
    · exact fours_small l x h
theorem fours_val : ∀ (l : List Nat), Small 10000 l → val 10 (fours l) = val 10000 l
  | [], _ => rfl
  | d :: l, h => by
    have hd := h.head
    rw [fours, val_append, fours_val l h.tail, val]
    simp only [four, val, List.length_cons, List.length_nil]
    omega
theorem fours_snoc (l : List Nat) (d : Nat) : fours (l ++ [d]) = fours l ++ four d := by
  induction l with
  | nil => simp [fours]
  | cons x l ih => rw [List.cons_append, fours, ih, fours, List.append_assoc]
/-- a text of decimal digits, the greatest first. -/
def bytes (l : List Nat) : List UInt8 := l.reverse.map fun d => UInt8.ofNat (48 + d)
theorem bytes_snoc (l : List Nat) (d : Nat) : bytes (l ++ [d]) = UInt8.ofNat (48 + d) :: bytes l := by simp [bytes]
theorem bytes_append (a b : List Nat) : bytes (a ++ b) = bytes b ++ bytes a := by simp [bytes]
/-- the text of a number. -/
def text (n : Nat) : List UInt8 := if n = 0 then [48] else bytes (dig 10 n)
theorem text_pos (n : Nat) : 0 < (text n).length := by
  unfold text
  split
  · simp
  · rename_i h; rw [dig_step (by omega) h]; simp [bytes]
/-- no nought is ahead. -/
theorem text_head {n : Nat} (h : n ≠ 0) : (text n).head? ≠ some 48 := by
  unfold text
  rw [if_neg h]
  have hs := dig_small (B := 10) (by omega) n
  have hb := dig_big (B := 10) (by omega) h
  have hv := dig_val (B := 10) (by omega) n
  rcases List.eq_nil_or_concat (dig 10 n) with e | ⟨l, d, e⟩
  · rw [dig_nil (by omega)] at e; exact absurd e h
  · rw [List.concat_eq_append] at e
    rw [e, bytes_snoc]
    rw [e] at hs hb hv
    have hd : d < 10 := hs d (by simp)
    have hd0 : d ≠ 0 := by
      rintro rfl
      rw [val_snoc, Nat.mul_zero, Nat.add_zero] at hv
      have h1 := val_lt (B := 10) (by omega) l (fun x hx => hs x (by simp [hx]))
      rw [List.length_append, List.length_singleton, Nat.add_sub_cancel] at hb
      omega
    simp only [List.head?_cons, ne_eq, Option.some.injEq]
    intro hc
    have h2 := congrArg UInt8.toNat hc
    simp at h2
    omega
/-- noughts ahead are dropped one by one. -/
def strip : List UInt8 → List UInt8
  | [] => []
  | c :: s => if c = 48 then strip s else c :: s
theorem strip_trim : ∀ (k : Nat) (l : List Nat), l.length = k → Small 10 l → strip (bytes l) = bytes (trim l)
  | 0, l, h, _ => by rw [List.eq_nil_of_length_eq_zero h]; rfl
  | k + 1, l, h, hs => by
    rcases List.eq_nil_or_concat l with e | ⟨l', d, e⟩
    · subst e; rfl
    · rw [List.concat_eq_append] at e
      subst e
      have hd : d < 10 := hs d (by simp)
      have hs' : Small 10 l' := fun x hx => hs x (by simp [hx])
      rw [bytes_snoc, strip]
      by_cases h0 : d = 0
      · subst h0
        rw [if_pos (by rfl), trim_snoc_zero]
        exact strip_trim k l' (by simpa using h) hs'
      · have hne : ¬ UInt8.ofNat (48 + d) = 48 := by
          intro hc
          have h2 := congrArg UInt8.toNat hc
          simp at h2
          omega
        rw [if_neg hne, trim_snoc l' h0, bytes_snoc]
/-- the four-digit text, noughts ahead dropped, is the number's. -/
theorem strip_fours {n : Nat} (h : n ≠ 0) : strip (bytes (fours (dig 10000 n))) = text n := by
  have hs := dig_small (B := 10000) (by omega) n
  rw [strip_trim _ _ rfl (fours_small _), trim_dig (by omega) _ (fours_small _), fours_val _ hs, dig_val (by omega)]
  unfold text
  rw [if_neg h]
/-- reading, a digit more. -/
def readN (acc : Nat) (s : List UInt8) : Nat := s.foldl (fun n c => n * 10 + (c.toNat - 48)) acc
theorem readN_bytes : ∀ (k : Nat) (l : List Nat), l.length = k → Small 10 l → ∀ acc, readN acc (bytes l) = acc * 10 ^ l.length + val 10 l
  | 0, l, h, _, acc => by rw [List.eq_nil_of_length_eq_zero h]; simp [bytes, readN, val]
  | k + 1, l, h, hs, acc => by
    rcases List.eq_nil_or_concat l with e | ⟨l', d, e⟩
    · subst e; simp [bytes, readN, val]
    · rw [List.concat_eq_append] at e
      subst e
      have hd : d < 10 := hs d (by simp)
      have hs' : Small 10 l' := fun x hx => hs x (by simp [hx])
      have e1 : (UInt8.ofNat (48 + d)).toNat - 48 = d := by
        rw [UInt8.toNat_ofNat_of_lt' (by show 48 + d < 256; omega)]; omega
      rw [bytes_snoc, readN, List.foldl_cons, ← readN, readN_bytes k l' (by simpa using h) hs', e1, val_snoc, List.length_append, List.length_singleton, Nat.pow_succ, Nat.add_mul]
      have e2 : acc * 10 * 10 ^ l'.length = acc * (10 ^ l'.length * 10) := by rw [Nat.mul_assoc, Nat.mul_comm 10]
      rw [e2, Nat.mul_comm d]
      omega
theorem readN_text (n : Nat) : readN 0 (text n) = n := by
  unfold text
  split
  · rename_i h; subst h; rfl
  · rw [readN_bytes _ _ rfl (dig_small (by omega) n), dig_val (by omega)]; omega
/-- the digits that a text says, the least first. -/
def unbytes (s : List UInt8) : List Nat := s.reverse.map fun c => c.toNat - 48
theorem bytes_unbytes (s : List UInt8) (h : ∀ c ∈ s, 48 ≤ c.toNat ∧ c.toNat ≤ 57) : bytes (unbytes s) = s := by
  unfold bytes unbytes
  rw [← List.map_reverse, List.reverse_reverse, List.map_map]
  rw [List.map_congr_left (g := id), List.map_id]
  intro c hc
  have := h c hc
  show UInt8.ofNat (48 + (c.toNat - 48)) = c
  rw [show 48 + (c.toNat - 48) = c.toNat by omega]
  exact UInt8.ofNat_toNat
theorem unbytes_small (s : List UInt8) (h : ∀ c ∈ s, 48 ≤ c.toNat ∧ c.toNat ≤ 57) : Small 10 (unbytes s) := fun d hd => by
  simp only [unbytes, List.mem_map, List.mem_reverse] at hd
  obtain ⟨c, hc, rfl⟩ := hd
  have := h c hc
  omega
/-- a text of digits with no nought ahead is that of the number that it is read as. -/
theorem text_read {s : List UInt8} (h : ∀ c ∈ s, 48 ≤ c.toNat ∧ c.toNat ≤ 57) (hne : s ≠ []) (h0 : s.head? ≠ some 48 ∨ s.length = 1) : text (readN 0 s) = s := by
  have hb := bytes_unbytes s h
  have hs := unbytes_small s h
  have hr : readN 0 s = val 10 (unbytes s) := by
    have := readN_bytes _ (unbytes s) rfl hs 0
    rw [hb] at this; omega
  rw [hr]
  have ht := strip_trim _ (unbytes s) rfl hs
  rw [hb, trim_dig (by omega) _ hs] at ht
  match s, hne with
  | c :: s, _ =>
    by_cases hc : c = 48
    · subst hc
      rcases h0 with h0 | h0
      · exact absurd rfl h0
      · have : s = [] := List.eq_nil_of_length_eq_zero (by simpa using h0)
        subst this; rfl
    · rw [strip, if_neg hc] at ht
      unfold text
      by_cases hz : val 10 (unbytes (c :: s)) = 0
      · rw [hz, dig_zero] at ht; cases ht
      · rw [if_neg hz]; exact ht.symm

/-! ### limbs of 64 bits, by sixteen bits -/
theorem limb_parts (acc x : Nat) (h : x < 18446744073709551616) :
    (((acc * 65536 + x / 65536 / 65536 / 65536 % 65536) * 65536 + x / 65536 / 65536 % 65536) * 65536 + x / 65536 % 65536) * 65536 + x % 65536 = x + 18446744073709551616 * acc := by omega
end Go.Dig
