/-
  The document's ratio of a text. Condition: not more than 200 bytes.
-/
import Derived.Test.YtnfoblmfjldheaaDoorQt
namespace Go.Proofs.YtnfoblmfjldheaaDoor
open Go.RowKit Go.Dig Go.Shelf Go.Proofs

theorem eqz0 {n : Nat} (h : n ≠ 0) : ((n : Int) == 0) = false := by rw [beq_eq_false_iff_ne]; omega
theorem eqz1 {n : Nat} (h : n = 0) : ((n : Int) == 0) = true := by subst h; rfl
theorem D_ne {n : Nat} (h : n ≠ 0) : (D n).length ≠ 0 := fun e => h ((dig_nil (by omega) n).1 (List.length_eq_zero_iff.1 e))
theorem byte_u {s u t : List UInt8} (hs : s = u ++ 47 :: t) (hu : (47 : UInt8) ∉ u) (k : Nat) (hk : k < u.length) : (s.getD k 0).toNat ≠ 47 := by
  subst hs
  have e : (u ++ 47 :: t).getD k 0 = u[k] := by simp [List.getD, List.getElem?_append_left hk, hk]
  rw [e]
  intro h9
  exact hu (by rw [← show u[k] = (47 : UInt8) from UInt8.toNat_inj.1 h9]; exact List.getElem_mem hk)
theorem byte_sep {s u t : List UInt8} (hs : s = u ++ 47 :: t) : (s.getD u.length 0).toNat = 47 := by
  subst hs
  simp [List.getD]
theorem byte_s {s : List UInt8} (hu : (47 : UInt8) ∉ s) (k : Nat) (hk : k < s.length) : (s.getD k 0).toNat ≠ 47 := by
  have e : s.getD k 0 = s[k] := by simp [List.getD, hk]
  rw [e]
  intro h9
  exact hu (by rw [← show s[k] = (47 : UInt8) from UInt8.toNat_inj.1 h9]; exact List.getElem_mem hk)
set_option maxRecDepth 100000 in
set_option maxHeartbeats 4000000 in
theorem rread_n1 (s : List UInt8) (w : World) (hll : s.length ≤ 1000) (HB : Hid (∀ k, k < s.length → (s.getD k 0).toNat ≠ 47)) (ex1 : (⟨s.toArray⟩ : ByteArray).extract 0 s.length = ⟨s.toArray⟩) (HN : Hid (¬ IsText s)) :
    Calls Tryd.prog 38 #[.string ⟨s.toArray⟩] w fun e w' => e = .returned (.tuple #[.agg #[.slice none 0 0, .slice none 0 0], .bool false]) ∧ Below w.heap.size w w' := by
  go_enter Tryd.func38, Tryd.ntmps38
  have hb : Below w.heap.size w (w.alloc (.cells #[.slice none 0 0, .slice none 0 0] 35)) := ((Below.refl _ _).alloc (Nat.le_refl _) _)
  have hB := hb
  have P1 : Pair (w.alloc (.cells #[.slice none 0 0, .slice none 0 0] 35)) (w.heap.size) 35 (.slice none 0 0) (.slice none 0 0) := by
    have h := Pair.new w 35 (.slice none 0 0) (.slice none 0 0)
    simpa only [World.size_alloc] using h
  clear hb
  go_wp2_with fail
  go_loop [4] (fun i => ∃ k : Nat, k ≤ s.length ∧ i = .int .i64 (k : Int)) (fun i => s.length - (intOf i).toNat)
  case atStart => exact ⟨0, Nat.zero_le _, rfl⟩
  case round =>
    obtain ⟨k, hk, rfl⟩ := hrel
    by_cases hlt : k < s.length
    · have hsz : k < (⟨s.toArray⟩ : ByteArray).size := by show k < s.length; omega
      obtain ⟨z, hx⟩ : ∃ z : Nat, ((⟨s.toArray⟩ : ByteArray)[k]'hsz).toNat = z := ⟨_, rfl⟩
      have hx47 : ((z : Int) != 47) = true := bne_iff_ne.2 (by have h8 := HB.out k hlt; rw [← byte_at s k hsz, hx] at h8; omega)
      go_wp2_with fail
      go_round
      case rel => exact ⟨k + 1, by omega, by go_num⟩
      case measure => simp [intOf]; omega
    · obtain rfl : k = s.length := by omega
      clear hlt hk HB
      have c0P1 := P1.c0
      have c1P1 := P1.c1
      have H2 := Lib.hid (rRead_no s hll HN.out (w.alloc (.cells #[.slice none 0 0, .slice none 0 0] 35)))
      go_wp2_with fail
      clear c0P1 c1P1
      refine H2.out.mono ?_
      rintro e w3 ⟨rfl, hb⟩
      clear H2
      replace P1 := P1.below hb
      replace hB := hB.trans (hb.mono hB.size)
      clear hb
      have c0P1 := P1.c0
      have c1P1 := P1.c1
      have z0P1 := P1.z0
      have z1P1 := P1.z1
      go_wp2_with fail
      replace hB := Below.pset hB (by omega : w.heap.size ≤ w.heap.size) (.slice none 0 0) (.slice none 0 0)
      have P1x := P1.set (.slice none 0 0) (.slice none 0 0)
      generalize (w3.setCell ⟨w.heap.size, 0, none⟩ (.slice none 0 0)).setCell ⟨w.heap.size, 1, none⟩ (.slice none 0 0) = WW at P1x hB ⊢
      refine bodyPost_ret (v := .tuple #[.agg #[.slice none 0 0, .slice none 0 0], .bool false]) ?_ rfl (⟨rfl, hB⟩)
      simp [results, Tryd.f38, go_sem, P1x.c0, P1x.c1]

set_option maxRecDepth 100000 in
set_option maxHeartbeats 4000000 in
theorem rread_n2 (s u : List UInt8) (w : World) (hll : s.length ≤ 1000) (HB : Hid (∀ k, k < u.length → (s.getD k 0).toNat ≠ 47)) (H47 : Hid ((s.getD u.length 0).toNat = 47)) (hlu : u.length < s.length) (ex1 : (⟨s.toArray⟩ : ByteArray).extract 0 u.length = ⟨u.toArray⟩) (HLu : Hid (u.length ≤ 1000)) (HN : Hid (¬ IsText u)) :
    Calls Tryd.prog 38 #[.string ⟨s.toArray⟩] w fun e w' => e = .returned (.tuple #[.agg #[.slice none 0 0, .slice none 0 0], .bool false]) ∧ Below w.heap.size w w' := by
  go_enter Tryd.func38, Tryd.ntmps38
  have hb : Below w.heap.size w (w.alloc (.cells #[.slice none 0 0, .slice none 0 0] 35)) := ((Below.refl _ _).alloc (Nat.le_refl _) _)
  have hB := hb
  have P1 : Pair (w.alloc (.cells #[.slice none 0 0, .slice none 0 0] 35)) (w.heap.size) 35 (.slice none 0 0) (.slice none 0 0) := by
    have h := Pair.new w 35 (.slice none 0 0) (.slice none 0 0)
    simpa only [World.size_alloc] using h
  clear hb
  go_wp2_with fail
  go_loop [4] (fun i => ∃ k : Nat, k ≤ u.length ∧ i = .int .i64 (k : Int)) (fun i => u.length - (intOf i).toNat)
  case atStart => exact ⟨0, Nat.zero_le _, rfl⟩
  case round =>
    obtain ⟨k, hk, rfl⟩ := hrel
    by_cases hlt : k < u.length
    · have hsz : k < (⟨s.toArray⟩ : ByteArray).size := by show k < s.length; omega
      obtain ⟨z, hx⟩ : ∃ z : Nat, ((⟨s.toArray⟩ : ByteArray)[k]'hsz).toNat = z := ⟨_, rfl⟩
      have hx47 : ((z : Int) != 47) = true := bne_iff_ne.2 (by have h8 := HB.out k hlt; rw [← byte_at s k hsz, hx] at h8; omega)
      go_wp2_with fail
      go_round
      case rel => exact ⟨k + 1, by omega, by go_num⟩
      case measure => simp [intOf]; omega
    · obtain rfl : k = u.length := by omega
      have hsz : u.length < (⟨s.toArray⟩ : ByteArray).size := by show u.length < s.length; omega
      have hx : ((⟨s.toArray⟩ : ByteArray)[u.length]'hsz).toNat = 47 := by rw [byte_at s _ hsz]; exact H47.out
      clear hlt hk HB H47
      have c0P1 := P1.c0
      have c1P1 := P1.c1
      have H2 := Lib.hid (rRead_no u HLu.out HN.out (w.alloc (.cells #[.slice none 0 0, .slice none 0 0] 35)))
      go_wp2_with fail
      clear c0P1 c1P1
      refine H2.out.mono ?_
      rintro e w3 ⟨rfl, hb⟩
      clear H2
      replace P1 := P1.below hb
      replace hB := hB.trans (hb.mono hB.size)
      clear hb
      have c0P1 := P1.c0
      have c1P1 := P1.c1
      have z0P1 := P1.z0
      have z1P1 := P1.z1
      go_wp2_with fail
      replace hB := Below.pset hB (by omega : w.heap.size ≤ w.heap.size) (.slice none 0 0) (.slice none 0 0)
      have P1x := P1.set (.slice none 0 0) (.slice none 0 0)
      generalize (w3.setCell ⟨w.heap.size, 0, none⟩ (.slice none 0 0)).setCell ⟨w.heap.size, 1, none⟩ (.slice none 0 0) = WW at P1x hB ⊢
      refine bodyPost_ret (v := .tuple #[.agg #[.slice none 0 0, .slice none 0 0], .bool false]) ?_ rfl (⟨rfl, hB⟩)
      simp [results, Tryd.f38, go_sem, P1x.c0, P1x.c1]

set_option maxRecDepth 100000 in
set_option maxHeartbeats 4000000 in
theorem rread_n3 (s t : List UInt8) (x : Nat) (w : World) (hll : s.length ≤ 1000) (HB : Hid (∀ k, k < (text x).length → (s.getD k 0).toNat ≠ 47)) (H47 : Hid ((s.getD (text x).length 0).toNat = 47)) (hlu : (text x).length < s.length) (ex1 : (⟨s.toArray⟩ : ByteArray).extract 0 (text x).length = ⟨(text x).toArray⟩) (ex2 : (⟨s.toArray⟩ : ByteArray).extract ((text x).length + 1) s.length = ⟨t.toArray⟩) (HTx : Hid ((text x).length ≤ 1000)) (HLt : Hid (t.length ≤ 1000)) (HN : Hid (¬ IsText t)) :
    Calls Tryd.prog 38 #[.string ⟨s.toArray⟩] w fun e w' => e = .returned (.tuple #[.agg #[.slice none 0 0, .slice none 0 0], .bool false]) ∧ Below w.heap.size w w' := by
  go_enter Tryd.func38, Tryd.ntmps38
  have hb : Below w.heap.size w (w.alloc (.cells #[.slice none 0 0, .slice none 0 0] 35)) := ((Below.refl _ _).alloc (Nat.le_refl _) _)
  have hB := hb
  have P1 : Pair (w.alloc (.cells #[.slice none 0 0, .slice none 0 0] 35)) (w.heap.size) 35 (.slice none 0 0) (.slice none 0 0) := by
    have h := Pair.new w 35 (.slice none 0 0) (.slice none 0 0)
    simpa only [World.size_alloc] using h
  clear hb
  go_wp2_with fail
  go_loop [4] (fun i => ∃ k : Nat, k ≤ (text x).length ∧ i = .int .i64 (k : Int)) (fun i => (text x).length - (intOf i).toNat)
  case atStart => exact ⟨0, Nat.zero_le _, rfl⟩
  case round =>
    obtain ⟨k, hk, rfl⟩ := hrel
    by_cases hlt : k < (text x).length
    · have hsz : k < (⟨s.toArray⟩ : ByteArray).size := by show k < s.length; omega
      obtain ⟨z, hx⟩ : ∃ z : Nat, ((⟨s.toArray⟩ : ByteArray)[k]'hsz).toNat = z := ⟨_, rfl⟩
      have hx47 : ((z : Int) != 47) = true := bne_iff_ne.2 (by have h8 := HB.out k hlt; rw [← byte_at s k hsz, hx] at h8; omega)
      go_wp2_with fail
      go_round
      case rel => exact ⟨k + 1, by omega, by go_num⟩
      case measure => simp [intOf]; omega
    · obtain rfl : k = (text x).length := by omega
      have hsz : (text x).length < (⟨s.toArray⟩ : ByteArray).size := by show (text x).length < s.length; omega
      have hx : ((⟨s.toArray⟩ : ByteArray)[(text x).length]'hsz).toNat = 47 := by rw [byte_at s _ hsz]; exact H47.out
      clear hlt hk HB H47
      have c0P1 := P1.c0
      have c1P1 := P1.c1
      have H4 := Lib.hid (rread_nat x HTx.out (w.alloc (.cells #[.slice none 0 0, .slice none 0 0] 35)))
      go_wp2_with fail
      clear c0P1 c1P1
      refine H4.out.mono ?_
      rintro e w5 ⟨v3, rfl, rx2, hb⟩
      clear H4
      replace P1 := P1.below hb
      replace hB := hB.trans (hb.mono hB.size)
      clear hb
      obtain ⟨x2, rfl, rx2⟩ := rx2.sl
      have c0P1 := P1.c0
      have c1P1 := P1.c1
      have H8 := Lib.hid (Of_any (1) w5 (by omega))
      go_wp2_with fail
      clear c0P1 c1P1
      refine H8.out.mono ?_
      rintro e w9 ⟨v7, rfl, rx6, hb⟩
      clear H8
      replace P1 := P1.below hb
      replace rx2 := rx2.below hb
      replace hB := hB.trans (hb.mono hB.size)
      clear hb
      obtain ⟨x6, rfl, rx6⟩ := rx6.sl
      have HLx6 : Hid ((L (1)).length ≤ 1) := Lib.hid (one_row (1) (by have h : 1 < 9223372036854775808 := (by omega); omega))
      have c0P1 := P1.c0
      have c1P1 := P1.c1
      have H10 := Lib.hid (rRead_no t HLt.out HN.out w9)
      go_wp2_with fail
      clear c0P1 c1P1
      refine H10.out.mono ?_
      rintro e w11 ⟨rfl, hb⟩
      clear H10
      replace P1 := P1.below hb
      replace rx2 := rx2.below hb
      replace rx6 := rx6.below hb
      replace hB := hB.trans (hb.mono hB.size)
      clear hb
      have c0P1 := P1.c0
      have c1P1 := P1.c1
      have z0P1 := P1.z0
      have z1P1 := P1.z1
      go_wp2_with fail
      replace rx2 := rx2.pset P1 (.slice none 0 0) (.slice none 0 0)
      replace rx6 := rx6.pset P1 (.slice none 0 0) (.slice none 0 0)
      replace hB := Below.pset hB (by omega : w.heap.size ≤ w.heap.size) (.slice none 0 0) (.slice none 0 0)
      have P1x := P1.set (.slice none 0 0) (.slice none 0 0)
      generalize (w11.setCell ⟨w.heap.size, 0, none⟩ (.slice none 0 0)).setCell ⟨w.heap.size, 1, none⟩ (.slice none 0 0) = WW at rx2 rx6 P1x hB ⊢
      refine bodyPost_ret (v := .tuple #[.agg #[.slice none 0 0, .slice none 0 0], .bool false]) ?_ rfl (⟨rfl, hB⟩)
      simp [results, Tryd.f38, go_sem, P1x.c0, P1x.c1]

set_option maxRecDepth 100000 in
set_option maxHeartbeats 4000000 in
theorem rread_n4 (s : List UInt8) (x : Nat) (w : World) (hll : s.length ≤ 1000) (HB : Hid (∀ k, k < (text x).length → (s.getD k 0).toNat ≠ 47)) (H47 : Hid ((s.getD (text x).length 0).toNat = 47)) (hlu : (text x).length < s.length) (ex1 : (⟨s.toArray⟩ : ByteArray).extract 0 (text x).length = ⟨(text x).toArray⟩) (ex2 : (⟨s.toArray⟩ : ByteArray).extract ((text x).length + 1) s.length = ⟨(text 0).toArray⟩) (HTx : Hid ((text x).length ≤ 1000)) (HT0 : Hid ((text 0).length ≤ 1000)) :
    Calls Tryd.prog 38 #[.string ⟨s.toArray⟩] w fun e w' => e = .returned (.tuple #[.agg #[.slice none 0 0, .slice none 0 0], .bool false]) ∧ Below w.heap.size w w' := by
  go_enter Tryd.func38, Tryd.ntmps38
  have hb : Below w.heap.size w (w.alloc (.cells #[.slice none 0 0, .slice none 0 0] 35)) := ((Below.refl _ _).alloc (Nat.le_refl _) _)
  have hB := hb
  have P1 : Pair (w.alloc (.cells #[.slice none 0 0, .slice none 0 0] 35)) (w.heap.size) 35 (.slice none 0 0) (.slice none 0 0) := by
    have h := Pair.new w 35 (.slice none 0 0) (.slice none 0 0)
    simpa only [World.size_alloc] using h
  clear hb
  go_wp2_with fail
  go_loop [4] (fun i => ∃ k : Nat, k ≤ (text x).length ∧ i = .int .i64 (k : Int)) (fun i => (text x).length - (intOf i).toNat)
  case atStart => exact ⟨0, Nat.zero_le _, rfl⟩
  case round =>
    obtain ⟨k, hk, rfl⟩ := hrel
    by_cases hlt : k < (text x).length
    · have hsz : k < (⟨s.toArray⟩ : ByteArray).size := by show k < s.length; omega
      obtain ⟨z, hx⟩ : ∃ z : Nat, ((⟨s.toArray⟩ : ByteArray)[k]'hsz).toNat = z := ⟨_, rfl⟩
      have hx47 : ((z : Int) != 47) = true := bne_iff_ne.2 (by have h8 := HB.out k hlt; rw [← byte_at s k hsz, hx] at h8; omega)
      go_wp2_with fail
      go_round
      case rel => exact ⟨k + 1, by omega, by go_num⟩
      case measure => simp [intOf]; omega
    · obtain rfl : k = (text x).length := by omega
      have hsz : (text x).length < (⟨s.toArray⟩ : ByteArray).size := by show (text x).length < s.length; omega
      have hx : ((⟨s.toArray⟩ : ByteArray)[(text x).length]'hsz).toNat = 47 := by rw [byte_at s _ hsz]; exact H47.out
      clear hlt hk HB H47
      have c0P1 := P1.c0
      have c1P1 := P1.c1
      have H4 := Lib.hid (rread_nat x HTx.out (w.alloc (.cells #[.slice none 0 0, .slice none 0 0] 35)))
      go_wp2_with fail
      clear c0P1 c1P1
      refine H4.out.mono ?_
      rintro e w5 ⟨v3, rfl, rx2, hb⟩
      clear H4
      replace P1 := P1.below hb
      replace hB := hB.trans (hb.mono hB.size)
      clear hb
      obtain ⟨x2, rfl, rx2⟩ := rx2.sl
      have c0P1 := P1.c0
      have c1P1 := P1.c1
      have H8 := Lib.hid (Of_any (1) w5 (by omega))
      go_wp2_with fail
      clear c0P1 c1P1
      refine H8.out.mono ?_
      rintro e w9 ⟨v7, rfl, rx6, hb⟩
      clear H8
      replace P1 := P1.below hb
      replace rx2 := rx2.below hb
      replace hB := hB.trans (hb.mono hB.size)
      clear hb
      obtain ⟨x6, rfl, rx6⟩ := rx6.sl
      have HLx6 : Hid ((L (1)).length ≤ 1) := Lib.hid (one_row (1) (by have h : 1 < 9223372036854775808 := (by omega); omega))
      have c0P1 := P1.c0
      have c1P1 := P1.c1
      have H12 := Lib.hid (rread_nat 0 HT0.out w9)
      go_wp2_with fail
      clear c0P1 c1P1
      refine H12.out.mono ?_
      rintro e w13 ⟨v11, rfl, rx10, hb⟩
      clear H12
      replace P1 := P1.below hb
      replace rx2 := rx2.below hb
      replace rx6 := rx6.below hb
      replace hB := hB.trans (hb.mono hB.size)
      clear hb
      obtain ⟨x10, rfl, rx10⟩ := rx10.sl
      have hzx10 : ((x10.n : Int) == 0) = true := eqz1 (by rw [RD.len rx10]; rfl)
      have c0P1 := P1.c0
      have c1P1 := P1.c1
      have z0P1 := P1.z0
      have z1P1 := P1.z1
      go_wp2_with fail
      replace rx2 := rx2.pset P1 (.slice none 0 0) (.slice none 0 0)
      replace rx6 := rx6.pset P1 (.slice none 0 0) (.slice none 0 0)
      replace rx10 := rx10.pset P1 (.slice none 0 0) (.slice none 0 0)
      replace hB := Below.pset hB (by omega : w.heap.size ≤ w.heap.size) (.slice none 0 0) (.slice none 0 0)
      have P1x := P1.set (.slice none 0 0) (.slice none 0 0)
      generalize (w13.setCell ⟨w.heap.size, 0, none⟩ (.slice none 0 0)).setCell ⟨w.heap.size, 1, none⟩ (.slice none 0 0) = WW at rx2 rx6 rx10 P1x hB ⊢
      refine bodyPost_ret (v := .tuple #[.agg #[.slice none 0 0, .slice none 0 0], .bool false]) ?_ rfl (⟨rfl, hB⟩)
      simp [results, Tryd.f38, go_sem, P1x.c0, P1x.c1]

set_option maxRecDepth 100000 in
set_option maxHeartbeats 4000000 in
theorem rread_n5 (s r : List UInt8) (x y : Nat) (w : World) (hll : s.length ≤ 1000) (HB : Hid (∀ k, k < (text x).length → (s.getD k 0).toNat ≠ 47)) (H47 : Hid ((s.getD (text x).length 0).toNat = 47)) (hlu : (text x).length < s.length) (ex1 : (⟨s.toArray⟩ : ByteArray).extract 0 (text x).length = ⟨(text x).toArray⟩) (ex2 : (⟨s.toArray⟩ : ByteArray).extract ((text x).length + 1) s.length = ⟨(text y).toArray⟩) (HTx : Hid ((text x).length ≤ 1000)) (HTy : Hid ((text y).length ≤ 1000)) (HLx : Hid ((L x).length ≤ 200)) (HLy : Hid ((L y).length ≤ 200)) (HNE : Hid (y ≠ 0)) (HQ : Hid (qtext (x / Nat.gcd x y) (y / Nat.gcd x y) = r)) (hrs : (r == s) = false) :
    Calls Tryd.prog 38 #[.string ⟨s.toArray⟩] w fun e w' => e = .returned (.tuple #[.agg #[.slice none 0 0, .slice none 0 0], .bool false]) ∧ Below w.heap.size w w' := by
  go_enter Tryd.func38, Tryd.ntmps38
  have hb : Below w.heap.size w (w.alloc (.cells #[.slice none 0 0, .slice none 0 0] 35)) := ((Below.refl _ _).alloc (Nat.le_refl _) _)
  have hB := hb
  have P1 : Pair (w.alloc (.cells #[.slice none 0 0, .slice none 0 0] 35)) (w.heap.size) 35 (.slice none 0 0) (.slice none 0 0) := by
    have h := Pair.new w 35 (.slice none 0 0) (.slice none 0 0)
    simpa only [World.size_alloc] using h
  clear hb
  go_wp2_with fail
  go_loop [4] (fun i => ∃ k : Nat, k ≤ (text x).length ∧ i = .int .i64 (k : Int)) (fun i => (text x).length - (intOf i).toNat)
  case atStart => exact ⟨0, Nat.zero_le _, rfl⟩
  case round =>
    obtain ⟨k, hk, rfl⟩ := hrel
    by_cases hlt : k < (text x).length
    · have hsz : k < (⟨s.toArray⟩ : ByteArray).size := by show k < s.length; omega
      obtain ⟨z, hx⟩ : ∃ z : Nat, ((⟨s.toArray⟩ : ByteArray)[k]'hsz).toNat = z := ⟨_, rfl⟩
      have hx47 : ((z : Int) != 47) = true := bne_iff_ne.2 (by have h8 := HB.out k hlt; rw [← byte_at s k hsz, hx] at h8; omega)
      go_wp2_with fail
      go_round
      case rel => exact ⟨k + 1, by omega, by go_num⟩
      case measure => simp [intOf]; omega
    · obtain rfl : k = (text x).length := by omega
      have hsz : (text x).length < (⟨s.toArray⟩ : ByteArray).size := by show (text x).length < s.length; omega
      have hx : ((⟨s.toArray⟩ : ByteArray)[(text x).length]'hsz).toNat = 47 := by rw [byte_at s _ hsz]; exact H47.out
      clear hlt hk HB H47
      have c0P1 := P1.c0
      have c1P1 := P1.c1
      have H4 := Lib.hid (rread_nat x HTx.out (w.alloc (.cells #[.slice none 0 0, .slice none 0 0] 35)))
      go_wp2_with fail
      clear c0P1 c1P1
      refine H4.out.mono ?_
      rintro e w5 ⟨v3, rfl, rx2, hb⟩
      clear H4
      replace P1 := P1.below hb
      replace hB := hB.trans (hb.mono hB.size)
      clear hb
      obtain ⟨x2, rfl, rx2⟩ := rx2.sl
      have c0P1 := P1.c0
      have c1P1 := P1.c1
      have H8 := Lib.hid (Of_any (1) w5 (by omega))
      go_wp2_with fail
      clear c0P1 c1P1
      refine H8.out.mono ?_
      rintro e w9 ⟨v7, rfl, rx6, hb⟩
      clear H8
      replace P1 := P1.below hb
      replace rx2 := rx2.below hb
      replace hB := hB.trans (hb.mono hB.size)
      clear hb
      obtain ⟨x6, rfl, rx6⟩ := rx6.sl
      have HLx6 : Hid ((L (1)).length ≤ 1) := Lib.hid (one_row (1) (by have h : 1 < 9223372036854775808 := (by omega); omega))
      have c0P1 := P1.c0
      have c1P1 := P1.c1
      have H12 := Lib.hid (rread_nat y HTy.out w9)
      go_wp2_with fail
      clear c0P1 c1P1
      refine H12.out.mono ?_
      rintro e w13 ⟨v11, rfl, rx10, hb⟩
      clear H12
      replace P1 := P1.below hb
      replace rx2 := rx2.below hb
      replace rx6 := rx6.below hb
      replace hB := hB.trans (hb.mono hB.size)
      clear hb
      obtain ⟨x10, rfl, rx10⟩ := rx10.sl
      have hzx10 : ((x10.n : Int) == 0) = false := eqz0 (by rw [RD.len rx10]; exact D_ne HNE.out)
      have c0P1 := P1.c0
      have c1P1 := P1.c1
      have H16 := Lib.hid (rof_sl x2 x10 (x) (y) w13 rx2 rx10 (Lib.hid (Nat.le_trans HLx.out (by omega))) (Lib.hid (Nat.le_trans HLy.out (by omega))) (Lib.hid HNE.out))
      go_wp2_with fail
      clear c0P1 c1P1
      refine H16.out.mono ?_
      rintro e w17 ⟨x14, x15, rfl, rx14, rx15, hb⟩
      clear H16
      replace P1 := P1.below hb
      replace rx2 := rx2.below hb
      replace rx6 := rx6.below hb
      replace rx10 := rx10.below hb
      replace hB := hB.trans (hb.mono hB.size)
      clear hb
      have HLx14 : Hid ((L (x / Nat.gcd x y)).length ≤ 200) := Lib.hid (len_div_le HLx.out)
      have HLx15 : Hid ((L (y / Nat.gcd x y)).length ≤ 200) := Lib.hid (len_div_le HLy.out)
      have c0P1 := P1.c0
      have c1P1 := P1.c1
      have H18 := Lib.hid (rqtext_nat x14 x15 (x / Nat.gcd x y) (y / Nat.gcd x y) w17 rx14 rx15 (Lib.hid (Nat.le_trans HLx14.out (by omega))) (Lib.hid (Nat.le_trans HLx15.out (by omega))) (Lib.hid (low_ne _ HNE.out)))
      rw [HQ.out] at H18
      go_wp2_with fail
      clear c0P1 c1P1
      refine H18.out.mono ?_
      rintro e w19 ⟨rfl, hb⟩
      clear H18
      replace P1 := P1.below hb
      replace rx2 := rx2.below hb
      replace rx6 := rx6.below hb
      replace rx10 := rx10.below hb
      replace rx14 := rx14.below hb
      replace rx15 := rx15.below hb
      replace hB := hB.trans (hb.mono hB.size)
      clear hb
      have c0P1 := P1.c0
      have c1P1 := P1.c1
      have z0P1 := P1.z0
      have z1P1 := P1.z1
      go_wp2_with fail
      replace rx2 := rx2.pset P1 (.slice none 0 0) (.slice none 0 0)
      replace rx6 := rx6.pset P1 (.slice none 0 0) (.slice none 0 0)
      replace rx10 := rx10.pset P1 (.slice none 0 0) (.slice none 0 0)
      replace rx14 := rx14.pset P1 (.slice none 0 0) (.slice none 0 0)
      replace rx15 := rx15.pset P1 (.slice none 0 0) (.slice none 0 0)
      replace hB := Below.pset hB (by omega : w.heap.size ≤ w.heap.size) (.slice none 0 0) (.slice none 0 0)
      have P1x := P1.set (.slice none 0 0) (.slice none 0 0)
      generalize (w19.setCell ⟨w.heap.size, 0, none⟩ (.slice none 0 0)).setCell ⟨w.heap.size, 1, none⟩ (.slice none 0 0) = WW at rx2 rx6 rx10 rx14 rx15 P1x hB ⊢
      refine bodyPost_ret (v := .tuple #[.agg #[.slice none 0 0, .slice none 0 0], .bool false]) ?_ rfl (⟨rfl, hB⟩)
      simp [results, Tryd.f38, go_sem, P1x.c0, P1x.c1]

set_option maxRecDepth 100000 in
set_option maxHeartbeats 4000000 in
theorem rread_two (s : List UInt8) (x y : Nat) (w : World) (hll : s.length ≤ 1000) (HB : Hid (∀ k, k < (text x).length → (s.getD k 0).toNat ≠ 47)) (H47 : Hid ((s.getD (text x).length 0).toNat = 47)) (hlu : (text x).length < s.length) (ex1 : (⟨s.toArray⟩ : ByteArray).extract 0 (text x).length = ⟨(text x).toArray⟩) (ex2 : (⟨s.toArray⟩ : ByteArray).extract ((text x).length + 1) s.length = ⟨(text y).toArray⟩) (HTx : Hid ((text x).length ≤ 1000)) (HTy : Hid ((text y).length ≤ 1000)) (HLx : Hid ((L x).length ≤ 200)) (HLy : Hid ((L y).length ≤ 200)) (HNE : Hid (y ≠ 0)) (HQ : Hid (qtext (x / Nat.gcd x y) (y / Nat.gcd x y) = s)) :
    Calls Tryd.prog 38 #[.string ⟨s.toArray⟩] w fun e w' => ∃ p q : Sl, e = .returned (.tuple #[.agg #[.slice p.a p.n p.c, .slice q.a q.n q.c], .bool true]) ∧ RD w' p (x / Nat.gcd x y) ∧ RD w' q (y / Nat.gcd x y) ∧ Below w.heap.size w w' := by
  go_enter Tryd.func38, Tryd.ntmps38
  have hb : Below w.heap.size w (w.alloc (.cells #[.slice none 0 0, .slice none 0 0] 35)) := ((Below.refl _ _).alloc (Nat.le_refl _) _)
  have hB := hb
  have P1 : Pair (w.alloc (.cells #[.slice none 0 0, .slice none 0 0] 35)) (w.heap.size) 35 (.slice none 0 0) (.slice none 0 0) := by
    have h := Pair.new w 35 (.slice none 0 0) (.slice none 0 0)
    simpa only [World.size_alloc] using h
  clear hb
  go_wp2_with fail
  go_loop [4] (fun i => ∃ k : Nat, k ≤ (text x).length ∧ i = .int .i64 (k : Int)) (fun i => (text x).length - (intOf i).toNat)
  case atStart => exact ⟨0, Nat.zero_le _, rfl⟩
  case round =>
    obtain ⟨k, hk, rfl⟩ := hrel
    by_cases hlt : k < (text x).length
    · have hsz : k < (⟨s.toArray⟩ : ByteArray).size := by show k < s.length; omega
      obtain ⟨z, hx⟩ : ∃ z : Nat, ((⟨s.toArray⟩ : ByteArray)[k]'hsz).toNat = z := ⟨_, rfl⟩
      have hx47 : ((z : Int) != 47) = true := bne_iff_ne.2 (by have h8 := HB.out k hlt; rw [← byte_at s k hsz, hx] at h8; omega)
      go_wp2_with fail
      go_round
      case rel => exact ⟨k + 1, by omega, by go_num⟩
      case measure => simp [intOf]; omega
    · obtain rfl : k = (text x).length := by omega
      have hsz : (text x).length < (⟨s.toArray⟩ : ByteArray).size := by show (text x).length < s.length; omega
      have hx : ((⟨s.toArray⟩ : ByteArray)[(text x).length]'hsz).toNat = 47 := by rw [byte_at s _ hsz]; exact H47.out
      clear hlt hk HB H47
      have c0P1 := P1.c0
      have c1P1 := P1.c1
      have H4 := Lib.hid (rread_nat x HTx.out (w.alloc (.cells #[.slice none 0 0, .slice none 0 0] 35)))
      go_wp2_with fail
      clear c0P1 c1P1
      refine H4.out.mono ?_
      rintro e w5 ⟨v3, rfl, rx2, hb⟩
      clear H4
      replace P1 := P1.below hb
      replace hB := hB.trans (hb.mono hB.size)
      clear hb
      obtain ⟨x2, rfl, rx2⟩ := rx2.sl
      have c0P1 := P1.c0
      have c1P1 := P1.c1
      have H8 := Lib.hid (Of_any (1) w5 (by omega))
      go_wp2_with fail
      clear c0P1 c1P1
      refine H8.out.mono ?_
      rintro e w9 ⟨v7, rfl, rx6, hb⟩
      clear H8
      replace P1 := P1.below hb
      replace rx2 := rx2.below hb
      replace hB := hB.trans (hb.mono hB.size)
      clear hb
      obtain ⟨x6, rfl, rx6⟩ := rx6.sl
      have HLx6 : Hid ((L (1)).length ≤ 1) := Lib.hid (one_row (1) (by have h : 1 < 9223372036854775808 := (by omega); omega))
      have c0P1 := P1.c0
      have c1P1 := P1.c1
      have H12 := Lib.hid (rread_nat y HTy.out w9)
      go_wp2_with fail
      clear c0P1 c1P1
      refine H12.out.mono ?_
      rintro e w13 ⟨v11, rfl, rx10, hb⟩
      clear H12
      replace P1 := P1.below hb
      replace rx2 := rx2.below hb
      replace rx6 := rx6.below hb
      replace hB := hB.trans (hb.mono hB.size)
      clear hb
      obtain ⟨x10, rfl, rx10⟩ := rx10.sl
      have hzx10 : ((x10.n : Int) == 0) = false := eqz0 (by rw [RD.len rx10]; exact D_ne HNE.out)
      have c0P1 := P1.c0
      have c1P1 := P1.c1
      have H16 := Lib.hid (rof_sl x2 x10 (x) (y) w13 rx2 rx10 (Lib.hid (Nat.le_trans HLx.out (by omega))) (Lib.hid (Nat.le_trans HLy.out (by omega))) (Lib.hid HNE.out))
      go_wp2_with fail
      clear c0P1 c1P1
      refine H16.out.mono ?_
      rintro e w17 ⟨x14, x15, rfl, rx14, rx15, hb⟩
      clear H16
      replace P1 := P1.below hb
      replace rx2 := rx2.below hb
      replace rx6 := rx6.below hb
      replace rx10 := rx10.below hb
      replace hB := hB.trans (hb.mono hB.size)
      clear hb
      have HLx14 : Hid ((L (x / Nat.gcd x y)).length ≤ 200) := Lib.hid (len_div_le HLx.out)
      have HLx15 : Hid ((L (y / Nat.gcd x y)).length ≤ 200) := Lib.hid (len_div_le HLy.out)
      have c0P1 := P1.c0
      have c1P1 := P1.c1
      have H18 := Lib.hid (rqtext_nat x14 x15 (x / Nat.gcd x y) (y / Nat.gcd x y) w17 rx14 rx15 (Lib.hid (Nat.le_trans HLx14.out (by omega))) (Lib.hid (Nat.le_trans HLx15.out (by omega))) (Lib.hid (low_ne _ HNE.out)))
      rw [HQ.out] at H18
      go_wp2_with fail
      clear c0P1 c1P1
      refine H18.out.mono ?_
      rintro e w19 ⟨rfl, hb⟩
      clear H18
      replace P1 := P1.below hb
      replace rx2 := rx2.below hb
      replace rx6 := rx6.below hb
      replace rx10 := rx10.below hb
      replace rx14 := rx14.below hb
      replace rx15 := rx15.below hb
      replace hB := hB.trans (hb.mono hB.size)
      clear hb
      have c0P1 := P1.c0
      have c1P1 := P1.c1
      have H22 := Lib.hid (rof_sl x2 x10 (x) (y) w19 rx2 rx10 (Lib.hid (Nat.le_trans HLx.out (by omega))) (Lib.hid (Nat.le_trans HLy.out (by omega))) (Lib.hid HNE.out))
      go_wp2_with fail
      clear c0P1 c1P1
      refine H22.out.mono ?_
      rintro e w23 ⟨x20, x21, rfl, rx20, rx21, hb⟩
      clear H22
      replace P1 := P1.below hb
      replace rx2 := rx2.below hb
      replace rx6 := rx6.below hb
      replace rx10 := rx10.below hb
      replace rx14 := rx14.below hb
      replace rx15 := rx15.below hb
      replace hB := hB.trans (hb.mono hB.size)
      clear hb
      have c0P1 := P1.c0
      have c1P1 := P1.c1
      have z0P1 := P1.z0
      have z1P1 := P1.z1
      go_wp2_with fail
      replace rx2 := rx2.pset P1 (.slice x20.a x20.n x20.c) (.slice x21.a x21.n x21.c)
      replace rx6 := rx6.pset P1 (.slice x20.a x20.n x20.c) (.slice x21.a x21.n x21.c)
      replace rx10 := rx10.pset P1 (.slice x20.a x20.n x20.c) (.slice x21.a x21.n x21.c)
      replace rx14 := rx14.pset P1 (.slice x20.a x20.n x20.c) (.slice x21.a x21.n x21.c)
      replace rx15 := rx15.pset P1 (.slice x20.a x20.n x20.c) (.slice x21.a x21.n x21.c)
      replace rx20 := rx20.pset P1 (.slice x20.a x20.n x20.c) (.slice x21.a x21.n x21.c)
      replace rx21 := rx21.pset P1 (.slice x20.a x20.n x20.c) (.slice x21.a x21.n x21.c)
      replace hB := Below.pset hB (by omega : w.heap.size ≤ w.heap.size) (.slice x20.a x20.n x20.c) (.slice x21.a x21.n x21.c)
      have P1x := P1.set (.slice x20.a x20.n x20.c) (.slice x21.a x21.n x21.c)
      generalize (w23.setCell ⟨w.heap.size, 0, none⟩ (.slice x20.a x20.n x20.c)).setCell ⟨w.heap.size, 1, none⟩ (.slice x21.a x21.n x21.c) = WW at rx2 rx6 rx10 rx14 rx15 rx20 rx21 P1x hB ⊢
      refine bodyPost_ret (v := .tuple #[.agg #[.slice x20.a x20.n x20.c, .slice x21.a x21.n x21.c], .bool true]) ?_ rfl (⟨x20, x21, rfl, rx20, rx21, hB⟩)
      simp [results, Tryd.f38, go_sem, P1x.c0, P1x.c1]

set_option maxRecDepth 100000 in
set_option maxHeartbeats 4000000 in
theorem rread_one (s : List UInt8) (x : Nat) (w : World) (hll : s.length ≤ 1000) (HB : Hid (∀ k, k < s.length → (s.getD k 0).toNat ≠ 47)) (ex1 : (⟨s.toArray⟩ : ByteArray).extract 0 s.length = ⟨(text x).toArray⟩) (HTx : Hid ((text x).length ≤ 1000)) (HLx : Hid ((L x).length ≤ 200)) (H1 : Hid ((1 : Nat) ≠ 0)) (HQ : Hid (qtext (x / Nat.gcd x 1) (1 / Nat.gcd x 1) = s)) :
    Calls Tryd.prog 38 #[.string ⟨s.toArray⟩] w fun e w' => ∃ p q : Sl, e = .returned (.tuple #[.agg #[.slice p.a p.n p.c, .slice q.a q.n q.c], .bool true]) ∧ RD w' p (x / Nat.gcd x 1) ∧ RD w' q (1 / Nat.gcd x 1) ∧ Below w.heap.size w w' := by
  go_enter Tryd.func38, Tryd.ntmps38
  have hb : Below w.heap.size w (w.alloc (.cells #[.slice none 0 0, .slice none 0 0] 35)) := ((Below.refl _ _).alloc (Nat.le_refl _) _)
  have hB := hb
  have P1 : Pair (w.alloc (.cells #[.slice none 0 0, .slice none 0 0] 35)) (w.heap.size) 35 (.slice none 0 0) (.slice none 0 0) := by
    have h := Pair.new w 35 (.slice none 0 0) (.slice none 0 0)
    simpa only [World.size_alloc] using h
  clear hb
  go_wp2_with fail
  go_loop [4] (fun i => ∃ k : Nat, k ≤ s.length ∧ i = .int .i64 (k : Int)) (fun i => s.length - (intOf i).toNat)
  case atStart => exact ⟨0, Nat.zero_le _, rfl⟩
  case round =>
    obtain ⟨k, hk, rfl⟩ := hrel
    by_cases hlt : k < s.length
    · have hsz : k < (⟨s.toArray⟩ : ByteArray).size := by show k < s.length; omega
      obtain ⟨z, hx⟩ : ∃ z : Nat, ((⟨s.toArray⟩ : ByteArray)[k]'hsz).toNat = z := ⟨_, rfl⟩
      have hx47 : ((z : Int) != 47) = true := bne_iff_ne.2 (by have h8 := HB.out k hlt; rw [← byte_at s k hsz, hx] at h8; omega)
      go_wp2_with fail
      go_round
      case rel => exact ⟨k + 1, by omega, by go_num⟩
      case measure => simp [intOf]; omega
    · obtain rfl : k = s.length := by omega
      clear hlt hk HB
      have c0P1 := P1.c0
      have c1P1 := P1.c1
      have H4 := Lib.hid (rread_nat x HTx.out (w.alloc (.cells #[.slice none 0 0, .slice none 0 0] 35)))
      go_wp2_with fail
      clear c0P1 c1P1
      refine H4.out.mono ?_
      rintro e w5 ⟨v3, rfl, rx2, hb⟩
      clear H4
      replace P1 := P1.below hb
      replace hB := hB.trans (hb.mono hB.size)
      clear hb
      obtain ⟨x2, rfl, rx2⟩ := rx2.sl
      have c0P1 := P1.c0
      have c1P1 := P1.c1
      have H8 := Lib.hid (Of_any (1) w5 (by omega))
      go_wp2_with fail
      clear c0P1 c1P1
      refine H8.out.mono ?_
      rintro e w9 ⟨v7, rfl, rx6, hb⟩
      clear H8
      replace P1 := P1.below hb
      replace rx2 := rx2.below hb
      replace hB := hB.trans (hb.mono hB.size)
      clear hb
      obtain ⟨x6, rfl, rx6⟩ := rx6.sl
      have HLx6 : Hid ((L (1)).length ≤ 1) := Lib.hid (one_row (1) (by have h : 1 < 9223372036854775808 := (by omega); omega))
      have hzx6 : ((x6.n : Int) == 0) = false := eqz0 (by rw [RD.len rx6]; exact D_ne H1.out)
      have c0P1 := P1.c0
      have c1P1 := P1.c1
      have H12 := Lib.hid (rof_sl x2 x6 (x) (1) w9 rx2 rx6 (Lib.hid (Nat.le_trans HLx.out (by omega))) (Lib.hid (Nat.le_trans HLx6.out (by omega))) (Lib.hid H1.out))
      go_wp2_with fail
      clear c0P1 c1P1
      refine H12.out.mono ?_
      rintro e w13 ⟨x10, x11, rfl, rx10, rx11, hb⟩
      clear H12
      replace P1 := P1.below hb
      replace rx2 := rx2.below hb
      replace rx6 := rx6.below hb
      replace hB := hB.trans (hb.mono hB.size)
      clear hb
      have HLx10 : Hid ((L (x / Nat.gcd x (1))).length ≤ 200) := Lib.hid (len_div_le HLx.out)
      have HLx11 : Hid ((L ((1) / Nat.gcd x (1))).length ≤ 1) := Lib.hid (len_div_le HLx6.out)
      have c0P1 := P1.c0
      have c1P1 := P1.c1
      have H14 := Lib.hid (rqtext_nat x10 x11 (x / Nat.gcd x (1)) ((1) / Nat.gcd x (1)) w13 rx10 rx11 (Lib.hid (Nat.le_trans HLx10.out (by omega))) (Lib.hid (Nat.le_trans HLx11.out (by omega))) (Lib.hid (low_ne _ H1.out)))
      rw [HQ.out] at H14
      go_wp2_with fail
      clear c0P1 c1P1
      refine H14.out.mono ?_
      rintro e w15 ⟨rfl, hb⟩
      clear H14
      replace P1 := P1.below hb
      replace rx2 := rx2.below hb
      replace rx6 := rx6.below hb
      replace rx10 := rx10.below hb
      replace rx11 := rx11.below hb
      replace hB := hB.trans (hb.mono hB.size)
      clear hb
      have c0P1 := P1.c0
      have c1P1 := P1.c1
      have H18 := Lib.hid (rof_sl x2 x6 (x) (1) w15 rx2 rx6 (Lib.hid (Nat.le_trans HLx.out (by omega))) (Lib.hid (Nat.le_trans HLx6.out (by omega))) (Lib.hid H1.out))
      go_wp2_with fail
      clear c0P1 c1P1
      refine H18.out.mono ?_
      rintro e w19 ⟨x16, x17, rfl, rx16, rx17, hb⟩
      clear H18
      replace P1 := P1.below hb
      replace rx2 := rx2.below hb
      replace rx6 := rx6.below hb
      replace rx10 := rx10.below hb
      replace rx11 := rx11.below hb
      replace hB := hB.trans (hb.mono hB.size)
      clear hb
      have c0P1 := P1.c0
      have c1P1 := P1.c1
      have z0P1 := P1.z0
      have z1P1 := P1.z1
      go_wp2_with fail
      replace rx2 := rx2.pset P1 (.slice x16.a x16.n x16.c) (.slice x17.a x17.n x17.c)
      replace rx6 := rx6.pset P1 (.slice x16.a x16.n x16.c) (.slice x17.a x17.n x17.c)
      replace rx10 := rx10.pset P1 (.slice x16.a x16.n x16.c) (.slice x17.a x17.n x17.c)
      replace rx11 := rx11.pset P1 (.slice x16.a x16.n x16.c) (.slice x17.a x17.n x17.c)
      replace rx16 := rx16.pset P1 (.slice x16.a x16.n x16.c) (.slice x17.a x17.n x17.c)
      replace rx17 := rx17.pset P1 (.slice x16.a x16.n x16.c) (.slice x17.a x17.n x17.c)
      replace hB := Below.pset hB (by omega : w.heap.size ≤ w.heap.size) (.slice x16.a x16.n x16.c) (.slice x17.a x17.n x17.c)
      have P1x := P1.set (.slice x16.a x16.n x16.c) (.slice x17.a x17.n x17.c)
      generalize (w19.setCell ⟨w.heap.size, 0, none⟩ (.slice x16.a x16.n x16.c)).setCell ⟨w.heap.size, 1, none⟩ (.slice x17.a x17.n x17.c) = WW at rx2 rx6 rx10 rx11 rx16 rx17 P1x hB ⊢
      refine bodyPost_ret (v := .tuple #[.agg #[.slice x16.a x16.n x16.c, .slice x17.a x17.n x17.c], .bool true]) ?_ rfl (⟨x16, x17, rfl, rx16, rx17, hB⟩)
      simp [results, Tryd.f38, go_sem, P1x.c0, P1x.c1]

end Go.Proofs.YtnfoblmfjldheaaDoor
