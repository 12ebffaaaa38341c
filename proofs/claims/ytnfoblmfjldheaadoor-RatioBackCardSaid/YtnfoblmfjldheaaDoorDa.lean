/-
  Contract of math/bits.Div64: two limbs by one: the quotient, and what is left. Condition: the high limb is below the divisor.
-/
import Derived.Test.YtnfoblmfjldheaaDoorNb
import Derived.Test.YtnfoblmfjldheaaDoorShelf
import Derived.Test.YtnfoblmfjldheaaDoorDvm
namespace Go.Proofs.YtnfoblmfjldheaaDoor
open Go.RowKit Go.Dig Go.Shelf Go.Proofs Go.Dv

theorem LZ_any (y s : Nat) (w : World) (hy2 : y < 18446744073709551616) (hs : s + Lib.bitLen y = 64) :
    Calls Tryd.prog 85 #[.int .u64 (y : Int)] w fun e w' => e = .returned (.int .i64 (s : Int)) ∧ w = w' := by
  refine (Tryd.bits_LeadingZeros64 (y : Int) w (by omega) (by omega)).mono ?_
  rintro e w' ⟨rfl, rfl⟩
  refine ⟨?_, rfl⟩
  rw [Int.toNat_natCast, show (64 : Int) - (Lib.bitLen y : Int) = (s : Int) by omega]

theorem wrap_pow {a s : Nat} : IntKind.u64.wrap ((a : Int) * 2 ^ s) = ((a * 2 ^ s % 18446744073709551616 : Nat) : Int) := by
  rw [IntKind.wrap_u64]
  have : ((a * 2 ^ s : Nat) : Int) = (a : Int) * 2 ^ s := by simp
  rw [← this]; omega
theorem half_hi (a : Nat) : (a : Int) / 4294967296 = ((a / 4294967296 : Nat) : Int) := by omega
theorem or_u64 (a b : Nat) (ha : a < 18446744073709551616) (hb : b < 18446744073709551616) : bits .or .u64 (a : Int) (b : Int) = ((a ||| b : Nat) : Int) := bits_or_u64_nat a b ha hb

/-- the contract of math/bits.LeadingZeros64 at y. -/
def LZat (y : Int) (s : Nat) : Prop := ∀ w : World, Calls Tryd.prog 85 #[.int .u64 y] w fun e w' => e = .returned (.int .i64 (s : Int)) ∧ w = w'

set_option maxRecDepth 100000 in
set_option maxHeartbeats 4000000 in
theorem Div64_walk (s un d1n y1n y0n Q1n vn d0n Q0n : Nat) (hi lo y Y y1 y0 u z d1 d0 qs ms rs Q1 t1 t2 t3 v qs2 ms2 rs2 Q0 t4 t5 t6 rr : Int) (w : World) (h0 : 0 < hi) (hy : hi < y) (hs : LZat y s) (hs63 : s ≤ 63)
    (E1 : IntKind.u64.wrap (y * 2 ^ s) = Y) (E2 : Y / 4294967296 = y1) (E3 : bits .and .u64 Y 4294967295 = y0)
    (E4 : bits .or .u64 (IntKind.u64.wrap (hi * 2 ^ s)) (lo / 2 ^ (64 - s)) = u)
    (E5 : IntKind.u64.wrap (lo * 2 ^ s) = z) (E6 : z / 4294967296 = d1) (E7 : bits .and .u64 z 4294967295 = d0)
    (E8 : IntKind.u64.wrap (u.tdiv y1) = qs) (E9 : IntKind.u64.wrap (qs * y1) = ms) (E10 : IntKind.u64.wrap (u - ms) = rs)
    (G1 : IntKind.u64.wrap (u * 4294967296) = t1) (G2 : IntKind.u64.wrap (t1 + d1) = t2) (G3 : IntKind.u64.wrap (Q1 * Y) = t3) (G4 : IntKind.u64.wrap (t2 - t3) = v)
    (E82 : IntKind.u64.wrap (v.tdiv y1) = qs2) (E92 : IntKind.u64.wrap (qs2 * y1) = ms2) (E102 : IntKind.u64.wrap (v - ms2) = rs2)
    (G12 : IntKind.u64.wrap (v * 4294967296) = t4) (G22 : IntKind.u64.wrap (t4 + d0) = t5) (G32 : IntKind.u64.wrap (Q0 * Y) = t6) (G42 : IntKind.u64.wrap (t5 - t6) = rr)
    (HAu : Hid (Ahead un d1n y1n y0n)) (HAv : Hid (Ahead vn d0n y1n y0n)) (Ty1 : Hid (y1 = (y1n : Int))) (Ty0 : Hid (y0 = (y0n : Int))) (Td1 : Hid (d1 = (d1n : Int))) (Td0 : Hid (d0 = (d0n : Int))) (TQ1 : Hid (Q1 = (Q1n : Int))) (TQ0 : Hid (Q0 = (Q0n : Int)))
    (hA1 : 2147483648 ≤ y1) (hA2 : y1 < 4294967296) (HQ1 : Hid (Q1n = (un * 4294967296 + d1n) / (y1n * 4294967296 + y0n))) (HQ0 : Hid (Q0n = (vn * 4294967296 + d0n) / (y1n * 4294967296 + y0n)))
    (h1r0 : 0 ≤ rs) (h1r : rs < 4294967296) (h1q0 : 0 ≤ qs) (h1q : qs ≤ 4294967298) (HS1 : Hid (Hid (Half un d1n y1n y0n qs.toNat rs.toNat)))
    (h2r0 : 0 ≤ rs2) (h2r : rs2 < 4294967296) (h2q0 : 0 ≤ qs2) (h2q : qs2 ≤ 4294967298) (HS2 : Hid (Hid (Half vn d0n y1n y0n qs2.toNat rs2.toNat)))
    (hQ10 : 0 ≤ Q1) (hQ1 : Q1 < 4294967296) (hQ00 : 0 ≤ Q0) (hQ0 : Q0 < 4294967296) :
    Calls Tryd.prog 80 #[.int .u64 hi, .int .u64 lo, .int .u64 y] w fun e w' =>
      e = .returned (.tuple #[.int .u64 (Q1 * 4294967296 + Q0), .int .u64 (rr / 2 ^ s)]) ∧ w = w' := by
  have hh0 : (hi == 0) = false := by rw [beq_eq_false_iff_ne]; omega
  have hy0 : (y == 0) = false := by rw [beq_eq_false_iff_ne]; omega
  have hy10 : (y1 == 0) = false := by rw [beq_eq_false_iff_ne]; omega
  go_enter Tryd.func80, Tryd.ntmps80
  go_wp2_with fail
  refine (hs w).mono ?_
  rintro e w' ⟨rfl, rfl⟩
  go_wp2_with fail
  go_loop [15, 16] (fun a b => ∃ q r : Int, a = .int .u64 q ∧ b = .int .u64 r ∧ 0 ≤ r ∧ r < 4294967296 ∧ 0 ≤ q ∧ q ≤ 4294967298 ∧ Hid (Half un d1n y1n y0n q.toNat r.toNat)) (fun a _ => (intOf a).toNat)
  case atStart => exact ⟨_, _, rfl, rfl, h1r0, h1r, h1q0, h1q, HS1.out⟩
  case round =>
    obtain ⟨q, r, rfl, rfl, hr0, hr, hq0, hq, HH⟩ := hrel
    by_cases hbig : 4294967296 ≤ q
    · have HB := Lib.hid (HH.out.big HAu.out (by omega))
      clear HH
      by_cases hbr : 4294967296 ≤ r + y1
      · have hq1 : q - 1 = Q1 := by
          have h9 := HB.out.brk HAu.out (by have := Ty1.out; omega)
          rw [← HQ1.out] at h9
          have := TQ1.out
          omega
        clear HB
        go_wp2_with fail
        go_loop [18, 16] (fun a b => ∃ q r : Int, a = .int .u64 q ∧ b = .int .u64 r ∧ 0 ≤ r ∧ r < 4294967296 ∧ 0 ≤ q ∧ q ≤ 4294967298 ∧ Hid (Half vn d0n y1n y0n q.toNat r.toNat)) (fun a _ => (intOf a).toNat)
        case atStart => exact ⟨_, _, rfl, rfl, h2r0, h2r, h2q0, h2q, HS2.out⟩
        case round =>
          obtain ⟨q, r, rfl, rfl, hr0, hr, hq0, hq, HH⟩ := hrel
          by_cases hbig : 4294967296 ≤ q
          · have HB := Lib.hid (HH.out.big HAv.out (by omega))
            clear HH
            by_cases hbr : 4294967296 ≤ r + y1
            · have hq1 : q - 1 = Q0 := by
                have h9 := HB.out.brk HAv.out (by have := Ty1.out; omega)
                rw [← HQ0.out] at h9
                have := TQ0.out
                omega
              clear HB
              go_wp2_with fail
              go_ret2
              exact ⟨rfl, rfl⟩
            · have HH2 := Lib.hid (Lib.hid HB.out)
              clear HB
              go_wp2_with fail
              go_round
              case rel => exact ⟨q - 1, r + y1, rfl, rfl, by omega, by omega, by omega, by omega, Lib.hid (by have h9 := HH2.out.out; rw [show (q - 1).toNat = q.toNat - 1 by omega, show (r + y1).toNat = r.toNat + y1n by have := Ty1.out; omega]; exact h9)⟩
              case measure => simp [intOf]; omega
          · obtain ⟨p, hp⟩ : ∃ p : Int, p = q * y0 := ⟨_, rfl⟩
            have hpn : p = ((q.toNat * y0n : Nat) : Int) := by rw [hp, Ty0.out, Int.natCast_mul, Int.toNat_of_nonneg hq0]
            have hpl : q.toNat * y0n < 18446744073709551616 := by
              have h1 : q.toNat * y0n ≤ 4294967295 * 4294967295 := Nat.mul_le_mul (by omega) (by have := HAv.out.hy0; omega)
              omega
            have F1 : IntKind.u64.wrap (q * y0) = p := by rw [← hp, hpn, Mul64.wrapN _ hpl]
            have hp0 : 0 ≤ p := by rw [hpn]; omega
            have hp9 : p < 18446744073709551616 := by rw [hpn]; omega
            have HP := Lib.hid hpn
            clear hp hpn hpl
            have hd8 : 0 ≤ d0 := by have := Td0.out; omega
            have hd9 : d0 < 4294967296 := by have := HAv.out.hd; have := Td0.out; omega
            by_cases hmore : 4294967296 * r + d0 < p
            · have HB := Lib.hid (HH.out.more HAv.out (by have := HP.out; have := Td0.out; omega))
              have hqp : 0 < q := by
                by_cases hz : q = 0
                · exfalso
                  have h9 := HP.out
                  rw [hz, Int.toNat_zero, Nat.zero_mul] at h9
                  omega
                · omega
              clear HH HP
              by_cases hbr : 4294967296 ≤ r + y1
              · have hq1 : q - 1 = Q0 := by
                  have h9 := HB.out.brk HAv.out (by have := Ty1.out; omega)
                  rw [← HQ0.out] at h9
                  have := TQ0.out
                  omega
                clear HB
                go_wp2_with fail
                go_ret2
                exact ⟨rfl, rfl⟩
              · have HH2 := Lib.hid (Lib.hid HB.out)
                clear HB
                go_wp2_with fail
                go_round
                case rel => exact ⟨q - 1, r + y1, rfl, rfl, by omega, by omega, by omega, by omega, Lib.hid (by have h9 := HH2.out.out; rw [show (q - 1).toNat = q.toNat - 1 by omega, show (r + y1).toNat = r.toNat + y1n by have := Ty1.out; omega]; exact h9)⟩
                case measure => simp [intOf]; omega
            · have hq1 : q = Q0 := by
                have h9 := HH.out.done HAv.out (by have := HP.out; have := Td0.out; omega)
                rw [← HQ0.out] at h9
                have := TQ0.out
                omega
              clear HH HP
              subst hq1
              go_wp2_with fail
              go_ret2
              exact ⟨rfl, rfl⟩

      · have HH2 := Lib.hid (Lib.hid HB.out)
        clear HB
        go_wp2_with fail
        go_round
        case rel => exact ⟨q - 1, r + y1, rfl, rfl, by omega, by omega, by omega, by omega, Lib.hid (by have h9 := HH2.out.out; rw [show (q - 1).toNat = q.toNat - 1 by omega, show (r + y1).toNat = r.toNat + y1n by have := Ty1.out; omega]; exact h9)⟩
        case measure => simp [intOf]; omega
    · obtain ⟨p, hp⟩ : ∃ p : Int, p = q * y0 := ⟨_, rfl⟩
      have hpn : p = ((q.toNat * y0n : Nat) : Int) := by rw [hp, Ty0.out, Int.natCast_mul, Int.toNat_of_nonneg hq0]
      have hpl : q.toNat * y0n < 18446744073709551616 := by
        have h1 : q.toNat * y0n ≤ 4294967295 * 4294967295 := Nat.mul_le_mul (by omega) (by have := HAu.out.hy0; omega)
        omega
      have F1 : IntKind.u64.wrap (q * y0) = p := by rw [← hp, hpn, Mul64.wrapN _ hpl]
      have hp0 : 0 ≤ p := by rw [hpn]; omega
      have hp9 : p < 18446744073709551616 := by rw [hpn]; omega
      have HP := Lib.hid hpn
      clear hp hpn hpl
      have hd8 : 0 ≤ d1 := by have := Td1.out; omega
      have hd9 : d1 < 4294967296 := by have := HAu.out.hd; have := Td1.out; omega
      by_cases hmore : 4294967296 * r + d1 < p
      · have HB := Lib.hid (HH.out.more HAu.out (by have := HP.out; have := Td1.out; omega))
        have hqp : 0 < q := by
          by_cases hz : q = 0
          · exfalso
            have h9 := HP.out
            rw [hz, Int.toNat_zero, Nat.zero_mul] at h9
            omega
          · omega
        clear HH HP
        by_cases hbr : 4294967296 ≤ r + y1
        · have hq1 : q - 1 = Q1 := by
            have h9 := HB.out.brk HAu.out (by have := Ty1.out; omega)
            rw [← HQ1.out] at h9
            have := TQ1.out
            omega
          clear HB
          go_wp2_with fail
          go_loop [18, 16] (fun a b => ∃ q r : Int, a = .int .u64 q ∧ b = .int .u64 r ∧ 0 ≤ r ∧ r < 4294967296 ∧ 0 ≤ q ∧ q ≤ 4294967298 ∧ Hid (Half vn d0n y1n y0n q.toNat r.toNat)) (fun a _ => (intOf a).toNat)
          case atStart => exact ⟨_, _, rfl, rfl, h2r0, h2r, h2q0, h2q, HS2.out⟩
          case round =>
            obtain ⟨q, r, rfl, rfl, hr0, hr, hq0, hq, HH⟩ := hrel
            by_cases hbig : 4294967296 ≤ q
            · have HB := Lib.hid (HH.out.big HAv.out (by omega))
              clear HH
              by_cases hbr : 4294967296 ≤ r + y1
              · have hq1 : q - 1 = Q0 := by
                  have h9 := HB.out.brk HAv.out (by have := Ty1.out; omega)
                  rw [← HQ0.out] at h9
                  have := TQ0.out
                  omega
                clear HB
                go_wp2_with fail
                go_ret2
                exact ⟨rfl, rfl⟩
              · have HH2 := Lib.hid (Lib.hid HB.out)
                clear HB
                go_wp2_with fail
                go_round
                case rel => exact ⟨q - 1, r + y1, rfl, rfl, by omega, by omega, by omega, by omega, Lib.hid (by have h9 := HH2.out.out; rw [show (q - 1).toNat = q.toNat - 1 by omega, show (r + y1).toNat = r.toNat + y1n by have := Ty1.out; omega]; exact h9)⟩
                case measure => simp [intOf]; omega
            · obtain ⟨p, hp⟩ : ∃ p : Int, p = q * y0 := ⟨_, rfl⟩
              have hpn : p = ((q.toNat * y0n : Nat) : Int) := by rw [hp, Ty0.out, Int.natCast_mul, Int.toNat_of_nonneg hq0]
              have hpl : q.toNat * y0n < 18446744073709551616 := by
                have h1 : q.toNat * y0n ≤ 4294967295 * 4294967295 := Nat.mul_le_mul (by omega) (by have := HAv.out.hy0; omega)
                omega
              have F1 : IntKind.u64.wrap (q * y0) = p := by rw [← hp, hpn, Mul64.wrapN _ hpl]
              have hp0 : 0 ≤ p := by rw [hpn]; omega
              have hp9 : p < 18446744073709551616 := by rw [hpn]; omega
              have HP := Lib.hid hpn
              clear hp hpn hpl
              have hd8 : 0 ≤ d0 := by have := Td0.out; omega
              have hd9 : d0 < 4294967296 := by have := HAv.out.hd; have := Td0.out; omega
              by_cases hmore : 4294967296 * r + d0 < p
              · have HB := Lib.hid (HH.out.more HAv.out (by have := HP.out; have := Td0.out; omega))
                have hqp : 0 < q := by
                  by_cases hz : q = 0
                  · exfalso
                    have h9 := HP.out
                    rw [hz, Int.toNat_zero, Nat.zero_mul] at h9
                    omega
                  · omega
                clear HH HP
                by_cases hbr : 4294967296 ≤ r + y1
                · have hq1 : q - 1 = Q0 := by
                    have h9 := HB.out.brk HAv.out (by have := Ty1.out; omega)
                    rw [← HQ0.out] at h9
                    have := TQ0.out
                    omega
                  clear HB
                  go_wp2_with fail
                  go_ret2
                  exact ⟨rfl, rfl⟩
                · have HH2 := Lib.hid (Lib.hid HB.out)
                  clear HB
                  go_wp2_with fail
                  go_round
                  case rel => exact ⟨q - 1, r + y1, rfl, rfl, by omega, by omega, by omega, by omega, Lib.hid (by have h9 := HH2.out.out; rw [show (q - 1).toNat = q.toNat - 1 by omega, show (r + y1).toNat = r.toNat + y1n by have := Ty1.out; omega]; exact h9)⟩
                  case measure => simp [intOf]; omega
              · have hq1 : q = Q0 := by
                  have h9 := HH.out.done HAv.out (by have := HP.out; have := Td0.out; omega)
                  rw [← HQ0.out] at h9
                  have := TQ0.out
                  omega
                clear HH HP
                subst hq1
                go_wp2_with fail
                go_ret2
                exact ⟨rfl, rfl⟩

        · have HH2 := Lib.hid (Lib.hid HB.out)
          clear HB
          go_wp2_with fail
          go_round
          case rel => exact ⟨q - 1, r + y1, rfl, rfl, by omega, by omega, by omega, by omega, Lib.hid (by have h9 := HH2.out.out; rw [show (q - 1).toNat = q.toNat - 1 by omega, show (r + y1).toNat = r.toNat + y1n by have := Ty1.out; omega]; exact h9)⟩
          case measure => simp [intOf]; omega
      · have hq1 : q = Q1 := by
          have h9 := HH.out.done HAu.out (by have := HP.out; have := Td1.out; omega)
          rw [← HQ1.out] at h9
          have := TQ1.out
          omega
        clear HH HP
        subst hq1
        go_wp2_with fail
        go_loop [18, 16] (fun a b => ∃ q r : Int, a = .int .u64 q ∧ b = .int .u64 r ∧ 0 ≤ r ∧ r < 4294967296 ∧ 0 ≤ q ∧ q ≤ 4294967298 ∧ Hid (Half vn d0n y1n y0n q.toNat r.toNat)) (fun a _ => (intOf a).toNat)
        case atStart => exact ⟨_, _, rfl, rfl, h2r0, h2r, h2q0, h2q, HS2.out⟩
        case round =>
          obtain ⟨q, r, rfl, rfl, hr0, hr, hq0, hq, HH⟩ := hrel
          by_cases hbig : 4294967296 ≤ q
          · have HB := Lib.hid (HH.out.big HAv.out (by omega))
            clear HH
            by_cases hbr : 4294967296 ≤ r + y1
            · have hq1 : q - 1 = Q0 := by
                have h9 := HB.out.brk HAv.out (by have := Ty1.out; omega)
                rw [← HQ0.out] at h9
                have := TQ0.out
                omega
              clear HB
              go_wp2_with fail
              go_ret2
              exact ⟨rfl, rfl⟩
            · have HH2 := Lib.hid (Lib.hid HB.out)
              clear HB
              go_wp2_with fail
              go_round
              case rel => exact ⟨q - 1, r + y1, rfl, rfl, by omega, by omega, by omega, by omega, Lib.hid (by have h9 := HH2.out.out; rw [show (q - 1).toNat = q.toNat - 1 by omega, show (r + y1).toNat = r.toNat + y1n by have := Ty1.out; omega]; exact h9)⟩
              case measure => simp [intOf]; omega
          · obtain ⟨p, hp⟩ : ∃ p : Int, p = q * y0 := ⟨_, rfl⟩
            have hpn : p = ((q.toNat * y0n : Nat) : Int) := by rw [hp, Ty0.out, Int.natCast_mul, Int.toNat_of_nonneg hq0]
            have hpl : q.toNat * y0n < 18446744073709551616 := by
              have h1 : q.toNat * y0n ≤ 4294967295 * 4294967295 := Nat.mul_le_mul (by omega) (by have := HAv.out.hy0; omega)
              omega
            have F1 : IntKind.u64.wrap (q * y0) = p := by rw [← hp, hpn, Mul64.wrapN _ hpl]
            have hp0 : 0 ≤ p := by rw [hpn]; omega
            have hp9 : p < 18446744073709551616 := by rw [hpn]; omega
            have HP := Lib.hid hpn
            clear hp hpn hpl
            have hd8 : 0 ≤ d0 := by have := Td0.out; omega
            have hd9 : d0 < 4294967296 := by have := HAv.out.hd; have := Td0.out; omega
            by_cases hmore : 4294967296 * r + d0 < p
            · have HB := Lib.hid (HH.out.more HAv.out (by have := HP.out; have := Td0.out; omega))
              have hqp : 0 < q := by
                by_cases hz : q = 0
                · exfalso
                  have h9 := HP.out
                  rw [hz, Int.toNat_zero, Nat.zero_mul] at h9
                  omega
                · omega
              clear HH HP
              by_cases hbr : 4294967296 ≤ r + y1
              · have hq1 : q - 1 = Q0 := by
                  have h9 := HB.out.brk HAv.out (by have := Ty1.out; omega)
                  rw [← HQ0.out] at h9
                  have := TQ0.out
                  omega
                clear HB
                go_wp2_with fail
                go_ret2
                exact ⟨rfl, rfl⟩
              · have HH2 := Lib.hid (Lib.hid HB.out)
                clear HB
                go_wp2_with fail
                go_round
                case rel => exact ⟨q - 1, r + y1, rfl, rfl, by omega, by omega, by omega, by omega, Lib.hid (by have h9 := HH2.out.out; rw [show (q - 1).toNat = q.toNat - 1 by omega, show (r + y1).toNat = r.toNat + y1n by have := Ty1.out; omega]; exact h9)⟩
                case measure => simp [intOf]; omega
            · have hq1 : q = Q0 := by
                have h9 := HH.out.done HAv.out (by have := HP.out; have := Td0.out; omega)
                rw [← HQ0.out] at h9
                have := TQ0.out
                omega
              clear HH HP
              subst hq1
              go_wp2_with fail
              go_ret2
              exact ⟨rfl, rfl⟩


end Go.Proofs.YtnfoblmfjldheaaDoor
