/-
  Contract of math/bits.Div64: two limbs by one: the quotient, and what is left. Condition: the high limb is below the divisor. Contract of math/bits.Div64: two limbs by one: the quotient, and what is left. Condition: the high limb is below the divisor.
-/
import Derived.Test.YtphllajedkpcbaaGreatDoorNa
import Derived.Test.YtphllajedkpcbaaGreatDoorShelf
import Derived.Test.YtphllajedkpcbaaGreatDoorDig
namespace Go.Proofs.YtphllajedkpcbaaGreatDoor
open Go.RowKit Go.Dig Go.Shelf Go.Proofs Go.Dv

theorem LZ_any (y s : Nat) (w : World) (hy2 : y < 18446744073709551616) (hs : s + Lib.bitLen y = 64) :
    Calls Tryz.prog 96 #[.int .u64 (y : Int)] w fun e w' => e = .returned (.int .i64 (s : Int)) ∧ w = w' := by
  refine (Tryz.bits_LeadingZeros64 (y : Int) w (by omega) (by omega)).mono ?_
  rintro e w' ⟨rfl, rfl⟩
  refine ⟨?_, rfl⟩
  rw [Int.toNat_natCast, show (64 : Int) - (Lib.bitLen y : Int) = (s : Int) by omega]

theorem wrap_pow {a s : Nat} : IntKind.u64.wrap ((a : Int) * 2 ^ s) = ((a * 2 ^ s % 18446744073709551616 : Nat) : Int) := by
  rw [IntKind.wrap_u64]
  have : ((a * 2 ^ s : Nat) : Int) = (a : Int) * 2 ^ s := by simp
  rw [← this]; omega
theorem half_hi (a : Nat) : (a : Int) / 4294967296 = ((a / 4294967296 : Nat) : Int) := by omega
theorem or_u64 (a b : Nat) (ha : a < 18446744073709551616) (hb : b < 18446744073709551616) : bits .or .u64 (a : Int) (b : Int) = ((a ||| b : Nat) : Int) := bits_or_u64_nat a b ha hb

/-- the contract of math/bits.LeadingZeros64 at y. -/
def LZat (y : Int) (s : Nat) : Prop := ∀ w : World, Calls Tryz.prog 96 #[.int .u64 y] w fun e w' => e = .returned (.int .i64 (s : Int)) ∧ w = w'

set_option maxRecDepth 100000 in
set_option maxHeartbeats 4000000 in
theorem Div64_walk (s un d1n y1n y0n Q1n vn d0n Q0n : Nat) (hi lo y Y y1 y0 u z d1 d0 qs ms rs Q1 t1 t2 t3 v qs2 ms2 rs2 Q0 t4 t5 t6 rr : Int) (w : World) (h0 : 0 < hi) (hy : hi < y) (hs : LZat y s) (hs63 : s ≤ 63)
    (E1 : IntKind.u64.wrap (y * 2 ^ s) = Y) (E2 : Y / 4294967296 = y1) (E3 : bits .and .u64 Y 4294967295 = y0)
    (E4 : bits .or .u64 (IntKind.u64.wrap (hi * 2 ^ s)) (lo / 2 ^ (64 - s)) = u)
    (E5 : IntKind.u64.wrap (lo * 2 ^ s) = z) (E6 : z / 4294967296 = d1) (E7 : bits .and .u64 z 4294967295 = d0)
    (E8 : IntKind.u64.wrap (u.tdiv y1) = qs) (E9 : IntKind.u64.wrap (qs * y1) = ms) (E10 : IntKind.u64.wrap (u - ms) = rs)
    (G1 : IntKind.u64.wrap (u * 4294967296) = t1) (G2 : IntKind.u64.wrap (t1 + d1) = t2) (G3 : IntKind.u64.wrap (Q1 * Y) = t3) (G4 : IntKind.u64.wrap (t2 - t3) = v)
    (E82 : IntKind.u64.wrap (v.tdiv y1) = qs2) (E92 : IntKind.u64.wrap (qs2 * y1) = ms2) (E102 : IntKind.u64.wrap (v - ms2) = rs2)
    (G12 : IntKind.u64.wrap (v * 4294967296) = t4) (G22 : IntKind.u64.wrap (t4 + d0) = t5) (G32 : IntKind.u64.wrap (Q0 * Y) = t6) (G42 : IntKind.u64.wrap (t5 - t6) = rr)
    (HAu : Hid (Ahead un d1n y1n y0n)) (HAv : Hid (Ahead vn d0n y1n y0n)) (Ty1 : Hid (y1 = (y1n : Int))) (Ty0 : Hid (y0 = (y0n : Int))) (Td1 : Hid (d1 = (d1n : Int))) (Td0 : Hid (d0 = (d0n : Int))) (TQ1 : Hid (Q1 = (Q1n : Int))) (TQ0 : Hid (Q0 = (Q0n : Int)))
    (hA1 : 2147483648 ≤ y1) (hA2 : y1 < 4294967296) (HQ1 : Hid (Q1n = (un * 4294967296 + d1n) / (y1n * 4294967296 + y0n))) (HQ0 : Hid (Q0n = (vn * 4294967296 + d0n) / (y1n * 4294967296 + y0n)))
    (h1r0 : 0 ≤ rs) (h1r : rs < 4294967296) (h1q0 : 0 ≤ qs) (h1q : qs ≤ 4294967298) (HS1 : Hid (Hid (Half un d1n y1n y0n qs.toNat rs.toNat)))
    (h2r0 : 0 ≤ rs2) (h2r : rs2 < 4294967296) (h2q0 : 0 ≤ qs2) (h2q : qs2 ≤ 4294967298) (HS2 : Hid (Hid (Half vn d0n y1n y0n qs2.toNat rs2.toNat)))
    (hQ10 : 0 ≤ Q1) (hQ1 : Q1 < 4294967296) (hQ00 : 0 ≤ Q0) (hQ0 : Q0 < 4294967296) :
    Calls Tryz.prog 91 #[.int .u64 hi, .int .u64 lo, .int .u64 y] w fun e w' =>
      e = .returned (.tuple #[.int .u64 (Q1 * 4294967296 + Q0), .int .u64 (rr / 2 ^ s)]) ∧ w = w' := by
  have hh0 : (hi == 0) = false := by rw [beq_eq_false_iff_ne]; omega
  have hy0 : (y == 0) = false := by rw [beq_eq_false_iff_ne]; omega
  have hy10 : (y1 == 0) = false := by rw [beq_eq_false_iff_ne]; omega
  go_enter Tryz.func91, Tryz.ntmps91
  go_wp2_with fail
  refine (hs w).mono ?_
  rintro e w' ⟨rfl, rfl⟩
  go_wp2_with fail
  go_loop [15, 16] (fun a b => ∃ q r : Int, a = .int .u64 q ∧ b = .int .u64 r ∧ 0 ≤ r ∧ r < 4294967296 ∧ 0 ≤ q ∧ q ≤ 4294967298 ∧ Hid (Half un d1n y1n y0n q.toNat r.toNat)) (fun a _ => (intOf a).toNat)
  case atStart => exact ⟨_, _, rfl, rfl, h1r0, h1r, h1q0, h1q, HS1.out⟩
  case round =>
    obtain ⟨q, r, rfl, rfl, hr0, hr, hq0, hq, HH⟩ := hrel
    by_cases hbig : 4294967296 ≤ q
    · have HB := Lib.hid (HH.out.big HAu.out (by omega))
      clear HH
      by_cases hbr : 4294967296 ≤ r + y1
      · have hq1 : q - 1 = Q1 := by
          have h9 := HB.out.brk HAu.out (by have := Ty1.out; omega)
          rw [← HQ1.out] at h9
          have := TQ1.out
          omega
        clear HB
        go_wp2_with fail
        go_loop [18, 16] (fun a b => ∃ q r : Int, a = .int .u64 q ∧ b = .int .u64 r ∧ 0 ≤ r ∧ r < 4294967296 ∧ 0 ≤ q ∧ q ≤ 4294967298 ∧ Hid (Half vn d0n y1n y0n q.toNat r.toNat)) (fun a _ => (intOf a).toNat)
        case atStart => exact ⟨_, _, rfl, rfl, h2r0, h2r, h2q0, h2q, HS2.out⟩
        case round =>
          obtain ⟨q, r, rfl, rfl, hr0, hr, hq0, hq, HH⟩ := hrel
          by_cases hbig : 4294967296 ≤ q
          · have HB := Lib.hid (HH.out.big HAv.out (by omega))
            clear HH
            by_cases hbr : 4294967296 ≤ r + y1
            · have hq1 : q - 1 = Q0 := by
                have h9 := HB.out.brk HAv.out (by have := Ty1.out; omega)
                rw [← HQ0.out] at h9
                have := TQ0.out
                omega
              clear HB
              go_wp2_with fail
              go_ret2
              exact ⟨rfl, rfl⟩
            · have HH2 := Lib.hid (Lib.hid HB.out)
              clear HB
              go_wp2_with fail
              go_round
              case rel => exact ⟨q - 1, r + y1, rfl, rfl, by omega, by omega, by omega, by omega, Lib.hid (by have h9 := HH2.out.out; rw [show (q - 1).toNat = q.toNat - 1 by omega, show (r + y1).toNat = r.toNat + y1n by have := Ty1.out; omega]; exact h9)⟩
              case measure => simp [intOf]; omega
          · obtain ⟨p, hp⟩ : ∃ p : Int, p = q * y0 := ⟨_, rfl⟩
            have hpn : p = ((q.toNat * y0n : Nat) : Int) := by rw [hp, Ty0.out, Int.natCast_mul, Int.toNat_of_nonneg hq0]
            have hpl : q.toNat * y0n < 18446744073709551616 := by
              have h1 : q.toNat * y0n ≤ 4294967295 * 4294967295 := Nat.mul_le_mul (by omega) (by have := HAv.out.hy0; omega)
              omega
            have F1 : IntKind.u64.wrap (q * y0) = p := by rw [← hp, hpn, Mul64.wrapN _ hpl]
            have hp0 : 0 ≤ p := by rw [hpn]; omega
            have hp9 : p < 18446744073709551616 := by rw [hpn]; omega
            have HP := Lib.hid hpn
            clear hp hpn hpl
            have hd8 : 0 ≤ d0 := by have := Td0.out; omega
            have hd9 : d0 < 4294967296 := by have := HAv.out.hd; have := Td0.out; omega
            by_cases hmore : 4294967296 * r + d0 < p
            · have HB := Lib.hid (HH.out.more HAv.out (by have := HP.out; have := Td0.out; omega))
              have hqp : 0 < q := by
                by_cases hz : q = 0
                · exfalso
                  have h9 := HP.out
                  rw [hz, Int.toNat_zero, Nat.zero_mul] at h9
                  omega
                · omega
              clear HH HP
              by_cases hbr : 4294967296 ≤ r + y1
              · have hq1 : q - 1 = Q0 := by
                  have h9 := HB.out.brk HAv.out (by have := Ty1.out; omega)
                  rw [← HQ0.out] at h9
                  have := TQ0.out
                  omega
                clear HB
                go_wp2_with fail
                go_ret2
                exact ⟨rfl, rfl⟩
              · have HH2 := Lib.hid (Lib.hid HB.out)
                clear HB
                go_wp2_with fail
                go_round
                case rel => exact ⟨q - 1, r + y1, rfl, rfl, by omega, by omega, by omega, by omega, Lib.hid (by have h9 := HH2.out.out; rw [show (q - 1).toNat = q.toNat - 1 by omega, show (r + y1).toNat = r.toNat + y1n by have := Ty1.out; omega]; exact h9)⟩
                case measure => simp [intOf]; omega
            · have hq1 : q = Q0 := by
                have h9 := HH.out.done HAv.out (by have := HP.out; have := Td0.out; omega)
                rw [← HQ0.out] at h9
                have := TQ0.out
                omega
              clear HH HP
              subst hq1
              go_wp2_with fail
              go_ret2
              exact ⟨rfl, rfl⟩

      · have HH2 := Lib.hid (Lib.hid HB.out)
        clear HB
        go_wp2_with fail
        go_round
        case rel => exact ⟨q - 1, r + y1, rfl, rfl, by omega, by omega, by omega, by omega, Lib.hid (by have h9 := HH2.out.out; rw [show (q - 1).toNat = q.toNat - 1 by omega, show (r + y1).toNat = r.toNat + y1n by have := Ty1.out; omega]; exact h9)⟩
        case measure => simp [intOf]; omega
    · obtain ⟨p, hp⟩ : ∃ p : Int, p = q * y0 := ⟨_, rfl⟩
      have hpn : p = ((q.toNat * y0n : Nat) : Int) := by rw [hp, Ty0.out, Int.natCast_mul, Int.toNat_of_nonneg hq0]
      have hpl : q.toNat * y0n < 18446744073709551616 := by
        have h1 : q.toNat * y0n ≤ 4294967295 * 4294967295 := Nat.mul_le_mul (by omega) (by have := HAu.out.hy0; omega)
        omega
      have F1 : IntKind.u64.wrap (q * y0) = p := by rw [← hp, hpn, Mul64.wrapN _ hpl]
      have hp0 : 0 ≤ p := by rw [hpn]; omega
      have hp9 : p < 18446744073709551616 := by rw [hpn]; omega
      have HP := Lib.hid hpn
      clear hp hpn hpl
      have hd8 : 0 ≤ d1 := by have := Td1.out; omega
      have hd9 : d1 < 4294967296 := by have := HAu.out.hd; have := Td1.out; omega
      by_cases hmore : 4294967296 * r + d1 < p
      · have HB := Lib.hid (HH.out.more HAu.out (by have := HP.out; have := Td1.out; omega))
        have hqp : 0 < q := by
          by_cases hz : q = 0
          · exfalso
            have h9 := HP.out
            rw [hz, Int.toNat_zero, Nat.zero_mul] at h9
            omega
          · omega
        clear HH HP
        by_cases hbr : 4294967296 ≤ r + y1
        · have hq1 : q - 1 = Q1 := by
            have h9 := HB.out.brk HAu.out (by have := Ty1.out; omega)
            rw [← HQ1.out] at h9
            have := TQ1.out
            omega
          clear HB
          go_wp2_with fail
          go_loop [18, 16] (fun a b => ∃ q r : Int, a = .int .u64 q ∧ b = .int .u64 r ∧ 0 ≤ r ∧ r < 4294967296 ∧ 0 ≤ q ∧ q ≤ 4294967298 ∧ Hid (Half vn d0n y1n y0n q.toNat r.toNat)) (fun a _ => (intOf a).toNat)
          case atStart => exact ⟨_, _, rfl, rfl, h2r0, h2r, h2q0, h2q, HS2.out⟩
          case round =>
            obtain ⟨q, r, rfl, rfl, hr0, hr, hq0, hq, HH⟩ := hrel
            by_cases hbig : 4294967296 ≤ q
            · have HB := Lib.hid (HH.out.big HAv.out (by omega))
              clear HH
              by_cases hbr : 4294967296 ≤ r + y1
              · have hq1 : q - 1 = Q0 := by
                  have h9 := HB.out.brk HAv.out (by have := Ty1.out; omega)
                  rw [← HQ0.out] at h9
                  have := TQ0.out
                  omega
                clear HB
                go_wp2_with fail
                go_ret2
                exact ⟨rfl, rfl⟩
              · have HH2 := Lib.hid (Lib.hid HB.out)
                clear HB
                go_wp2_with fail
                go_round
                case rel => exact ⟨q - 1, r + y1, rfl, rfl, by omega, by omega, by omega, by omega, Lib.hid (by have h9 := HH2.out.out; rw [show (q - 1).toNat = q.toNat - 1 by omega, show (r + y1).toNat = r.toNat + y1n by have := Ty1.out; omega]; exact h9)⟩
                case measure => simp [intOf]; omega
            · obtain ⟨p, hp⟩ : ∃ p : Int, p = q * y0 := ⟨_, rfl⟩
              have hpn : p = ((q.toNat * y0n : Nat) : Int) := by rw [hp, Ty0.out, Int.natCast_mul, Int.toNat_of_nonneg hq0]
              have hpl : q.toNat * y0n < 18446744073709551616 := by
                have h1 : q.toNat * y0n ≤ 4294967295 * 4294967295 := Nat.mul_le_mul (by omega) (by have := HAv.out.hy0; omega)
                omega
              have F1 : IntKind.u64.wrap (q * y0) = p := by rw [← hp, hpn, Mul64.wrapN _ hpl]
              have hp0 : 0 ≤ p := by rw [hpn]; omega
              have hp9 : p < 18446744073709551616 := by rw [hpn]; omega
              have HP := Lib.hid hpn
              clear hp hpn hpl
              have hd8 : 0 ≤ d0 := by have := Td0.out; omega
              have hd9 : d0 < 4294967296 := by have := HAv.out.hd; have := Td0.out; omega
              by_cases hmore : 4294967296 * r + d0 < p
              · have HB := Lib.hid (HH.out.more HAv.out (by have := HP.out; have := Td0.out; omega))
                have hqp : 0 < q := by
                  by_cases hz : q = 0
                  · exfalso
                    have h9 := HP.out
                    rw [hz, Int.toNat_zero, Nat.zero_mul] at h9
                    omega
                  · omega
                clear HH HP
                by_cases hbr : 4294967296 ≤ r + y1
                · have hq1 : q - 1 = Q0 := by
                    have h9 := HB.out.brk HAv.out (by have := Ty1.out; omega)
                    rw [← HQ0.out] at h9
                    have := TQ0.out
                    omega
                  clear HB
                  go_wp2_with fail
                  go_ret2
                  exact ⟨rfl, rfl⟩
                · have HH2 := Lib.hid (Lib.hid HB.out)
                  clear HB
                  go_wp2_with fail
                  go_round
                  case rel => exact ⟨q - 1, r + y1, rfl, rfl, by omega, by omega, by omega, by omega, Lib.hid (by have h9 := HH2.out.out; rw [show (q - 1).toNat = q.toNat - 1 by omega, show (r + y1).toNat = r.toNat + y1n by have := Ty1.out; omega]; exact h9)⟩
                  case measure => simp [intOf]; omega
              · have hq1 : q = Q0 := by
                  have h9 := HH.out.done HAv.out (by have := HP.out; have := Td0.out; omega)
                  rw [← HQ0.out] at h9
                  have := TQ0.out
                  omega
                clear HH HP
                subst hq1
                go_wp2_with fail
                go_ret2
                exact ⟨rfl, rfl⟩

        · have HH2 := Lib.hid (Lib.hid HB.out)
          clear HB
          go_wp2_with fail
          go_round
          case rel => exact ⟨q - 1, r + y1, rfl, rfl, by omega, by omega, by omega, by omega, Lib.hid (by have h9 := HH2.out.out; rw [show (q - 1).toNat = q.toNat - 1 by omega, show (r + y1).toNat = r.toNat + y1n by have := Ty1.out; omega]; exact h9)⟩
          case measure => simp [intOf]; omega
      · have hq1 : q = Q1 := by
          have h9 := HH.out.done HAu.out (by have := HP.out; have := Td1.out; omega)
          rw [← HQ1.out] at h9
          have := TQ1.out
          omega
        clear HH HP
        subst hq1
        go_wp2_with fail
        go_loop [18, 16] (fun a b => ∃ q r : Int, a = .int .u64 q ∧ b = .int .u64 r ∧ 0 ≤ r ∧ r < 4294967296 ∧ 0 ≤ q ∧ q ≤ 4294967298 ∧ Hid (Half vn d0n y1n y0n q.toNat r.toNat)) (fun a _ => (intOf a).toNat)
        case atStart => exact ⟨_, _, rfl, rfl, h2r0, h2r, h2q0, h2q, HS2.out⟩
        case round =>
          obtain ⟨q, r, rfl, rfl, hr0, hr, hq0, hq, HH⟩ := hrel
          by_cases hbig : 4294967296 ≤ q
          · have HB := Lib.hid (HH.out.big HAv.out (by omega))
            clear HH
            by_cases hbr : 4294967296 ≤ r + y1
            · have hq1 : q - 1 = Q0 := by
                have h9 := HB.out.brk HAv.out (by have := Ty1.out; omega)
                rw [← HQ0.out] at h9
                have := TQ0.out
                omega
              clear HB
              go_wp2_with fail
              go_ret2
              exact ⟨rfl, rfl⟩
            · have HH2 := Lib.hid (Lib.hid HB.out)
              clear HB
              go_wp2_with fail
              go_round
              case rel => exact ⟨q - 1, r + y1, rfl, rfl, by omega, by omega, by omega, by omega, Lib.hid (by have h9 := HH2.out.out; rw [show (q - 1).toNat = q.toNat - 1 by omega, show (r + y1).toNat = r.toNat + y1n by have := Ty1.out; omega]; exact h9)⟩
              case measure => simp [intOf]; omega
          · obtain ⟨p, hp⟩ : ∃ p : Int, p = q * y0 := ⟨_, rfl⟩
            have hpn : p = ((q.toNat * y0n : Nat) : Int) := by rw [hp, Ty0.out, Int.natCast_mul, Int.toNat_of_nonneg hq0]
            have hpl : q.toNat * y0n < 18446744073709551616 := by
              have h1 : q.toNat * y0n ≤ 4294967295 * 4294967295 := Nat.mul_le_mul (by omega) (by have := HAv.out.hy0; omega)
              omega
            have F1 : IntKind.u64.wrap (q * y0) = p := by rw [← hp, hpn, Mul64.wrapN _ hpl]
            have hp0 : 0 ≤ p := by rw [hpn]; omega
            have hp9 : p < 18446744073709551616 := by rw [hpn]; omega
            have HP := Lib.hid hpn
            clear hp hpn hpl
            have hd8 : 0 ≤ d0 := by have := Td0.out; omega
            have hd9 : d0 < 4294967296 := by have := HAv.out.hd; have := Td0.out; omega
            by_cases hmore : 4294967296 * r + d0 < p
            · have HB := Lib.hid (HH.out.more HAv.out (by have := HP.out; have := Td0.out; omega))
              have hqp : 0 < q := by
                by_cases hz : q = 0
                · exfalso
                  have h9 := HP.out
                  rw [hz, Int.toNat_zero, Nat.zero_mul] at h9
                  omega
                · omega
              clear HH HP
              by_cases hbr : 4294967296 ≤ r + y1
              · have hq1 : q - 1 = Q0 := by
                  have h9 := HB.out.brk HAv.out (by have := Ty1.out; omega)
                  rw [← HQ0.out] at h9
                  have := TQ0.out
                  omega
                clear HB
                go_wp2_with fail
                go_ret2
                exact ⟨rfl, rfl⟩
              · have HH2 := Lib.hid (Lib.hid HB.out)
                clear HB
                go_wp2_with fail
                go_round
                case rel => exact ⟨q - 1, r + y1, rfl, rfl, by omega, by omega, by omega, by omega, Lib.hid (by have h9 := HH2.out.out; rw [show (q - 1).toNat = q.toNat - 1 by omega, show (r + y1).toNat = r.toNat + y1n by have := Ty1.out; omega]; exact h9)⟩
                case measure => simp [intOf]; omega
            · have hq1 : q = Q0 := by
                have h9 := HH.out.done HAv.out (by have := HP.out; have := Td0.out; omega)
                rw [← HQ0.out] at h9
                have := TQ0.out
                omega
              clear HH HP
              subst hq1
              go_wp2_with fail
              go_ret2
              exact ⟨rfl, rfl⟩


end Go.Proofs.YtphllajedkpcbaaGreatDoor

namespace Go.Proofs.YtphllajedkpcbaaGreatDoor
open Go.RowKit Go.Dig Go.Shelf Go.Proofs Go.Dv

set_option maxRecDepth 100000 in
set_option maxHeartbeats 4000000 in
theorem Div64_zero (lo y : Nat) (w : World) (h0 : 0 < y) (hlo : lo < 18446744073709551616) :
    Calls Tryz.prog 91 #[.int .u64 0, .int .u64 (lo : Int), .int .u64 (y : Int)] w fun e w' =>
      e = .returned (.tuple #[.int .u64 ((lo / y : Nat) : Int), .int .u64 ((lo % y : Nat) : Int)]) ∧ Below w.heap.size w w' := by
  have hy0 : ((y : Int) == 0) = false := by rw [beq_eq_false_iff_ne]; omega
  have hq : IntKind.u64.wrap ((lo : Int) / (y : Int)) = (lo : Int) / (y : Int) := by
    rw [← Int.natCast_ediv]; exact Mul64.wrapN _ (Nat.lt_of_le_of_lt (Nat.div_le_self _ _) hlo)
  have hr : (lo : Int).tmod (y : Int) = (lo : Int) % (y : Int) := Int.tmod_eq_emod_of_nonneg (by omega)
  go_enter Tryz.func91, Tryz.ntmps91
  go_wp2_with fail
  refine Rd.region (fun X => True) 7 [0, 1, 2, 3, 4, 5, 6] [0, 1, 2, 3, 4, 5, 6, 7] (by kernel_rfl) (by kernel_rfl) (by kernel_rfl) (by kernel_rfl) rfl trivial ?_
  refine Rd.seq_float (.int .u64 (lo : Int)) (by simp only [List.getElem?_toArray, List.getElem?_cons_zero]; rfl) rfl (by rfl) (fun X _ => by go_simp) ?_
  simp only [Act.put, List.setIfInBounds_toArray, List.set_cons_succ, List.set_cons_zero]
  refine Rd.seq_float (.int .u64 (y : Int)) (by simp only [List.getElem?_toArray, List.getElem?_cons_succ, List.getElem?_cons_zero]; rfl) rfl (by rfl) (fun X _ => by go_simp) ?_
  simp only [Act.put, List.setIfInBounds_toArray, List.set_cons_succ, List.set_cons_zero]
  refine Rd.seq_float (.int .u64 ((lo / y : Nat) : Int)) (by simp only [List.getElem?_toArray, List.getElem?_cons_succ, List.getElem?_cons_zero]; rfl) rfl (by rfl) (fun X _ => by go_simp) ?_
  simp only [Act.put, List.setIfInBounds_toArray, List.set_cons_succ, List.set_cons_zero]
  refine Rd.seq_float (.int .u64 (lo : Int)) (by simp only [List.getElem?_toArray, List.getElem?_cons_succ, List.getElem?_cons_zero]; rfl) rfl (by rfl) (fun X _ => by go_simp) ?_
  simp only [Act.put, List.setIfInBounds_toArray, List.set_cons_succ, List.set_cons_zero]
  refine Rd.seq_float (.int .u64 (y : Int)) (by simp only [List.getElem?_toArray, List.getElem?_cons_succ, List.getElem?_cons_zero]; rfl) rfl (by rfl) (fun X _ => by go_simp) ?_
  simp only [Act.put, List.setIfInBounds_toArray, List.set_cons_succ, List.set_cons_zero]
  refine Rd.seq_float (.int .u64 ((lo % y : Nat) : Int)) (by simp only [List.getElem?_toArray, List.getElem?_cons_succ, List.getElem?_cons_zero]; rfl) rfl (by rfl) (fun X _ => by go_simp) ?_
  simp only [Act.put, List.setIfInBounds_toArray, List.set_cons_succ, List.set_cons_zero]
  refine Rd.seq_float (.int .u64 ((lo / y : Nat) : Int)) (by simp only [List.getElem?_toArray, List.getElem?_cons_succ, List.getElem?_cons_zero]; rfl) rfl (by rfl) (fun X _ => by go_simp) ?_
  simp only [Act.put, List.setIfInBounds_toArray, List.set_cons_succ, List.set_cons_zero]
  refine Rd.seq_move (by simp only [List.getElem?_toArray, List.getElem?_cons_succ, List.getElem?_cons_zero]; rfl) rfl (by rfl) (fun K hK => ?_)
  go_simp
  refine hK _ _ (fun h => absurd h (by omega)) ?_
  refine Rd.seq_end ?_
  go_wp2_with fail
  go_ret2
  exact ⟨rfl, (Below.refl _ _).drew⟩

theorem two_join (u z : Nat) : (u * 4294967296 + z / 4294967296) * 4294967296 + z % 4294967296 = u * 18446744073709551616 + z := by omega
/-- what the halves are: the numbers of the walk. -/
theorem Div64_any (hi lo y : Nat) (w : World) (hy : hi < y) (hy2 : y < 18446744073709551616) (hlo : lo < 18446744073709551616) :
    Calls Tryz.prog 91 #[.int .u64 (hi : Int), .int .u64 (lo : Int), .int .u64 (y : Int)] w fun e w' =>
      e = .returned (.tuple #[.int .u64 (((lo + 18446744073709551616 * hi) / y : Nat) : Int), .int .u64 (((lo + 18446744073709551616 * hi) % y : Nat) : Int)]) ∧ Below w.heap.size w w' := by
  by_cases h0 : hi = 0
  · subst h0
    have h := Div64_zero lo y w (by omega) hlo
    simpa using h
  obtain ⟨s, hs⟩ : ∃ s, s + Lib.bitLen y = 64 := ⟨64 - Lib.bitLen y, by have := bitLen_le hy2; omega⟩
  obtain ⟨hY1, hY2, hs63⟩ := scale_high (by omega) hy2 hs
  have hpos : 0 < 2 ^ s := Nat.pow_pos (by omega)
  have hN := scale_two (hi := hi) (lo := lo) (s := s) (by omega)
  have hor := scale_or (hi := hi) (lo := lo) (s := s) (by omega) hlo
  have hNlt : (hi * 18446744073709551616 + lo) * 2 ^ s < y * 2 ^ s * 18446744073709551616 := by
    rw [Nat.mul_right_comm]
    exact Nat.mul_lt_mul_of_pos_right (by omega) hpos
  obtain ⟨hd1, hd2⟩ := scale_div (N := hi * 18446744073709551616 + lo) (y := y) hpos
  have hw1 : IntKind.u64.wrap ((y : Int) * 2 ^ s) = ((y * 2 ^ s : Nat) : Int) := by rw [wrap_pow, Nat.mod_eq_of_lt hY2]
  have hhi : hi * 2 ^ s < 18446744073709551616 := Nat.lt_trans (Nat.mul_lt_mul_of_pos_right hy hpos) hY2
  have hw2 : bits .or .u64 (IntKind.u64.wrap ((hi : Int) * 2 ^ s)) ((lo : Int) / 2 ^ (64 - s)) = ((hi * 2 ^ s + lo / 2 ^ (64 - s) : Nat) : Int) := by
    have e : (lo : Int) / 2 ^ (64 - s) = ((lo / 2 ^ (64 - s) : Nat) : Int) := by simp
    rw [wrap_pow, Nat.mod_eq_of_lt hhi, e, or_u64 _ _ hhi (Nat.lt_of_le_of_lt (Nat.div_le_self _ _) hlo), hor]
  have hw3 := wrap_pow (a := lo) (s := s)
  have hpow : ((2 ^ s : Nat) : Int) = 2 ^ s := by simp
  rw [hN] at hNlt hd1 hd2
  rw [show lo + 18446744073709551616 * hi = hi * 18446744073709551616 + lo by omega, ← hd1, ← hd2]
  -- from here on: Y, u, z as numbers
  generalize y * 2 ^ s = Y at *
  generalize hi * 2 ^ s + lo / 2 ^ (64 - s) = u at *
  have hz : lo * 2 ^ s % 18446744073709551616 < 18446744073709551616 := Nat.mod_lt _ (by omega)
  generalize lo * 2 ^ s % 18446744073709551616 = z at *
  clear hN hor hd1 hd2 hhi
  have hYe : Y / 4294967296 * 4294967296 + Y % 4294967296 = Y := by omega
  have hu : u < Y := by omega
  have Au : Ahead u (z / 4294967296) (Y / 4294967296) (Y % 4294967296) := ⟨by omega, by omega, by omega, by omega, by omega⟩
  have Ru := Au.rest
  have Su := Au.start
  have Lu := Au.small
  rw [hYe] at Ru Lu
  have Av : Ahead ((u * 4294967296 + z / 4294967296) % Y) (z % 4294967296) (Y / 4294967296) (Y % 4294967296) := ⟨by omega, by omega, by omega, by omega, by rw [hYe]; exact Ru.2.2⟩
  have Rv := Av.rest
  have Sv := Av.start
  have Lv := Av.small
  rw [hYe] at Rv Lv
  have T := two_div (X := u * 4294967296 + z / 4294967296) (d := z % 4294967296) (Y := Y) (by omega)
  rw [two_join u z] at T
  rw [T.1, T.2]
  obtain ⟨v, hv⟩ : ∃ v, v = (u * 4294967296 + z / 4294967296) % Y := ⟨_, rfl⟩
  obtain ⟨Q1, hQ1⟩ : ∃ Q1, Q1 = (u * 4294967296 + z / 4294967296) / Y := ⟨_, rfl⟩
  obtain ⟨Q0, hQ0⟩ : ∃ Q0, Q0 = (v * 4294967296 + z % 4294967296) / Y := ⟨_, rfl⟩
  obtain ⟨rr, hrr⟩ : ∃ rr, rr = (v * 4294967296 + z % 4294967296) % Y := ⟨_, rfl⟩
  rw [← hv] at Ru Av Rv Sv Lv ⊢
  rw [← hQ1] at Ru Lu ⊢
  rw [← hQ0] at Rv Lv ⊢
  rw [← hrr] at Rv ⊢
  obtain ⟨P1, hP1⟩ : ∃ P1, P1 = Q1 * Y := ⟨_, rfl⟩
  obtain ⟨P0, hP0⟩ : ∃ P0, P0 = Q0 * Y := ⟨_, rfl⟩
  rw [← hP1] at Ru
  rw [← hP0] at Rv
  refine (Div64_walk s u (z / 4294967296) (Y / 4294967296) (Y % 4294967296) Q1 v (z % 4294967296) Q0 hi lo y Y ((Y / 4294967296 : Nat) : Int) ((Y % 4294967296 : Nat) : Int) u z ((z / 4294967296 : Nat) : Int) ((z % 4294967296 : Nat) : Int)
    ((u / (Y / 4294967296) : Nat) : Int) ((u / (Y / 4294967296) * (Y / 4294967296) : Nat) : Int) ((u - u / (Y / 4294967296) * (Y / 4294967296) : Nat) : Int) Q1 _ _ _ v
    ((v / (Y / 4294967296) : Nat) : Int) ((v / (Y / 4294967296) * (Y / 4294967296) : Nat) : Int) ((v - v / (Y / 4294967296) * (Y / 4294967296) : Nat) : Int) Q0 _ _ _ rr w (by omega) (by omega) (fun w => LZ_any y s w hy2 hs) hs63
    hw1 (by omega) (Mul64.maskN Y hY2) hw2 hw3 (by omega) (Mul64.maskN z hz)
    ?e8 ?e9 ?e10 rfl rfl rfl ?g4 ?e82 ?e92 ?e102 rfl rfl rfl ?g42
    (Lib.hid Au) (Lib.hid Av) (Lib.hid rfl) (Lib.hid rfl) (Lib.hid rfl) (Lib.hid rfl) (Lib.hid rfl) (Lib.hid rfl) (by omega) (by omega) (Lib.hid (by rw [hYe]; exact hQ1)) (Lib.hid (by rw [hYe]; exact hQ0))
    (Int.natCast_nonneg _) (by omega) (Int.natCast_nonneg _) (by omega) (Lib.hid (Lib.hid (by rw [Int.toNat_natCast, Int.toNat_natCast]; exact Su.1)))
    (Int.natCast_nonneg _) (by omega) (Int.natCast_nonneg _) (by omega) (Lib.hid (Lib.hid (by rw [Int.toNat_natCast, Int.toNat_natCast]; exact Sv.1))) (by omega) (by omega) (by omega) (by omega)).mono ?_
  case e8 => rw [← Int.ofNat_tdiv]; exact Mul64.wrapN _ (by omega)
  case e9 => rw [Mul64.mulN]; exact Mul64.wrapN _ (by omega)
  case e10 => rw [IntKind.wrap_u64]; omega
  case e82 => rw [← Int.ofNat_tdiv]; exact Mul64.wrapN _ (by omega)
  case e92 => rw [Mul64.mulN]; exact Mul64.wrapN _ (by omega)
  case e102 => rw [IntKind.wrap_u64]; omega
  case g4 => rw [Mul64.mulN, ← hP1]; simp only [IntKind.wrap_u64]; omega
  case g42 => rw [Mul64.mulN, ← hP0]; simp only [IntKind.wrap_u64]; omega
  rintro e w' ⟨rfl, rfl⟩
  refine ⟨?_, Below.refl _ _⟩
  have e1 : ((Q1 * 4294967296 + Q0 : Nat) : Int) = (Q1 : Int) * 4294967296 + (Q0 : Int) := by omega
  have e2 : ((rr / 2 ^ s : Nat) : Int) = (rr : Int) / 2 ^ s := by rw [Int.natCast_ediv, hpow]
  rw [e1, e2]
end Go.Proofs.YtphllajedkpcbaaGreatDoor
