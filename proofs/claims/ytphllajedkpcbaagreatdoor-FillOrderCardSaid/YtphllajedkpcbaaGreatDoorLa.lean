/-
  Contracts of the law's own functions copied, Good, same, few, and of the document's Limbs, and Is. Conditions: slices of numbers of 64 bits, not more than a thousand. Contracts of the law's own functions Is, few, same, awake. Conditions: slices of numbers of 64 bits, not more than a thousand (few: whatever).
-/
import Derived.Test.YtphllajedkpcbaaGreatDoorNd
import Derived.Test.YtphllajedkpcbaaGreatDoorRc
import Derived.BigQuiet
namespace Go.Proofs.YtphllajedkpcbaaGreatDoor
open Go.RowKit Go.Dig Go.Shelf Go.Proofs

/-! ### append at two types of one kind -/
theorem append_types (ty : TypeId) (v x : Value) (w : World) : (Builtin.append_ #[27, 26] ty #[v, x]).run Tryz.prog w = (Builtin.append_ #[27, 27] ty #[v, x]).run Tryz.prog w := by
  cases v <;> simp only [Builtin.append_, List.getElem?_toArray, List.getElem?_cons_zero, List.getElem?_cons_succ, Sem.run_bind, run_underlying Tryz.underlying27, run_underlying Tryz.underlying26, Result.andThen_ok, Sem.run_pure]

theorem wpList_append_run {ops : Array Oper} {rest : List Oper} {o : Oper} {a : Act} {Q : Exit → Act → World → Prop} {w : World} (hgd : o.guard = none) (s x : Operand) (t t' : TypeId)
    (ho : o.op = .call { callee := .builtin .append, args := #[s, x], argTypes := #[t, t'] }) (v u v' : Value) (w' : World) (hs : a.eval s = v) (hx : a.eval x = u)
    (hr : (Builtin.append_ #[t, t'] o.type #[v, u]).run Tryz.prog w = .ok v' w') (h : wpList Tryz.prog ops Q rest (a.put o.dst v') w') : wpList Tryz.prog ops Q (o :: rest) a w :=
  wpList_plain hgd fun K hK => by
    unfold Oper.wp execOp
    simp only [ho, resolve, invoke, builtin, Sem.run_bind, Sem.run_pure, Result.andThen_ok, List.map_toArray, List.map_cons, List.map_nil, hs, hx, hr]
    exact hK _ _ h

/-- an argument: nil, or limbs somewhere. -/
def RowA (w : World) (v : Value) (l : List Nat) : Prop :=
  (v = .slice none 0 0 ∧ l = []) ∨ ∃ ad cap, v = .slice (some ad) l.length cap ∧ l.length ≤ cap ∧ (l ≠ [] → ∃ b off, ad = ⟨b, off, none⟩ ∧ b < w.heap.size ∧ ∀ j, j < l.length → w.cell? ⟨b, off + j, none⟩ = some (.int .u64 (l.getD j 0 : Nat)))
theorem RowA.row {w : World} {v : Value} {l : List Nat} (h : RowA w v l) : RowU w v l := by
  rcases h with ⟨rfl, rfl⟩ | ⟨ad, cap, rfl, h1, h2⟩
  · exact ⟨_, _, rfl, Nat.le_refl _, fun h => absurd rfl h⟩
  · refine ⟨_, cap, rfl, h1, fun hl => ?_⟩
    obtain ⟨b, off, rfl, h3, h4⟩ := h2 hl
    exact ⟨b, off, rfl, h3, h4⟩
theorem RowA.below {w w' : World} {v : Value} {l : List Nat} (h : RowA w v l) (hb : Below w.heap.size w w') : RowA w' v l := by
  rcases h with h | ⟨ad, cap, rfl, h1, h2⟩
  · exact .inl h
  · refine .inr ⟨ad, cap, rfl, h1, fun hl => ?_⟩
    obtain ⟨b, off, rfl, h3, h4⟩ := h2 hl
    exact ⟨b, off, rfl, Nat.lt_of_lt_of_le h3 hb.size, fun j hj => (hb.cell (p := ⟨b, off + j, none⟩) h3).trans (h4 j hj)⟩

set_option maxHeartbeats 1000000 in
/-- append to an empty literal: limbs, laid anew. -/
theorem copied_run (v : Value) (l : List Nat) (w : World) (h : RowA w v l) (hl : l.length ≤ 1000000) (ty : TypeId) :
    ∃ v' w', (Builtin.append_ #[27, 26] ty #[.slice (some ⟨w.heap.size, 0, none⟩) 0 0, v]).run Tryz.prog (w.alloc (.cells #[] 56)) = .ok v' w' ∧ RowU w' v' l ∧ Below w.heap.size w w' := by
  obtain ⟨i0, hi, hz0, hz1, hz2⟩ := info_parts Tryz.info56
  have hown : (w.alloc (.cells #[] 56)).ownsRow w.heap.size 56 1 (.slice (some ⟨w.heap.size, 0, none⟩) 0 0) 0 [] := World.ownsRow_lit w #[] 0 (Nat.le_refl _) (by omega) rfl
  have hB : Below w.heap.size w (w.alloc (.cells #[] 56)) := (Below.refl _ w).alloc (Nat.le_refl _) _
  rcases h with ⟨rfl, rfl⟩ | ⟨ad, cap, rfl, h1, h2⟩
  · refine ⟨.slice (some ⟨w.heap.size, 0, none⟩) 0 0, w.alloc (.cells #[] 56), ?_, ⟨_, _, rfl, Nat.le_refl _, fun h => absurd rfl h⟩, hB⟩
    rw [append_types]
    exact run_append_owned_none _ w.heap.size 27 ty 56 i0 1 Tryz.underlying27 hi _ 0 [] hown
  · have hnews : ∀ (j : Nat) (u : Value), (l.map encU)[j]? = some u → (w.alloc (.cells #[] 56)).cell? (Addr.add ad j) = some u := by
      intro j u hu
      have hj : j < l.length := by have := (List.getElem?_eq_some_iff.1 hu).1; simpa using this
      obtain ⟨b, off, rfl, h3, h4⟩ := h2 (by rintro rfl; simp at hj)
      rw [Addr.add_lit, hB.cell (p := ⟨b, off + j, none⟩) h3, h4 j hj]
      simp [hj, encU] at hu
      rw [← hu]
      simp [List.getD, hj]
    obtain ⟨v', w', hr, h4, h5, _⟩ := run_append_own (P := Tryz.prog) (w.alloc (.cells #[] 56)) w.heap.size 27 ty 56 i0 (.int .u64 0) 1 8 Tryz.underlying27 hi hz0 hz1 hz2 rfl (by decide) _ 0 [] hown ad l.length cap (l.map encU) (by simp) hnews
      (fun u hu => by simp [encU] at hu; obtain ⟨x, _, rfl⟩ := hu; rfl) (by unfold maxLen; omega) (by omega) (by simp)
    rw [Nat.zero_add, List.nil_append] at h4
    exact ⟨v', w', by rw [append_types]; exact hr, RowU.of_owns h4, hB.grown h5 (by simp) (fun k e => by cases e; exact Nat.le_refl _)⟩

/-! ### the document's Good -/
set_option maxHeartbeats 1000000 in
theorem rGood_any (v : Value) (l : List Nat) (w : World) (h : RowU w v l) (hl : l.length ≤ 1000000) :
    Calls Tryz.prog 62 #[v] w fun e w' => e = .returned (.bool (goodB l)) ∧ w = w' := by
  have R := Lib.hid h
  obtain ⟨ad, cap, rfl, hcap, h2⟩ := h
  by_cases h0 : l.length = 0
  · have HG : Hid (goodB l = true) := Lib.hid (by simp [goodB, h0])
    rw [h0]
    clear h2
    go_enter Tryz.func62, Tryz.ntmps62
    go_wp2_with fail
    go_ret
    exact ⟨by rw [HG.out]; rfl, rfl⟩
  · obtain ⟨b, off, rfl, hb, hc⟩ := R.out.cell (j := l.length - 1) (by omega)
    have HG : Hid (goodB l = (((l.getD (l.length - 1) 0 : Nat) : Int) != 0)) := Lib.hid (by
      unfold goodB
      have : (l.length == 0) = false := by simpa using h0
      rw [this, Bool.false_or, Bool.eq_iff_iff]
      simp)
    generalize l.getD (l.length - 1) 0 = x at hc HG
    have hpos : 0 < l.length := by omega
    have hn0 : ((l.length : Int) == 0) = false := by rw [beq_eq_false_iff_ne]; omega
    generalize l.length = n at *
    clear h2
    go_enter Tryz.func62, Tryz.ntmps62
    go_wp2_with fail
    go_ret
    exact ⟨by rw [HG.out]; rfl, rfl⟩

/-! ### the document's Limbs -/
/-- so many parts of sixteen bits are to come. -/
def part16 (acc x j : Nat) : Nat := acc * 65536 ^ (4 - j) + x / 65536 ^ j
theorem part16_start (acc : Nat) {x : Nat} (h : x < 18446744073709551616) : part16 acc x 4 = acc := by
  unfold part16
  rw [show x / 65536 ^ 4 = 0 from Nat.div_eq_of_lt h]; simp
theorem part16_end (acc x : Nat) : part16 acc x 0 = x + 18446744073709551616 * acc := by
  unfold part16
  rw [show 65536 ^ (4 - 0) = 18446744073709551616 from rfl, show 65536 ^ 0 = 1 from rfl]; omega
theorem part16_step (acc x : Nat) {j : Nat} (hj : j < 4) : part16 acc x (j + 1) * 65536 + x / 65536 ^ j % 65536 = part16 acc x j := by
  unfold part16
  rw [Nat.add_mul, Nat.mul_assoc, ← Nat.pow_succ, show (4 - (j + 1)).succ = 4 - j by omega, Nat.pow_succ, ← Nat.div_div_eq_div_mul]
  omega
theorem part16_mono (acc x : Nat) {j : Nat} (hj : j ≤ 4) : part16 acc x j ≤ x + 18446744073709551616 * acc := by
  rw [← part16_end]
  unfold part16
  have h1 : acc * 65536 ^ (4 - j) ≤ acc * 65536 ^ (4 - 0) := Nat.mul_le_mul_left _ (Nat.pow_le_pow_right (by omega) (by omega))
  have h2 : x / 65536 ^ j ≤ x / 65536 ^ 0 := by rw [Nat.pow_zero, Nat.div_one]; exact Nat.div_le_self _ _
  omega
theorem D_len {l : List Nat} (h : SmallU l) : (D (V l)).length ≤ 5 * l.length := by
  rw [dig_len (by omega)]
  have h1 := val_lt (B := 18446744073709551616) (by omega) l h
  refine Nat.lt_of_lt_of_le h1 ?_
  rw [Nat.pow_mul]
  exact Nat.pow_le_pow_left (by decide) _

set_option maxRecDepth 100000 in
set_option maxHeartbeats 4000000 in
theorem Limbs_any (v : Value) (la : List Nat) (w : World) (h : RowU w v la) (s : SmallU la) (hl : la.length ≤ 1000) :
    Calls Tryz.prog 64 #[v] w fun e w' => ∃ v', e = .returned v' ∧ Row w' v' (D (V la)) ∧ Below w.heap.size w w' := by
  have R := Lib.hid h
  obtain ⟨ad, cap, rfl, hcap, -⟩ := h
  have HS := Lib.hid s
  have hDl : Hid (∀ m, (D (V (la.drop m))).length ≤ 5000) := Lib.hid (fun m => by
    have h1 := D_len (s.drop m)
    rw [List.length_drop] at h1
    omega)
  clear s
  go_enter Tryz.func64, Tryz.ntmps64
  go_wp2_with fail
  go_loopw [3, 4] (fun a b wr => ∃ m : Nat, m ≤ la.length ∧ b = .int .i64 ((m : Int) - 1) ∧ Row wr a (D (V (la.drop m))) ∧ Below w.heap.size w wr) (fun _ b _ => (intOf b + 1).toNat)
  case atStart => exact ⟨la.length, Nat.le_refl _, rfl, by rw [List.drop_length]; exact ⟨_, _, rfl, Nat.le_refl _, fun h => absurd rfl h⟩, Below.refl _ _⟩
  case round =>
    obtain ⟨m, hm, rfl, hRow, hB⟩ := hrel
    by_cases hz : m = 0
    · subst hz
      go_wp2_with fail
      go_ret
      exact ⟨_, rfl, hRow, hB⟩
    · obtain ⟨k, rfl⟩ : ∃ k, m = k + 1 := ⟨m - 1, by omega⟩
      have hk : k < la.length := by omega
      obtain ⟨b, off, rfl, hb, hc⟩ := R.out.cell hk
      have hx := HS.out.getD (by omega) k
      have hV := Lib.hid (val_drop (B := 18446744073709551616) la k hk)
      have hDk := hDl.out k
      have hDk1 := hDl.out (k + 1)
      generalize hacc : V (la.drop (k + 1)) = acc at *
      unfold V at hacc
      rw [hacc] at hV
      generalize la.getD k 0 = x at hc hx hV
      rw [show ((k + 1 : Nat) : Int) - 1 = (k : Int) by omega]
      have HVk : Hid (V (la.drop k) = x + 18446744073709551616 * acc) := Lib.hid hV.out
      rw [HVk.out] at hDk
      have HD5 := Lib.hid hDk
      have HAC := Lib.hid hacc
      clear hacc hV hz hDk
      go_wp2_with fail
      go_loopw [3, 5] (fun a b wr2 => ∃ j : Nat, j ≤ 4 ∧ b = .int .i64 ((j : Int) - 1) ∧ Row wr2 a (D (part16 acc x j)) ∧ Below w.heap.size w wr2) (fun _ b _ => (intOf b + 1).toNat)
      case atStart => exact ⟨4, by omega, rfl, by rw [part16_start acc hx]; exact hRow, hB⟩
      case round =>
        clear hRow hB
        obtain ⟨j, hj, rfl, hRow, hB⟩ := hrel
        by_cases hz : j = 0
        · subst hz
          rw [part16_end] at hRow
          rw [← HVk.out] at hRow
          go_wp2_with fail
          exact ⟨⟨k, by omega, rfl, hRow, hB⟩, by simp [intOf]⟩
        · obtain ⟨i, rfl⟩ : ∃ i, j = i + 1 := ⟨j - 1, by omega⟩
          have HP := Lib.hid (part16_step acc x (j := i) (by omega))
          have hM1 := part16_mono acc x (j := i + 1) hj
          have hM0 := part16_mono acc x (j := i) (by omega)
          have hL1 : (D (part16 acc x (i + 1))).length ≤ 5000 := Nat.le_trans (dig_mono (by omega) hM1) HD5.out
          have hL0 : (D (part16 acc x i)).length ≤ 5000 := Nat.le_trans (dig_mono (by omega) hM0) HD5.out
          have hci : wr.cell? ⟨b, off + k, none⟩ = some (.int .u64 (x : Int)) := (hB.cell (p := ⟨b, off + k, none⟩) hb).trans hc
          rw [show ((i + 1 : Nat) : Int) - 1 = (i : Int) by omega]
          clear hz hM1 hM0 hc
          go_wp2_with fail
          go_loop [6, 23] (fun a b => ∃ t y : Nat, t ≤ i ∧ y < 18446744073709551616 ∧ Hid (y = x / 65536 ^ t) ∧ a = .int .u64 (y : Int) ∧ b = .int .i64 (t : Int)) (fun _ b => i - (intOf b).toNat)
          case atStart => exact ⟨0, x, by omega, hx, Lib.hid (by simp), rfl, rfl⟩
          case round =>
            obtain ⟨t, y, ht, hy, HY, rfl, rfl⟩ := hrel
            by_cases hti : t = i
            · subst hti
              have HP2 : Hid (part16 acc x (t + 1) * 65536 + y % 65536 = part16 acc x t) := Lib.hid (by rw [HY.out]; exact HP.out)
              clear HP HY
              generalize part16 acc x (t + 1) = A at hRow HP2 hL1
              obtain ⟨A2, hA2⟩ : ∃ A2, A2 = part16 acc x t := ⟨_, rfl⟩
              rw [← hA2] at HP2 hL0
              have HA2 := Lib.hid hA2
              clear hA2
              have hAM : (D (A * 65536)).length ≤ 5000 := Nat.le_trans (dig_mono (by omega) (by have := HP2.out; omega)) hL0
              have hy16 : (D (y % 65536)).length ≤ 5 := (dig_len (by omega) _ 5).2 (by omega)
              have h65 : (D 65536).length ≤ 5 := (dig_len (by omega) _ 5).2 (by omega)
              have H1 := Lib.hid (Of_any 65536 wr (by omega))
              go_wp2_with fail
              refine H1.out.mono ?_
              rintro e w2 ⟨v2, rfl, hv2, hb2⟩
              have hR2 := hRow.below hb2
              have hB2 : Below w.heap.size w w2 := hB.trans (hb2.mono hB.size)
              have H2 := Lib.hid (Mul_any _ _ A 65536 w2 hR2 hv2 (by omega) (by omega))
              go_wp2_with fail
              refine H2.out.mono ?_
              rintro e w3 ⟨v3, rfl, hv3, hb3⟩
              have hB3 : Below w.heap.size w w3 := hB2.trans (hb3.mono hB2.size)
              have H3 := Lib.hid (Of_any (y % 65536) w3 (by omega))
              rw [show ((y % 65536 : Nat) : Int) = (y : Int) % 65536 by omega] at H3
              go_wp2_with fail
              refine H3.out.mono ?_
              rintro e w4 ⟨v4, rfl, hv4, hb4⟩
              have hB4 : Below w.heap.size w w4 := hB3.trans (hb4.mono hB3.size)
              have H4 := Lib.hid (Add_any _ _ (A * 65536) (y % 65536) w4 (hv3.below hb4) hv4 (by omega) (by omega))
              rw [HP2.out] at H4
              go_wp2_with fail
              refine H4.out.mono ?_
              rintro e w5 ⟨v5, rfl, hv5, hb5⟩
              have hB5 : Below w.heap.size w w5 := hB4.trans (hb5.mono hB4.size)
              go_wp2_with fail
              exact ⟨⟨t, by omega, rfl, by rw [← HA2.out]; exact hv5, hB5⟩, by simp [intOf]⟩
            · have hti2 : t < i := by omega
              have HY2 : Hid (Hid (y / 65536 = x / 65536 ^ (t + 1))) := Lib.hid (Lib.hid (by rw [HY.out, Nat.pow_succ, Nat.div_div_eq_div_mul]))
              have hy2 : y / 65536 < 18446744073709551616 := by omega
              clear HY
              go_wp2_with fail
              go_round
              case rel => exact ⟨t + 1, y / 65536, by omega, hy2, HY2.out, by go_num, by go_num⟩
              case measure => simp [intOf]; omega
end Go.Proofs.YtphllajedkpcbaaGreatDoor

namespace Go.Proofs.YtphllajedkpcbaaGreatDoor
open Go.RowKit Go.Dig Go.Shelf Go.Proofs

theorem goodB_L (n : Nat) : goodB (L n) = true := by
  unfold goodB
  by_cases h0 : n = 0
  · subst h0; rfl
  · have hne : (L n).length ≠ 0 := fun e => h0 ((dig_nil (by omega) n).1 (List.eq_nil_of_length_eq_zero e))
    have hb := dig_big (B := 18446744073709551616) (by omega) h0
    rcases List.eq_nil_or_concat (L n) with e | ⟨l, d, e⟩
    · rw [e] at hne; simp at hne
    · rw [List.concat_eq_append] at e
      have hs := small_L n
      have hv := V_L n
      unfold L at *
      rw [e] at hs hb hv ⊢
      have hd0 : d ≠ 0 := by
        rintro rfl
        unfold V at hv
        rw [val_snoc, Nat.mul_zero, Nat.add_zero] at hv
        have h1 := val_lt (B := 18446744073709551616) (by omega) l (fun x hx => hs x (by simp [hx]))
        rw [List.length_append, List.length_singleton, Nat.add_sub_cancel] at hb
        omega
      simp [List.getD, hd0]
/-- limbs that are a natural are the natural's. -/
theorem L_of_good {l : List Nat} (h : goodB l = true) (s : SmallU l) : l = L (V l) := by
  apply dig_of_big (by omega) l s
  by_cases h0 : l = []
  · exact .inl h0
  · right
    rcases List.eq_nil_or_concat l with e | ⟨l', d, e⟩
    · exact absurd e h0
    · rw [List.concat_eq_append] at e
      subst e
      unfold goodB at h
      have hd : d ≠ 0 := by
        rintro rfl
        simp [List.getD] at h
      rw [val_snoc, List.length_append, List.length_singleton, Nat.add_sub_cancel]
      have : 18446744073709551616 ^ l'.length * 1 ≤ 18446744073709551616 ^ l'.length * d := Nat.mul_le_mul_left _ (by omega)
      omega

set_option maxRecDepth 100000 in
set_option maxHeartbeats 1000000 in
theorem Is_true (va vw : Value) (x : Nat) (w : World) (h1 : RowU w va (L x)) (h2 : Row w vw (D x)) (hl : (L x).length ≤ 1000) :
    Calls Tryz.prog 30 #[va, vw] w fun e w' => e = .returned (.bool true) ∧ Below w.heap.size w w' := by
  have hDl : (D x).length ≤ 5000 := by
    have := D_len (small_L x)
    rw [V_L] at this
    omega
  have H15 := Lib.hid (rGood_any va (L x) w h1 (by omega))
  rw [goodB_L] at H15
  have H18 := Lib.hid (Limbs_any va (L x) w h1 (small_L x) hl)
  rw [V_L] at H18
  have R2 := Lib.hid h2
  clear h1 h2
  go_enter Tryz.func30, Tryz.ntmps30
  go_wp2_with fail
  refine H15.out.mono ?_
  rintro e w1 ⟨rfl, rfl⟩
  go_wp2_with fail
  refine H18.out.mono ?_
  rintro e w1 ⟨v1, rfl, hv1, hb1⟩
  have H20 := Lib.hid (Cmp_any v1 vw x x w1 hv1 (R2.out.below hb1) (by omega) (by omega))
  rw [cmpZ_eq] at H20
  go_wp2_with fail
  refine H20.out.mono ?_
  rintro e w2 ⟨rfl, hb2⟩
  go_wp2_with fail
  go_ret
  exact ⟨rfl, hb1.trans (hb2.mono hb1.size)⟩

/-! ### same -/
end Go.Proofs.YtphllajedkpcbaaGreatDoor
