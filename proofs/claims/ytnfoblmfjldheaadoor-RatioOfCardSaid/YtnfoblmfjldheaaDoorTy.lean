/-
  Contracts of nat.timesPlus, nat.Read and nat.Small. Conditions: the limbs that are multiplied lie in a block that the call may write; not more than a hundred thousand limbs; a text of not more than a hundred thousand bytes.
-/
import Derived.Test.YtnfoblmfjldheaaDoorTx
import Derived.Test.YtnfoblmfjldheaaDoorNm
namespace Go.Dig
variable {B : Nat}
/-- limbs times a limb, and one more. -/
structure TimesI (B m z : Nat) (l c : List Nat) (more i : Nat) : Prop where
  small : Small B c
  len : c.length = l.length
  low : more < B
  eq : val B (c.take i) + B ^ i * more = val B (l.take i) * m + z
  rest : ∀ k, i ≤ k → c.getD k 0 = l.getD k 0
theorem TimesI.zero {m z : Nat} {l : List Nat} (hl : Small B l) (hz : z < B) : TimesI B m z l l z 0 := ⟨hl, rfl, hz, by simp [val], fun _ _ => rfl⟩
theorem TimesI.step (hB : 2 ≤ B) {m z : Nat} {l c : List Nat} {more i lo hi : Nat} (h : TimesI B m z l c more i) (hl : Small B l) (hm : m < B) (hi' : i < l.length) (hlo : lo = (more + l.getD i 0 * m + 0) % B) (hhi : hi = (more + l.getD i 0 * m + 0) / B) :
    TimesI B m z l (c.set i lo) hi (i + 1) := by
  have hx := hl.getD (by omega) i
  have e4 : lo + B * hi = more + l.getD i 0 * m := by rw [hlo, hhi, Nat.mod_add_div]; omega
  refine ⟨h.small.set i (by rw [hlo]; exact Nat.mod_lt _ (by omega)), by rw [List.length_set, h.len], ?_, ?_, fun k hk => by rw [getD_set_ne (by omega)]; exact h.rest k (by omega)⟩
  · rw [hhi, Nat.div_lt_iff_lt_mul (by omega)]
    have h1 : l.getD i 0 * m ≤ (B - 1) * (B - 1) := Nat.mul_le_mul (by omega) (by omega)
    have h2 : B * B = (B - 1) * (B - 1) + 2 * (B - 1) + 1 := by
      obtain ⟨c, rfl⟩ : ∃ c, B = c + 1 := ⟨B - 1, by omega⟩
      simp only [Nat.add_sub_cancel, Nat.mul_add, Nat.add_mul]
      omega
    have := h.low
    omega
  · have e := h.eq
    rw [take_succ_set c lo (by rw [h.len]; exact hi'), val_take l, Nat.pow_succ, Nat.mul_assoc, Nat.add_assoc, ← Nat.mul_add, e4, Nat.mul_add, Nat.add_mul]
    have e5 : B ^ i * l.getD i 0 * m = B ^ i * (l.getD i 0 * m) := Nat.mul_assoc _ _ _
    omega
end Go.Dig
namespace Go.Proofs.YtnfoblmfjldheaaDoor
open Go.RowKit Go.Dig Go.Shelf Go.Proofs

theorem times_end {v m z n : Nat} {c : List Nat} {more : Nat} (h : TimesI 18446744073709551616 m z (L v) c more n) (hn : n = (L v).length) (hm : 1 ≤ m) :
    (more = 0 → c = L (v * m + z)) ∧ (more ≠ 0 → c ++ [more] = L (v * m + z)) := by
  have e := h.eq
  subst hn
  rw [val_take_all _ (Nat.le_refl _), val_take_all _ (by rw [h.len]; exact Nat.le_refl _)] at e
  have hv : val 18446744073709551616 (L v) = v := V_L v
  rw [hv] at e
  constructor
  · intro h0
    rw [h0, Nat.mul_zero, Nat.add_zero] at e
    rw [← e]
    refine dig_of_big (by omega) c h.small ?_
    by_cases hv0 : v = 0
    · left
      apply List.eq_nil_of_length_eq_zero
      rw [h.len, hv0]; rfl
    · right
      rw [h.len, e]
      have h1 : 18446744073709551616 ^ ((L v).length - 1) ≤ v := dig_big (by omega) hv0
      have h2 : v * 1 ≤ v * m := Nat.mul_le_mul_left _ hm
      omega
  · intro h0
    have e2 : val 18446744073709551616 (c ++ [more]) = v * m + z := by rw [val_snoc, h.len]; exact e
    rw [← e2]
    refine dig_of_big (by omega) _ (h.small.snoc h.low) (.inr ?_)
    rw [val_snoc, List.length_append, List.length_singleton, Nat.add_sub_cancel]
    have h1 : 18446744073709551616 ^ c.length * 1 ≤ 18446744073709551616 ^ c.length * more := Nat.mul_le_mul_left _ (by omega)
    omega

set_option maxRecDepth 100000 in
set_option maxHeartbeats 4000000 in
theorem timesPlus_any (base g n cap v m more : Nat) (w : World) (hO : Own64 w base g n cap (L v)) (hm0 : 1 ≤ m) (hm : m < 18446744073709551616) (hz : more < 18446744073709551616) (hn : n ≤ 100000) :
    Calls Tryd.prog 78 #[.slice (some ⟨g, 0, none⟩) n cap, .int .u64 (m : Int), .int .u64 (more : Int)] w fun e w' => ∃ g' n' cap', e = .returned (.slice (some ⟨g', 0, none⟩) n' cap') ∧ Own64 w' base g' n' cap' (L (v * m + more)) ∧ Below base w w' := by
  obtain ⟨i0, hi, hz0, hz1, hz2⟩ := info_parts Tryd.info64
  have HN : Hid (n = (L v).length) := Lib.hid hO.len.symm
  have hgl := hO.lt
  have hcap := hO.cap
  have HO := Lib.hid hO
  clear hO
  go_enter Tryd.func78, Tryd.ntmps78
  go_wp2_with fail
  go_loopw [2, 10] (fun c i wr => ∃ (k cy : Nat) (o : List Nat), k ≤ n ∧ cy < 18446744073709551616 ∧ c = .int .u64 (cy : Int) ∧ i = .int .i64 (k : Int) ∧ Own64 wr base g n cap o ∧ Hid (TimesI 18446744073709551616 m more (L v) o cy k) ∧ Below base w wr) (fun _ i _ => n - (intOf i).toNat)
  case atStart => exact ⟨0, more, L v, Nat.zero_le _, hz, rfl, rfl, HO.out, Lib.hid (TimesI.zero (small_L v) hz), Below.refl _ _⟩
  case round =>
    clear HO
    obtain ⟨k, cy, o, hk, hcy, rfl, rfl, hO, HI, hB⟩ := hrel
    by_cases hlt : k < n
    · have hc := hO.cell hlt
      have hfz := hO.frozen k
      rw [HI.out.rest k (Nat.le_refl _)] at hc
      have hx := (small_L v).getD (by omega) k
      have HST := Lib.hid (fun lo hi h1 h2 => HI.out.step (lo := lo) (hi := hi) (by omega) (small_L v) hm (by have := HN.out; omega) h1 h2)
      generalize (L v).getD k 0 = x at hc hx HST
      obtain ⟨lo, hlo⟩ : ∃ lo, lo = (cy + x * m + 0) % 18446744073709551616 := ⟨_, rfl⟩
      obtain ⟨hh, hhh⟩ : ∃ hh, hh = (cy + x * m + 0) / 18446744073709551616 := ⟨_, rfl⟩
      have H61 := Lib.hid (timesAdd_is x m cy 0 lo hh wr hx hm hcy (by omega) hlo hhh)
      have HI2 := Lib.hid (Lib.hid (HST.out lo hh hlo hhh))
      have hhB : hh < 18446744073709551616 := HI2.out.out.low
      clear hlo hhh HST HI
      go_wp2_with fail
      refine H61.out.mono ?_
      rintro e w1 ⟨rfl, rfl⟩
      have hO2 := hO.set k lo
      have hB2 : Below base w (wr.setCell ⟨g, k, none⟩ (.int .u64 (lo : Int))) := hB.setCell (p := ⟨g, k, none⟩) hgl.1 _
      go_wp2_with fail
      go_round
      case rel => exact ⟨k + 1, hh, o.set k lo, by omega, hhB, rfl, by go_num, hO2, HI2.out, hB2⟩
      case measure => simp [intOf]; omega
    · have hkn : k = n := by omega
      subst hkn
      have HE := Lib.hid (times_end HI.out HN.out hm0)
      clear HI
      by_cases h0 : cy = 0
      · subst h0
        have HE2 := Lib.hid (HE.out.1 rfl)
        clear HE
        go_wp2_with fail
        go_ret
        exact ⟨g, _, cap, rfl, by rw [← HE2.out]; exact hO, hB⟩
      · have HE2 := Lib.hid (HE.out.2 h0)
        have h00 : ((cy : Int) == 0) = false := by rw [beq_eq_false_iff_ne]; omega
        clear HE h0
        have hs := hB.size
        go_wp2_with (at_builtin; refine wpList_append_own _ rfl _ _ 28 rfl base 64 i0 (.int .u64 0) 1 8 Tryd.underlying28 hi hz0 hz1 hz2 rfl (by decide) _ _ _ rfl (hO.alloc _) ⟨wr.heap.size, 0, none⟩ 1 1 [.int .u64 (cy : Int)] rfl rfl (cell_one_new _ _ _) (by simp [Value.oneCell']) (by unfold maxLen; omega) (by omega) (by simp; omega) ?_; intro v2 w2 hown2 hgrow _)
        obtain ⟨g', cp, rfl⟩ := owns_form hown2 (by omega)
        go_ret
        refine ⟨g', _, cp, rfl, ?_, ?_⟩
        · rw [← HE2.out]
          show World.ownsRow _ _ _ _ _ _ _
          rw [List.map_append]
          exact hown2
        · exact (hB.alloc (by omega) _).grown hgrow (by rw [World.size_alloc]; omega) (fun j ej => by cases ej; exact hgl.1)

theorem readN_acc (s : List UInt8) : ∀ acc, readN acc s = acc * 10 ^ s.length + readN 0 s := by
  induction s with
  | nil => intro acc; simp [readN]
  | cons c s ih =>
    intro acc
    have e1 : readN acc (c :: s) = readN (acc * 10 + (c.toNat - 48)) s := rfl
    have e2 : readN 0 (c :: s) = readN (0 * 10 + (c.toNat - 48)) s := rfl
    rw [e1, e2, ih, ih (0 * 10 + (c.toNat - 48)), List.length_cons, Nat.pow_succ, Nat.add_mul, Nat.zero_mul, Nat.zero_add, Nat.mul_assoc, Nat.mul_comm 10]
    omega
theorem readN_split (s : List UInt8) (k : Nat) : readN 0 s = readN 0 (s.take k) * 10 ^ (s.drop k).length + readN 0 (s.drop k) := by
  have e : readN 0 s = readN (readN 0 (s.take k)) (s.drop k) := by
    have e1 : readN 0 (s.take k ++ s.drop k) = readN (readN 0 (s.take k)) (s.drop k) := by unfold readN; rw [List.foldl_append]
    rw [List.take_append_drop] at e1
    exact e1
  rw [e, readN_acc]
/-- what the loop of Read keeps. -/
def ReadI (N : Nat) (t : List UInt8) (v : Nat) : Prop := Dgt t ∧ v * 10 ^ t.length + readN 0 t = N ∧ (v = 0 ∨ t.length % 19 = 0)
theorem ReadI.step {N v q : Nat} {t : List UInt8} (h : ReadI N t v) (hq : q = (t.length - 1) % 19) (ht : 0 < t.length) : ReadI N (t.drop (q + 1)) (v * 10000000000000000000 + readN 0 (t.take (q + 1))) := by
  obtain ⟨h1, h2, h3⟩ := h
  have hl : (t.drop (q + 1)).length = t.length - (q + 1) := List.length_drop
  refine ⟨fun c hc => h1 c (List.mem_of_mem_drop hc), ?_, .inr (by rw [hl]; omega)⟩
  rw [← h2, readN_split t (q + 1), Nat.add_mul]
  have e : v * 10000000000000000000 * 10 ^ (t.drop (q + 1)).length = v * 10 ^ t.length := by
    rcases h3 with h3 | h3
    · rw [h3]; simp
    · rw [hl, Nat.mul_assoc, show 10000000000000000000 = 10 ^ 19 from rfl, ← Nat.pow_add]
      congr 2
      omega
  rw [e, Nat.add_assoc]
def strSize : Value → Nat
  | .string b => b.size
  | _ => 0
set_option maxRecDepth 100000 in
set_option maxHeartbeats 4000000 in
theorem nRead_no (s : List UInt8) (hl : s.length ≤ 1000) (h : ¬ IsText s) (w : World) :
    Calls Tryd.prog 57 #[.string ⟨s.toArray⟩] w fun e w' => e = .returned (.tuple #[.slice none 0 0, .int .i64 17]) ∧ w = w' := by
  have H55 := Lib.hid (isText_is s false ⟨fun e => (by cases e), fun e => absurd e h⟩ (by omega) w)
  go_enter Tryd.func57, Tryd.ntmps57
  go_wp2_with fail
  refine H55.out.mono ?_
  rintro e w1 ⟨rfl, rfl⟩
  go_wp2_with fail
  go_ret2
  exact ⟨rfl, rfl⟩
set_option maxRecDepth 100000 in
set_option maxHeartbeats 4000000 in
theorem nRead_yes (s : List UInt8) (hl : s.length ≤ 1000) (h : IsText s) (w : World) :
    Calls Tryd.prog 57 #[.string ⟨s.toArray⟩] w fun e w' => ∃ v, e = .returned (.tuple #[v, .int .i64 0]) ∧ RowU w' v (L (readN 0 s)) ∧ Below w.heap.size w w' := by
  obtain ⟨i0, hi, hz0, hz1, hz2⟩ := info_parts Tryd.info64
  have H55 := Lib.hid (isText_is s true ⟨fun _ => h, fun _ => rfl⟩ (by omega) w)
  have HT := Lib.hid h
  clear h
  obtain ⟨N, hN⟩ : ∃ N, N = readN 0 s := ⟨_, rfl⟩
  have HN := Lib.hid hN
  have HNL : Hid ((L N).length ≤ 1000) := Lib.hid (by
    have h1 := readN_lt _ s rfl HT.out.1
    rw [← hN] at h1
    refine Nat.le_trans ((dig_len (by omega) N s.length).2 (Nat.lt_of_lt_of_le h1 ?_)) hl
    exact Nat.pow_le_pow_left (by omega) _)
  rw [← hN]
  clear hN
  obtain ⟨q0, hq0⟩ : ∃ q0 : Nat, (s.length : Int).tdiv 19 = (q0 : Int) := ⟨s.length / 19, by rw [Int.tdiv_eq_ediv_of_nonneg (by omega)]; omega⟩
  have hq0l : q0 ≤ 1000 := by rw [Int.tdiv_eq_ediv_of_nonneg (by omega)] at hq0; omega
  go_enter Tryd.func57, Tryd.ntmps57
  go_wp2_with fail
  refine H55.out.mono ?_
  rintro e w1 ⟨rfl, rfl⟩
  clear H55
  go_wp2_with (at_make; refine wpList_make_own w rfl _ _ 28 rfl w.heap.size 64 i0 (.int .u64 0) 1 Tryd.underlying28 hi hz0 hz1 .i64 .i64 _ (q0 + 1) rfl rfl (by omega) (by rw [hz2]; omega) (by unfold maxLen; omega) (Nat.le_refl _) ?_; intro w1 hown hgrow)
  have hb1 : Below w.heap.size w w1 := (Below.refl _ w).grown hgrow (Nat.le_refl _) (fun j ej => by cases ej)
  go_wp2_with fail
  go_loopw [0, 4] (fun S A wr => ∃ (t : List UInt8) (v g n cap : Nat), t.length ≤ 1000 ∧ S = .string ⟨t.toArray⟩ ∧ A = .slice (some ⟨g, 0, none⟩) n cap ∧ Own64 wr w.heap.size g n cap (L v) ∧ Hid (ReadI N t v) ∧ Below w.heap.size w wr) (fun S _ _ => strSize S)
  case atStart => exact ⟨s, 0, w.heap.size, 0, q0 + 1, hl, rfl, rfl, hown, Lib.hid ⟨HT.out.1, by rw [Nat.zero_mul, Nat.zero_add, HN.out], .inl rfl⟩, hb1⟩
  case round =>
    clear hown hgrow hb1 hq0
    obtain ⟨t, v, g, n, cap, htl, rfl, rfl, hO, HI, hB⟩ := hrel
    by_cases ht : t = []
    · subst ht
      have HE : Hid (v = N) := Lib.hid (by have h9 := HI.out.2.1; rw [List.length_nil, Nat.pow_zero, Nat.mul_one] at h9; exact h9)
      clear HI
      go_wp2_with fail
      go_ret2
      exact ⟨_, rfl, by rw [← HE.out]; exact hO.row, hB⟩
    · have hpos : 0 < t.length := List.length_pos_iff.2 ht
      obtain ⟨q, hq⟩ : ∃ q, q = (t.length - 1) % 19 := ⟨_, rfl⟩
      have hq1 : ((t.length : Int) - 1).tmod 19 = (q : Int) := by rw [Int.tmod_eq_emod_of_nonneg (by omega)]; omega
      have hq18 : q ≤ 18 := by omega
      have hqt : q + 1 ≤ t.length := by omega
      have HI2 := Lib.hid (Lib.hid (HI.out.step hq hpos))
      have hnl : n ≤ 100000 := by
        have h1 := hO.len
        have h2 : v ≤ N := by
          have h3 := HI.out.2.1
          have h4 : v * 1 ≤ v * 10 ^ t.length := Nat.mul_le_mul_left _ (Nat.pow_pos (by omega))
          omega
        have h5 := len_mono h2
        have := HNL.out
        omega
      have H57 := Lib.hid (readGroup_any (t.take (q + 1)) (by rw [List.length_take]; omega) (fun c hc => HI.out.1 c (List.mem_of_mem_take hc)) wr)
      have hx1 := take_bytes t (q + 1)
      have hx2 := drop_bytes t (q + 1)
      have hgt : readN 0 (t.take (q + 1)) < 18446744073709551616 := by
        have h1 := readN_lt _ (t.take (q + 1)) rfl (fun c hc => HI.out.1 c (List.mem_of_mem_take hc))
        rw [List.length_take] at h1
        have h2 : 10 ^ min (q + 1) t.length ≤ 10 ^ 19 := Nat.pow_le_pow_right (by omega) (by omega)
        omega
      have htd : (t.drop (q + 1)).length + (q + 1) = t.length := by rw [List.length_drop]; omega
      generalize readN 0 (t.take (q + 1)) = G at hgt HI2 H57
      generalize t.take (q + 1) = tk at hx1 H57
      generalize t.drop (q + 1) = td at hx2 HI2 htd
      clear HI hq ht
      go_wp2_with fail
      refine H57.out.mono ?_
      rintro e w2 ⟨rfl, rfl⟩
      have H56 := Lib.hid (timesPlus_any w.heap.size g n cap v 10000000000000000000 G wr hO (by omega) (by omega) hgt hnl)
      clear H57 hO
      go_wp2_with fail
      refine H56.out.mono ?_
      rintro e w2 ⟨g', n', cap', rfl, hO2, hb2⟩
      have hB2 : Below w.heap.size w w2 := hB.trans hb2
      clear H56 hb2 hB
      go_wp2_with fail
      go_round
      case rel => exact ⟨td, _, g', n', cap', by omega, rfl, rfl, hO2, HI2.out, hB2⟩
      case measure => show td.length < t.length; omega

theorem small_limb {a : Nat} (h : (L a).length ≤ 1) : (L a).getD 0 0 = a := by
  by_cases h0 : a = 0
  · subst h0; rfl
  · exact (len_one h0 (by have := len_pos h0; omega)).2
end Go.Proofs.YtnfoblmfjldheaaDoor
