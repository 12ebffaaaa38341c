/-
  Contracts of the document's answers roundelref02: at, trim, Cmp, Of, Add. Tried over a program of one's own: the numbers of functions and types are that one's.
-/
import Derived.Test.YtphllajedkpcbaaGreatDoorProg
import Derived.Test.YtphllajedkpcbaaGreatDoorDig
import Derived.WalkKit
import Derived.WalkSpells
import Derived.WalkLawsBesides
import Derived.Lib.Hide
import Derived.Maps.AppendAt
import Derived.Test.YtphllajedkpcbaaGreatDoorRd
namespace Go.Proofs.YtphllajedkpcbaaGreatDoor
open Go.RowKit Go.Dig Go.Proofs

/-- a slice of numbers of a kind holds naturals. -/
def Lim (q : IntKind) (w : World) (v : Value) (l : List Nat) : Prop :=
  ∃ ad cap, v = .slice ad l.length cap ∧ l.length ≤ cap ∧ (l ≠ [] → ∃ b off, ad = some ⟨b, off, none⟩ ∧ b < w.heap.size ∧ ∀ j, j < l.length → w.cell? ⟨b, off + j, none⟩ = some (.int q (l.getD j 0 : Nat)))
/-- digits of the document: ints. -/
abbrev Row (w : World) (v : Value) (l : List Nat) : Prop := Lim .i64 w v l
/-- limbs: numbers of 64 bits. -/
abbrev RowU (w : World) (v : Value) (l : List Nat) : Prop := Lim .u64 w v l
theorem Lim.below {q : IntKind} {w w' : World} {v : Value} {l : List Nat} (h : Lim q w v l) (hb : Below w.heap.size w w') : Lim q w' v l := by
  obtain ⟨ad, cap, rfl, hcap, h2⟩ := h
  refine ⟨ad, cap, rfl, hcap, fun hl => ?_⟩
  obtain ⟨b, off, rfl, hlt, hc⟩ := h2 hl
  exact ⟨b, off, rfl, Nat.lt_of_lt_of_le hlt hb.size, fun j hj => (hb.cell (p := ⟨b, off + j, none⟩) hlt).trans (hc j hj)⟩

set_option maxHeartbeats 1000000 in
theorem at_any (v : Value) (l : List Nat) (i : Nat) (w : World) (h : Row w v l) (hl : l.length ≤ 1000000) (_hi : i ≤ 1000000) :
    Calls Tryz.prog 90 #[v, .int .i64 (i : Int)] w fun e w' => e = .returned (.int .i64 (l.getD i 0 : Nat)) ∧ w = w' := by
  obtain ⟨ad, cap, rfl, hcap, h2⟩ := h
  by_cases hlt : i < l.length
  · obtain ⟨b, off, rfl, hb, hc⟩ := h2 (by rintro rfl; simp at hlt)
    have hci := hc i hlt
    generalize l.getD i 0 = x at hci ⊢
    clear hc h2
    go_enter Tryz.func90, Tryz.ntmps90
    go_wp2_with fail
    go_ret
    exact ⟨rfl, rfl⟩
  · have e : l.getD i 0 = 0 := by simp [List.getD, Nat.le_of_not_lt hlt]
    rw [e]
    clear h2
    go_enter Tryz.func90, Tryz.ntmps90
    go_wp2_with fail
    go_ret
    exact ⟨rfl, rfl⟩

theorem Lim.cell {q : IntKind} {w : World} {ad : Option Addr} {n cap : Nat} {l : List Nat} (h : Lim q w (.slice ad n cap) l) {j : Nat} (hj : j < l.length) :
    ∃ b off, ad = some ⟨b, off, none⟩ ∧ b < w.heap.size ∧ w.cell? ⟨b, off + j, none⟩ = some (.int q (l.getD j 0 : Nat)) := by
  obtain ⟨ad', cap', e, hcap, h2⟩ := h
  cases e
  obtain ⟨b, off, rfl, hb, hc⟩ := h2 (by rintro rfl; simp at hj)
  exact ⟨b, off, rfl, hb, hc j hj⟩
theorem Lim.take {q : IntKind} {w : World} {ad : Option Addr} {n cap : Nat} {l : List Nat} (h : Lim q w (.slice ad n cap) l) {k : Nat} (hk : k ≤ l.length) : Lim q w (.slice ad k cap) (l.take k) := by
  obtain ⟨ad', cap', e, hcap, h2⟩ := h
  cases e
  have hlen : (l.take k).length = k := by rw [List.length_take]; omega
  refine ⟨ad, cap, by rw [hlen], by rw [hlen]; omega, fun hne => ?_⟩
  have hl : l ≠ [] := by rintro rfl; simp at hne
  obtain ⟨b, off, rfl, hb, hc⟩ := h2 hl
  refine ⟨b, off, rfl, hb, fun j hj => ?_⟩
  rw [hlen] at hj
  rw [hc j (by omega)]
  have e2 : (l.take k).getD j 0 = l.getD j 0 := by simp [List.getD, List.getElem?_take_of_lt hj]
  rw [e2]

set_option maxHeartbeats 1000000 in
theorem trim_any (v : Value) (l : List Nat) (w : World) (h : Row w v l) (hl : l.length ≤ 1000000) :
    Calls Tryz.prog 80 #[v] w fun e w' => ∃ v', e = .returned v' ∧ Row w v' (trim l) ∧ w = w' := by
  have hR := Lib.hid h
  obtain ⟨ad, cap, rfl, hcap, -⟩ := h
  go_enter Tryz.func80, Tryz.ntmps80
  go_wp2_with fail
  go_loop [3] (fun i => ∃ k : Nat, k ≤ l.length ∧ i = .int .i64 k ∧ Hid (trim (l.take k) = trim l)) (fun i => (intOf i).toNat)
  case atStart => exact ⟨l.length, Nat.le_refl _, rfl, Lib.hid (by rw [List.take_length])⟩
  case round =>
    obtain ⟨k, hk, rfl, HK⟩ := hrel
    by_cases h0 : k = 0
    · subst h0
      have H0 : Hid (trim l = []) := Lib.hid HK.out.symm
      go_wp2_with fail
      go_ret
      refine ⟨_, rfl, ?_, rfl⟩
      rw [H0.out]
      exact ⟨ad, cap, rfl, Nat.zero_le _, fun h => absurd rfl h⟩
    · have hpos : 0 < k := by omega
      obtain ⟨b, off, rfl, hb, hc⟩ := hR.out.cell (j := k - 1) (by omega)
      have hsnoc : l.take k = l.take (k - 1) ++ [l.getD (k - 1) 0] := by
        have e1 : l.take k = l.take (k - 1 + 1) := by congr 1; omega
        rw [e1, List.take_add_one]; simp [List.getD, show k - 1 < l.length by omega]
      by_cases hz : l.getD (k - 1) 0 = 0
      · have HK2 : Hid (trim (l.take (k - 1)) = trim l) := Lib.hid (by rw [← HK.out, hsnoc, hz, trim_snoc_zero])
        rw [hz] at hc
        clear hsnoc hz HK
        go_wp2_with fail
        go_round
        case rel => exact ⟨k - 1, by omega, by go_num, HK2⟩
        case measure => simp [intOf]; omega
      · have HK2 : Hid (trim l = l.take k) := Lib.hid (by rw [← HK.out, hsnoc, trim_snoc _ hz])
        generalize l.getD (k - 1) 0 = x at hc hz
        clear hsnoc HK
        go_wp2_with fail
        go_ret
        refine ⟨_, rfl, ?_, rfl⟩
        rw [HK2.out]
        exact hR.out.take hk

abbrev D (n : Nat) : List Nat := dig 10000 n
/-- the order of two numbers. -/
def cmpZ (a b : Nat) : Int := if a < b then -1 else if b < a then 1 else 0

set_option maxRecDepth 100000 in
set_option maxHeartbeats 2000000 in
theorem Cmp_any (v1 v2 : Value) (a b : Nat) (w : World) (h1 : Row w v1 (D a)) (h2 : Row w v2 (D b)) (hl1 : (D a).length ≤ 1000000) (_hl2 : (D b).length ≤ 1000000) :
    Calls Tryz.prog 63 #[v1, v2] w fun e w' => e = .returned (.int .i64 (cmpZ a b)) ∧ Below w.heap.size w w' := by
  have R1 := Lib.hid h1
  have R2 := Lib.hid h2
  obtain ⟨ad1, cap1, rfl, -, -⟩ := h1
  obtain ⟨ad2, cap2, rfl, -, -⟩ := h2
  have sa := dig_small (B := 10000) (by omega) a
  have sb := dig_small (B := 10000) (by omega) b
  have va := dig_val (B := 10000) (by omega) a
  have vb := dig_val (B := 10000) (by omega) b
  have HL := Lib.hid (fun h => lt_of_len (B := 10000) (m := a) (n := b) (by omega) h)
  have HG := Lib.hid (fun h => lt_of_len (B := 10000) (m := b) (n := a) (by omega) h)
  generalize hz : cmpZ a b = z
  have HZ := Lib.hid hz
  clear hz
  unfold D at *
  generalize dig 10000 a = la at *
  generalize dig 10000 b = lb at *
  by_cases hlen : la.length = lb.length
  · have HV := Lib.hid (And.intro (And.intro sa sb) (And.intro va vb))
    clear HL HG sa sb va vb
    rw [hlen]
    go_enter Tryz.func63, Tryz.ntmps63
    go_wp2_with fail
    go_loopw [5] (fun i wr => ∃ (k : Nat) (z : Int), k ≤ lb.length ∧ i = .int .i64 z ∧ z = (k : Int) - 1 ∧ Hid (val 10000 (la.drop k) = val 10000 (lb.drop k)) ∧ Below w.heap.size w wr) (fun i _ => (intOf i + 1).toNat)
    case atStart => exact ⟨lb.length, _, Nat.le_refl _, rfl, rfl, Lib.hid (by rw [List.drop_of_length_le (by omega), List.drop_of_length_le (Nat.le_refl _)]), Below.refl _ _⟩
    case round =>
      obtain ⟨k, z0, hk, rfl, hz, HK, hb⟩ := hrel
      cases k with
      | zero =>
        have ez : z0 = -1 := by omega
        clear hz
        subst ez
        have hab : a = b := by
          obtain ⟨⟨sa, sb⟩, va, vb⟩ := HV.out
          rw [← va, ← vb]; exact HK.out
        have HZ2 : Hid (z = 0) := Lib.hid (by rw [← HZ.out, hab]; unfold cmpZ; simp)
        go_wp2_with fail
        go_ret
        exact ⟨by rw [HZ2.out]; rfl, hb⟩
      | succ j =>
        have ez : z0 = (j : Int) := by omega
        clear hz
        subst ez
        obtain ⟨b1, o1, rfl, hb1, c1⟩ := R1.out.cell (j := j) (by omega)
        obtain ⟨b2, o2, rfl, hb2, c2⟩ := R2.out.cell (j := j) (by omega)
        have HVd : Hid ((la.getD j 0 < lb.getD j 0 → a < b) ∧ (lb.getD j 0 < la.getD j 0 → b < a) ∧ (la.getD j 0 = lb.getD j 0 → val 10000 (la.drop j) = val 10000 (lb.drop j))) := Lib.hid (by
          obtain ⟨⟨sa, sb⟩, va, vb⟩ := HV.out
          rw [← va, ← vb]
          exact ⟨fun h => lt_of_digit (by omega) sa (by omega) (by omega) HK.out h, fun h => lt_of_digit (by omega) sb (by omega) (by omega) HK.out.symm h, fun h => by rw [val_drop la j (by omega), val_drop lb j (by omega), h, HK.out]⟩)
        replace c1 := (hb.cell (p := ⟨b1, o1 + j, none⟩) hb1).trans c1
        replace c2 := (hb.cell (p := ⟨b2, o2 + j, none⟩) hb2).trans c2
        generalize la.getD j 0 = x at c1 HVd
        generalize lb.getD j 0 = y at c2 HVd
        go_wp2_with fail
        refine Rd.region (fun X => X.cell? ⟨b1, o1 + j, none⟩ = some (.int .i64 (x : Int)) ∧ X.cell? ⟨b2, o2 + j, none⟩ = some (.int .i64 (y : Int)) ∧ Below w.heap.size w X) 9 [0, 1, 2, 3, 4, 5, 6, 7] [0, 1, 2, 3, 4, 5, 6, 7, 8] (by kernel_rfl) (by kernel_rfl) (by kernel_rfl) (by kernel_rfl) rfl ⟨c1, c2, hb.drew⟩ ?_
        refine Rd.seq_float (.slice (some ⟨b1, o1, none⟩) lb.length cap1) (by simp only [List.getElem?_toArray, List.getElem?_cons_zero]; rfl) rfl (by rfl) (fun X _ => by go_simp) ?_
        simp only [Act.put, List.setIfInBounds_toArray, List.set_cons_succ, List.set_cons_zero]
        refine Rd.seq_float (.int .i64 (j : Int)) (by simp only [List.getElem?_toArray, List.getElem?_cons_succ, List.getElem?_cons_zero]; rfl) rfl (by rfl) (fun X _ => by go_simp) ?_
        simp only [Act.put, List.setIfInBounds_toArray, List.set_cons_succ, List.set_cons_zero]
        refine Rd.seq_float (.pointer (some ⟨b1, o1 + j, none⟩)) (by simp only [List.getElem?_toArray, List.getElem?_cons_succ, List.getElem?_cons_zero]; rfl) rfl (by rfl) (fun X _ => by go_simp; intro h; omega) ?_
        simp only [Act.put, List.setIfInBounds_toArray, List.set_cons_succ, List.set_cons_zero]
        refine Rd.seq_float (.int .i64 (x : Int)) (by simp only [List.getElem?_toArray, List.getElem?_cons_succ, List.getElem?_cons_zero]; rfl) rfl (by rfl) (fun X hX => by have hX1 := hX.1; go_simp) ?_
        simp only [Act.put, List.setIfInBounds_toArray, List.set_cons_succ, List.set_cons_zero]
        refine Rd.seq_float (.slice (some ⟨b2, o2, none⟩) lb.length cap2) (by simp only [List.getElem?_toArray, List.getElem?_cons_succ, List.getElem?_cons_zero]; rfl) rfl (by rfl) (fun X _ => by go_simp) ?_
        simp only [Act.put, List.setIfInBounds_toArray, List.set_cons_succ, List.set_cons_zero]
        refine Rd.seq_float (.int .i64 (j : Int)) (by simp only [List.getElem?_toArray, List.getElem?_cons_succ, List.getElem?_cons_zero]; rfl) rfl (by rfl) (fun X _ => by go_simp) ?_
        simp only [Act.put, List.setIfInBounds_toArray, List.set_cons_succ, List.set_cons_zero]
        refine Rd.seq_float (.pointer (some ⟨b2, o2 + j, none⟩)) (by simp only [List.getElem?_toArray, List.getElem?_cons_succ, List.getElem?_cons_zero]; rfl) rfl (by rfl) (fun X _ => by go_simp; intro h; omega) ?_
        simp only [Act.put, List.setIfInBounds_toArray, List.set_cons_succ, List.set_cons_zero]
        refine Rd.seq_float (.int .i64 (y : Int)) (by simp only [List.getElem?_toArray, List.getElem?_cons_succ, List.getElem?_cons_zero]; rfl) rfl (by rfl) (fun X hX => by have hX2 := hX.2.1; go_simp) ?_
        simp only [Act.put, List.setIfInBounds_toArray, List.set_cons_succ, List.set_cons_zero]
        refine Rd.seq_move (by simp only [List.getElem?_toArray, List.getElem?_cons_succ, List.getElem?_cons_zero]; rfl) rfl (by rfl) (fun K hK => ?_)
        go_simp
        refine hK _ _ (fun _ => ⟨c1, c2, hb.drew⟩) ?_
        refine Rd.seq_end ?_
        by_cases hxy : x < y
        · have HZ2 : Hid (z = -1) := Lib.hid (by rw [← HZ.out]; unfold cmpZ; rw [if_pos (HVd.out.1 hxy)])
          go_wp2_with fail
          go_ret
          exact ⟨by rw [HZ2.out]; rfl, hb.drew⟩
        · go_wp2_with fail
          have hbd : Below w.heap.size w wr.drew := hb.drew
          replace c1 : wr.drew.cell? ⟨b1, o1 + j, none⟩ = some (.int .i64 (x : Int)) := c1
          replace c2 : wr.drew.cell? ⟨b2, o2 + j, none⟩ = some (.int .i64 (y : Int)) := c2
          clear hb
          generalize wr.drew = W1 at c1 c2 hbd ⊢
          refine Rd.region (fun X => X.cell? ⟨b1, o1 + j, none⟩ = some (.int .i64 (x : Int)) ∧ X.cell? ⟨b2, o2 + j, none⟩ = some (.int .i64 (y : Int)) ∧ Below w.heap.size w X) 9 [0, 1, 2, 3, 4, 5, 6, 7] [0, 1, 2, 3, 4, 5, 6, 7, 8] (by kernel_rfl) (by kernel_rfl) (by kernel_rfl) (by kernel_rfl) rfl ⟨c1, c2, hbd.drew⟩ ?_
          refine Rd.seq_float (.slice (some ⟨b1, o1, none⟩) lb.length cap1) (by simp only [List.getElem?_toArray, List.getElem?_cons_zero]; rfl) rfl (by rfl) (fun X _ => by go_simp) ?_
          simp only [Act.put, List.setIfInBounds_toArray, List.set_cons_succ, List.set_cons_zero]
          refine Rd.seq_float (.int .i64 (j : Int)) (by simp only [List.getElem?_toArray, List.getElem?_cons_succ, List.getElem?_cons_zero]; rfl) rfl (by rfl) (fun X _ => by go_simp) ?_
          simp only [Act.put, List.setIfInBounds_toArray, List.set_cons_succ, List.set_cons_zero]
          refine Rd.seq_float (.pointer (some ⟨b1, o1 + j, none⟩)) (by simp only [List.getElem?_toArray, List.getElem?_cons_succ, List.getElem?_cons_zero]; rfl) rfl (by rfl) (fun X _ => by go_simp; intro h; omega) ?_
          simp only [Act.put, List.setIfInBounds_toArray, List.set_cons_succ, List.set_cons_zero]
          refine Rd.seq_float (.int .i64 (x : Int)) (by simp only [List.getElem?_toArray, List.getElem?_cons_succ, List.getElem?_cons_zero]; rfl) rfl (by rfl) (fun X hX => by have hX1 := hX.1; go_simp) ?_
          simp only [Act.put, List.setIfInBounds_toArray, List.set_cons_succ, List.set_cons_zero]
          refine Rd.seq_float (.slice (some ⟨b2, o2, none⟩) lb.length cap2) (by simp only [List.getElem?_toArray, List.getElem?_cons_succ, List.getElem?_cons_zero]; rfl) rfl (by rfl) (fun X _ => by go_simp) ?_
          simp only [Act.put, List.setIfInBounds_toArray, List.set_cons_succ, List.set_cons_zero]
          refine Rd.seq_float (.int .i64 (j : Int)) (by simp only [List.getElem?_toArray, List.getElem?_cons_succ, List.getElem?_cons_zero]; rfl) rfl (by rfl) (fun X _ => by go_simp) ?_
          simp only [Act.put, List.setIfInBounds_toArray, List.set_cons_succ, List.set_cons_zero]
          refine Rd.seq_float (.pointer (some ⟨b2, o2 + j, none⟩)) (by simp only [List.getElem?_toArray, List.getElem?_cons_succ, List.getElem?_cons_zero]; rfl) rfl (by rfl) (fun X _ => by go_simp; intro h; omega) ?_
          simp only [Act.put, List.setIfInBounds_toArray, List.set_cons_succ, List.set_cons_zero]
          refine Rd.seq_float (.int .i64 (y : Int)) (by simp only [List.getElem?_toArray, List.getElem?_cons_succ, List.getElem?_cons_zero]; rfl) rfl (by rfl) (fun X hX => by have hX2 := hX.2.1; go_simp) ?_
          simp only [Act.put, List.setIfInBounds_toArray, List.set_cons_succ, List.set_cons_zero]
          refine Rd.seq_move (by simp only [List.getElem?_toArray, List.getElem?_cons_succ, List.getElem?_cons_zero]; rfl) rfl (by rfl) (fun K hK => ?_)
          go_simp
          refine hK _ _ (fun _ => ⟨c1, c2, hbd.drew⟩) ?_
          refine Rd.seq_end ?_
          by_cases hyx : y < x
          · have HZ2 : Hid (z = 1) := Lib.hid (by rw [← HZ.out]; unfold cmpZ; have := HVd.out.2.1 hyx; rw [if_neg (by omega), if_pos this])
            go_wp2_with fail
            go_ret
            exact ⟨by rw [HZ2.out]; rfl, hbd.drew⟩
          · have HK2 : Hid (val 10000 (la.drop j) = val 10000 (lb.drop j)) := Lib.hid (HVd.out.2.2 (by omega))
            go_wp2_with fail
            go_round
            case rel => exact ⟨j, _, by omega, rfl, rfl, HK2, hbd.drew⟩
            case measure => simp [intOf]
  · by_cases hlt : la.length < lb.length
    · have hab := HL.out hlt
      have HZ2 : Hid (z = -1) := Lib.hid (by rw [← HZ.out]; unfold cmpZ; rw [if_pos hab])
      clear HL HG HZ sa sb va vb hab
      go_enter Tryz.func63, Tryz.ntmps63
      go_wp2_with fail
      go_ret
      exact ⟨by rw [HZ2.out]; rfl, Below.refl _ _⟩
    · have hab := HG.out (by omega)
      have HZ2 : Hid (z = 1) := Lib.hid (by rw [← HZ.out]; unfold cmpZ; rw [if_neg (by omega), if_pos hab])
      clear HL HG HZ sa sb va vb hab
      go_enter Tryz.func63, Tryz.ntmps63
      go_wp2_with fail
      go_ret
      exact ⟨by rw [HZ2.out]; rfl, Below.refl _ _⟩


theorem Tryz.info3 : (Tryz.prog.info? 3).map (fun i => (i.zero, i.size, i.bytes)) = some (some (.int .i64 0), 1, 8) := by kernel_rfl
/-- a digit as a value. -/
def encN (c : Nat) : Value := .int .i64 (c : Int)
theorem Row.of_owns {w : World} {B : Nat} {v : Value} {l : List Nat} (h : w.ownsRow B 3 1 v l.length (l.map encN)) : Row w v l := by
  rcases h.2 with ⟨rfl, h1⟩ | ⟨g, cap, cur, rfl, h2, h3⟩
  · have : l = [] := List.eq_nil_of_length_eq_zero h1
    subst this
    exact ⟨_, _, rfl, Nat.le_refl _, fun h => absurd rfl h⟩
  · refine ⟨_, cap, rfl, h3.2.1, fun _ => ⟨g, 0, rfl, (Array.getElem?_eq_some_iff.1 h3.1).1, fun j hj => ?_⟩⟩
    rw [Nat.zero_add, h.cellAt j (by omega)]
    simp [List.getD, hj, encN]

set_option maxRecDepth 100000 in
set_option maxHeartbeats 2000000 in
theorem Add_any (v1 v2 : Value) (a b : Nat) (w : World) (h1 : Row w v1 (D a)) (h2 : Row w v2 (D b)) (hl1 : (D a).length ≤ 100000) (hl2 : (D b).length ≤ 100000) :
    Calls Tryz.prog 73 #[v1, v2] w fun e w' => ∃ v, e = .returned v ∧ Row w' v (D (a + b)) ∧ Below w.heap.size w w' := by
  obtain ⟨i0, hi, hz0, hz1, hz2⟩ := info_parts Tryz.info3
  have R1 := Lib.hid h1
  have R2 := Lib.hid h2
  obtain ⟨ad1, cap1, rfl, -, -⟩ := h1
  obtain ⟨ad2, cap2, rfl, -, -⟩ := h2
  have HS := Lib.hid (And.intro (dig_small (B := 10000) (by omega) a) (dig_small (B := 10000) (by omega) b))
  have HV := Lib.hid (And.intro (dig_val (B := 10000) (by omega) a) (dig_val (B := 10000) (by omega) b))
  have HD := Lib.hid (fun out i (h : AddI 10000 (D a) (D b) out 0 i) h1 h2 h3 => AddI.done (B := 10000) (by omega) h h1 h2 h3)
  unfold D at *
  generalize dig 10000 a = la at *
  generalize dig 10000 b = lb at *
  go_enter Tryz.func73, Tryz.ntmps73
  go_wp2_with fail
  go_loopw [5, 6, 7] (fun v c i wr => ∃ (k cy : Nat) (out : List Nat), k ≤ 200000 ∧ c = .int .i64 (cy : Int) ∧ cy ≤ 1 ∧ i = .int .i64 (k : Int) ∧ wr.ownsRow w.heap.size 3 1 v out.length (out.map encN) ∧ out.length = k ∧ Hid (AddI 10000 la lb out cy k) ∧ (k ≤ la.length ∨ k ≤ lb.length ∨ (cy = 0 ∧ Hid (10000 ^ (k - 1) ≤ a + b))) ∧ Below w.heap.size w wr) (fun _ c i _ => 2 * (la.length + lb.length + 1) - 2 * (intOf i).toNat + (intOf c).toNat)
  case atStart => exact ⟨0, 0, [], by omega, rfl, by omega, rfl, World.ownsRow_nil _ _ _ _, rfl, Lib.hid (AddI.zero _ _), .inl (Nat.zero_le _), Below.refl _ _⟩
  case round =>
    obtain ⟨k, cy, out, hk, rfl, hcy, rfl, hrow, hlen, HI, hend, hb⟩ := hrel
    by_cases hgo : k < la.length ∨ k < lb.length ∨ 0 < cy
    · by_cases hA : k < la.length
      · have hbs := hb.size
        have HI2 := Lib.hid (HI.out.step (by omega) HS.out.1 HS.out.2)
        have hx9 := HS.out.1.getD (by omega) k
        have hy9 := HS.out.2.getD (by omega) k
        have H43a := Lib.hid (at_any _ la k wr (R1.out.below hb) (by omega) (by omega))
        have H43b := Lib.hid (at_any _ lb k wr (R2.out.below hb) (by omega) (by omega))
        have HE : Hid (k + 1 ≤ la.length ∨ k + 1 ≤ lb.length ∨ ((la.getD k 0 + lb.getD k 0 + cy) / 10000 = 0 ∧ Hid (10000 ^ (k + 1 - 1) ≤ a + b))) := Lib.hid (.inl (by omega))
        generalize la.getD k 0 = x at HI2 hx9 H43a HE
        generalize lb.getD k 0 = y at HI2 hy9 H43b HE
        clear HI
        have HC : Hid (((x : Int) + y + cy) % 10000 = (((x + y + cy) % 10000 : Nat) : Int)) := Lib.hid (by omega)
        have hcy2 := HI2.out.low
        go_wp2_with fail
        refine H43a.out.mono ?_
        rintro e w' ⟨rfl, rfl⟩
        go_wp2_with fail
        refine H43b.out.mono ?_
        rintro e w' ⟨rfl, rfl⟩
        go_wp2_with (at_builtin; refine wpList_append_own _ rfl _ _ 30 rfl w.heap.size 3 i0 (.int .i64 0) 1 8 Tryz.underlying30 hi hz0 hz1 hz2 rfl (by decide) u5 _ _ rfl (hrow.alloc _) ⟨wr.heap.size, 0, none⟩ 1 1 [.int .i64 (((x : Int) + y + cy) % 10000)] rfl rfl (cell_one_new _ _ _) (by simp [Value.oneCell']) (by unfold maxLen; omega) (by omega) (by simp; omega) ?_; intro v2 w2 hown2 hgrow _)
        refine ⟨⟨k + 1, (x + y + cy) / 10000, out ++ [(x + y + cy) % 10000], by omega, by congr 1, hcy2, by go_num, ?_, by rw [List.length_append, hlen]; rfl, HI2, HE.out, (hb.alloc hb.size _).grown hgrow (Nat.le_trans hb.size (by simp)) (fun j ej => (hrow.lt j ej).1)⟩, ?_⟩
        · rw [List.length_append, List.map_append]
          have e1 : [(x + y + cy) % 10000].map encN = [.int .i64 (((x : Int) + y + cy) % 10000)] := by rw [HC.out]; rfl
          rw [e1]
          exact hown2
        · simp only [intOf]; omega
      · by_cases hBb : k < lb.length
        · have hbs := hb.size
          have HI2 := Lib.hid (HI.out.step (by omega) HS.out.1 HS.out.2)
          have hx9 := HS.out.1.getD (by omega) k
          have hy9 := HS.out.2.getD (by omega) k
          have H43a := Lib.hid (at_any _ la k wr (R1.out.below hb) (by omega) (by omega))
          have H43b := Lib.hid (at_any _ lb k wr (R2.out.below hb) (by omega) (by omega))
          have HE : Hid (k + 1 ≤ la.length ∨ k + 1 ≤ lb.length ∨ ((la.getD k 0 + lb.getD k 0 + cy) / 10000 = 0 ∧ Hid (10000 ^ (k + 1 - 1) ≤ a + b))) := Lib.hid (.inr (.inl (by omega)))
          generalize la.getD k 0 = x at HI2 hx9 H43a HE
          generalize lb.getD k 0 = y at HI2 hy9 H43b HE
          clear HI
          have HC : Hid (((x : Int) + y + cy) % 10000 = (((x + y + cy) % 10000 : Nat) : Int)) := Lib.hid (by omega)
          have hcy2 := HI2.out.low
          go_wp2_with fail
          refine H43a.out.mono ?_
          rintro e w' ⟨rfl, rfl⟩
          go_wp2_with fail
          refine H43b.out.mono ?_
          rintro e w' ⟨rfl, rfl⟩
          go_wp2_with (at_builtin; refine wpList_append_own _ rfl _ _ 30 rfl w.heap.size 3 i0 (.int .i64 0) 1 8 Tryz.underlying30 hi hz0 hz1 hz2 rfl (by decide) u5 _ _ rfl (hrow.alloc _) ⟨wr.heap.size, 0, none⟩ 1 1 [.int .i64 (((x : Int) + y + cy) % 10000)] rfl rfl (cell_one_new _ _ _) (by simp [Value.oneCell']) (by unfold maxLen; omega) (by omega) (by simp; omega) ?_; intro v2 w2 hown2 hgrow _)
          refine ⟨⟨k + 1, (x + y + cy) / 10000, out ++ [(x + y + cy) % 10000], by omega, by congr 1, hcy2, by go_num, ?_, by rw [List.length_append, hlen]; rfl, HI2, HE.out, (hb.alloc hb.size _).grown hgrow (Nat.le_trans hb.size (by simp)) (fun j ej => (hrow.lt j ej).1)⟩, ?_⟩
          · rw [List.length_append, List.map_append]
            have e1 : [(x + y + cy) % 10000].map encN = [.int .i64 (((x : Int) + y + cy) % 10000)] := by rw [HC.out]; rfl
            rw [e1]
            exact hown2
          · simp only [intOf]; omega
        · have hpc : 0 < cy := by omega
          have hz1' : la.getD k 0 = 0 := by simp [List.getD, Nat.le_of_not_lt hA]
          have hz2' : lb.getD k 0 = 0 := by simp [List.getD, Nat.le_of_not_lt hBb]
          have hcar := AddI.carried (B := 10000) (out := out) (i := k) (by have := HI.out; rwa [show cy = 1 by omega] at this) (Nat.le_of_not_lt hA) (Nat.le_of_not_lt hBb)
          rw [HV.out.1, HV.out.2] at hcar
          have HCR := Lib.hid hcar
          clear hcar
          
          have hbs := hb.size
          have HI2 := Lib.hid (HI.out.step (by omega) HS.out.1 HS.out.2)
          have hx9 := HS.out.1.getD (by omega) k
          have hy9 := HS.out.2.getD (by omega) k
          have H43a := Lib.hid (at_any _ la k wr (R1.out.below hb) (by omega) (by omega))
          have H43b := Lib.hid (at_any _ lb k wr (R2.out.below hb) (by omega) (by omega))
          have HE : Hid (k + 1 ≤ la.length ∨ k + 1 ≤ lb.length ∨ ((la.getD k 0 + lb.getD k 0 + cy) / 10000 = 0 ∧ Hid (10000 ^ (k + 1 - 1) ≤ a + b))) := Lib.hid (by rw [hz1', hz2']; exact .inr (.inr ⟨by omega, Lib.hid HCR.out⟩))
          generalize la.getD k 0 = x at HI2 hx9 H43a HE
          generalize lb.getD k 0 = y at HI2 hy9 H43b HE
          clear HI hz1' hz2'
          have HC : Hid (((x : Int) + y + cy) % 10000 = (((x + y + cy) % 10000 : Nat) : Int)) := Lib.hid (by omega)
          have hcy2 := HI2.out.low
          go_wp2_with fail
          refine H43a.out.mono ?_
          rintro e w' ⟨rfl, rfl⟩
          go_wp2_with fail
          refine H43b.out.mono ?_
          rintro e w' ⟨rfl, rfl⟩
          go_wp2_with (at_builtin; refine wpList_append_own _ rfl _ _ 30 rfl w.heap.size 3 i0 (.int .i64 0) 1 8 Tryz.underlying30 hi hz0 hz1 hz2 rfl (by decide) u5 _ _ rfl (hrow.alloc _) ⟨wr.heap.size, 0, none⟩ 1 1 [.int .i64 (((x : Int) + y + cy) % 10000)] rfl rfl (cell_one_new _ _ _) (by simp [Value.oneCell']) (by unfold maxLen; omega) (by omega) (by simp; omega) ?_; intro v2 w2 hown2 hgrow _)
          refine ⟨⟨k + 1, (x + y + cy) / 10000, out ++ [(x + y + cy) % 10000], by omega, by congr 1, hcy2, by go_num, ?_, by rw [List.length_append, hlen]; rfl, HI2, HE.out, (hb.alloc hb.size _).grown hgrow (Nat.le_trans hb.size (by simp)) (fun j ej => (hrow.lt j ej).1)⟩, ?_⟩
          · rw [List.length_append, List.map_append]
            have e1 : [(x + y + cy) % 10000].map encN = [.int .i64 (((x : Int) + y + cy) % 10000)] := by rw [HC.out]; rfl
            rw [e1]
            exact hown2
          · simp only [intOf]; omega
    · obtain ⟨h1, h2, h3⟩ : la.length ≤ k ∧ lb.length ≤ k ∧ cy = 0 := by omega
      subst h3
      have HX : Hid (out = dig 10000 (a + b)) := Lib.hid (HD.out out k HI.out h1 h2 (by
        rcases hend with h | h | h
        · exact .inr (.inl (by omega))
        · exact .inr (.inr (.inl (by omega)))
        · exact .inr (.inr (.inr h.2.out))))
      clear HD HI hend
      go_wp2_with fail
      go_ret
      refine ⟨_, rfl, ?_, hb⟩
      rw [← HX.out]
      exact Row.of_owns hrow
end Go.Proofs.YtphllajedkpcbaaGreatDoor
