/-
  Contracts of package mask's reading: readCore, readRun. Conditions: the tables and variables of Go's library lie as the rows say; a text of at most 400 bytes.
-/
import Derived.Test.YtgmdbgdbjmlolaaDoorWe
import Derived.Test.YtgmdbgdbjmlolaaDoorMathr
import Derived.Test.YtgmdbgdbjmlolaaDoorShelg
namespace Go.Proofs.YtgmdbgdbjmlolaaDoor
open Go.RowKit Go.Shelf

/-- what the readers want of the library's variables. -/
structure Rw (w : World) : Prop where
  tab : Tab w
  len : ∃ m, w.cell? ⟨1, 0, none⟩ = some (.int .i64 m)
  e3 : ∃ ev, w.cell? ⟨3, 0, none⟩ = some ev ∧ (ev = .nilIface ∨ ∃ te pe, ev = .iface te pe)
  e4 : ∃ ev, w.cell? ⟨4, 0, none⟩ = some ev ∧ (ev = .nilIface ∨ ∃ te pe, ev = .iface te pe)
  size : 5 ≤ w.heap.size
theorem Rw.below {B : Nat} {w w' : World} (h : Rw w) (hb : Below B w w') (hB : 5 ≤ B) : Rw w' := by
  obtain ⟨t, ⟨m, hm⟩, ⟨e3, h3, v3⟩, ⟨e4, h4, v4⟩, hs⟩ := h
  exact ⟨t.below hb (by omega), ⟨m, (hb.cell (p := ⟨1, 0, none⟩) (by show 1 < B; omega)).trans hm⟩, ⟨e3, (hb.cell (p := ⟨3, 0, none⟩) (by show 3 < B; omega)).trans h3, v3⟩, ⟨e4, (hb.cell (p := ⟨4, 0, none⟩) (by show 4 < B; omega)).trans h4, v4⟩, Nat.le_trans hs hb.size⟩

theorem below_bytes (w : World) (e : TypeId) (s : ByteArray) : Below w.heap.size w (Lib.bytesWorld w e s) :=
  Lib.bytesWorld_below w e s
theorem Cut_any (l : List UInt8) (c : UInt8) (w : World) (hl : l.length ≤ 400) (hw : Rw w) :
    Calls Tryd.prog 48 #[encS l, .string ⟨#[c]⟩] w fun e w' => e = .returned (.tuple #[encS (Lib.cut l [c]).1, encS (Lib.cut l [c]).2.1, .bool (Lib.cut l [c]).2.2]) ∧ Below w.heap.size w w' := by
  obtain ⟨m, hm⟩ := hw.len
  refine (Tryd.strings_Cut ⟨l.toArray⟩ ⟨#[c]⟩ m w ?_ hm).mono ?_
  · show l.toArray.size < _; simp; omega
  · rintro e w' ⟨rfl, n, rfl⟩
    refine ⟨rfl, below_drewN (Below.refl _ _) n⟩

theorem coreText_ok {l : List UInt8} {v : Int} (h : Lib.atoiAll l = .ok v) : coreText l = if coreB v then some v.toNat else none := by unfold coreText; rw [h]
theorem coreText_bad {l : List UInt8} (h : ∀ v, Lib.atoiAll l ≠ .ok v) : coreText l = none := by
  unfold coreText
  split
  · rename_i v hv; exact absurd hv (h v)
  · rfl

theorem isCore_is (c : Int) (t : Bool) (w : World) (h : Hid (coreB c = t)) :
    Calls Tryd.prog 32 #[.int .i64 c] w fun e w' => e = .returned (.bool t) ∧ w = w' := by rw [← h.out]; exact isCore_any c w

/-- a core and whether there is one, as values. -/
def coreVals (o : Option Nat) : Value := .tuple #[.int .i64 ((o.getD 0 : Nat) : Int), .bool o.isSome]

set_option maxHeartbeats 1000000 in
theorem readCore_any (l : List UInt8) (w : World) (hl : l.length ≤ 400) (hw : Rw w) :
    Calls Tryd.prog 54 #[encS l] w fun e w' => e = .returned (coreVals (coreText l)) ∧ Below w.heap.size w w' := by
  have hsz : (⟨l.toArray⟩ : ByteArray).size ≤ 400 := by show l.toArray.size ≤ 400; simpa using hl
  by_cases hok : ∃ v, Lib.atoiAll l = .ok v
  · obtain ⟨v, hv⟩ := hok
    have hat : Calls Tryd.prog 59 #[encS l] w fun e w' => e = .returned (.tuple #[.int .i64 v, .nilIface]) ∧ Below w.heap.size w w' :=
      (Tryd.strconv_Atoi_ok ⟨l.toArray⟩ (by omega) v hv w).mono fun e w' ⟨he, hw'⟩ => ⟨he, by
        rcases hw' with rfl | ⟨t, rfl⟩
        · exact Below.refl _ _
        · exact below_bytes _ _ _⟩
    have HA := Lib.hid hat
    have HC := Lib.hid (coreText_ok hv)
    clear hat hv
    unfold encS at HA ⊢
    cases hb : coreB v
    · have HR : Hid (coreText l = none) := Lib.hid (by rw [HC.out, hb]; rfl)
      have HB := Lib.hid hb
      clear hb HC
      go_enter Tryd.func54, Tryd.ntmps54
      go_wp2_with fail
      refine HA.out.mono ?_
      rintro e w1 ⟨rfl, hb1⟩
      go_wp2_with fail
      refine (isCore_is v false _ HB).mono ?_
      rintro e w' ⟨rfl, rfl⟩
      go_wp2_with fail
      go_ret2
      exact ⟨by rw [HR.out]; rfl, hb1⟩
    · have HR : Hid (coreText l = some v.toNat) := Lib.hid (by rw [HC.out, hb]; rfl)
      have hv0 := (coreB_true hb).1
      have HB := Lib.hid hb
      clear hb HC
      go_enter Tryd.func54, Tryd.ntmps54
      go_wp2_with fail
      refine HA.out.mono ?_
      rintro e w1 ⟨rfl, hb1⟩
      go_wp2_with fail
      refine (isCore_is v true _ HB).mono ?_
      rintro e w' ⟨rfl, rfl⟩
      go_wp2_with fail
      go_ret2
      refine ⟨?_, hb1⟩
      rw [HR.out]
      have e1 : ((v.toNat : Nat) : Int) = v := by omega
      show Ending.returned (.tuple #[.int .i64 v, .bool true]) = .returned (.tuple #[.int .i64 ((v.toNat : Nat) : Int), .bool true])
      rw [e1]
  · have hbad : ∀ v, Lib.atoiAll l ≠ .ok v := fun v hv => hok ⟨v, hv⟩
    have HR := Lib.hid (coreText_bad hbad)
    have HA := Lib.hid (Tryd.strconv_Atoi_bad ⟨l.toArray⟩ (by omega) hbad w hw.e3 hw.e4)
    clear hbad hok
    unfold encS
    go_enter Tryd.func54, Tryd.ntmps54
    go_wp2_with fail
    refine HA.out.mono ?_
    rintro e w1 ⟨c, N, rfl, hb1⟩
    go_wp2_with fail
    go_ret2
    exact ⟨by rw [HR.out]; rfl, hb1⟩

/-- a run and whether there is one, as values. -/
def runVals (o : Option (Nat × Nat)) : Value := .tuple #[.int .i64 ((o.getD (0, 0)).1 : Int), .int .i64 ((o.getD (0, 0)).2 : Int), .bool o.isSome]

theorem cut_len (l : List UInt8) (c : UInt8) : (Lib.cut l [c]).1.length ≤ l.length ∧ (Lib.cut l [c]).2.1.length ≤ l.length ∧ ((Lib.cut l [c]).2.2 = true → (Lib.cut l [c]).2.1.length < l.length) := by
  unfold Lib.cut
  split
  · rename_i h
    refine ⟨List.length_take_le' _ _, by rw [List.length_drop]; omega, fun _ => ?_⟩
    show (l.drop _).length < l.length
    rw [List.length_drop]
    have hne : l ≠ [] := by
      rintro rfl
      rw [show Lib.index [] [c] = -1 from rfl] at h
      omega
    have := List.length_pos_iff.2 hne
    simp
    omega
  · exact ⟨Nat.le_refl _, Nat.zero_le _, fun h => by cases h⟩

set_option maxRecDepth 100000 in
set_option maxHeartbeats 1000000 in
theorem readRun_any (l : List UInt8) (w : World) (hl : l.length ≤ 400) (hw : Rw w) :
    Calls Tryd.prog 49 #[encS l] w fun e w' => e = .returned (runVals (runOfText l)) ∧ Below w.heap.size w w' := by
  have hcut := Cut_any l 45 w hl hw
  have hlen := cut_len l 45
  have hspec : runOfText l = match coreText (Lib.cut l [45]).1, coreText (if (Lib.cut l [45]).2.2 then (Lib.cut l [45]).2.1 else (Lib.cut l [45]).1) with
    | some a, some b => some (a, b)
    | _, _ => none := rfl
  generalize hr : runOfText l = r at hspec ⊢
  clear hr
  generalize Lib.cut l [45] = p at hcut hlen hspec
  obtain ⟨x, y, t⟩ := p
  have HC := Lib.hid hcut
  have HS := Lib.hid hspec
  clear hcut hspec
  have hx : x.length ≤ 400 := by have := hlen.1; simp only at this; omega
  have hy : y.length ≤ 400 := by have := hlen.2.1; simp only at this; omega
  clear hlen
  unfold encS at HC ⊢
  cases t
  · have HS2 : Hid (r = match coreText x, coreText x with | some a, some b => some (a, b) | _, _ => none) := Lib.hid HS.out
    clear HS
    go_enter Tryd.func49, Tryd.ntmps49
    go_wp2_with fail
    refine HC.out.mono ?_
    rintro e w1 ⟨rfl, hb1⟩
    have hw1 := hw.below hb1 hw.size
    have H54 := Lib.hid (fun W (h : Rw W) => readCore_any x W hx h)
    unfold encS coreVals at H54
    generalize coreText x = o at HS2 H54
    go_wp2_with fail
    refine (H54.out w1 hw1).mono ?_
    rintro e w2 ⟨rfl, hb2⟩
    have hw2 := hw1.below hb2 hw1.size
    have hB2 := hb1.trans (hb2.mono hb1.size)
    go_wp2_with fail
    refine (H54.out w2 hw2).mono ?_
    rintro e w3 ⟨rfl, hb3⟩
    have hB3 := hB2.trans (hb3.mono hB2.size)
    cases o with
    | none =>
      go_wp2_with fail
      go_ret3
      exact ⟨by rw [HS2.out]; rfl, hB3⟩
    | some a =>
      go_wp2_with fail
      go_ret3
      exact ⟨by rw [HS2.out]; rfl, hB3⟩
  · have HS2 : Hid (r = match coreText x, coreText y with | some a, some b => some (a, b) | _, _ => none) := Lib.hid HS.out
    clear HS
    go_enter Tryd.func49, Tryd.ntmps49
    go_wp2_with fail
    refine HC.out.mono ?_
    rintro e w1 ⟨rfl, hb1⟩
    have hw1 := hw.below hb1 hw.size
    have H54 := Lib.hid (fun W (h : Rw W) => readCore_any x W hx h)
    have H54y := Lib.hid (fun W (h : Rw W) => readCore_any y W hy h)
    unfold encS coreVals at H54 H54y
    generalize coreText x = o at HS2 H54
    generalize coreText y = q at HS2 H54y
    go_wp2_with fail
    refine (H54.out w1 hw1).mono ?_
    rintro e w2 ⟨rfl, hb2⟩
    have hw2 := hw1.below hb2 hw1.size
    have hB2 := hb1.trans (hb2.mono hb1.size)
    go_wp2_with fail
    refine (H54y.out w2 hw2).mono ?_
    rintro e w3 ⟨rfl, hb3⟩
    have hB3 := hB2.trans (hb3.mono hB2.size)
    cases o with
    | none =>
      go_wp2_with fail
      go_ret3
      exact ⟨by rw [HS2.out]; rfl, hB3⟩
    | some a =>
      cases q with
      | none =>
        go_wp2_with fail
        go_ret3
        exact ⟨by rw [HS2.out]; rfl, hB3⟩
      | some b =>
        go_wp2_with fail
        go_ret3
        exact ⟨by rw [HS2.out]; rfl, hB3⟩

theorem coreText_lt {l : List UInt8} {a : Nat} (h : coreText l = some a) : a < 64 := by
  unfold coreText at h
  split at h
  · split at h
    · rename_i v _ hb
      have := coreB_true hb
      simp only [Option.some.injEq] at h
      omega
    · cases h
  · cases h
theorem runOf_lt {l : List UInt8} {p : Nat × Nat} (h : runOfText l = some p) : p.1 < 64 ∧ p.2 < 64 := by
  unfold runOfText at h
  split at h
  · rename_i a b ha hb
    simp only [Option.some.injEq] at h
    subst h
    exact ⟨coreText_lt ha, coreText_lt hb⟩
  · cases h
theorem addTo_lt {acc a : Nat} (h : acc < 18446744073709551616) : ∀ k, addTo acc a k < 18446744073709551616
  | 0 => h
  | k + 1 => withN_lt _ (addTo_lt h k)
/-- for the loop's measure. -/
def strLen : Value → Nat
  | .string b => b.size
  | _ => 0
def boolN : Value → Nat
  | .bool true => 1
  | _ => 0
/-- a set and whether there is one, as values. -/
def setVals (o : Option Nat) : Value := .tuple #[.int .u64 ((o.getD 0 : Nat) : Int), .bool o.isSome]
/-- what the loop of readRuns keeps. -/
def RunsI (l0 : List UInt8) (w : World) (s x m : Value) (W : World) : Prop :=
  ∃ (l : List UInt8) (acc f : Nat) (t : Bool), s = .string ⟨l.toArray⟩ ∧ x = .int .u64 acc ∧ m = .bool t ∧ acc < 18446744073709551616 ∧ l.length ≤ 400 ∧ Rw W ∧ Below w.heap.size w W ∧
    (if t then readText l0 = readSpec f l acc ∧ l.length < f else readText l0 = some acc)

end Go.Proofs.YtgmdbgdbjmlolaaDoor
