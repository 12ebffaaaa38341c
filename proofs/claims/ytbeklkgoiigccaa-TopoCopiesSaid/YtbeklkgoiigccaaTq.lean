/-
  Contracts of the laws' own functions: awake, do. Condition of do: the topology is one.
-/
import Derived.Test.YtbeklkgoiigccaaTp
namespace Go.Proofs.Ytbeklkgoiigccaa
open Go.RowKit

theorem TopoOk.upN {cs : List Nat} {on : Nat} (h : TopoOk cs on) (c : Int) : TopoOk cs (upN cs on c) := by
  unfold Go.Proofs.Ytbeklkgoiigccaa.upN
  split
  · rename_i hd; exact h.up hd.1
  · exact h
theorem TopoOk.downN {cs : List Nat} {on : Nat} (h : TopoOk cs on) (c : Int) : TopoOk cs (downN cs on c) := by
  unfold Go.Proofs.Ytbeklkgoiigccaa.downN
  split
  · rename_i hd; exact h.down hd.1 (by rw [has_and (dom_has hd.1)]; exact hd.2.1) hd.2.2
  · exact h
/-- which cores are on behind an act, and its answer. -/
def actN (cs : List Nat) (on : Nat) (x : Int × Bool) : Nat := if x.2 then upN cs on x.1 else downN cs on x.1
def actC (cs : List Nat) (on : Nat) (x : Int × Bool) : Int := if x.2 then upC cs on x.1 else downC cs on x.1
theorem TopoOk.act {cs : List Nat} {on : Nat} (h : TopoOk cs on) (x : Int × Bool) : TopoOk cs (actN cs on x) := by
  unfold actN
  split
  · exact h.upN _
  · exact h.downN _
theorem IsTopo.only {w w' : World} {p g b : Nat} {cs : List Nat} {on : Nat} (h : IsTopo w p g cs on) (ho : Only b w w') (hp : p ≠ b) (hg : g ≠ b) : IsTopo w' p g cs on := h.same (ho.block p h.ltp hp) (ho.block g h.ltg hg)
theorem IsT.only {w w' : World} {b c : Nat} {m : Int} {o : Nat → Int} {g : Nat → Bool} (h : IsT w b m o g) (ho : Only c w w') (hne : b ≠ c) : IsT w' b m o g := (ho.block b h.lt hne).trans h
theorem RowN.two (w : World) (x y : Nat) : RowN (w.alloc (.cells #[.int .u64 (x : Int), .int .u64 (y : Int)] 38)) (.slice (some ⟨w.heap.size, 0, none⟩) 2 2) [x, y] := by
  refine ⟨_, 2, rfl, Nat.le_refl _, fun _ => ⟨w.heap.size, 0, rfl, by simp, fun j hj => ?_⟩⟩
  simp only [List.length_cons, List.length_nil] at hj
  obtain rfl | rfl : j = 0 ∨ j = 1 := by omega
  · rw [cell_of_row _ w.heap.size _ _ 38 (0, 0) (heap_alloc_new w _)]; rfl
  · rw [cell_of_row _ w.heap.size _ _ 38 (0, 0) (heap_alloc_new w _)]; rfl
theorem Only.refl (g : Nat) (w : World) : Only g w w := Only.of_below (Below.refl _ w)
set_option maxRecDepth 100000 in
set_option maxHeartbeats 4000000 in
theorem awake_any (w : World) : Calls Try.prog 8 #[] w fun e w' => e = .returned (.bool true) ∧ Below w.heap.size w w' := by
  have hrow := RowN.two w 3 4
  have hg8 : Good8 [3, 4] := ⟨by decide, by decide, fun d hd => by
    simp only [List.length_cons, List.length_nil] at hd
    obtain rfl | rfl : d = 0 ∨ d = 1 := by omega
    · unfold badAt; decide
    · unfold badAt; decide⟩
  have hs : ∀ j, ([3, 4] : List Nat).getD j 0 < 18446744073709551616 := by
    intro j
    rcases j with _ | _ | j <;> simp
  have ok := TopoOk.new hg8 hs
  have HN := Lib.hid (New_any _ [3, 4] _ hrow hs)
  have hB : Below w.heap.size w (w.alloc (.cells #[.int .u64 3, .int .u64 4] 38)) := (Below.refl _ w).alloc (Nat.le_refl _) _
  have e1 : downC [3, 4] (uni [3, 4]) 2 = 9 := by decide +kernel
  have e2 : downN [3, 4] (uni [3, 4]) 2 = uni [3, 4] := by decide +kernel
  have e3 : downC [3, 4] (uni [3, 4]) 1 = 0 := by decide +kernel
  have e4 : downN [3, 4] (uni [3, 4]) 1 = 5 := by decide +kernel
  have e5 : onB [3, 4] 5 1 = false := by decide +kernel
  have ok2 : TopoOk [3, 4] 5 := by have := ok.downN 1; rw [e4] at this; exact this
  have HD1 : Hid (∀ (p g : Nat) (w : World), IsTopo w p g [3, 4] (uni [3, 4]) → Calls Try.prog 29 #[.pointer (some ⟨p, 0, none⟩), .int .i64 2] w fun e w' => e = .returned (.int .i64 9) ∧ IsTopo w' p g [3, 4] (uni [3, 4]) ∧ Only g w w') := Lib.hid (fun p g w h => by
    have := Down_any p g [3, 4] (uni [3, 4]) 2 w h ok
    rw [e1, e2] at this
    exact this)
  have HD2 : Hid (∀ (p g : Nat) (w : World), IsTopo w p g [3, 4] (uni [3, 4]) → Calls Try.prog 29 #[.pointer (some ⟨p, 0, none⟩), .int .i64 1] w fun e w' => e = .returned (.int .i64 0) ∧ IsTopo w' p g [3, 4] 5 ∧ Only g w w') := Lib.hid (fun p g w h => by
    have := Down_any p g [3, 4] (uni [3, 4]) 1 w h ok
    rw [e3, e4] at this
    exact this)
  have HO : Hid (∀ (p g : Nat) (w : World), IsTopo w p g [3, 4] 5 → Calls Try.prog 28 #[.pointer (some ⟨p, 0, none⟩), .int .i64 1] w fun e w' => e = .returned (.bool false) ∧ Below w.heap.size w w') := Lib.hid (fun p g w h => by
    have := On_any p g [3, 4] 5 1 w h ok2
    rw [e5] at this
    exact this)
  have HM : Hid (∀ (p g : Nat) (w : World), IsTopo w p g [3, 4] 5 → Calls Try.prog 25 #[.pointer (some ⟨p, 0, none⟩)] w fun e w' => e = .returned (.int .i64 2) ∧ w = w') := Lib.hid (fun p g w h => Domains_any p g [3, 4] 5 w h)
  clear e1 e2 e3 e4 e5 ok ok2 hs hrow
  generalize uni [3, 4] = U at *
  have hG := Lib.hid hg8
  clear hg8
  go_enter Try.func8, Try.ntmps8
  go_wp2_with fail
  refine HN.out.mono ?_
  rintro e w1 ⟨h1, hb⟩
  replace hB := hB.trans (hb.mono hB.size)
  have hB0 := hB.size
  rcases h1 with ⟨_, p, g, rfl, hT, hp, hg⟩ | ⟨hbad, _⟩
  · clear hb HN
    simp only [World.size_alloc] at hp hg
    go_wp2_with fail
    refine (HD1.out p g _ hT).mono ?_
    rintro e w2 ⟨rfl, hT, ho⟩
    replace hB := hB.trans (ho.below (B := w.heap.size) (by omega) (by omega))
    have hB1 := ho.size
    clear ho
    go_wp2_with fail
    refine (HD2.out p g _ hT).mono ?_
    rintro e w3 ⟨rfl, hT, ho⟩
    replace hB := hB.trans (ho.below (B := w.heap.size) (by omega) (by omega))
    have hB2 := ho.size
    clear ho
    go_wp2_with fail
    refine (HO.out p g _ hT).mono ?_
    rintro e w4 ⟨rfl, hb⟩
    replace hB := hB.trans (hb.mono (by omega))
    replace hT := hT.belowS hb
    clear hb
    go_wp2_with fail
    refine (HM.out p g _ hT).mono ?_
    rintro e w5 ⟨rfl, rfl⟩
    go_wp2_with fail
    go_ret
    exact ⟨rfl, hB⟩
  · exact absurd hG.out hbad
end Go.Proofs.Ytbeklkgoiigccaa
