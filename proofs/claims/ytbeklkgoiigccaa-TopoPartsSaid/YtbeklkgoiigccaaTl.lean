/-
  Contract of the program's New. Condition: the sets are numbers of 64 bits.
-/
import Derived.Test.YtbeklkgoiigccaaTk
namespace Go.Proofs.Ytbeklkgoiigccaa
open Go.RowKit

/-- domains all of whose cores are on. -/
def dd (l : List Nat) : List Value := l.flatMap fun (a : Nat) => [.int .u64 (a : Int), .int .u64 (a : Int)]
theorem dd_snoc (l : List Nat) (a : Nat) : dd (l ++ [a]) = dd l ++ [.int .u64 (a : Int), .int .u64 (a : Int)] := by simp [dd]
theorem dd_all (l : List Nat) : dd l = drow l (uni l) := by
  have h : ∀ a ∈ l, a &&& uni l = a := by
    intro a ha
    obtain ⟨i, hi, rfl⟩ := List.getElem_of_mem ha
    have := and_uni hi
    rwa [List.getD_eq_getElem?_getD, List.getElem?_eq_getElem hi, Option.getD_some] at this
  unfold dd drow
  revert h
  generalize uni l = u
  intro h
  induction l with
  | nil => rfl
  | cons a l ih =>
    rw [List.flatMap_cons, List.flatMap_cons, ih (fun b hb => h b (List.mem_cons_of_mem _ hb)), h a (List.mem_cons_self ..)]

theorem own_turn {w w' : World} {p : Nat} {e : TypeId} {size : Nat} {v : Value} {n : Nat} {xs : List Value} (h : w.ownsRow (p + 1) e size v n xs) (ht : Turn p w w') : w'.ownsRow (p + 1) e size v n xs := by
  refine ⟨h.1, ?_⟩
  rcases h.2 with h | ⟨g, cap, cur, h1, h2, h3, h4⟩
  · exact .inl h
  · exact .inr ⟨g, cap, cur, h1, h2, (ht.block g (by omega)).trans h3, h4⟩
set_option maxRecDepth 100000 in
set_option maxHeartbeats 4000000 in
theorem New_range (v : Value) (l : List Nat) (w : World) (h : RowN w v l) (hl : l.length = 0 ∨ 8 < l.length) :
    Calls Try.prog 12 #[v] w fun e w' => e = .returned (.tuple #[.pointer none, .int .i64 14]) ∧ w = w' := by
  obtain ⟨a, cap, rfl, _, _⟩ := h
  rcases hl with hl | hl
  · rw [hl]
    go_enter Try.func12, Try.ntmps12
    go_wp2_with fail
    go_ret2
    exact ⟨rfl, rfl⟩
  · have h1 : ((l.length : Int) == 0) = false := by rw [beq_eq_false_iff_ne]; omega
    go_enter Try.func12, Try.ntmps12
    go_wp2_with fail
    go_ret2
    exact ⟨rfl, rfl⟩
set_option maxRecDepth 100000 in
set_option maxHeartbeats 4000000 in
theorem New_run (v : Value) (l : List Nat) (w : World) (h : RowN w v l) (hs : ∀ j, l.getD j 0 < 18446744073709551616) (h0 : 0 < l.length) (h8 : l.length ≤ 8) :
    Calls Try.prog 12 #[v] w fun e w' => ((GoodT l ∧ ∃ p g, e = .returned (.tuple #[.pointer (some ⟨p, 0, none⟩), .int .i64 0]) ∧ IsTopo w' p g l (uni l) ∧ w.heap.size ≤ p ∧ w.heap.size ≤ g) ∨ (¬ GoodT l ∧ e = .returned (.tuple #[.pointer none, .int .i64 8]))) ∧ Below w.heap.size w w' := by
  obtain ⟨i0, hi, hz0, hz1, hz2⟩ := info_parts Try.info74
  obtain ⟨a, cap, rfl, hcap, h2⟩ := h
  obtain ⟨b, off, rfl, hbl, hcell⟩ := h2 (by rintro rfl; simp at h0)
  have HC := Lib.hid hcell
  clear h2 hcell
  have h1 : ((l.length : Int) == 0) = false := by rw [beq_eq_false_iff_ne]; omega
  have hB : Below w.heap.size w (w.alloc (.cells #[.slice none 0 0] 72)) := (Below.refl _ w).alloc (Nat.le_refl _) _
  have hp : (w.alloc (.cells #[.slice none 0 0] 72)).heap[w.heap.size]? = some (.cells #[.slice none 0 0] 72 (0, 0)) := heap_alloc_new w _
  have hsz : w.heap.size + 1 ≤ (w.alloc (.cells #[.slice none 0 0] 72)).heap.size := by simp
  go_enter Try.func12, Try.ntmps12
  go_wp2_with fail
  generalize w.alloc (.cells #[.slice none 0 0] 72) = w1 at hB hp hsz ⊢
  go_loopw [5, 20] (fun t i wr => ∃ (k : Nat) (a : Option Addr) (c : Nat), k ≤ l.length ∧ i = .int .i64 k ∧ t = .int .u64 ((uni (l.take k) : Nat) : Int) ∧ Hid (∀ j, j < k → ¬ badAt l j) ∧ wr.heap[w.heap.size]? = some (.cells #[.slice a k c] 72 (0, 0)) ∧ wr.ownsRow (w.heap.size + 1) 74 2 (.slice a k c) k (dd (l.take k)) ∧ Below w.heap.size w wr ∧ w.heap.size + 1 ≤ wr.heap.size) (fun _ i _ => l.length - (intOf i).toNat)
  case atStart => exact ⟨0, none, 0, by omega, rfl, rfl, Lib.hid (fun j hj => by omega), hp, World.ownsRow_nil _ _ _ _, hB, hsz⟩
  case round =>
    obtain ⟨k, a, c, hk, rfl, rfl, HK, hp, hown, hb, hsz⟩ := hrel
    by_cases hlt : k < l.length
    · have hx : wr.cell? ⟨b, off + k, none⟩ = some (.int .u64 (l.getD k 0 : Nat)) := (hb.cell (p := ⟨b, off + k, none⟩) hbl).trans (HC.out k hlt)
      have hxs := hs k
      have hus := uni_lt (small_take hs k)
      have HU := Lib.hid (uni_take hlt)
      have HD : Hid (dd (l.take (k + 1)) = dd (l.take k) ++ [.int .u64 ((l.getD k 0 : Nat) : Int), .int .u64 ((l.getD k 0 : Nat) : Int)]) := Lib.hid (by rw [take_snoc hlt, dd_snoc])
      have HBad : Hid (badAt l k ↔ (l.getD k 0 = 0 ∨ meetsB (l.getD k 0) (uni (l.take k)) = true)) := Lib.hid Iff.rfl
      generalize l.getD k 0 = x at *
      generalize uni (l.take k) = u at *
      by_cases hx0 : x = 0
      · subst hx0
        go_wp2_with fail
        go_ret2
        exact ⟨.inr ⟨fun hg => hg k hlt (HBad.out.2 (by simp)), rfl⟩, hb⟩
      · have hx1 : ((x : Int) == 0) = false := by rw [beq_eq_false_iff_ne]; omega
        cases hm : meetsB x u
        · have HM := Lib.hid hm
          have hor := u64_or_nat u x hus hxs
          have HN : Hid (¬ badAt l k) := Lib.hid (fun hbad => by rcases HBad.out.1 hbad with h | h; exact hx0 h; rw [hm] at h; cases h)
          clear hm
          have hc0 : wr.cell? ⟨w.heap.size, 0, none⟩ = some (.slice a k c) := by rw [cell_of_row wr w.heap.size 0 _ 72 (0, 0) hp]; rfl
          have hnews : ∀ (j : Nat) (y : Value), [Value.int .u64 (x : Int), .int .u64 (x : Int)][j]? = some y → (wr.alloc (.cells #[.int .u64 (x : Int), .int .u64 (x : Int)] 74)).cell? (Addr.add ⟨wr.heap.size, 0, none⟩ j) = some y := by
            intro j y hj
            rw [Addr.add_lit, Nat.zero_add, cell_of_row _ wr.heap.size j _ 74 (0, 0) (heap_alloc_new wr _)]
            simpa using hj
          have hne : some w.heap.size ≠ (Value.slice a k c).ownBlock := fun e => by have := (hown.lt _ e.symm).1; omega
          go_wp2_with (first | (go_at_call 30; refine (Meets_is x u false _ hxs hus HM).mono ?_; rintro e w2 ⟨rfl, rfl⟩) | (at_builtin; refine wpList_append_own _ rfl _ _ 70 rfl (w.heap.size + 1) 74 i0 (.agg #[.int .u64 0, .int .u64 0]) 2 16 Try.underlying70 hi hz0 hz1 hz2 rfl (by decide) _ k _ rfl (hown.alloc _) ⟨wr.heap.size, 0, none⟩ 1 1 [.int .u64 (x : Int), .int .u64 (x : Int)] rfl rfl hnews (by simp [Value.oneCell']) (by unfold maxLen; omega) (by omega) (by simp; omega) ?_; intro v' w2 hown' hgrow _; obtain ⟨a', c', rfl⟩ := own_slice hown'; have hp2 := (hgrow.block w.heap.size (by simp; omega) hne).trans ((heap_alloc_old wr _ (by omega)).trans hp); have hc2 : w2.cell? ⟨w.heap.size, 0, none⟩ = some (.slice a k c) := (by rw [cell_of_row w2 w.heap.size 0 _ 72 (0, 0) hp2]; rfl); have hf2 := frozen_of_row w2 w.heap.size 0 _ 72 hp2))
          have hb2 : Below w.heap.size w w2 := (hb.alloc hb.size _).grown hgrow (Nat.le_trans hb.size (by simp)) (fun j ej => by have := (hown.lt j ej).1; omega)
          have hlt2 : w.heap.size < w2.heap.size := (Array.getElem?_eq_some_iff.1 hp2).1
          refine ⟨⟨k + 1, a', c', by omega, by go_num, by rw [HU.out], Lib.hid (fun j hj => ?_), ?_, ?_, hb2.trans ((Turn.setCell _ _ _ _).below (Nat.le_refl _)), by simp [World.setCell]; omega⟩, by simp [intOf]; omega⟩
          · rcases Nat.lt_or_ge j k with h | h
            · exact HK.out j h
            · obtain rfl : j = k := by omega
              exact HN.out
          · rw [heap_setCell_same w2 w.heap.size 0 _ 72 _ hp2]; rfl
          · rw [HD.out]
            exact own_turn hown' (Turn.setCell _ _ _ _)
        · have HM := Lib.hid hm
          clear hm
          go_wp2_with (go_at_call 30; refine (Meets_is x u true _ hxs hus HM).mono ?_; rintro e w2 ⟨rfl, rfl⟩)
          go_ret2
          exact ⟨.inr ⟨fun hg => hg k hlt (HBad.out.2 (.inr HM.out)), rfl⟩, hb⟩
    · obtain rfl : k = l.length := by omega
      rw [List.take_length] at hown
      go_wp2_with fail
      go_ret2
      obtain ⟨g, hT, hg⟩ := IsTopo.of_owns (p := w.heap.size) hp (by rw [← dd_all]; exact hown) h0 (fun k e => by have := (hown.lt k e).1; omega)
      exact ⟨.inl ⟨fun d hd => HK.out d hd, w.heap.size, g, rfl, hT, Nat.le_refl _, by omega⟩, hb⟩
theorem New_any (v : Value) (l : List Nat) (w : World) (h : RowN w v l) (hs : ∀ j, l.getD j 0 < 18446744073709551616) :
    Calls Try.prog 12 #[v] w fun e w' => ((Good8 l ∧ ∃ p g, e = .returned (.tuple #[.pointer (some ⟨p, 0, none⟩), .int .i64 0]) ∧ IsTopo w' p g l (uni l) ∧ w.heap.size ≤ p ∧ w.heap.size ≤ g) ∨ (¬ Good8 l ∧ e = .returned (.tuple #[.pointer none, .int .i64 (errNew l)]))) ∧ Below w.heap.size w w' := by
  by_cases hl : l.length = 0 ∨ 8 < l.length
  · refine (New_range v l w h hl).mono ?_
    rintro e w' ⟨rfl, rfl⟩
    refine ⟨.inr ⟨fun hg => by have := hg.1; have := hg.2.1; omega, ?_⟩, Below.refl _ w⟩
    rw [show errNew l = 14 by unfold errNew; rw [if_pos hl]]
  · refine (New_run v l w h hs (by omega) (by omega)).mono ?_
    rintro e w' ⟨h1, hb⟩
    refine ⟨?_, hb⟩
    rcases h1 with ⟨hg, p, g, rfl, hT, hp, hgg⟩ | ⟨hg, rfl⟩
    · exact .inl ⟨⟨by omega, by omega, hg⟩, p, g, rfl, hT, hp, hgg⟩
    · exact .inr ⟨fun h => hg h.2.2, by rw [show errNew l = 8 by unfold errNew; rw [if_neg hl]]⟩
end Go.Proofs.Ytbeklkgoiigccaa
