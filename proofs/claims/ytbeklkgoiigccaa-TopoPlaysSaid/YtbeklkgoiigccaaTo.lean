/-
  Contract of the document's New. Condition: the sets are of numbers of 64 bits.
-/
import Derived.Test.YtbeklkgoiigccaaTn
namespace Go.Proofs.Ytbeklkgoiigccaa
open Go.RowKit

theorem RowS.below {w w' : World} {v : Value} {l : List Nat} (h : RowS w v l) (hb : Below w.heap.size w w') : RowS w' v l := by
  obtain ⟨a, cap, rfl, h2⟩ := h
  refine ⟨a, cap, rfl, fun hl => ?_⟩
  obtain ⟨g, rfl, h3, h4⟩ := h2 hl
  exact ⟨g, rfl, Nat.lt_of_lt_of_le h3 hb.size, fun d k hd hk => (hb.cell (p := ⟨g, d * 64 + k, none⟩) h3).trans (h4 d k hd hk)⟩
/-- the first k are none. -/
def negTo (k : Nat) : Nat → Int := fun i => if i < k then -1 else 0
theorem negTo_step (k i : Nat) : updI (negTo k) k (-1) i = negTo (k + 1) i := by
  unfold updI negTo
  by_cases e : i = k
  · subst e; simp
  · by_cases h : i < k
    · have h2 : i < k + 1 := by omega
      simp [e, h, h2]
    · have h2 : ¬ i < k + 1 := by omega
      simp [e, h, h2]
set_option maxRecDepth 100000 in
set_option maxHeartbeats 4000000 in
theorem rNew_range (v : Value) (l : List Nat) (w : World) (h : RowS w v l) (hl : l.length = 0 ∨ 8 < l.length) :
    Calls Try.prog 10 #[v] w fun e w' => e = .returned (.tuple #[.agg tzero, .int .i64 14]) ∧ Below w.heap.size w w' := by
  obtain ⟨a, cap, rfl, _⟩ := h
  have hZ : IsT ((w.alloc (.cells tzero 29)).alloc (.cells tzero 29)) w.heap.size 0 (fun _ => 0) (fun _ => false) := (IsT.new w _ _ _).alloc _
  have hT : IsT ((w.alloc (.cells tzero 29)).alloc (.cells tzero 29)) (w.heap.size + 1) 0 (fun _ => 0) (fun _ => false) := by
    have h := IsT.new (w.alloc (.cells tzero 29)) 0 (fun _ => 0) (fun _ => false)
    rw [World.size_alloc] at h
    exact h
  have hB : Below w.heap.size w ((w.alloc (.cells tzero 29)).alloc (.cells tzero 29)) := ((Below.refl _ w).alloc (Nat.le_refl _) _).alloc (by simp) _
  rcases hl with hl | hl
  · rw [hl]
    go_enter Try.func10, Try.ntmps10
    go_wp2_with (first | (refine wpList_alloc29 rfl rfl ?_; try simp only [World.size_alloc]) | (refine wpList_build29m rfl _ rfl _ rfl ?_) | (refine wpList_build29 rfl rfl ?_) | (refine wpList_store29 rfl _ _ rfl (w.heap.size + 1) _ _ _ _ _ _ rfl rfl hT ?_; clear hT; intro w1 hT t1; replace hZ := hZ.turn t1 (by omega); replace hB := hB.trans (t1.below (B := w.heap.size) (by omega))) | (refine wpList_store29 rfl _ _ rfl w.heap.size 0 _ (fun _ => 0) _ (fun _ => false) _ rfl rfl hZ ?_; intro w9 i9 t9))
    refine bodyPost_ret (results29 rfl _ w9 w.heap.size _ _ _ (.int .i64 14) rfl rfl i9) rfl ?_
    exact ⟨rfl, hB.trans (t9.below (Nat.le_refl _))⟩
  · have h1 : ((l.length : Int) == 0) = false := by rw [beq_eq_false_iff_ne]; omega
    go_enter Try.func10, Try.ntmps10
    go_wp2_with (first | (refine wpList_alloc29 rfl rfl ?_; try simp only [World.size_alloc]) | (refine wpList_build29m rfl _ rfl _ rfl ?_) | (refine wpList_build29 rfl rfl ?_) | (refine wpList_store29 rfl _ _ rfl (w.heap.size + 1) _ _ _ _ _ _ rfl rfl hT ?_; clear hT; intro w1 hT t1; replace hZ := hZ.turn t1 (by omega); replace hB := hB.trans (t1.below (B := w.heap.size) (by omega))) | (refine wpList_store29 rfl _ _ rfl w.heap.size 0 _ (fun _ => 0) _ (fun _ => false) _ rfl rfl hZ ?_; intro w9 i9 t9))
    refine bodyPost_ret (results29 rfl _ w9 w.heap.size _ _ _ (.int .i64 14) rfl rfl i9) rfl ?_
    exact ⟨rfl, hB.trans (t9.below (Nat.le_refl _))⟩
set_option maxRecDepth 100000 in
set_option maxHeartbeats 4000000 in
theorem rNew_run (v : Value) (l : List Nat) (w : World) (h : RowS w v l) (hs : ∀ j, l.getD j 0 < 18446744073709551616) (h0 : 0 < l.length) (h8 : l.length ≤ 8) :
    Calls Try.prog 10 #[v] w fun e w' => ((GoodT l ∧ e = .returned (.tuple #[.agg (TV l (uni l)), .int .i64 0])) ∨ (¬ GoodT l ∧ e = .returned (.tuple #[.agg tzero, .int .i64 8]))) ∧ Below w.heap.size w w' := by
  obtain ⟨a, cap, rfl, h2⟩ := h
  obtain ⟨b, rfl, hbl, hcell⟩ := h2 (by rintro rfl; simp at h0)
  have HC := Lib.hid hcell
  clear h2 hcell
  have h1 : ((l.length : Int) == 0) = false := by rw [beq_eq_false_iff_ne]; omega
  have hZ : IsT ((w.alloc (.cells tzero 29)).alloc (.cells tzero 29)) w.heap.size 0 (fun _ => 0) (fun _ => false) := (IsT.new w _ _ _).alloc _
  have hT : IsT ((w.alloc (.cells tzero 29)).alloc (.cells tzero 29)) (w.heap.size + 1) 0 (fun _ => 0) (fun _ => false) := by
    have h := IsT.new (w.alloc (.cells tzero 29)) 0 (fun _ => 0) (fun _ => false)
    rw [World.size_alloc] at h
    exact h
  have hB : Below w.heap.size w ((w.alloc (.cells tzero 29)).alloc (.cells tzero 29)) := ((Below.refl _ w).alloc (Nat.le_refl _) _).alloc (by simp) _
  go_enter Try.func10, Try.ntmps10
  go_wp2_with (first | (refine wpList_alloc29 rfl rfl ?_; try simp only [World.size_alloc]) | (refine wpList_build29m rfl _ rfl _ rfl ?_) | (refine wpList_build29 rfl rfl ?_) | (refine wpList_store29 rfl _ _ rfl (w.heap.size + 1) _ _ _ _ _ _ rfl rfl hT ?_; clear hT; intro w1 hT t1; replace hZ := hZ.turn t1 (by omega); replace hB := hB.trans (t1.below (B := w.heap.size) (by omega))))
  have hT0 : IsT w1 (w.heap.size + 1) (l.length : Int) (negTo 0) (fun _ => false) := hT.ext (fun i _ => by simp [negTo]) (fun _ _ => rfl)
  clear hT
  go_loopw [21] (fun i wr => ∃ k : Nat, k ≤ 64 ∧ i = .int .i64 k ∧ IsT wr (w.heap.size + 1) (l.length : Int) (negTo k) (fun _ => false) ∧ IsT wr w.heap.size 0 (fun _ => 0) (fun _ => false) ∧ Below w.heap.size w wr) (fun i _ => 64 - (intOf i).toNat)
  case atStart => exact ⟨0, by omega, rfl, hT0, hZ, hB⟩
  case round =>
    obtain ⟨k, hk, rfl, hT, hZ, hB⟩ := hrel
    by_cases hlt : k < 64
    · have hc := hT.of hlt
      have hf := hT.frozen (1 + k)
      go_wp2_with fail
      exact ⟨⟨k + 1, by omega, by go_num, (hT.set1 hlt (-1)).ext (fun i _ => negTo_step k i) (fun _ _ => rfl), hZ.turn (Turn.setCell _ _ _ _) (by omega), hB.trans ((Turn.setCell _ _ _ _).below (by omega))⟩, by simp [intOf]; omega⟩
    · obtain rfl : k = 64 := by omega
      have hT0 : IsT wr (w.heap.size + 1) (l.length : Int) (fun i => ofI (l.take 0) (i : Int)) (uni (l.take 0)).testBit := hT.ext (fun i hi => by rw [List.take_zero, ofI_nil]; simp [negTo, hi]) (fun i _ => by simp [uni])
      clear hT
      go_wp2_with fail
      go_loopw [30] (fun i wr => ∃ d : Nat, d ≤ l.length ∧ i = .int .i64 d ∧ Hid (∀ j, j < d → ¬ badAt l j) ∧ IsT wr (w.heap.size + 1) (l.length : Int) (fun i => ofI (l.take d) (i : Int)) (uni (l.take d)).testBit ∧ IsT wr w.heap.size 0 (fun _ => 0) (fun _ => false) ∧ Below w.heap.size w wr) (fun i _ => l.length - (intOf i).toNat)
      case atStart => exact ⟨0, by omega, rfl, Lib.hid (fun j hj => by omega), hT0, hZ, hB⟩
      case round =>
        obtain ⟨d, hd, rfl, HK, hT, hZ, hB⟩ := hrel
        by_cases hdl : d < l.length
        · have hT1 : IsT wr (w.heap.size + 1) (l.length : Int) (mixI l d 0) (mixB l d 0) := hT.ext (fun i _ => by simp [mixI]) (fun i _ => by simp [mixB])
          have HX := Lib.hid (hs d)
          clear hT
          go_wp2_with fail
          go_loopw [7, 33] (fun s i wr => ∃ k : Nat, k ≤ 64 ∧ i = .int .i64 k ∧ s = .bool (someTo (l.getD d 0) k) ∧ Hid (∀ i, i < k → (l.getD d 0).testBit i = true → ofI (l.take d) (i : Int) = -1) ∧ IsT wr (w.heap.size + 1) (l.length : Int) (mixI l d k) (mixB l d k) ∧ IsT wr w.heap.size 0 (fun _ => 0) (fun _ => false) ∧ Below w.heap.size w wr) (fun _ i _ => 64 - (intOf i).toNat)
          case atStart => exact ⟨0, by omega, rfl, rfl, Lib.hid (fun j hj => by omega), hT1, hZ, hB⟩
          case round =>
            obtain ⟨k, hk, rfl, rfl, HI, hT, hZ, hB⟩ := hrel
            by_cases hlt : k < 64
            · have hx := (hB.cell (p := ⟨b, d * 64 + k, none⟩) hbl).trans (HC.out d k hdl hlt)
              cases hbit : (l.getD d 0).testBit k
              · rw [hbit] at hx
                have HS := Lib.hid (someTo_step (l.getD d 0) k)
                rw [hbit, Bool.or_false] at HS
                have hT2 := hT.ext (fun i _ => (mix_skip hdl hlt hbit i).1) (fun i _ => (mix_skip hdl hlt hbit i).2)
                have HI2 : Hid (∀ i, i < k + 1 → (l.getD d 0).testBit i = true → ofI (l.take d) (i : Int) = -1) := Lib.hid (fun i hi hb => by
                  rcases Nat.lt_or_ge i k with h | h
                  · exact HI.out i h hb
                  · obtain rfl : i = k := by omega
                    rw [hbit] at hb; cases hb)
                clear hbit hT
                go_wp2_with fail
                exact ⟨⟨k + 1, by omega, by go_num, by rw [HS.out], HI2, hT2, hZ, hB⟩, by simp [intOf]; omega⟩
              · rw [hbit] at hx
                have HS := Lib.hid (someTo_step (l.getD d 0) k)
                rw [hbit, Bool.or_true] at HS
                have hc := hT.of hlt
                simp only [mixI_at] at hc
                by_cases hof : ofI (l.take d) (k : Int) = -1
                · rw [hof] at hc
                  have hT2 := ((hT.set1 hlt (d : Int)).set2 hlt true).ext (fun i _ => (mix_new hdl hlt hbit hof i).1) (fun i _ => (mix_new hdl hlt hbit hof i).2)
                  have hf := hT.frozen (1 + k)
                  have hT3 := hT.set1 hlt (d : Int)
                  have hc3 := hT3.on hlt
                  have hf3 := hT3.frozen (65 + k)
                  have HI2 : Hid (∀ i, i < k + 1 → (l.getD d 0).testBit i = true → ofI (l.take d) (i : Int) = -1) := Lib.hid (fun i hi hb => by
                    rcases Nat.lt_or_ge i k with h | h
                    · exact HI.out i h hb
                    · obtain rfl : i = k := by omega
                      exact hof)
                  clear hbit hof
                  go_wp2_with fail
                  exact ⟨⟨k + 1, by omega, by go_num, by rw [HS.out], HI2, hT2, (hZ.turn (Turn.setCell _ _ _ _) (by omega)).turn (Turn.setCell _ _ _ _) (by omega), (hB.trans ((Turn.setCell _ _ _ _).below (by omega))).trans ((Turn.setCell _ _ _ _).below (by omega))⟩, by simp [intOf]; omega⟩
                · have HB := Lib.hid (bad_meet hlt hbit hof)
                  have hr := ofI_range (l.take d) (k : Int) (by rw [List.length_take]; omega)
                  have hge : 0 ≤ ofI (l.take d) (k : Int) := by omega
                  generalize ofI (l.take d) (k : Int) = z at *
                  clear hbit hof
                  go_wp2_with (first | (refine wpList_build29 rfl rfl ?_) | (refine wpList_store29 rfl _ _ rfl w.heap.size 0 _ (fun _ => 0) _ (fun _ => false) _ rfl rfl hZ ?_; intro w9 i9 t9))
                  refine bodyPost_ret (results29 rfl _ w9 w.heap.size _ _ _ (.int .i64 8) rfl rfl i9) rfl ?_
                  exact ⟨.inr ⟨fun hg => hg d hdl HB.out, rfl⟩, hB.trans (t9.below (Nat.le_refl _))⟩
            · obtain rfl : k = 64 := by omega
              have hsa := someTo_all HX.out
              by_cases hx0 : l.getD d 0 = 0
              · rw [show ((l.getD d 0) != 0) = false by rw [hx0]; rfl] at hsa
                rw [hsa]
                have HB : Hid (badAt l d) := Lib.hid (.inl hx0)
                clear hx0 hsa
                go_wp2_with (first | (refine wpList_build29 rfl rfl ?_) | (refine wpList_store29 rfl _ _ rfl w.heap.size 0 _ (fun _ => 0) _ (fun _ => false) _ rfl rfl hZ ?_; intro w9 i9 t9))
                refine bodyPost_ret (results29 rfl _ w9 w.heap.size _ _ _ (.int .i64 8) rfl rfl i9) rfl ?_
                exact ⟨.inr ⟨fun hg => hg d hdl HB.out, rfl⟩, hB.trans (t9.below (Nat.le_refl _))⟩
              · rw [show ((l.getD d 0) != 0) = true by rw [bne_iff_ne]; exact hx0] at hsa
                rw [hsa]
                have HB : Hid (¬ badAt l d) := Lib.hid (not_bad HX.out hx0 HI.out)
                have hT2 : IsT wr (w.heap.size + 1) (l.length : Int) (fun i => ofI (l.take (d + 1)) (i : Int)) (uni (l.take (d + 1))).testBit := hT.ext (fun i hi => by simp [mixI, hi]) (fun i hi => by simp [mixB, hi])
                clear hx0 hsa hT
                go_wp2_with fail
                refine ⟨⟨d + 1, by omega, by go_num, Lib.hid (fun j hj => ?_), hT2, hZ, hB⟩, by simp [intOf]; omega⟩
                rcases Nat.lt_or_ge j d with h | h
                · exact HK.out j h
                · obtain rfl : j = d := by omega
                  exact HB.out
        · obtain rfl : d = l.length := by omega
          rw [List.take_length] at hT
          go_wp2_with (first | (refine wpList_load29 rfl _ rfl (w.heap.size + 1) _ _ _ rfl hT ?_) | (refine wpList_store29 rfl _ _ rfl w.heap.size _ _ _ _ _ _ rfl rfl hZ ?_; intro w9 i9 t9))
          refine bodyPost_ret (results29 rfl _ w9 w.heap.size _ _ _ (.int .i64 0) rfl rfl i9) rfl ?_
          exact ⟨.inl ⟨fun j hj => HK.out j hj, rfl⟩, hB.trans (t9.below (Nat.le_refl _))⟩
theorem rNew_any (v : Value) (l : List Nat) (w : World) (h : RowS w v l) (hs : ∀ j, l.getD j 0 < 18446744073709551616) :
    Calls Try.prog 10 #[v] w fun e w' => ((Good8 l ∧ e = .returned (.tuple #[.agg (TV l (uni l)), .int .i64 0])) ∨ (¬ Good8 l ∧ e = .returned (.tuple #[.agg tzero, .int .i64 (errNew l)]))) ∧ Below w.heap.size w w' := by
  by_cases hl : l.length = 0 ∨ 8 < l.length
  · refine (rNew_range v l w h hl).mono ?_
    rintro e w' ⟨rfl, hb⟩
    refine ⟨.inr ⟨fun hg => by have := hg.1; have := hg.2.1; omega, ?_⟩, hb⟩
    rw [show errNew l = 14 by unfold errNew; rw [if_pos hl]]
  · refine (rNew_run v l w h hs (by omega) (by omega)).mono ?_
    rintro e w' ⟨h1, hb⟩
    refine ⟨?_, hb⟩
    rcases h1 with ⟨hg, rfl⟩ | ⟨hg, rfl⟩
    · exact .inl ⟨⟨by omega, by omega, hg⟩, rfl⟩
    · exact .inr ⟨fun h => hg h.2.2, by rw [show errNew l = 8 by unfold errNew; rw [if_neg hl]]⟩
end Go.Proofs.Ytbeklkgoiigccaa
