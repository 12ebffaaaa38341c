/-
  Contracts of the program's Up, Down, Check and Effective. Conditions: the topology is one; the set is a number of 64 bits.
-/
import Derived.Test.YtbeklkgoiigccaaTi
import Derived.Test.YtbeklkgoiigccaaRd
namespace Go.Proofs.Ytbeklkgoiigccaa
open Go.RowKit

/-- of what was there, just the block g may have turned. -/
structure Only (g : Nat) (w w' : World) : Prop where
  os : w'.os = w.os
  tape : w'.tape = w.tape
  output : w'.output = w.output
  size : w.heap.size ≤ w'.heap.size
  block : ∀ k, k < w.heap.size → k ≠ g → w'.heap[k]? = w.heap[k]?
section
variable {g : Nat} {w w' w'' : World}
theorem Only.of_below (h : Below w.heap.size w w') : Only g w w' := ⟨h.os, h.tape, h.output, h.size, fun k hk _ => h.block k hk⟩
theorem Only.of_turn (h : Turn g w w') : Only g w w' := ⟨h.os, h.tape, h.output, by rw [h.size]; exact Nat.le_refl _, fun k _ hk => h.block k hk⟩
theorem Only.trans (h : Only g w w') (h' : Only g w' w'') : Only g w w'' := ⟨h'.os.trans h.os, h'.tape.trans h.tape, h'.output.trans h.output, Nat.le_trans h.size h'.size, fun k hk hne => (h'.block k (Nat.lt_of_lt_of_le hk h.size) hne).trans (h.block k hk hne)⟩
theorem Only.below {B : Nat} (h : Only g w w') (hB : B ≤ w.heap.size) (hg : B ≤ g) : Below B w w' := ⟨h.os, h.tape, h.output, h.size, fun k hk => h.block k (by omega) (by omega)⟩
theorem Only.drew (h : Only g w w') : Only g w w'.drew := ⟨h.os, h.tape, h.output, h.size, h.block⟩
theorem cell_set_other {p i j : Nat} {v : Value} (hne : p ≠ g) : (w.setCell ⟨g, i, none⟩ v).cell? ⟨p, j, none⟩ = w.cell? ⟨p, j, none⟩ := by
  simp only [World.cell?, heap_setCell_other w ⟨g, i, none⟩ p v hne]
end
theorem IsTopo.set {w : World} {p g : Nat} {cs : List Nat} {on on' d : Nat} (h : IsTopo w p g cs on) (hd : d < cs.length) (hne : ∀ e, e < cs.length → e ≠ d → cs.getD e 0 &&& on' = cs.getD e 0 &&& on) :
    IsTopo (w.setCell ⟨g, d * 2 + 1, none⟩ (.int .u64 ((cs.getD d 0 &&& on' : Nat) : Int))) p g cs on' := by
  obtain ⟨cur, h1, h2, h3⟩ := h.row
  refine ⟨?_, ⟨_, heap_setCell_same w g (d * 2 + 1) _ 74 _ h1, ?_, ?_⟩, h.ne⟩
  · rw [heap_setCell_other w ⟨g, d * 2 + 1, none⟩ p _ h.ne]; exact h.ptr
  · rw [Array.size_setIfInBounds]; exact h2
  · rw [Array.toList_setIfInBounds, List.take_set, h3, drow_set hd hne]
theorem IsTopo.frozen {w : World} {p g : Nat} {cs : List Nat} {on : Nat} (h : IsTopo w p g cs on) (i : Nat) : w.frozen? ⟨g, i, none⟩ = false := by
  obtain ⟨cur, h1, _⟩ := h.row
  exact frozen_of_row w g i _ 74 h1
set_option maxRecDepth 100000 in
set_option maxHeartbeats 4000000 in
theorem Up_no (p g : Nat) (cs : List Nat) (on : Nat) (c : Int) (w : World) (h : IsTopo w p g cs on) (ok : TopoOk cs on) (hd : ¬ domN cs c < cs.length) :
    Calls Try.prog 34 #[.pointer (some ⟨p, 0, none⟩), .int .i64 c] w fun e w' => e = .returned (.int .i64 2) ∧ IsTopo w' p g cs on ∧ Only g w w' := by
  have HI := Lib.hid (Of_no p g cs on c w h ok hd)
  clear hd
  go_enter Try.func34, Try.ntmps34
  go_wp2_with (go_at_call 24; refine HI.out.mono ?_; rintro e w2 ⟨rfl, hb2⟩)
  go_ret
  exact ⟨rfl, h.belowS hb2, Only.of_below hb2⟩
set_option maxRecDepth 100000 in
set_option maxHeartbeats 4000000 in
theorem Down_no (p g : Nat) (cs : List Nat) (on : Nat) (c : Int) (w : World) (h : IsTopo w p g cs on) (ok : TopoOk cs on) (hd : ¬ domN cs c < cs.length) :
    Calls Try.prog 29 #[.pointer (some ⟨p, 0, none⟩), .int .i64 c] w fun e w' => e = .returned (.int .i64 2) ∧ IsTopo w' p g cs on ∧ Only g w w' := by
  have HI := Lib.hid (Of_no p g cs on c w h ok hd)
  clear hd
  go_enter Try.func29, Try.ntmps29
  go_wp2_with (go_at_call 24; refine HI.out.mono ?_; rintro e w2 ⟨rfl, hb2⟩)
  go_ret
  exact ⟨rfl, h.belowS hb2, Only.of_below hb2⟩
set_option maxRecDepth 100000 in
set_option maxHeartbeats 4000000 in
theorem Up_on (p g : Nat) (cs : List Nat) (on : Nat) (c : Int) (w : World) (h : IsTopo w p g cs on) (ok : TopoOk cs on) (hd : domN cs c < cs.length) (hh : hasB on c = true) :
    Calls Try.prog 34 #[.pointer (some ⟨p, 0, none⟩), .int .i64 c] w fun e w' => e = .returned (.int .i64 10) ∧ IsTopo w' p g cs on ∧ Only g w w' := by
  have hle := ok.good.2.1
  have HI := Lib.hid (Of_yes p g cs on c w h ok hd)
  have HH : Hid (hasB (cs.getD (domN cs c) 0 &&& on) c = true) := Lib.hid (by rw [has_and (dom_has hd)]; exact hh)
  have hlt : cs.getD (domN cs c) 0 &&& on < 18446744073709551616 := and_lt (ok.small _)
  have HR : Hid (∀ w', IsTopo w' p g cs on → w'.cell? ⟨g, domN cs c * 2 + 1, none⟩ = some (.int .u64 ((cs.getD (domN cs c) 0 &&& on : Nat) : Int))) := Lib.hid (fun w' hT => hT.onl hd)
  generalize hy : cs.getD (domN cs c) 0 &&& on = y at *
  clear hy hh
  generalize domN cs c = d at *
  go_enter Try.func34, Try.ntmps34
  go_wp2_with (first | (go_at_call 24; refine HI.out.mono ?_; rintro e w2 ⟨rfl, hb2⟩; have hT := h.belowS hb2; obtain ⟨cap, hc, hcap⟩ := hT.cell; have hr := HR.out w2 hT) | (go_at_call 27; refine (Has_is _ c _ _ hlt HH).mono ?_; rintro e w1 ⟨rfl, rfl⟩))
  go_ret
  exact ⟨rfl, hT, Only.of_below hb2⟩
set_option maxRecDepth 100000 in
set_option maxHeartbeats 4000000 in
theorem Down_off (p g : Nat) (cs : List Nat) (on : Nat) (c : Int) (w : World) (h : IsTopo w p g cs on) (ok : TopoOk cs on) (hd : domN cs c < cs.length) (hh : hasB on c = false) :
    Calls Try.prog 29 #[.pointer (some ⟨p, 0, none⟩), .int .i64 c] w fun e w' => e = .returned (.int .i64 10) ∧ IsTopo w' p g cs on ∧ Only g w w' := by
  have hle := ok.good.2.1
  have HI := Lib.hid (Of_yes p g cs on c w h ok hd)
  have HH : Hid (hasB (cs.getD (domN cs c) 0 &&& on) c = false) := Lib.hid (by rw [has_and (dom_has hd)]; exact hh)
  have hlt : cs.getD (domN cs c) 0 &&& on < 18446744073709551616 := and_lt (ok.small _)
  have HR : Hid (∀ w', IsTopo w' p g cs on → w'.cell? ⟨g, domN cs c * 2 + 1, none⟩ = some (.int .u64 ((cs.getD (domN cs c) 0 &&& on : Nat) : Int))) := Lib.hid (fun w' hT => hT.onl hd)
  generalize hy : cs.getD (domN cs c) 0 &&& on = y at *
  clear hy hh
  generalize domN cs c = d at *
  go_enter Try.func29, Try.ntmps29
  go_wp2_with (first | (go_at_call 24; refine HI.out.mono ?_; rintro e w2 ⟨rfl, hb2⟩; have hT := h.belowS hb2; obtain ⟨cap, hc, hcap⟩ := hT.cell; have hr := HR.out w2 hT) | (go_at_call 27; refine (Has_is _ c _ _ hlt HH).mono ?_; rintro e w1 ⟨rfl, rfl⟩))
  go_ret
  exact ⟨rfl, hT, Only.of_below hb2⟩
set_option maxRecDepth 100000 in
set_option maxHeartbeats 4000000 in
theorem Down_last (p g : Nat) (cs : List Nat) (on : Nat) (c : Int) (w : World) (h : IsTopo w p g cs on) (ok : TopoOk cs on) (hd : domN cs c < cs.length) (hh : hasB on c = true) (hp : popN 64 (cs.getD (domN cs c) 0 &&& on) = 1) :
    Calls Try.prog 29 #[.pointer (some ⟨p, 0, none⟩), .int .i64 c] w fun e w' => e = .returned (.int .i64 9) ∧ IsTopo w' p g cs on ∧ Only g w w' := by
  have hle := ok.good.2.1
  have HI := Lib.hid (Of_yes p g cs on c w h ok hd)
  have HH : Hid (hasB (cs.getD (domN cs c) 0 &&& on) c = true) := Lib.hid (by rw [has_and (dom_has hd)]; exact hh)
  have hlt : cs.getD (domN cs c) 0 &&& on < 18446744073709551616 := and_lt (ok.small _)
  have HR : Hid (∀ w', IsTopo w' p g cs on → w'.cell? ⟨g, domN cs c * 2 + 1, none⟩ = some (.int .u64 ((cs.getD (domN cs c) 0 &&& on : Nat) : Int))) := Lib.hid (fun w' hT => hT.onl hd)
  have HP := Lib.hid hp
  clear hp
  generalize hy : cs.getD (domN cs c) 0 &&& on = y at *
  clear hy hh
  generalize domN cs c = d at *
  go_enter Try.func29, Try.ntmps29
  go_wp2_with (first | (go_at_call 24; refine HI.out.mono ?_; rintro e w2 ⟨rfl, hb2⟩; have hT := h.belowS hb2; obtain ⟨cap, hc, hcap⟩ := hT.cell; have hr := HR.out w2 hT) | (go_at_call 27; refine (Has_is _ c _ _ hlt HH).mono ?_; rintro e w1 ⟨rfl, rfl⟩) | (go_at_call 43; refine (Len_is _ 1 _ hlt HP).mono ?_; rintro e w1 ⟨rfl, rfl⟩))
  go_ret
  exact ⟨rfl, hT, Only.of_below hb2⟩
set_option maxRecDepth 100000 in
set_option maxHeartbeats 4000000 in
theorem Up_off (p g : Nat) (cs : List Nat) (on : Nat) (c : Int) (w : World) (h : IsTopo w p g cs on) (ok : TopoOk cs on) (hd : domN cs c < cs.length) (hh : hasB on c = false) :
    Calls Try.prog 34 #[.pointer (some ⟨p, 0, none⟩), .int .i64 c] w fun e w' => e = .returned (.int .i64 0) ∧ IsTopo w' p g cs (withN on c) ∧ Only g w w' := by
  have hle := ok.good.2.1
  have HI := Lib.hid (Of_yes p g cs on c w h ok hd)
  have HH : Hid (hasB (cs.getD (domN cs c) 0 &&& on) c = false) := Lib.hid (by rw [has_and (dom_has hd)]; exact hh)
  have hlt : cs.getD (domN cs c) 0 &&& on < 18446744073709551616 := and_lt (ok.small _)
  have HR : Hid (∀ w', IsTopo w' p g cs on → w'.cell? ⟨g, domN cs c * 2 + 1, none⟩ = some (.int .u64 ((cs.getD (domN cs c) 0 &&& on : Nat) : Int))) := Lib.hid (fun w' hT => hT.onl hd)
  have HZ0 : Hid (withN (cs.getD (domN cs c) 0 &&& on) c = cs.getD (domN cs c) 0 &&& withN on c) := Lib.hid (and_with_in (dom_has hd))
  have HS : Hid (∀ w', IsTopo w' p g cs on → IsTopo (w'.setCell ⟨g, domN cs c * 2 + 1, none⟩ (.int .u64 ((cs.getD (domN cs c) 0 &&& withN on c : Nat) : Int))) p g cs (withN on c)) := Lib.hid (fun w' hT => hT.set hd (fun e he hne => and_with_out (ok.dom_other he hne) (has_core (dom_has hd))))
  generalize hy : cs.getD (domN cs c) 0 &&& on = y at *
  generalize hz : cs.getD (domN cs c) 0 &&& withN on c = z at *
  have HZ := HZ0
  clear HZ0 hy hz hh
  generalize domN cs c = d at *
  go_enter Try.func34, Try.ntmps34
  go_wp2_with (first | (go_at_call 24; refine HI.out.mono ?_; rintro e w2 ⟨rfl, hb2⟩; have hT := h.belowS hb2; obtain ⟨cap, hc, hcap⟩ := hT.cell; have hr := HR.out w2 hT) | (go_at_call 27; refine (Has_is _ c _ _ hlt HH).mono ?_; rintro e w1 ⟨rfl, rfl⟩))
  have hpg := h.ne
  have hO : Only g w w2.drew := (Only.of_below hb2).drew
  have hT2 : IsTopo w2.drew p g cs on := hT.same rfl rfl
  have hc : w2.drew.cell? ⟨p, 0, none⟩ = some (.slice (some ⟨g, 0, none⟩) cs.length cap) := hc
  have hr : w2.drew.cell? ⟨g, d * 2 + 1, none⟩ = some (.int .u64 (y : Int)) := hr
  have hf := hT2.frozen (d * 2 + 1)
  have HT := HS.out _ hT2
  refine Rd.region (fun X => X.cell? ⟨p, 0, none⟩ = some (.slice (some ⟨g, 0, none⟩) cs.length cap)) 11 [0, 1, 2, 3, 4, 5, 6, 8, 9] [0, 1, 2, 3, 4, 5, 6, 7, 8, 9, 10] (by kernel_rfl) (by kernel_rfl) (by kernel_rfl) (by kernel_rfl) rfl hc ?_
  clear hT hT2 hb2 HI HR HS
  generalize w2.drew = w4 at *
  refine Rd.seq_float (.pointer (some ⟨p, 0, none⟩)) (by simp only [List.getElem?_toArray, List.getElem?_cons_zero]; rfl) rfl (by rfl) (fun X _ => by go_simp) ?_
  simp only [Act.put, List.setIfInBounds_toArray, List.set_cons_succ, List.set_cons_zero]
  refine Rd.seq_float (.pointer (some ⟨p, 0, none⟩)) (by simp only [List.getElem?_toArray, List.getElem?_cons_succ, List.getElem?_cons_zero]; rfl) rfl (by rfl) (fun X _ => by go_simp) ?_
  simp only [Act.put, List.setIfInBounds_toArray, List.set_cons_succ, List.set_cons_zero]
  refine Rd.seq_float (.pointer (some ⟨p, 0, none⟩)) (by simp only [List.getElem?_toArray, List.getElem?_cons_succ, List.getElem?_cons_zero]; rfl) rfl (by rfl) (fun X _ => by go_simp) ?_
  simp only [Act.put, List.setIfInBounds_toArray, List.set_cons_succ, List.set_cons_zero]
  refine Rd.seq_float (.slice (some ⟨g, 0, none⟩) cs.length cap) (by simp only [List.getElem?_toArray, List.getElem?_cons_succ, List.getElem?_cons_zero]; rfl) rfl (by rfl) (fun X hX => by go_simp) ?_
  simp only [Act.put, List.setIfInBounds_toArray, List.set_cons_succ, List.set_cons_zero]
  refine Rd.seq_float (.int .i64 (d : Int)) (by simp only [List.getElem?_toArray, List.getElem?_cons_succ, List.getElem?_cons_zero]; rfl) rfl (by rfl) (fun X _ => by go_simp) ?_
  simp only [Act.put, List.setIfInBounds_toArray, List.set_cons_succ, List.set_cons_zero]
  refine Rd.seq_float (.int .u64 (y : Int)) (by simp only [List.getElem?_toArray, List.getElem?_cons_succ, List.getElem?_cons_zero]; rfl) rfl (by rfl) (fun X _ => by go_simp) ?_
  simp only [Act.put, List.setIfInBounds_toArray, List.set_cons_succ, List.set_cons_zero]
  refine Rd.seq_float (.int .i64 c) (by simp only [List.getElem?_toArray, List.getElem?_cons_succ, List.getElem?_cons_zero]; rfl) rfl (by rfl) (fun X _ => by go_simp) ?_
  simp only [Act.put, List.setIfInBounds_toArray, List.set_cons_succ, List.set_cons_zero]
  refine Rd.seq_move (by simp only [List.getElem?_toArray, List.getElem?_cons_succ, List.getElem?_cons_zero]; rfl) rfl (by rfl) (fun K hK => ?_)
  go_simp
  refine (With_is y c z _ hlt HZ).mono ?_
  rintro e w3 ⟨rfl, rfl⟩
  refine hK _ _ (fun _ => hc) ?_
  clear hK K
  refine Rd.seq_float (.pointer (some ⟨g, d * 2, none⟩)) (by simp only [List.getElem?_toArray, List.getElem?_cons_succ, List.getElem?_cons_zero]; rfl) rfl (by rfl) (fun X _ => by go_simp) ?_
  simp only [Act.put, List.setIfInBounds_toArray, List.set_cons_succ, List.set_cons_zero]
  refine Rd.seq_float (.pointer (some ⟨g, d * 2 + 1, none⟩)) (by simp only [List.getElem?_toArray, List.getElem?_cons_succ, List.getElem?_cons_zero]; rfl) rfl (by rfl) (fun X _ => by go_simp) ?_
  simp only [Act.put, List.setIfInBounds_toArray, List.set_cons_succ, List.set_cons_zero]
  refine Rd.seq_move (by simp only [List.getElem?_toArray, List.getElem?_cons_succ, List.getElem?_cons_zero]; rfl) rfl (by rfl) (fun K hK => ?_)
  go_simp
  refine hK _ _ (fun _ => (cell_set_other hpg).trans hc) ?_
  refine Rd.seq_end ?_
  go_wp2_with fail
  go_ret
  exact ⟨rfl, HT, hO.trans (Only.of_turn (Turn.setCell _ _ _ _))⟩
set_option maxRecDepth 100000 in
set_option maxHeartbeats 4000000 in
theorem Down_go (p g : Nat) (cs : List Nat) (on : Nat) (c : Int) (w : World) (h : IsTopo w p g cs on) (ok : TopoOk cs on) (hd : domN cs c < cs.length) (hh : hasB on c = true) (hp : popN 64 (cs.getD (domN cs c) 0 &&& on) ≠ 1) :
    Calls Try.prog 29 #[.pointer (some ⟨p, 0, none⟩), .int .i64 c] w fun e w' => e = .returned (.int .i64 0) ∧ IsTopo w' p g cs (withoutN on c) ∧ Only g w w' := by
  have hle := ok.good.2.1
  have HI := Lib.hid (Of_yes p g cs on c w h ok hd)
  have HH : Hid (hasB (cs.getD (domN cs c) 0 &&& on) c = true) := Lib.hid (by rw [has_and (dom_has hd)]; exact hh)
  have hlt : cs.getD (domN cs c) 0 &&& on < 18446744073709551616 := and_lt (ok.small _)
  have HR : Hid (∀ w', IsTopo w' p g cs on → w'.cell? ⟨g, domN cs c * 2 + 1, none⟩ = some (.int .u64 ((cs.getD (domN cs c) 0 &&& on : Nat) : Int))) := Lib.hid (fun w' hT => hT.onl hd)
  obtain ⟨q, HP⟩ : ∃ q : Nat, Hid (popN 64 (cs.getD (domN cs c) 0 &&& on) = q) := ⟨_, Lib.hid rfl⟩
  have hpl := popN_le 64 (cs.getD (domN cs c) 0 &&& on)
  rw [HP.out] at hp hpl
  have hp2 : ((q : Int) == 1) = false := by rw [beq_eq_false_iff_ne]; omega
  have HZ0 : Hid (withoutN (cs.getD (domN cs c) 0 &&& on) c = cs.getD (domN cs c) 0 &&& withoutN on c) := Lib.hid (and_without_in (ok.small _) ok.onlt (dom_has hd))
  have HS : Hid (∀ w', IsTopo w' p g cs on → IsTopo (w'.setCell ⟨g, domN cs c * 2 + 1, none⟩ (.int .u64 ((cs.getD (domN cs c) 0 &&& withoutN on c : Nat) : Int))) p g cs (withoutN on c)) := Lib.hid (fun w' hT => hT.set hd (fun e he hne => and_without_out ok.onlt (ok.dom_other he hne) (has_core (dom_has hd))))
  generalize hy : cs.getD (domN cs c) 0 &&& on = y at *
  generalize hz : cs.getD (domN cs c) 0 &&& withoutN on c = z at *
  have HZ := HZ0
  clear HZ0 hy hz hh
  generalize domN cs c = d at *
  go_enter Try.func29, Try.ntmps29
  go_wp2_with (first | (go_at_call 24; refine HI.out.mono ?_; rintro e w2 ⟨rfl, hb2⟩; have hT := h.belowS hb2; obtain ⟨cap, hc, hcap⟩ := hT.cell; have hr := HR.out w2 hT) | (go_at_call 27; refine (Has_is _ c _ _ hlt HH).mono ?_; rintro e w1 ⟨rfl, rfl⟩) | (go_at_call 43; refine (Len_is _ q _ hlt HP).mono ?_; rintro e w1 ⟨rfl, rfl⟩))
  have hpg := h.ne
  have hO : Only g w w2.drew := (Only.of_below hb2).drew
  have hT2 : IsTopo w2.drew p g cs on := hT.same rfl rfl
  have hc : w2.drew.cell? ⟨p, 0, none⟩ = some (.slice (some ⟨g, 0, none⟩) cs.length cap) := hc
  have hr : w2.drew.cell? ⟨g, d * 2 + 1, none⟩ = some (.int .u64 (y : Int)) := hr
  have hf := hT2.frozen (d * 2 + 1)
  have HT := HS.out _ hT2
  refine Rd.region (fun X => X.cell? ⟨p, 0, none⟩ = some (.slice (some ⟨g, 0, none⟩) cs.length cap)) 11 [0, 1, 2, 3, 4, 5, 6, 8, 9] [0, 1, 2, 3, 4, 5, 6, 7, 8, 9, 10] (by kernel_rfl) (by kernel_rfl) (by kernel_rfl) (by kernel_rfl) rfl hc ?_
  clear hT hT2 hb2 HI HR HS
  generalize w2.drew = w4 at *
  refine Rd.seq_float (.pointer (some ⟨p, 0, none⟩)) (by simp only [List.getElem?_toArray, List.getElem?_cons_zero]; rfl) rfl (by rfl) (fun X _ => by go_simp) ?_
  simp only [Act.put, List.setIfInBounds_toArray, List.set_cons_succ, List.set_cons_zero]
  refine Rd.seq_float (.pointer (some ⟨p, 0, none⟩)) (by simp only [List.getElem?_toArray, List.getElem?_cons_succ, List.getElem?_cons_zero]; rfl) rfl (by rfl) (fun X _ => by go_simp) ?_
  simp only [Act.put, List.setIfInBounds_toArray, List.set_cons_succ, List.set_cons_zero]
  refine Rd.seq_float (.pointer (some ⟨p, 0, none⟩)) (by simp only [List.getElem?_toArray, List.getElem?_cons_succ, List.getElem?_cons_zero]; rfl) rfl (by rfl) (fun X _ => by go_simp) ?_
  simp only [Act.put, List.setIfInBounds_toArray, List.set_cons_succ, List.set_cons_zero]
  refine Rd.seq_float (.slice (some ⟨g, 0, none⟩) cs.length cap) (by simp only [List.getElem?_toArray, List.getElem?_cons_succ, List.getElem?_cons_zero]; rfl) rfl (by rfl) (fun X hX => by go_simp) ?_
  simp only [Act.put, List.setIfInBounds_toArray, List.set_cons_succ, List.set_cons_zero]
  refine Rd.seq_float (.int .i64 (d : Int)) (by simp only [List.getElem?_toArray, List.getElem?_cons_succ, List.getElem?_cons_zero]; rfl) rfl (by rfl) (fun X _ => by go_simp) ?_
  simp only [Act.put, List.setIfInBounds_toArray, List.set_cons_succ, List.set_cons_zero]
  refine Rd.seq_float (.int .u64 (y : Int)) (by simp only [List.getElem?_toArray, List.getElem?_cons_succ, List.getElem?_cons_zero]; rfl) rfl (by rfl) (fun X _ => by go_simp) ?_
  simp only [Act.put, List.setIfInBounds_toArray, List.set_cons_succ, List.set_cons_zero]
  refine Rd.seq_float (.int .i64 c) (by simp only [List.getElem?_toArray, List.getElem?_cons_succ, List.getElem?_cons_zero]; rfl) rfl (by rfl) (fun X _ => by go_simp) ?_
  simp only [Act.put, List.setIfInBounds_toArray, List.set_cons_succ, List.set_cons_zero]
  refine Rd.seq_move (by simp only [List.getElem?_toArray, List.getElem?_cons_succ, List.getElem?_cons_zero]; rfl) rfl (by rfl) (fun K hK => ?_)
  go_simp
  refine (Without_is y c z _ hlt HZ).mono ?_
  rintro e w3 ⟨rfl, rfl⟩
  refine hK _ _ (fun _ => hc) ?_
  clear hK K
  refine Rd.seq_float (.pointer (some ⟨g, d * 2, none⟩)) (by simp only [List.getElem?_toArray, List.getElem?_cons_succ, List.getElem?_cons_zero]; rfl) rfl (by rfl) (fun X _ => by go_simp) ?_
  simp only [Act.put, List.setIfInBounds_toArray, List.set_cons_succ, List.set_cons_zero]
  refine Rd.seq_float (.pointer (some ⟨g, d * 2 + 1, none⟩)) (by simp only [List.getElem?_toArray, List.getElem?_cons_succ, List.getElem?_cons_zero]; rfl) rfl (by rfl) (fun X _ => by go_simp) ?_
  simp only [Act.put, List.setIfInBounds_toArray, List.set_cons_succ, List.set_cons_zero]
  refine Rd.seq_move (by simp only [List.getElem?_toArray, List.getElem?_cons_succ, List.getElem?_cons_zero]; rfl) rfl (by rfl) (fun K hK => ?_)
  go_simp
  refine hK _ _ (fun _ => (cell_set_other hpg).trans hc) ?_
  refine Rd.seq_end ?_
  go_wp2_with fail
  go_ret
  exact ⟨rfl, HT, hO.trans (Only.of_turn (Turn.setCell _ _ _ _))⟩
theorem Up_any (p g : Nat) (cs : List Nat) (on : Nat) (c : Int) (w : World) (h : IsTopo w p g cs on) (ok : TopoOk cs on) :
    Calls Try.prog 34 #[.pointer (some ⟨p, 0, none⟩), .int .i64 c] w fun e w' => e = .returned (.int .i64 (upC cs on c)) ∧ IsTopo w' p g cs (upN cs on c) ∧ Only g w w' := by
  by_cases hd : domN cs c < cs.length
  · cases hh : hasB on c
    · rw [show upN cs on c = withN on c by simp [upN, hd, hh], show upC cs on c = 0 by simp [upC, hd, hh]]; exact Up_off p g cs on c w h ok hd hh
    · rw [show upN cs on c = on by simp [upN, hh], show upC cs on c = 10 by simp [upC, hd, hh]]; exact Up_on p g cs on c w h ok hd hh
  · rw [show upN cs on c = on by simp [upN, hd], show upC cs on c = 2 by simp [upC, hd]]; exact Up_no p g cs on c w h ok hd
theorem Down_any (p g : Nat) (cs : List Nat) (on : Nat) (c : Int) (w : World) (h : IsTopo w p g cs on) (ok : TopoOk cs on) :
    Calls Try.prog 29 #[.pointer (some ⟨p, 0, none⟩), .int .i64 c] w fun e w' => e = .returned (.int .i64 (downC cs on c)) ∧ IsTopo w' p g cs (downN cs on c) ∧ Only g w w' := by
  by_cases hd : domN cs c < cs.length
  · cases hh : hasB on c
    · rw [show downN cs on c = on by simp [downN, hh], show downC cs on c = 10 by simp [downC, hd, hh]]; exact Down_off p g cs on c w h ok hd hh
    · by_cases hp : popN 64 (cs.getD (domN cs c) 0 &&& on) = 1
      · rw [show downN cs on c = on by unfold downN; rw [if_neg (fun h => h.2.2 hp)], show downC cs on c = 9 by unfold downC; rw [if_pos hd, hh, if_pos rfl, if_pos hp]]; exact Down_last p g cs on c w h ok hd hh hp
      · rw [show downN cs on c = withoutN on c by unfold downN; rw [if_pos ⟨hd, hh, hp⟩], show downC cs on c = 0 by unfold downC; rw [if_pos hd, hh, if_pos rfl, if_neg hp]]; exact Down_go p g cs on c w h ok hd hh hp
  · rw [show downN cs on c = on by simp [downN, hd], show downC cs on c = 2 by simp [downC, hd]]; exact Down_no p g cs on c w h ok hd
set_option maxRecDepth 100000 in
set_option maxHeartbeats 4000000 in
theorem Check_any (p g : Nat) (cs : List Nat) (on : Nat) (d : Int) (S : Nat) (w : World) (h : IsTopo w p g cs on) (ok : TopoOk cs on) (hS : S < 18446744073709551616) :
    Calls Try.prog 19 #[.pointer (some ⟨p, 0, none⟩), .int .i64 d, .int .u64 (S : Int)] w fun e w' => e = .returned (.int .i64 (chkC cs d S)) ∧ w = w' := by
  by_cases hd : domB cs d
  · obtain ⟨k, rfl⟩ : ∃ k : Nat, d = k := ⟨d.toNat, by have := hd.1; omega⟩
    have hk : k < cs.length := by have := hd.2; omega
    have HI := Lib.hid (Cores_yes p g cs on k w h hk)
    have hlt := ok.small k
    obtain ⟨b, HM⟩ : ∃ b, Hid (meetsB S (cs.getD k 0) = b) := ⟨_, Lib.hid rfl⟩
    have HC : Hid (chkC cs (k : Int) S = if b then 0 else 8) := Lib.hid (by
      unfold chkC; rw [if_pos hd, Int.toNat_natCast, ← HM.out]
      unfold meetsB; rw [Nat.and_comm])
    clear hd
    generalize cs.getD k 0 = x at *
    cases b
    all_goals
      go_enter Try.func19, Try.ntmps19
      go_wp2_with (first | (go_at_call 26; refine HI.out.mono ?_; rintro e w2 ⟨rfl, rfl⟩) | (go_at_call 30; refine (Meets_is S x _ _ hS hlt HM).mono ?_; rintro e w1 ⟨rfl, rfl⟩))
      go_ret
      exact ⟨by rw [HC.out]; rfl, rfl⟩
  · have HI := Lib.hid (Cores_no p g cs on d w h hd)
    have HC : Hid (chkC cs d S = 5) := Lib.hid (by unfold chkC; rw [if_neg hd])
    clear hd
    go_enter Try.func19, Try.ntmps19
    go_wp2_with (go_at_call 26; refine HI.out.mono ?_; rintro e w2 ⟨rfl, rfl⟩)
    go_ret
    exact ⟨by rw [HC.out]; rfl, rfl⟩
set_option maxRecDepth 100000 in
set_option maxHeartbeats 4000000 in
theorem Eff_err (p g : Nat) (cs : List Nat) (on : Nat) (d : Int) (S : Nat) (w : World) (h : IsTopo w p g cs on) (ok : TopoOk cs on) (hS : S < 18446744073709551616) (c : Int) (hc : chkC cs d S = c) (h0 : (c == 0) = false) :
    Calls Try.prog 17 #[.pointer (some ⟨p, 0, none⟩), .int .i64 d, .int .u64 (S : Int)] w fun e w' => e = .returned (.tuple #[.int .u64 0, .int .i64 c]) ∧ w = w' := by
  have HI := Lib.hid (Check_any p g cs on d S w h ok hS)
  rw [hc] at HI
  clear hc
  go_enter Try.func17, Try.ntmps17
  go_wp2_with (go_at_call 19; refine HI.out.mono ?_; rintro e w2 ⟨rfl, rfl⟩)
  go_ret2
  exact ⟨rfl, rfl⟩
set_option maxRecDepth 100000 in
set_option maxHeartbeats 4000000 in
theorem Eff_any (p g : Nat) (cs : List Nat) (on : Nat) (d : Nat) (S : Nat) (w : World) (h : IsTopo w p g cs on) (ok : TopoOk cs on) (hS : S < 18446744073709551616) (hd : d < cs.length) (hc : chkC cs d S = 0) :
    Calls Try.prog 17 #[.pointer (some ⟨p, 0, none⟩), .int .i64 (d : Int), .int .u64 (S : Int)] w fun e w' => e = .returned (.tuple #[.int .u64 (effN cs on d S : Nat), .int .i64 0]) ∧ w = w' := by
  have hle := ok.good.2.1
  have HI := Lib.hid (Check_any p g cs on d S w h ok hS)
  rw [hc] at HI
  clear hc
  obtain ⟨cap, hcc, hcap⟩ := h.cell
  have hr := h.onl hd
  have hlt : cs.getD d 0 &&& on < 18446744073709551616 := and_lt (ok.small _)
  obtain ⟨b, HM⟩ : ∃ b, Hid (meetsB S (cs.getD d 0 &&& on) = b) := ⟨_, Lib.hid rfl⟩
  have HE : Hid (effN cs on d S = if b then S &&& (cs.getD d 0 &&& on) else cs.getD d 0 &&& on) := Lib.hid (by
    unfold effN
    rw [← HM.out, show meetsB (cs.getD d 0 &&& on) S = meetsB S (cs.getD d 0 &&& on) by unfold meetsB; rw [Nat.and_comm], Nat.and_comm _ S])
  generalize cs.getD d 0 &&& on = y at *
  have HA := Lib.hid (u64_and_nat S y hS hlt)
  cases b
  all_goals
    go_enter Try.func17, Try.ntmps17
    go_wp2_with (first | (go_at_call 19; refine HI.out.mono ?_; rintro e w2 ⟨rfl, rfl⟩) | (go_at_call 30; refine (Meets_is S y _ _ hS hlt HM).mono ?_; rintro e w1 ⟨rfl, rfl⟩))
    go_ret2
    refine ⟨?_, rfl⟩
    rw [HE.out]
    first | rfl | (rw [HA.out]; rfl)
end Go.Proofs.Ytbeklkgoiigccaa
