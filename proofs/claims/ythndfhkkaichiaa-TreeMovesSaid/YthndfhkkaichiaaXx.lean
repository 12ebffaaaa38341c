/-
  awake; Do: an act, done to a forest and to the document's. Condition: both hold the same groups.
-/
import Derived.Test.YthndfhkkaichiaaXt
import Derived.Test.YthndfhkkaichiaaXu
import Derived.Test.YthndfhkkaichiaaXv
import Derived.Test.YthndfhkkaichiaaXw
namespace Go.Proofs.Ythndfhkkaichiaa
open Go.RowKit Go.Maps

/-- a block of another type has turned. -/
theorem Fo.turn {w w' : World} {fp tp tg mp d t : Nat} {bl : Int → Nat} {L : List Gr} {l : List Int} {m : Int} {cs : Array Value} (h : Fo w fp tp tg mp bl L l m) (ht : Turn d w w') (hd : Blk w d t cs) (hne : t ∉ [62, 83, 3, 77]) : Fo w' fp tp tg mp bl L l m := by
  have ne : ∀ (k : Nat) (c : Array Value) (t' : Nat), w.heap[k]? = some (Obj.cells c t' (0, 0)) → t' ∈ [62, 83, 3, 77] → w'.heap[k]? = w.heap[k]? := fun k c t' hk hm => ht.block k (ne_cells hk hd (by rintro rfl; exact hne hm))
  refine ⟨(ne _ _ _ h.ptr (by decide)).trans h.ptr, h.tab.same (ne _ _ _ h.tab.ptr (by decide)) (ne _ _ _ h.tab.row (by decide)), ?_, fun x hx => (ne _ _ _ (h.grp x hx) (by decide)).trans (h.grp x hx), h.inj⟩
  obtain ⟨n, hn, hm⟩ := h.mpp
  exact ⟨n, hn, hm.same (ht.block mp (fun e => ne_map hd hm e.symm))⟩
theorem IsF.turn {w w' : World} {B fp d t : Nat} {L : List Gr} {l : List Int} {m k : Int} {cs : Array Value} (h : IsF w B fp L l m k) (ht : Turn d w w') (hd : Blk w d t cs) (hne : t ∉ [62, 83, 3, 77]) : IsF w' B fp L l m k := by
  obtain ⟨tp, tg, mp, bl, h1, h2⟩ := h.fo
  exact ⟨⟨tp, tg, mp, bl, h1.turn ht hd hne, h2⟩, h.tok, h.ids, h.ok⟩
theorem Wr.turnN {ts : List Nat} {B b : Nat} {w w1 w2 : World} (h : Wr ts B w w1) (t : Turn b w1 w2) (hb : w.heap.size ≤ b) : Wr ts B w w2 :=
  ⟨t.os.trans h.os, t.tape.trans h.tape, t.output.trans h.output, by rw [t.size]; exact h.size, fun k hk hs => (t.block k (by omega)).trans (h.low k hk hs), fun k c ty z hc hts => (t.block k (by have := (Array.getElem?_eq_some_iff.1 hc).1; omega)).trans (h.typ k c ty z hc hts)⟩
theorem IsF.len {w : World} {B fp : Nat} {L : List Gr} {l : List Int} {m k : Int} (h : IsF w B fp L l m k) : L.length ≤ l.length := (slots_free h.ok h.ids).2
set_option maxRecDepth 100000 in
set_option maxHeartbeats 4000000 in
theorem awake_any (w : World) : Calls Try.prog 8 #[] w fun e w' => e = .returned (.bool true) ∧ Below w.heap.size w w' := by
  have H0 := Lib.hid (NewF_yes 5 w (by omega) (by omega))
  have E1 : Hid (rootC [] 5 = 0 ∧ rootN [] 5 0 = [⟨1, -1, 1, 0, 0⟩] ∧ nextI 0 0 = 1) := Lib.hid ⟨by kernel_rfl, by kernel_rfl, rfl⟩
  have E2 : Hid (addC [⟨1, -1, 1, 0, 0⟩] 5 1 5 = 0 ∧ addN [⟨1, -1, 1, 0, 0⟩] 5 (lastI 0 0) 1 5 = [⟨1, -1, 1, 0, 0⟩, ⟨2, 1, 5, 0, 0⟩] ∧ nextI 0 (lastI 0 0) = 2) := Lib.hid ⟨by kernel_rfl, by kernel_rfl, rfl⟩
  have E3 : Hid (addC [⟨1, -1, 1, 0, 0⟩, ⟨2, 1, 5, 0, 0⟩] 5 2 7 = 0 ∧ addN [⟨1, -1, 1, 0, 0⟩, ⟨2, 1, 5, 0, 0⟩] 5 (lastI 0 (lastI 0 0)) 2 7 = [⟨1, -1, 1, 0, 0⟩, ⟨2, 1, 5, 0, 0⟩, ⟨3, 2, 7, 0, 0⟩] ∧ nextI 0 (lastI 0 (lastI 0 0)) = 3) := Lib.hid ⟨by kernel_rfl, by kernel_rfl, rfl⟩
  have E4 : Hid (moveC [⟨1, -1, 1, 0, 0⟩, ⟨2, 1, 5, 0, 0⟩, ⟨3, 2, 7, 0, 0⟩] 2 3 = 12 ∧ moveN [⟨1, -1, 1, 0, 0⟩, ⟨2, 1, 5, 0, 0⟩, ⟨3, 2, 7, 0, 0⟩] 2 3 = [⟨1, -1, 1, 0, 0⟩, ⟨2, 1, 5, 0, 0⟩, ⟨3, 2, 7, 0, 0⟩] ∧ belowB [⟨1, -1, 1, 0, 0⟩, ⟨2, 1, 5, 0, 0⟩, ⟨3, 2, 7, 0, 0⟩] 3 1 = true) := Lib.hid ⟨by kernel_rfl, by kernel_rfl, by kernel_rfl⟩
  go_enter Try.func8, Try.ntmps8
  go_wp2_with (first | (go_at_call 9; refine H0.out.mono ?_; rintro e w1 ⟨⟨fp, l, rfl, hl, hF⟩, hb⟩; have HL := Lib.hid hl; clear hl) | (go_at_call 13; refine (Root_any fp _ _ l _ _ _ hF (by omega) hb.size).mono ?_; rw [HL.out, E1.out.1, E1.out.2.1, E1.out.2.2]; rintro e w2 ⟨rfl, ⟨l2, hl2, hF2⟩, hW⟩; have HL2 := Lib.hid hl2; clear hl2; have hb2 := hb.trans (hW.below hb.size); clear hb hF hW HL) | (go_at_call 14; refine (AddF_any fp _ _ l2 _ _ 1 5 _ hF2 (by unfold I64; omega) (by omega) hb2.size).mono ?_; rw [HL2.out, E2.out.1, E2.out.2.1, E2.out.2.2]; rintro e w3 ⟨rfl, ⟨l3, hl3, hF3⟩, hW⟩; have HL3 := Lib.hid hl3; clear hl3; have hb3 := hb2.trans (hW.below hb2.size); clear hb2 hF2 hW HL2) | (go_at_call 14; refine (AddF_any fp _ _ l3 _ _ 2 7 _ hF3 (by unfold I64; omega) (by omega) hb3.size).mono ?_; rw [HL3.out, E3.out.1, E3.out.2.1, E3.out.2.2]; rintro e w4 ⟨rfl, ⟨l4, hl4, hF4⟩, hW⟩; clear hl4; have hb4 := hb3.trans (hW.below hb3.size); clear hb3 hF3 hW HL3) | (go_at_call 15; refine (Move_any fp _ _ l4 _ _ 2 3 _ hF4 (by unfold I64; omega) (by unfold I64; omega) (by omega)).mono ?_; rw [E4.out.1, E4.out.2.1]; rintro e w5 ⟨rfl, hF5, hW⟩; have hb5 := hb4.trans (hW.below hb4.size); clear hb4 hF4 hW) | (go_at_call 17; refine (Below_any fp _ _ l4 _ _ 3 1 _ hF5 (by unfold I64; omega)).mono ?_; rw [E4.out.2.2]; rintro e w6 ⟨rfl, hb⟩; have hb6 := Below.trans hb5 (hb.mono hb5.size)))
  go_ret
  exact ⟨rfl, hb6⟩
end Go.Proofs.Ythndfhkkaichiaa
