/-
  The program's Len. Condition: the ring set is one.
-/
import Derived.Test.YtglnjpbjlcbgoaaVp
namespace Go.Proofs.Ytglnjpbjlcbgoaa
open Go.RowKit Go.Shelf
attribute [local go_sem] Oper.semAt_some

/-- of the first n blocks just T may have turned. -/
def Keep (n T : Nat) (A B : World) : Prop := ∀ q, q < n → q ≠ T → B.heap[q]? = A.heap[q]?
theorem Keep.refl (n T : Nat) (A : World) : Keep n T A A := fun _ _ _ => rfl
theorem Keep.trans {n T : Nat} {A B C : World} (h : Keep n T A B) (k : Keep n T B C) : Keep n T A C := fun q hq hn => (k q hq hn).trans (h q hq hn)
theorem Keep.same {n T : Nat} {A B : World} (h : Same A B) : Keep n T A B := fun q _ _ => by rw [h.heap]
theorem Same.grown {A B : World} (h : Same A B) : A.grownBy B none := ⟨h.os, h.tape, h.output, by rw [h.heap]; exact Nat.le_refl _, fun k _ _ => by rw [h.heap]⟩
set_option maxRecDepth 100000 in
set_option maxHeartbeats 4000000 in
theorem Nodes_in (l p g c N b1 b2 n0 T n : Nat) (k : Int) (ls : List (List Nat)) (J Jx : List Nat → World → Prop) (ok : OkL N ls) (W : World)
    (hr : Ring W p g c N ls) (hc1 : W.cell? ⟨b1, 0, none⟩ = some (.pointer (some ⟨p, 0, none⟩))) (hc2 : W.cell? ⟨b2, 0, none⟩ = some (.int .i64 k))
    (hp : p < n0 ∧ p ≠ T) (hg : g < n0 ∧ g ≠ T) (hb1 : b1 < n0 ∧ b1 ≠ T) (hb2 : b2 < n0 ∧ b2 ≠ T)
    (hS : ∀ pre A B, J pre A → Same A B → J pre B)
    (hY : ∀ pre x A, J pre A → pre.length < (rowI ls k).length → YieldAt Fence.wide (n - 1) Try.prog l #[.int .i64 ((x : Nat) : Int)] A fun e A' =>
      (e = .returned (.bool true) ∧ J (pre ++ [x]) A' ∧ Keep n0 T A A') ∨ (e = .returned (.bool false) ∧ Jx (pre ++ [x]) A'))
    (h0 : J [] W) :
    CallsIn Fence.wide n Try.prog 31 #[.func (.yield l) #[] #[], .pointer (some ⟨b1, 0, none⟩), .pointer (some ⟨b2, 0, none⟩)] W fun e W' => (∃ v, e = .returned v) ∧
      ((∃ ys, ys = rowI ls k ∧ J ys W') ∨ (∃ pre, pre <+: rowI ls k ∧ Jx pre W')) := by
  have HN : Hid (∀ i, i < (rowI ls k).length → nextI ls ((rowI ls k).getD i 0 : Nat) = stepI (rowI ls k) (i + 1)) := Lib.hid (fun i hi => step_next ok hi)
  have HH : Hid (hdI (rowI ls k) = stepI (rowI ls k) 0) := Lib.hid rfl
  have HY := Lib.hid hY
  have HS := Lib.hid hS
  have HK : Hid (∀ A, Keep n0 T W A → Ring A p g c N ls ∧ A.cell? ⟨b1, 0, none⟩ = some (.pointer (some ⟨p, 0, none⟩)) ∧ A.cell? ⟨b2, 0, none⟩ = some (.int .i64 k)) := Lib.hid (fun A h => by
    refine ⟨hr.same (h p hp.1 hp.2) (h g hg.1 hg.2), ?_, ?_⟩
    · rw [← hc1]; unfold World.cell?; rw [h b1 hb1.1 hb1.2]
    · rw [← hc2]; unfold World.cell?; rw [h b2 hb2.1 hb2.2])
  clear hY hS ok hp hg hb1 hb2
  generalize hxs : rowI ls k = xs at *
  have HX := Lib.hid hxs
  clear hxs
  refine callsIn_of_wp Try.func31 rfl trivial ?_ rfl
  simp only [Try.ntmps31, List.size_toArray, List.length_cons, List.length_nil, Nat.reduceAdd, Nat.reduceSub, Array.replicate_succ, Array.replicate_zero, List.push_toArray, List.append_toArray, List.nil_append, List.cons_append]
  gi_wp2_with fail
  refine ⟨trivial, fun h => (by cases h), ?_⟩
  refine (callsIn_wide.2 (First_any hr k)).mono ?_
  rw [HX.out, HH.out]
  rintro e w1 ⟨rfl, s1⟩
  have h1 := HS.out _ W w1 h0 s1
  have hk1 : Keep n0 T W w1 := Keep.same s1
  clear hr hc1 hc2 h0 s1 HH
  gi_wp2_with fail
  gi_loopg [4] xs.length (fun q y wr => ∃ (i : Nat) (z : Int), y = .int .i64 z ∧ Hid (i + q = xs.length) ∧ Hid (z = stepI xs i) ∧ Hid (J (xs.take i) wr) ∧ Hid (Keep n0 T W wr))
  case atStart => exact ⟨0, _, rfl, Lib.hid (Nat.zero_add _), Lib.hid rfl, Lib.hid h1, Lib.hid hk1⟩
  case round =>
    clear h1 hk1
    obtain ⟨i, z, rfl, HQ, HZ, HJ, HW⟩ := hrel
    obtain ⟨hr, hc1, hc2⟩ := HK.out wr HW.out
    by_cases hq : gk = 0
    · have hil : i = xs.length := by have := HQ.out; omega
      obtain rfl : z = -1 := by rw [HZ.out, hil]; exact if_neg (Nat.lt_irrefl _)
      have HE : Hid (J xs wr) := Lib.hid (by have := HJ.out; rw [hil, List.take_length] at this; exact this)
      clear hil hq HZ HQ HJ
      gi_wp2_with fail
      refine ⟨fun f h => (by cases h), ?_⟩
      gi_wp2_with fail
      go_end0
      exact ⟨⟨_, rfl⟩, .inl ⟨_, rfl, HE.out⟩⟩
    · have hil : i < xs.length := by have := HQ.out; omega
      obtain ⟨x, hx⟩ : ∃ x : Nat, x = xs.getD i 0 := ⟨_, rfl⟩
      obtain rfl : z = (x : Int) := by rw [HZ.out, hx]; exact if_pos hil
      have HT : Hid (xs.take i ++ [x] = xs.take (i + 1)) := Lib.hid (by rw [hx, List.take_add_one, List.getElem?_eq_getElem hil]; simp [List.getD, List.getElem?_eq_getElem hil])
      have HYi := Lib.hid (HY.out (xs.take i) x wr HJ.out (by rw [List.length_take]; omega))
      have HNi := Lib.hid (HN.out i hil)
      rw [← hx] at HNi
      clear hx HZ hil
      have hz : ((x : Int) != -1) = true := bne_tt (by omega)
      obtain ⟨fn, tmps, assign, body, hy, hR⟩ := HYi.out
      gi_wp2_with fail
      refine ⟨fun h => (by cases h), ?_⟩
      refine hR.mono ?_
      rintro e w2 (⟨rfl, h2, hk2⟩ | ⟨rfl, h2⟩)
      · have HW2 := Lib.hid (HW.out.trans hk2)
        obtain ⟨hr2, hc12, hc22⟩ := HK.out w2 HW2.out
        rw [HT.out] at h2
        clear hr hc1 hc2 HJ hk2
        gi_wp2_with fail
        refine ⟨trivial, fun h => (by cases h), ?_⟩
        refine (callsIn_wide.2 (Next_any hr2 (x : Int))).mono ?_
        rw [HNi.out]
        rintro e w3 ⟨rfl, s3⟩
        have h3 := HS.out _ _ _ h2 s3
        have HW3 := Lib.hid (HW2.out.trans (Keep.same s3))
        gi_wp2_with fail
        gi_roundg (gk - 1)
        case measure => omega
        case rel => exact ⟨i + 1, _, rfl, Lib.hid (by have := HQ.out; omega), Lib.hid rfl, Lib.hid h3, HW3⟩
      · rw [HT.out] at h2
        gi_wp2_with fail
        go_end0
        exact ⟨⟨_, rfl⟩, .inr ⟨_, List.take_prefix _ _, h2⟩⟩
theorem Nodes_stops (p g c N b1 b2 n0 T n : Nat) (k : Int) (ls : List (List Nat)) (ok : OkL N ls) (w : World)
    (hr : Ring w p g c N ls) (hc1 : Boxed w b1 24 (.pointer (some ⟨p, 0, none⟩))) (hc2 : Boxed w b2 3 (.int .i64 k))
    (hp : p < n0 ∧ p ≠ T) (hg : g < n0 ∧ g ≠ T) (hb1 : b1 < n0 ∧ b1 ≠ T) (hb2 : b2 < n0 ∧ b2 ≠ T) :
    SeqStopsK Fence.wide n Try.prog 31 #[.pointer (some ⟨b1, 0, none⟩), .pointer (some ⟨b2, 0, none⟩)] (fun x : Nat => #[Value.int .i64 (x : Int)]) (Keep n0 T) (fun ys => ys = rowI ls k) (fun pre => pre <+: rowI ls k) (rowI ls k).length w := fun l J Jx W hW hJ _ hY h0 =>
  Nodes_in l p g c N b1 b2 n0 T n k ls J Jx ok W (hr.belowS hW) ((hW.block b1 hc1.lt).trans hc1 |> fun h => Boxed.cell h) ((hW.block b2 hc2.lt).trans hc2 |> fun h => Boxed.cell h) hp hg hb1 hb2
    (fun pre A B h s => hJ pre A B none h s.grown (fun r e => by cases e)) hY h0
set_option maxRecDepth 100000 in
set_option maxHeartbeats 4000000 in
theorem Len_any (p g c N : Nat) (k : Int) (ls : List (List Nat)) (w : World) (hr : Ring w p g c N ls) :
    Calls Try.prog 19 #[.pointer (some ⟨p, 0, none⟩), .int .i64 k] w fun e w' => e = .returned (.int .i64 ((rowI ls k).length : Nat)) ∧ Below w.heap.size w w' := by
  have hlp := hr.ltp
  have hlg := hr.ltg
  have hok := hr.ok
  have hl64 : (rowI ls k).length ≤ 64 := by
    unfold rowI; split
    · exact hok.len64 _
    · simp
  refine (callsIn_wide (n := 3)).1 ?_
  refine callsIn_of_wp_marks Try.func19 rfl trivial ?_ rfl
  simp only [Try.ntmps19, List.size_toArray, List.length_cons, List.length_nil, Nat.reduceAdd, Nat.reduceSub, Array.replicate_succ, Array.replicate_zero, List.push_toArray, List.append_toArray, List.nil_append, List.cons_append]
  gi_wp2_with fail
  refine ⟨trivial, ?_⟩
  refine (callsIn_wide.2 (Nodes_any p k _)).mono ?_
  rintro e w' ⟨rfl, rfl⟩
  gi_wp2_with fail
  have hok' := Lib.hid hok
  have bT := ((Boxed.new w 3 (.int .i64 0)).alloc (.cells #[.pointer (some ⟨p, 0, none⟩)] 24)).alloc (.cells #[.int .i64 k] 3)
  have b1 := (Boxed.new (w.alloc (.cells #[.int .i64 0] 3)) 24 (.pointer (some ⟨p, 0, none⟩))).alloc (.cells #[.int .i64 k] 3)
  rw [World.size_alloc] at b1
  have b2 := Boxed.new ((w.alloc (.cells #[.int .i64 0] 3)).alloc (.cells #[.pointer (some ⟨p, 0, none⟩)] 24)) 3 (.int .i64 k)
  rw [World.size_alloc, World.size_alloc] at b2
  have hB0 : Below w.heap.size w (((w.alloc (.cells #[.int .i64 0] 3)).alloc (.cells #[.pointer (some ⟨p, 0, none⟩)] 24)).alloc (.cells #[.int .i64 k] 3)) := (((Below.refl _ w).alloc (Nat.le_refl _) _).alloc (by simp) _).alloc (by simp; omega) _
  have hsz : w.heap.size + 3 ≤ (((w.alloc (.cells #[.int .i64 0] 3)).alloc (.cells #[.pointer (some ⟨p, 0, none⟩)] 24)).alloc (.cells #[.int .i64 k] 3)).heap.size := by simp
  have hr3 := hr.belowS hB0
  clear hr
  generalize ((w.alloc (.cells #[.int .i64 0] 3)).alloc (.cells #[.pointer (some ⟨p, 0, none⟩)] 24)).alloc (.cells #[.int .i64 k] 3) = w3 at *
  refine wpIn_rangeFunc_ownG rfl (by omega) (gf := 31) (lb := #[.pointer (some ⟨w.heap.size + 1, 0, none⟩), .pointer (some ⟨w.heap.size + 1 + 1, 0, none⟩)]) rfl trivial (enters_of Try.func31 (by kernel_rfl) rfl)
    (Nodes_stops p g c N (w.heap.size + 1) (w.heap.size + 1 + 1) (w.heap.size + 3) w.heap.size (3 - 1) k ls hok'.out w3 hr3 b1 b2 (by omega) (by omega) (by omega) (by omega))
    (fun h k => h.trans k) (fun W l o o' hl _ _ _ q hq _ => World.putObj_heap_other (by omega)) (Below.refl _ _) (fun _ => rfl)
    (fun (pre : List Nat) W => Boxed W w.heap.size 3 (.int .i64 (pre.length : Int)) ∧ Below w.heap.size w W) (fun _ _ _ => False)
    (fun pre W W' row h hg hrow => ⟨h.1.kept hg (by rintro rfl; obtain ⟨hB, -⟩ := hrow _ rfl; omega), h.2.trans ((Below.refl _ W).grown hg h.2.size (fun q e => by obtain ⟨hB, -⟩ := hrow q e; omega))⟩)
    (fun _ _ _ _ _ hs _ _ => hs)
    ⟨bT, hB0⟩
    (fun x => { tmps := #[.pointer (some ⟨p, 0, none⟩), .int .i64 k, undef, undef, .int .i64 0, .pointer (some ⟨w.heap.size, 0, none⟩), .pointer (some ⟨p, 0, none⟩), .int .i64 k, .func (.func 31) #[] #[.pointer (some ⟨w.heap.size + 1, 0, none⟩), .pointer (some ⟨w.heap.size + 1 + 1, 0, none⟩)], .int .i64 (x : Int), undef, undef, undef], defers := [] }) ?assign ?body ?done ?stop
  case assign =>
    intro l x W K hK
    gi_wp2
    simpa using hK
  case body =>
    rintro l pre x W ⟨hv, hB⟩ hlt
    have hc := hv.cell
    have hf := hv.frozen
    have hpl : pre.length < 64 := by omega
    have hpx : ((pre ++ [x]).length : Int) = (pre.length : Int) + 1 := by simp
    have HPX := Lib.hid hpx
    clear hpx
    have hset := hv.set (.int .i64 ((pre.length : Int) + 1))
    have hcells : ∃ cs t fr, W.heap[w.heap.size]? = some (.cells cs t fr) := ⟨_, _, _, hv⟩
    gi_wp2_with fail
    refine ⟨⟨by simp [World.setCell], fun q o hq ho _ => (heap_setCell_other W ⟨w.heap.size, 0, none⟩ q _ (by show q ≠ w.heap.size; omega)).trans ho⟩, fun q _ hq => heap_setCell_other W ⟨w.heap.size, 0, none⟩ q _ hq, ?_, hB.trans ((Turn.setCell W w.heap.size 0 _).below (Nat.le_refl _))⟩
    rw [HPX.out]; exact hset
  case done =>
    rintro D ys W hD rfl ⟨hv, hB⟩ hK
    have hc := hv.cell
    have hD2 : w.heap.size ≤ D := by omega
    have HK := Lib.hid hK
    clear hK
    gi_wp2_with fail
    refine ⟨by simp, .inl ⟨_, _, rfl, run_takeDeferred HK.out, ?_⟩⟩
    exact ⟨_, results_tmp rfl _ _ _, rfl, hB.trans (belowK_b (w := w) (Nat.le_refl _) W D _ _ hD2 HK.out rfl rfl)⟩
  case stop =>
    rintro D c pre W _ _ h _
    exact h.elim
end Go.Proofs.Ytglnjpbjlcbgoaa
