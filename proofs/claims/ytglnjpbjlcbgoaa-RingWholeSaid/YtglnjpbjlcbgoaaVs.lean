/-
  The statements' comparison of both: is. Condition: both hold the same lists.
-/
import Derived.Test.YtglnjpbjlcbgoaaVr
namespace Go.Proofs.Ytglnjpbjlcbgoaa
open Go.RowKit

set_option maxRecDepth 100000 in
set_option maxHeartbeats 4000000 in
theorem is_any (p g c B N : Nat) (v : Value) (ls : List (List Nat)) (w : World) (hr : Ring w p g c N ls) (hd : RV w B N v ls) :
    Calls Try.prog 11 #[.pointer (some ⟨p, 0, none⟩), v] w fun e w' => e = .returned (.bool true) ∧ Below w.heap.size w w' := by
  obtain ⟨dv, rfl, hd⟩ := hd
  obtain ⟨ad, cd, rfl⟩ := hd.sl
  have hok := hr.ok
  have hm1 := hok.m64
  have hn1 := hok.n64
  have hb : Below w.heap.size w (w.alloc (.cells #[.int .i64 (N : Int), .slice ad ls.length cd] 30)) := (Below.refl _ w).alloc (Nat.le_refl _) _
  have hx := IsT.new w (N : Int) (.slice ad ls.length cd)
  have hr1 := hr.alloc (.cells #[.int .i64 (N : Int), .slice ad ls.length cd] 30)
  have hd1 := hd.alloc (.cells #[.int .i64 (N : Int), .slice ad ls.length cd] 30)
  have hsz1 : w.heap.size < (w.alloc (.cells #[.int .i64 (N : Int), .slice ad ls.length cd] 30)).heap.size := by simp
  clear hr hd
  go_enter Try.func11, Try.ntmps11
  go_wp2_with fail
  generalize (w.alloc (.cells #[.int .i64 (N : Int), .slice ad ls.length cd] 30)) = w1 at *
  go_loopw [5] (fun t wr => ∃ z : Int, -1 ≤ z ∧ z ≤ (ls.length : Int) + 1 ∧ t = .int .i64 z ∧ Hid (Below w1.heap.size w1 wr)) (fun t _ => ((ls.length : Int) + 1 - intOf t).toNat)
  case atStart => exact ⟨-1, by omega, by omega, rfl, Lib.hid (Below.refl _ _)⟩
  case round =>
    obtain ⟨z, hz0, hz1, rfl, HB⟩ := hrel
    have hxr := hx.belowS HB.out
    have hc0 := hxr.c0
    have hc1 := hxr.c1
    have hsr := HB.out.size
    by_cases hz2 : z ≤ ls.length
    · have HL64 : Hid ((rowI ls z).length ≤ 64) := Lib.hid (by
        unfold rowI; split
        · exact hok.len64 _
        · simp)
      have hbw0 := Boxed.new wr 43 (.slice none 0 0)
      have hcn := hbw0.cell
      by_cases hin : 0 ≤ z ∧ z < ls.length
      · obtain ⟨k, rfl⟩ : ∃ k : Nat, z = k := ⟨z.toNat, by omega⟩
        obtain ⟨bd, a', c', rfl, hbd, hcd, hlc, hcm, hro0⟩ := (hd1.below (HB.out)).at (k := k) (by omega)
        have HRI : Hid (rowI ls (k : Int) = row ls k) := Lib.hid (by unfold rowI; rw [if_pos (by omega), Int.toNat_natCast])
        have HRL : Hid (∀ i, i < (row ls k).length → ((row ls k).getD i 0 : Nat) = (row ls k).getD i 0) := Lib.hid (fun _ _ => rfl)
        have hro : RowO (wr.alloc (.cells #[.slice a' (row ls k).length c'] 43)) B (.slice a' (row ls k).length c') (rowI ls (k : Int)) := by rw [HRI.out]; exact hro0.alloc _
        have hbw := Boxed.new wr 43 (.slice a' (row ls k).length c')
        have hb2 := (Below.refl wr.heap.size wr).alloc (Nat.le_refl _) (.cells #[.slice a' (row ls k).length c'] 43)
        have hb20 := (Below.refl wr.heap.size wr).alloc (Nat.le_refl _) (.cells #[.slice none 0 0] 43)
        have hcdb := block_lt_of_cell hcd
        have hcd2 := (hb20.cell (p := ⟨bd, k, none⟩) hcdb).trans hcd
        have hc02 := (hxr.belowS hb20).c0
        have hc12 := (hxr.belowS hb20).c1
        have hfw := hbw0.frozen
        have hcw := hbw.cell
        have HHD : Hid (hdI (row ls k) = if 0 < (row ls k).length then (((row ls k).getD 0 0 : Nat) : Int) else -1) := Lib.hid rfl
        have HLD : Hid (laI (row ls k) = if 0 < (row ls k).length then (((row ls k).getD ((row ls k).length - 1) 0 : Nat) : Int) else -1) := Lib.hid rfl
        have hs3 : wr.heap.size + 1 ≤ (wr.alloc (.cells #[.slice a' (row ls k).length c'] 43)).heap.size := by simp
        replace HB := Lib.hid (HB.out.trans (hb2.mono HB.out.size))
        by_cases hn0 : 0 < (row ls k).length
        · obtain ⟨b, rfl, hx0⟩ := RowV.atI hro0 hn0
          obtain ⟨b9, e9, hx1⟩ := RowV.atI hro0 (j := (row ls k).length - 1) (by omega)
          cases e9
          have hblt := block_lt_of_cell hx0
          replace hx0 := (hb2.cell (p := ⟨b, 0, none⟩) hblt).trans hx0
          replace hx1 := (hb2.cell (p := ⟨b, (row ls k).length - 1, none⟩) hblt).trans hx1
          have HFI : Hid (hdI (rowI ls (k : Int)) = ((row ls k).getD 0 0 : Nat)) := Lib.hid (by rw [HRI.out, HHD.out, if_pos hn0])
          have HLA : Hid (laI (rowI ls (k : Int)) = ((row ls k).getD ((row ls k).length - 1) 0 : Nat)) := Lib.hid (by rw [HRI.out, HLD.out, if_pos hn0])
          have HLX : Hid ((rowI ls (k : Int)).length = (row ls k).length) := Lib.hid (by rw [HRI.out])
          have HLN : Hid (((rowI ls (k : Int)).length : Int) = ((row ls k).length : Nat)) := Lib.hid (by rw [HRI.out])
          generalize (row ls k).getD 0 0 = x0 at *
          generalize (row ls k).getD ((row ls k).length - 1) 0 = x1 at *
          clear HHD HLD HRL hro0 hb2 hb20 hcd hcdb hblt
          generalize hn : (row ls k).length = n at *
          have hn64 : n ≤ 64 := by have := HL64.out; have := HLX.out; omega
          obtain ⟨q, hq⟩ : ∃ q, q = n - 1 := ⟨_, rfl⟩
          rw [← hq] at hx1
          have HQ : Hid (IntKind.i64.wrap ((n : Int) - 1) = (q : Int)) := Lib.hid (by rw [IntWalk.i64_in _ (by omega)]; omega)
          have hqn : q < n := by omega
          clear hq hn
          go_wp2_with fail
          generalize wr.alloc (.cells #[.slice (some ⟨b, 0, none⟩) n c'] 43) = w3 at *
          clear hc0 hc1 hc02 hc12 hcd2 hfw
          have hcd9 : (fun X => X.cell? ⟨wr.heap.size, 0, none⟩ = some (.slice (some ⟨b, 0, none⟩) n c') ∧ X.cell? ⟨b, 0, none⟩ = some (.int .i64 (x0 : Int)) ∧ X.cell? ⟨b, q, none⟩ = some (.int .i64 (x1 : Int))) w3.drew := ⟨hbw.cell, hx0, hx1⟩
          refine Rd.region (fun X => X.cell? ⟨wr.heap.size, 0, none⟩ = some (.slice (some ⟨b, 0, none⟩) n c') ∧ X.cell? ⟨b, 0, none⟩ = some (.int .i64 (x0 : Int)) ∧ X.cell? ⟨b, q, none⟩ = some (.int .i64 (x1 : Int))) 11 [0, 1, 2, 3, 4, 5, 6, 7, 8, 9, 10] [0, 1, 2, 3, 4, 5, 6, 7, 8, 9, 10] (by kernel_rfl) (by kernel_rfl) (by kernel_rfl) (by kernel_rfl) rfl hcd9 ?_
          replace hbw := Boxed.sm hbw (Same.drew w3)
          replace hro := hro.below ((Same.drew w3).below _)
          replace HB := Lib.hid (HB.out.trans ((Same.drew w3).below _))
          have hs3' : wr.heap.size + 1 ≤ w3.drew.heap.size := by rw [(Same.drew w3).size]; exact hs3
          clear hcd9 hx0 hx1 hs3 hcw
          generalize w3.drew = w4 at *
          clear w3
          refine Rd.seq_float ((.slice (some ⟨b, 0, none⟩) n c')) (by simp only [List.getElem?_toArray, List.getElem?_cons_zero]; rfl) rfl (by rfl) (fun X hX => by obtain ⟨e1, e2, e3⟩ := hX; go_simp) ?_
          simp only [Act.put, List.setIfInBounds_toArray, List.set_cons_succ, List.set_cons_zero]
          refine Rd.seq_float (.pointer (some ⟨b, 0, none⟩)) (by simp only [List.getElem?_toArray, List.getElem?_cons_succ, List.getElem?_cons_zero]; rfl) rfl (by rfl) (fun X _ => by go_simp) ?_
          simp only [Act.put, List.setIfInBounds_toArray, List.set_cons_succ, List.set_cons_zero]
          refine Rd.seq_float (.int .i64 (x0 : Int)) (by simp only [List.getElem?_toArray, List.getElem?_cons_succ, List.getElem?_cons_zero]; rfl) rfl (by rfl) (fun X hX => by obtain ⟨e1, e2, e3⟩ := hX; go_simp) ?_
          simp only [Act.put, List.setIfInBounds_toArray, List.set_cons_succ, List.set_cons_zero]
          refine Rd.seq_float ((.slice (some ⟨b, 0, none⟩) n c')) (by simp only [List.getElem?_toArray, List.getElem?_cons_succ, List.getElem?_cons_zero]; rfl) rfl (by rfl) (fun X hX => by obtain ⟨e1, e2, e3⟩ := hX; go_simp) ?_
          simp only [Act.put, List.setIfInBounds_toArray, List.set_cons_succ, List.set_cons_zero]
          refine Rd.seq_float ((.slice (some ⟨b, 0, none⟩) n c')) (by simp only [List.getElem?_toArray, List.getElem?_cons_succ, List.getElem?_cons_zero]; rfl) rfl (by rfl) (fun X hX => by obtain ⟨e1, e2, e3⟩ := hX; go_simp) ?_
          simp only [Act.put, List.setIfInBounds_toArray, List.set_cons_succ, List.set_cons_zero]
          refine Rd.seq_float (.int .i64 (n : Int)) (by simp only [List.getElem?_toArray, List.getElem?_cons_succ, List.getElem?_cons_zero]; rfl) rfl (by rfl) (fun X _ => by go_simp) ?_
          simp only [Act.put, List.setIfInBounds_toArray, List.set_cons_succ, List.set_cons_zero]
          refine Rd.seq_float (.int .i64 (q : Int)) (by simp only [List.getElem?_toArray, List.getElem?_cons_succ, List.getElem?_cons_zero]; rfl) rfl (by rfl) (fun X _ => by have e := HQ.out; go_simp) ?_
          simp only [Act.put, List.setIfInBounds_toArray, List.set_cons_succ, List.set_cons_zero]
          refine Rd.seq_float (.pointer (some ⟨b, q, none⟩)) (by simp only [List.getElem?_toArray, List.getElem?_cons_succ, List.getElem?_cons_zero]; rfl) rfl (by rfl) (fun X _ => by go_simp) ?_
          simp only [Act.put, List.setIfInBounds_toArray, List.set_cons_succ, List.set_cons_zero]
          refine Rd.seq_float (.int .i64 (x1 : Int)) (by simp only [List.getElem?_toArray, List.getElem?_cons_succ, List.getElem?_cons_zero]; rfl) rfl (by rfl) (fun X hX => by obtain ⟨e1, e2, e3⟩ := hX; go_simp) ?_
          simp only [Act.put, List.setIfInBounds_toArray, List.set_cons_succ, List.set_cons_zero]
          refine Rd.seq_float (.int .i64 (x0 : Int)) (by simp only [List.getElem?_toArray, List.getElem?_cons_succ, List.getElem?_cons_zero]; rfl) rfl (by rfl) (fun X _ => by go_simp) ?_
          simp only [Act.put, List.setIfInBounds_toArray, List.set_cons_succ, List.set_cons_zero]
          refine Rd.seq_float (.int .i64 (x1 : Int)) (by simp only [List.getElem?_toArray, List.getElem?_cons_succ, List.getElem?_cons_zero]; rfl) rfl (by rfl) (fun X _ => by go_simp) ?_
          simp only [Act.put, List.setIfInBounds_toArray, List.set_cons_succ, List.set_cons_zero]
          refine Rd.seq_end ?_
          go_wp2_with fail
          have hs3 := hs3'
          clear hs3'
          have hcw := hbw.cell
          clear HQ
          have hr4 : Ring w4.drew p g c N ls := (hr1.belowS HB.out).sm (Same.drew w4)
          refine Rd.region (fun X => X.cell? ⟨wr.heap.size, 0, none⟩ = some (.slice (some ⟨b, 0, none⟩) n c')) 20 [0, 1, 3, 4, 5, 6, 7, 8, 10, 11, 12, 13, 14, 15, 17, 18, 19] [0, 1, 3, 4, 2, 5, 6, 7, 8, 10, 9, 11, 12, 13, 14, 15, 17, 16, 18, 19] (by kernel_rfl) (by kernel_rfl) (by kernel_rfl) (by kernel_rfl) rfl (Boxed.sm hbw (Same.drew w4)).cell ?_
          replace hbw := Boxed.sm hbw (Same.drew w4)
          replace hro := hro.below ((Same.drew w4).below _)
          replace HB := Lib.hid (HB.out.trans ((Same.drew w4).below _))
          have hs4 : wr.heap.size + 1 ≤ w4.drew.heap.size := by rw [(Same.drew w4).size]; exact hs3
          clear hcw hs3
          generalize w4.drew = w4b at *
          refine Rd.seq_float (.pointer (some ⟨p, 0, none⟩)) (by simp only [List.getElem?_toArray, List.getElem?_cons_zero]; rfl) rfl (by rfl) (fun X _ => by go_simp) ?_
          simp only [Act.put, List.setIfInBounds_toArray, List.set_cons_succ, List.set_cons_zero]
          refine Rd.seq_float (.int .i64 (k : Int)) (by simp only [List.getElem?_toArray, List.getElem?_cons_succ, List.getElem?_cons_zero]; rfl) rfl (by rfl) (fun X _ => by go_simp) ?_
          simp only [Act.put, List.setIfInBounds_toArray, List.set_cons_succ, List.set_cons_zero]
          refine Rd.seq_float (.slice (some ⟨b, 0, none⟩) n c') (by simp only [List.getElem?_toArray, List.getElem?_cons_succ, List.getElem?_cons_zero]; rfl) rfl (by rfl) (fun X hX => by have e1 := hX; go_simp) ?_
          simp only [Act.put, List.setIfInBounds_toArray, List.set_cons_succ, List.set_cons_zero]
          refine Rd.seq_float (.int .i64 (n : Int)) (by simp only [List.getElem?_toArray, List.getElem?_cons_succ, List.getElem?_cons_zero]; rfl) rfl (by rfl) (fun X _ => by go_simp) ?_
          simp only [Act.put, List.setIfInBounds_toArray, List.set_cons_succ, List.set_cons_zero]
          refine Rd.seq_move (by simp only [List.getElem?_toArray, List.getElem?_cons_succ, List.getElem?_cons_zero]; rfl) rfl (by rfl) (fun K hK => ?_)
          go_simp
          refine (Len_any p g c N (k : Int) ls w4b hr4).mono ?_
          rw [HLN.out]
          rintro e w5 ⟨rfl, hb5⟩
          have hr5 := hr4.belowS hb5
          replace hbw := Boxed.belowS hbw hb5
          replace hro := hro.below hb5
          replace HB := Lib.hid (HB.out.trans (hb5.mono HB.out.size))
          have hs5 := hb5.size
          refine hK _ _ (fun _ => hbw.cell) ?_
          clear hr4 hb5
          clear hK K
          refine Rd.seq_float (.bool false) (by simp only [List.getElem?_toArray, List.getElem?_cons_succ, List.getElem?_cons_zero]; rfl) rfl (by rfl) (fun X _ => by go_simp) ?_
          simp only [Act.put, List.setIfInBounds_toArray, List.set_cons_succ, List.set_cons_zero]
          refine Rd.seq_float (.bool false) (by simp only [List.getElem?_toArray, List.getElem?_cons_succ, List.getElem?_cons_zero]; rfl) rfl (by rfl) (fun X _ => by go_simp) ?_
          simp only [Act.put, List.setIfInBounds_toArray, List.set_cons_succ, List.set_cons_zero]
          refine Rd.seq_float (.pointer (some ⟨p, 0, none⟩)) (by simp only [List.getElem?_toArray, List.getElem?_cons_succ, List.getElem?_cons_zero]; rfl) rfl (by rfl) (fun X _ => by go_simp) ?_
          simp only [Act.put, List.setIfInBounds_toArray, List.set_cons_succ, List.set_cons_zero]
          refine Rd.seq_float (.int .i64 (k : Int)) (by simp only [List.getElem?_toArray, List.getElem?_cons_succ, List.getElem?_cons_zero]; rfl) rfl (by rfl) (fun X _ => by go_simp) ?_
          simp only [Act.put, List.setIfInBounds_toArray, List.set_cons_succ, List.set_cons_zero]
          refine Rd.seq_float (.int .i64 (x0 : Int)) (by simp only [List.getElem?_toArray, List.getElem?_cons_succ, List.getElem?_cons_zero]; rfl) rfl (by rfl) (fun X _ => by go_simp) ?_
          simp only [Act.put, List.setIfInBounds_toArray, List.set_cons_succ, List.set_cons_zero]
          refine Rd.seq_move (by simp only [List.getElem?_toArray, List.getElem?_cons_succ, List.getElem?_cons_zero]; rfl) rfl (by rfl) (fun K hK => ?_)
          go_simp
          refine (First_any hr5 (k : Int)).mono ?_
          rw [HFI.out]
          rintro e w6 ⟨rfl, s6⟩
          have hr6 := hr5.sm s6
          replace hbw := Boxed.sm hbw s6
          replace hro := hro.below (s6.below _)
          replace HB := Lib.hid (HB.out.trans (s6.below _))
          have hs6 := s6.size
          refine hK _ _ (fun _ => hbw.cell) ?_
          clear hr5 s6
          clear hK K
          refine Rd.seq_float (.bool false) (by simp only [List.getElem?_toArray, List.getElem?_cons_succ, List.getElem?_cons_zero]; rfl) rfl (by rfl) (fun X _ => by go_simp) ?_
          simp only [Act.put, List.setIfInBounds_toArray, List.set_cons_succ, List.set_cons_zero]
          refine Rd.seq_float (.bool false) (by simp only [List.getElem?_toArray, List.getElem?_cons_succ, List.getElem?_cons_zero]; rfl) rfl (by rfl) (fun X _ => by go_simp) ?_
          simp only [Act.put, List.setIfInBounds_toArray, List.set_cons_succ, List.set_cons_zero]
          refine Rd.seq_float (.bool false) (by simp only [List.getElem?_toArray, List.getElem?_cons_succ, List.getElem?_cons_zero]; rfl) rfl (by rfl) (fun X _ => by go_simp) ?_
          simp only [Act.put, List.setIfInBounds_toArray, List.set_cons_succ, List.set_cons_zero]
          refine Rd.seq_float (.pointer (some ⟨p, 0, none⟩)) (by simp only [List.getElem?_toArray, List.getElem?_cons_succ, List.getElem?_cons_zero]; rfl) rfl (by rfl) (fun X _ => by go_simp) ?_
          simp only [Act.put, List.setIfInBounds_toArray, List.set_cons_succ, List.set_cons_zero]
          refine Rd.seq_float (.int .i64 (k : Int)) (by simp only [List.getElem?_toArray, List.getElem?_cons_succ, List.getElem?_cons_zero]; rfl) rfl (by rfl) (fun X _ => by go_simp) ?_
          simp only [Act.put, List.setIfInBounds_toArray, List.set_cons_succ, List.set_cons_zero]
          refine Rd.seq_float (.int .i64 (x1 : Int)) (by simp only [List.getElem?_toArray, List.getElem?_cons_succ, List.getElem?_cons_zero]; rfl) rfl (by rfl) (fun X _ => by go_simp) ?_
          simp only [Act.put, List.setIfInBounds_toArray, List.set_cons_succ, List.set_cons_zero]
          refine Rd.seq_move (by simp only [List.getElem?_toArray, List.getElem?_cons_succ, List.getElem?_cons_zero]; rfl) rfl (by rfl) (fun K hK => ?_)
          go_simp
          refine (Last_any hr6 (k : Int)).mono ?_
          rw [HLA.out]
          rintro e w7 ⟨rfl, s7⟩
          have hr7 := hr6.sm s7
          replace hbw := Boxed.sm hbw s7
          replace hro := hro.below (s7.below _)
          replace HB := Lib.hid (HB.out.trans (s7.below _))
          have hs7 := s7.size
          refine hK _ _ (fun _ => hbw.cell) ?_
          clear hr6 s7
          clear hK K
          refine Rd.seq_float (.bool false) (by simp only [List.getElem?_toArray, List.getElem?_cons_succ, List.getElem?_cons_zero]; rfl) rfl (by rfl) (fun X _ => by go_simp) ?_
          simp only [Act.put, List.setIfInBounds_toArray, List.set_cons_succ, List.set_cons_zero]
          refine Rd.seq_float (.bool false) (by simp only [List.getElem?_toArray, List.getElem?_cons_succ, List.getElem?_cons_zero]; rfl) rfl (by rfl) (fun X _ => by go_simp) ?_
          simp only [Act.put, List.setIfInBounds_toArray, List.set_cons_succ, List.set_cons_zero]
          refine Rd.seq_end ?_
          have hs8 : wr.heap.size + 1 ≤ w7.heap.size := by omega
          clear hs4 hs5 hs6 hs7
          have hk3 := (Boxed.new w7 3 (.int .i64 0)).alloc (.cells #[.bool true] 4)
          have ho3 := Boxed.new (w7.alloc (.cells #[.int .i64 0] 3)) 4 (.bool true)
          rw [World.size_alloc] at ho3
          have hb8 : Below w7.heap.size w7 ((w7.alloc (.cells #[.int .i64 0] 3)).alloc (.cells #[.bool true] 4)) := ((Below.refl _ w7).alloc (Nat.le_refl _) _).alloc (by simp) _
          have hsz8 : ((w7.alloc (.cells #[.int .i64 0] 3)).alloc (.cells #[.bool true] 4)).heap.size = w7.heap.size + 2 := by simp
          clear hcn
          have HR7 := Lib.hid hr7
          clear hr7
          go_wp2_with fail
          generalize ((w7.alloc (.cells #[.int .i64 0] 3)).alloc (.cells #[.bool true] 4)) = w8 at *
          refine (Nodes_any p (k : Int) w8).mono ?_
          rw [hsz8]
          rintro e w9 ⟨rfl, rfl⟩
          have h91 := (Boxed.new w8 24 (.pointer (some ⟨p, 0, none⟩))).alloc (.cells #[.int .i64 (k : Int)] 3)
          have h92 := Boxed.new (w8.alloc (.cells #[.pointer (some ⟨p, 0, none⟩)] 24)) 3 (.int .i64 (k : Int))
          rw [World.size_alloc] at h92
          rw [hsz8] at h91 h92
          have hb9 : Below w7.heap.size w7 ((w8.alloc (.cells #[.pointer (some ⟨p, 0, none⟩)] 24)).alloc (.cells #[.int .i64 (k : Int)] 3)) := (hb8.alloc (by omega) _).alloc (by simp; omega) _
          have hk9 := (hk3.alloc (.cells #[.pointer (some ⟨p, 0, none⟩)] 24)).alloc (.cells #[.int .i64 (k : Int)] 3)
          have ho9 := (ho3.alloc (.cells #[.pointer (some ⟨p, 0, none⟩)] 24)).alloc (.cells #[.int .i64 (k : Int)] 3)
          generalize (w8.alloc (.cells #[.pointer (some ⟨p, 0, none⟩)] 24)).alloc (.cells #[.int .i64 (k : Int)] 3) = w9 at *
          clear hb8 hsz8 hk3 ho3
          have hbw := Lib.hid hbw
          have hro := Lib.hid hro
          have E := each_29 p g c N (w7.heap.size + 2) (w7.heap.size + 2 + 1) (k : Int) ls (.pointer (some ⟨w7.heap.size + 1, 0, none⟩)) (.pointer (some ⟨w7.heap.size, 0, none⟩)) (.pointer (some ⟨wr.heap.size, 0, none⟩))
            (fun i W => Boxed W w7.heap.size 3 (.int .i64 (i : Int)) ∧ Boxed W (w7.heap.size + 1) 4 (.bool true) ∧ Boxed W (w7.heap.size + 2) 24 (.pointer (some ⟨p, 0, none⟩)) ∧ Boxed W (w7.heap.size + 2 + 1) 3 (.int .i64 (k : Int)) ∧ Below w7.heap.size w7 W) (fun _ _ => False) HR7.out.ok
            (fun i W h => ⟨HR7.out.belowS h.2.2.2.2, h.2.2.1.cell, h.2.2.2.1.cell⟩)
            (fun i W W' h s => ⟨Boxed.sm h.1 s, Boxed.sm h.2.1 s, Boxed.sm h.2.2.1 s, Boxed.sm h.2.2.2.1 s, h.2.2.2.2.trans (s.below _)⟩)
            (fun i W hi h => by
              refine (told_29 B (w7.heap.size + 1) w7.heap.size wr.heap.size i _ (rowI ls (k : Int)) W h.2.1 h.1 (Boxed.belowS hbw.out h.2.2.2.2) (hro.out.below h.2.2.2.2) hi HL64.out (by omega)).mono ?_
              rintro e W' ⟨rfl, rfl⟩
              refine .inl ⟨rfl, ?_, (h.2.1.set (.bool true)).other (by omega) _, (h.2.2.1.other (by omega) _).other (by omega) _, (h.2.2.2.1.other (by omega) _).other (by omega) _, (h.2.2.2.2.trans ((Turn.setCell _ _ _ _).below (by omega))).trans ((Turn.setCell _ _ _ _).below (Nat.le_refl _))⟩
              have := (h.1.other (B' := w7.heap.size + 1) (by omega) (.bool true)).set (.int .i64 ((i : Int) + 1))
              rw [show ((i + 1 : Nat) : Int) = (i : Int) + 1 by omega]
              exact this)
            w9 ⟨hk9, ho9, h91, h92, hb9⟩
          rw [show ((rowI ls (k : Int)).length) = n from HLX.out] at E
          have HE := Lib.hid E
          clear E hk9 ho9 h91 h92 hb9
          go_wp2_with fail
          refine HE.out.mono ?_
          rintro e w10 ⟨⟨vv, rfl⟩, (⟨hk10, ho10, -, -, hb10⟩ | ⟨_, _, hF⟩)⟩
          case inr => exact hF.elim
          have hbw10 := Boxed.belowS hbw.out hb10
          have ck10 := hk10.cell
          have co10 := ho10.cell
          have cw10 := hbw10.cell
          replace HB := Lib.hid (HB.out.trans (hb10.mono HB.out.size))
          clear HE hb10 hk10 ho10 hbw10 hbw hro HR7 hs8
          go_wp2_with fail
          exact ⟨⟨(k : Int) + 1, by omega, by omega, rfl, HB⟩, by simp [intOf]; omega⟩
        · have hn1 : (row ls k).length = 0 := by omega
          have HFI : Hid (hdI (rowI ls (k : Int)) = -1) := Lib.hid (by rw [HRI.out, HHD.out, if_neg hn0])
          have HLA : Hid (laI (rowI ls (k : Int)) = -1) := Lib.hid (by rw [HRI.out, HLD.out, if_neg hn0])
          have HLX : Hid ((rowI ls (k : Int)).length = 0) := Lib.hid (by rw [HRI.out]; exact hn1)
          have HLN : Hid (((rowI ls (k : Int)).length : Int) = 0) := Lib.hid (by rw [HRI.out, hn1]; rfl)
          clear HHD HLD HRL hro0 hb2 hb20 hcd hcdb hn0
          generalize (row ls k).length = n at *
          subst hn1
          go_wp2_with fail
          generalize wr.alloc (.cells #[.slice a' 0 c'] 43) = w3 at *
          clear hc0 hc1 hc02 hc12 hcd2 hfw
          have hr4 : Ring w3.drew p g c N ls := (hr1.belowS HB.out).sm (Same.drew w3)
          refine Rd.region (fun X => X.cell? ⟨wr.heap.size, 0, none⟩ = some (.slice a' 0 c')) 20 [0, 1, 3, 4, 5, 6, 7, 8, 10, 11, 12, 13, 14, 15, 17, 18, 19] [0, 1, 3, 4, 2, 5, 6, 7, 8, 10, 9, 11, 12, 13, 14, 15, 17, 16, 18, 19] (by kernel_rfl) (by kernel_rfl) (by kernel_rfl) (by kernel_rfl) rfl (Boxed.sm hbw (Same.drew w3)).cell ?_
          replace hbw := Boxed.sm hbw (Same.drew w3)
          replace hro := hro.below ((Same.drew w3).below _)
          replace HB := Lib.hid (HB.out.trans ((Same.drew w3).below _))
          have hs4 : wr.heap.size + 1 ≤ w3.drew.heap.size := by rw [(Same.drew w3).size]; exact hs3
          clear hcw hs3
          generalize w3.drew = w4 at *
          refine Rd.seq_float (.pointer (some ⟨p, 0, none⟩)) (by simp only [List.getElem?_toArray, List.getElem?_cons_zero]; rfl) rfl (by rfl) (fun X _ => by go_simp) ?_
          simp only [Act.put, List.setIfInBounds_toArray, List.set_cons_succ, List.set_cons_zero]
          refine Rd.seq_float (.int .i64 (k : Int)) (by simp only [List.getElem?_toArray, List.getElem?_cons_succ, List.getElem?_cons_zero]; rfl) rfl (by rfl) (fun X _ => by go_simp) ?_
          simp only [Act.put, List.setIfInBounds_toArray, List.set_cons_succ, List.set_cons_zero]
          refine Rd.seq_float (.slice a' 0 c') (by simp only [List.getElem?_toArray, List.getElem?_cons_succ, List.getElem?_cons_zero]; rfl) rfl (by rfl) (fun X hX => by have e1 := hX; go_simp) ?_
          simp only [Act.put, List.setIfInBounds_toArray, List.set_cons_succ, List.set_cons_zero]
          refine Rd.seq_float (.int .i64 (0 : Int)) (by simp only [List.getElem?_toArray, List.getElem?_cons_succ, List.getElem?_cons_zero]; rfl) rfl (by rfl) (fun X _ => by go_simp) ?_
          simp only [Act.put, List.setIfInBounds_toArray, List.set_cons_succ, List.set_cons_zero]
          refine Rd.seq_move (by simp only [List.getElem?_toArray, List.getElem?_cons_succ, List.getElem?_cons_zero]; rfl) rfl (by rfl) (fun K hK => ?_)
          go_simp
          refine (Len_any p g c N (k : Int) ls w4 hr4).mono ?_
          rw [HLN.out]
          rintro e w5 ⟨rfl, hb5⟩
          have hr5 := hr4.belowS hb5
          replace hbw := Boxed.belowS hbw hb5
          replace hro := hro.below hb5
          replace HB := Lib.hid (HB.out.trans (hb5.mono HB.out.size))
          have hs5 := hb5.size
          refine hK _ _ (fun _ => hbw.cell) ?_
          clear hr4 hb5
          clear hK K
          refine Rd.seq_float (.bool false) (by simp only [List.getElem?_toArray, List.getElem?_cons_succ, List.getElem?_cons_zero]; rfl) rfl (by rfl) (fun X _ => by go_simp) ?_
          simp only [Act.put, List.setIfInBounds_toArray, List.set_cons_succ, List.set_cons_zero]
          refine Rd.seq_float (.bool false) (by simp only [List.getElem?_toArray, List.getElem?_cons_succ, List.getElem?_cons_zero]; rfl) rfl (by rfl) (fun X _ => by go_simp) ?_
          simp only [Act.put, List.setIfInBounds_toArray, List.set_cons_succ, List.set_cons_zero]
          refine Rd.seq_float (.pointer (some ⟨p, 0, none⟩)) (by simp only [List.getElem?_toArray, List.getElem?_cons_succ, List.getElem?_cons_zero]; rfl) rfl (by rfl) (fun X _ => by go_simp) ?_
          simp only [Act.put, List.setIfInBounds_toArray, List.set_cons_succ, List.set_cons_zero]
          refine Rd.seq_float (.int .i64 (k : Int)) (by simp only [List.getElem?_toArray, List.getElem?_cons_succ, List.getElem?_cons_zero]; rfl) rfl (by rfl) (fun X _ => by go_simp) ?_
          simp only [Act.put, List.setIfInBounds_toArray, List.set_cons_succ, List.set_cons_zero]
          refine Rd.seq_float (.int .i64 (-1)) (by simp only [List.getElem?_toArray, List.getElem?_cons_succ, List.getElem?_cons_zero]; rfl) rfl (by rfl) (fun X _ => by go_simp) ?_
          simp only [Act.put, List.setIfInBounds_toArray, List.set_cons_succ, List.set_cons_zero]
          refine Rd.seq_move (by simp only [List.getElem?_toArray, List.getElem?_cons_succ, List.getElem?_cons_zero]; rfl) rfl (by rfl) (fun K hK => ?_)
          go_simp
          refine (First_any hr5 (k : Int)).mono ?_
          rw [HFI.out]
          rintro e w6 ⟨rfl, s6⟩
          have hr6 := hr5.sm s6
          replace hbw := Boxed.sm hbw s6
          replace hro := hro.below (s6.below _)
          replace HB := Lib.hid (HB.out.trans (s6.below _))
          have hs6 := s6.size
          refine hK _ _ (fun _ => hbw.cell) ?_
          clear hr5 s6
          clear hK K
          refine Rd.seq_float (.bool false) (by simp only [List.getElem?_toArray, List.getElem?_cons_succ, List.getElem?_cons_zero]; rfl) rfl (by rfl) (fun X _ => by go_simp) ?_
          simp only [Act.put, List.setIfInBounds_toArray, List.set_cons_succ, List.set_cons_zero]
          refine Rd.seq_float (.bool false) (by simp only [List.getElem?_toArray, List.getElem?_cons_succ, List.getElem?_cons_zero]; rfl) rfl (by rfl) (fun X _ => by go_simp) ?_
          simp only [Act.put, List.setIfInBounds_toArray, List.set_cons_succ, List.set_cons_zero]
          refine Rd.seq_float (.bool false) (by simp only [List.getElem?_toArray, List.getElem?_cons_succ, List.getElem?_cons_zero]; rfl) rfl (by rfl) (fun X _ => by go_simp) ?_
          simp only [Act.put, List.setIfInBounds_toArray, List.set_cons_succ, List.set_cons_zero]
          refine Rd.seq_float (.pointer (some ⟨p, 0, none⟩)) (by simp only [List.getElem?_toArray, List.getElem?_cons_succ, List.getElem?_cons_zero]; rfl) rfl (by rfl) (fun X _ => by go_simp) ?_
          simp only [Act.put, List.setIfInBounds_toArray, List.set_cons_succ, List.set_cons_zero]
          refine Rd.seq_float (.int .i64 (k : Int)) (by simp only [List.getElem?_toArray, List.getElem?_cons_succ, List.getElem?_cons_zero]; rfl) rfl (by rfl) (fun X _ => by go_simp) ?_
          simp only [Act.put, List.setIfInBounds_toArray, List.set_cons_succ, List.set_cons_zero]
          refine Rd.seq_float (.int .i64 (-1)) (by simp only [List.getElem?_toArray, List.getElem?_cons_succ, List.getElem?_cons_zero]; rfl) rfl (by rfl) (fun X _ => by go_simp) ?_
          simp only [Act.put, List.setIfInBounds_toArray, List.set_cons_succ, List.set_cons_zero]
          refine Rd.seq_move (by simp only [List.getElem?_toArray, List.getElem?_cons_succ, List.getElem?_cons_zero]; rfl) rfl (by rfl) (fun K hK => ?_)
          go_simp
          refine (Last_any hr6 (k : Int)).mono ?_
          rw [HLA.out]
          rintro e w7 ⟨rfl, s7⟩
          have hr7 := hr6.sm s7
          replace hbw := Boxed.sm hbw s7
          replace hro := hro.below (s7.below _)
          replace HB := Lib.hid (HB.out.trans (s7.below _))
          have hs7 := s7.size
          refine hK _ _ (fun _ => hbw.cell) ?_
          clear hr6 s7
          clear hK K
          refine Rd.seq_float (.bool false) (by simp only [List.getElem?_toArray, List.getElem?_cons_succ, List.getElem?_cons_zero]; rfl) rfl (by rfl) (fun X _ => by go_simp) ?_
          simp only [Act.put, List.setIfInBounds_toArray, List.set_cons_succ, List.set_cons_zero]
          refine Rd.seq_float (.bool false) (by simp only [List.getElem?_toArray, List.getElem?_cons_succ, List.getElem?_cons_zero]; rfl) rfl (by rfl) (fun X _ => by go_simp) ?_
          simp only [Act.put, List.setIfInBounds_toArray, List.set_cons_succ, List.set_cons_zero]
          refine Rd.seq_end ?_
          have hs8 : wr.heap.size + 1 ≤ w7.heap.size := by omega
          clear hs4 hs5 hs6 hs7
          have hk3 := (Boxed.new w7 3 (.int .i64 0)).alloc (.cells #[.bool true] 4)
          have ho3 := Boxed.new (w7.alloc (.cells #[.int .i64 0] 3)) 4 (.bool true)
          rw [World.size_alloc] at ho3
          have hb8 : Below w7.heap.size w7 ((w7.alloc (.cells #[.int .i64 0] 3)).alloc (.cells #[.bool true] 4)) := ((Below.refl _ w7).alloc (Nat.le_refl _) _).alloc (by simp) _
          have hsz8 : ((w7.alloc (.cells #[.int .i64 0] 3)).alloc (.cells #[.bool true] 4)).heap.size = w7.heap.size + 2 := by simp
          clear hcn
          have HR7 := Lib.hid hr7
          clear hr7
          go_wp2_with fail
          generalize ((w7.alloc (.cells #[.int .i64 0] 3)).alloc (.cells #[.bool true] 4)) = w8 at *
          refine (Nodes_any p (k : Int) w8).mono ?_
          rw [hsz8]
          rintro e w9 ⟨rfl, rfl⟩
          have h91 := (Boxed.new w8 24 (.pointer (some ⟨p, 0, none⟩))).alloc (.cells #[.int .i64 (k : Int)] 3)
          have h92 := Boxed.new (w8.alloc (.cells #[.pointer (some ⟨p, 0, none⟩)] 24)) 3 (.int .i64 (k : Int))
          rw [World.size_alloc] at h92
          rw [hsz8] at h91 h92
          have hb9 : Below w7.heap.size w7 ((w8.alloc (.cells #[.pointer (some ⟨p, 0, none⟩)] 24)).alloc (.cells #[.int .i64 (k : Int)] 3)) := (hb8.alloc (by omega) _).alloc (by simp; omega) _
          have hk9 := (hk3.alloc (.cells #[.pointer (some ⟨p, 0, none⟩)] 24)).alloc (.cells #[.int .i64 (k : Int)] 3)
          have ho9 := (ho3.alloc (.cells #[.pointer (some ⟨p, 0, none⟩)] 24)).alloc (.cells #[.int .i64 (k : Int)] 3)
          generalize (w8.alloc (.cells #[.pointer (some ⟨p, 0, none⟩)] 24)).alloc (.cells #[.int .i64 (k : Int)] 3) = w9 at *
          clear hb8 hsz8 hk3 ho3
          have hbw := Lib.hid hbw
          have hro := Lib.hid hro
          have E := each_29 p g c N (w7.heap.size + 2) (w7.heap.size + 2 + 1) (k : Int) ls (.pointer (some ⟨w7.heap.size + 1, 0, none⟩)) (.pointer (some ⟨w7.heap.size, 0, none⟩)) (.pointer (some ⟨wr.heap.size, 0, none⟩))
            (fun i W => Boxed W w7.heap.size 3 (.int .i64 (i : Int)) ∧ Boxed W (w7.heap.size + 1) 4 (.bool true) ∧ Boxed W (w7.heap.size + 2) 24 (.pointer (some ⟨p, 0, none⟩)) ∧ Boxed W (w7.heap.size + 2 + 1) 3 (.int .i64 (k : Int)) ∧ Below w7.heap.size w7 W) (fun _ _ => False) HR7.out.ok
            (fun i W h => ⟨HR7.out.belowS h.2.2.2.2, h.2.2.1.cell, h.2.2.2.1.cell⟩)
            (fun i W W' h s => ⟨Boxed.sm h.1 s, Boxed.sm h.2.1 s, Boxed.sm h.2.2.1 s, Boxed.sm h.2.2.2.1 s, h.2.2.2.2.trans (s.below _)⟩)
            (fun i W hi h => by
              refine (told_29 B (w7.heap.size + 1) w7.heap.size wr.heap.size i _ (rowI ls (k : Int)) W h.2.1 h.1 (Boxed.belowS hbw.out h.2.2.2.2) (hro.out.below h.2.2.2.2) hi HL64.out (by omega)).mono ?_
              rintro e W' ⟨rfl, rfl⟩
              refine .inl ⟨rfl, ?_, (h.2.1.set (.bool true)).other (by omega) _, (h.2.2.1.other (by omega) _).other (by omega) _, (h.2.2.2.1.other (by omega) _).other (by omega) _, (h.2.2.2.2.trans ((Turn.setCell _ _ _ _).below (by omega))).trans ((Turn.setCell _ _ _ _).below (Nat.le_refl _))⟩
              have := (h.1.other (B' := w7.heap.size + 1) (by omega) (.bool true)).set (.int .i64 ((i : Int) + 1))
              rw [show ((i + 1 : Nat) : Int) = (i : Int) + 1 by omega]
              exact this)
            w9 ⟨hk9, ho9, h91, h92, hb9⟩
          rw [show ((rowI ls (k : Int)).length) = 0 from HLX.out] at E
          have HE := Lib.hid E
          clear E hk9 ho9 h91 h92 hb9
          go_wp2_with fail
          refine HE.out.mono ?_
          rintro e w10 ⟨⟨vv, rfl⟩, (⟨hk10, ho10, -, -, hb10⟩ | ⟨_, _, hF⟩)⟩
          case inr => exact hF.elim
          have hbw10 := Boxed.belowS hbw.out hb10
          have ck10 := hk10.cell
          have co10 := ho10.cell
          have cw10 := hbw10.cell
          replace HB := Lib.hid (HB.out.trans (hb10.mono HB.out.size))
          clear HE hb10 hk10 ho10 hbw10 hbw hro HR7 hs8
          go_wp2_with fail
          exact ⟨⟨(k : Int) + 1, by omega, by omega, rfl, HB⟩, by simp [intOf]; omega⟩
      · have HX : Hid (rowI ls z = []) := Lib.hid (by
          unfold rowI
          split
          · simp [row, List.getD, List.getElem?_eq_none (show ls.length ≤ z.toNat by omega)]
          · rfl)
        have HLX : Hid ((rowI ls z).length = 0) := Lib.hid (by rw [HX.out]; rfl)
        have HLN : Hid (((rowI ls z).length : Int) = 0) := Lib.hid (by rw [HX.out]; rfl)
        have HFI : Hid (hdI (rowI ls z) = -1) := Lib.hid (by rw [HX.out]; rfl)
        have HLA : Hid (laI (rowI ls z) = -1) := Lib.hid (by rw [HX.out]; rfl)
        have hro : RowO (wr.alloc (.cells #[.slice none 0 0] 43)) B (.slice none 0 0) (rowI ls z) := by rw [HX.out]; exact RowV.nil _ _ _
        have hbw := hbw0
        have hb2 := (Below.refl wr.heap.size wr).alloc (Nat.le_refl _) (.cells #[.slice none 0 0] 43)
        replace HB := Lib.hid (HB.out.trans (hb2.mono HB.out.size))
        have hc0' := (hx.belowS HB.out).c0
        have hc1' := (hx.belowS HB.out).c1
        have hs3 : wr.heap.size + 1 ≤ (wr.alloc (.cells #[.slice none 0 0] 43)).heap.size := by simp
        have hz3 : z < 0 ∨ (ls.length : Int) ≤ z := by omega
        have hcw := hcn
        clear hin hb2 hbw0
        rcases hz3 with hz3 | hz3
        · go_wp2_with fail
          generalize wr.alloc (.cells #[.slice none 0 0] 43) = w3 at *
          clear hc0 hc1 hc0' hc1'
          have hr4 : Ring w3.drew p g c N ls := (hr1.belowS HB.out).sm (Same.drew w3)
          refine Rd.region (fun X => X.cell? ⟨wr.heap.size, 0, none⟩ = some (.slice none 0 0)) 20 [0, 1, 3, 4, 5, 6, 7, 8, 10, 11, 12, 13, 14, 15, 17, 18, 19] [0, 1, 3, 4, 2, 5, 6, 7, 8, 10, 9, 11, 12, 13, 14, 15, 17, 16, 18, 19] (by kernel_rfl) (by kernel_rfl) (by kernel_rfl) (by kernel_rfl) rfl (Boxed.sm hbw (Same.drew w3)).cell ?_
          replace hbw := Boxed.sm hbw (Same.drew w3)
          replace hro := hro.below ((Same.drew w3).below _)
          replace HB := Lib.hid (HB.out.trans ((Same.drew w3).below _))
          have hs4 : wr.heap.size + 1 ≤ w3.drew.heap.size := by rw [(Same.drew w3).size]; exact hs3
          clear hcw hs3
          generalize w3.drew = w4 at *
          refine Rd.seq_float (.pointer (some ⟨p, 0, none⟩)) (by simp only [List.getElem?_toArray, List.getElem?_cons_zero]; rfl) rfl (by rfl) (fun X _ => by go_simp) ?_
          simp only [Act.put, List.setIfInBounds_toArray, List.set_cons_succ, List.set_cons_zero]
          refine Rd.seq_float (.int .i64 z) (by simp only [List.getElem?_toArray, List.getElem?_cons_succ, List.getElem?_cons_zero]; rfl) rfl (by rfl) (fun X _ => by go_simp) ?_
          simp only [Act.put, List.setIfInBounds_toArray, List.set_cons_succ, List.set_cons_zero]
          refine Rd.seq_float (.slice none 0 0) (by simp only [List.getElem?_toArray, List.getElem?_cons_succ, List.getElem?_cons_zero]; rfl) rfl (by rfl) (fun X hX => by have e1 := hX; go_simp) ?_
          simp only [Act.put, List.setIfInBounds_toArray, List.set_cons_succ, List.set_cons_zero]
          refine Rd.seq_float (.int .i64 (0 : Int)) (by simp only [List.getElem?_toArray, List.getElem?_cons_succ, List.getElem?_cons_zero]; rfl) rfl (by rfl) (fun X _ => by go_simp) ?_
          simp only [Act.put, List.setIfInBounds_toArray, List.set_cons_succ, List.set_cons_zero]
          refine Rd.seq_move (by simp only [List.getElem?_toArray, List.getElem?_cons_succ, List.getElem?_cons_zero]; rfl) rfl (by rfl) (fun K hK => ?_)
          go_simp
          refine (Len_any p g c N z ls w4 hr4).mono ?_
          rw [HLN.out]
          rintro e w5 ⟨rfl, hb5⟩
          have hr5 := hr4.belowS hb5
          replace hbw := Boxed.belowS hbw hb5
          replace hro := hro.below hb5
          replace HB := Lib.hid (HB.out.trans (hb5.mono HB.out.size))
          have hs5 := hb5.size
          refine hK _ _ (fun _ => hbw.cell) ?_
          clear hr4 hb5
          clear hK K
          refine Rd.seq_float (.bool false) (by simp only [List.getElem?_toArray, List.getElem?_cons_succ, List.getElem?_cons_zero]; rfl) rfl (by rfl) (fun X _ => by go_simp) ?_
          simp only [Act.put, List.setIfInBounds_toArray, List.set_cons_succ, List.set_cons_zero]
          refine Rd.seq_float (.bool false) (by simp only [List.getElem?_toArray, List.getElem?_cons_succ, List.getElem?_cons_zero]; rfl) rfl (by rfl) (fun X _ => by go_simp) ?_
          simp only [Act.put, List.setIfInBounds_toArray, List.set_cons_succ, List.set_cons_zero]
          refine Rd.seq_float (.pointer (some ⟨p, 0, none⟩)) (by simp only [List.getElem?_toArray, List.getElem?_cons_succ, List.getElem?_cons_zero]; rfl) rfl (by rfl) (fun X _ => by go_simp) ?_
          simp only [Act.put, List.setIfInBounds_toArray, List.set_cons_succ, List.set_cons_zero]
          refine Rd.seq_float (.int .i64 z) (by simp only [List.getElem?_toArray, List.getElem?_cons_succ, List.getElem?_cons_zero]; rfl) rfl (by rfl) (fun X _ => by go_simp) ?_
          simp only [Act.put, List.setIfInBounds_toArray, List.set_cons_succ, List.set_cons_zero]
          refine Rd.seq_float (.int .i64 (-1)) (by simp only [List.getElem?_toArray, List.getElem?_cons_succ, List.getElem?_cons_zero]; rfl) rfl (by rfl) (fun X _ => by go_simp) ?_
          simp only [Act.put, List.setIfInBounds_toArray, List.set_cons_succ, List.set_cons_zero]
          refine Rd.seq_move (by simp only [List.getElem?_toArray, List.getElem?_cons_succ, List.getElem?_cons_zero]; rfl) rfl (by rfl) (fun K hK => ?_)
          go_simp
          refine (First_any hr5 z).mono ?_
          rw [HFI.out]
          rintro e w6 ⟨rfl, s6⟩
          have hr6 := hr5.sm s6
          replace hbw := Boxed.sm hbw s6
          replace hro := hro.below (s6.below _)
          replace HB := Lib.hid (HB.out.trans (s6.below _))
          have hs6 := s6.size
          refine hK _ _ (fun _ => hbw.cell) ?_
          clear hr5 s6
          clear hK K
          refine Rd.seq_float (.bool false) (by simp only [List.getElem?_toArray, List.getElem?_cons_succ, List.getElem?_cons_zero]; rfl) rfl (by rfl) (fun X _ => by go_simp) ?_
          simp only [Act.put, List.setIfInBounds_toArray, List.set_cons_succ, List.set_cons_zero]
          refine Rd.seq_float (.bool false) (by simp only [List.getElem?_toArray, List.getElem?_cons_succ, List.getElem?_cons_zero]; rfl) rfl (by rfl) (fun X _ => by go_simp) ?_
          simp only [Act.put, List.setIfInBounds_toArray, List.set_cons_succ, List.set_cons_zero]
          refine Rd.seq_float (.bool false) (by simp only [List.getElem?_toArray, List.getElem?_cons_succ, List.getElem?_cons_zero]; rfl) rfl (by rfl) (fun X _ => by go_simp) ?_
          simp only [Act.put, List.setIfInBounds_toArray, List.set_cons_succ, List.set_cons_zero]
          refine Rd.seq_float (.pointer (some ⟨p, 0, none⟩)) (by simp only [List.getElem?_toArray, List.getElem?_cons_succ, List.getElem?_cons_zero]; rfl) rfl (by rfl) (fun X _ => by go_simp) ?_
          simp only [Act.put, List.setIfInBounds_toArray, List.set_cons_succ, List.set_cons_zero]
          refine Rd.seq_float (.int .i64 z) (by simp only [List.getElem?_toArray, List.getElem?_cons_succ, List.getElem?_cons_zero]; rfl) rfl (by rfl) (fun X _ => by go_simp) ?_
          simp only [Act.put, List.setIfInBounds_toArray, List.set_cons_succ, List.set_cons_zero]
          refine Rd.seq_float (.int .i64 (-1)) (by simp only [List.getElem?_toArray, List.getElem?_cons_succ, List.getElem?_cons_zero]; rfl) rfl (by rfl) (fun X _ => by go_simp) ?_
          simp only [Act.put, List.setIfInBounds_toArray, List.set_cons_succ, List.set_cons_zero]
          refine Rd.seq_move (by simp only [List.getElem?_toArray, List.getElem?_cons_succ, List.getElem?_cons_zero]; rfl) rfl (by rfl) (fun K hK => ?_)
          go_simp
          refine (Last_any hr6 z).mono ?_
          rw [HLA.out]
          rintro e w7 ⟨rfl, s7⟩
          have hr7 := hr6.sm s7
          replace hbw := Boxed.sm hbw s7
          replace hro := hro.below (s7.below _)
          replace HB := Lib.hid (HB.out.trans (s7.below _))
          have hs7 := s7.size
          refine hK _ _ (fun _ => hbw.cell) ?_
          clear hr6 s7
          clear hK K
          refine Rd.seq_float (.bool false) (by simp only [List.getElem?_toArray, List.getElem?_cons_succ, List.getElem?_cons_zero]; rfl) rfl (by rfl) (fun X _ => by go_simp) ?_
          simp only [Act.put, List.setIfInBounds_toArray, List.set_cons_succ, List.set_cons_zero]
          refine Rd.seq_float (.bool false) (by simp only [List.getElem?_toArray, List.getElem?_cons_succ, List.getElem?_cons_zero]; rfl) rfl (by rfl) (fun X _ => by go_simp) ?_
          simp only [Act.put, List.setIfInBounds_toArray, List.set_cons_succ, List.set_cons_zero]
          refine Rd.seq_end ?_
          have hs8 : wr.heap.size + 1 ≤ w7.heap.size := by omega
          clear hs4 hs5 hs6 hs7
          have hk3 := (Boxed.new w7 3 (.int .i64 0)).alloc (.cells #[.bool true] 4)
          have ho3 := Boxed.new (w7.alloc (.cells #[.int .i64 0] 3)) 4 (.bool true)
          rw [World.size_alloc] at ho3
          have hb8 : Below w7.heap.size w7 ((w7.alloc (.cells #[.int .i64 0] 3)).alloc (.cells #[.bool true] 4)) := ((Below.refl _ w7).alloc (Nat.le_refl _) _).alloc (by simp) _
          have hsz8 : ((w7.alloc (.cells #[.int .i64 0] 3)).alloc (.cells #[.bool true] 4)).heap.size = w7.heap.size + 2 := by simp
          clear hcn
          have HR7 := Lib.hid hr7
          clear hr7
          go_wp2_with fail
          generalize ((w7.alloc (.cells #[.int .i64 0] 3)).alloc (.cells #[.bool true] 4)) = w8 at *
          refine (Nodes_any p z w8).mono ?_
          rw [hsz8]
          rintro e w9 ⟨rfl, rfl⟩
          have h91 := (Boxed.new w8 24 (.pointer (some ⟨p, 0, none⟩))).alloc (.cells #[.int .i64 z] 3)
          have h92 := Boxed.new (w8.alloc (.cells #[.pointer (some ⟨p, 0, none⟩)] 24)) 3 (.int .i64 z)
          rw [World.size_alloc] at h92
          rw [hsz8] at h91 h92
          have hb9 : Below w7.heap.size w7 ((w8.alloc (.cells #[.pointer (some ⟨p, 0, none⟩)] 24)).alloc (.cells #[.int .i64 z] 3)) := (hb8.alloc (by omega) _).alloc (by simp; omega) _
          have hk9 := (hk3.alloc (.cells #[.pointer (some ⟨p, 0, none⟩)] 24)).alloc (.cells #[.int .i64 z] 3)
          have ho9 := (ho3.alloc (.cells #[.pointer (some ⟨p, 0, none⟩)] 24)).alloc (.cells #[.int .i64 z] 3)
          generalize (w8.alloc (.cells #[.pointer (some ⟨p, 0, none⟩)] 24)).alloc (.cells #[.int .i64 z] 3) = w9 at *
          clear hb8 hsz8 hk3 ho3
          have hbw := Lib.hid hbw
          have hro := Lib.hid hro
          have E := each_29 p g c N (w7.heap.size + 2) (w7.heap.size + 2 + 1) z ls (.pointer (some ⟨w7.heap.size + 1, 0, none⟩)) (.pointer (some ⟨w7.heap.size, 0, none⟩)) (.pointer (some ⟨wr.heap.size, 0, none⟩))
            (fun i W => Boxed W w7.heap.size 3 (.int .i64 (i : Int)) ∧ Boxed W (w7.heap.size + 1) 4 (.bool true) ∧ Boxed W (w7.heap.size + 2) 24 (.pointer (some ⟨p, 0, none⟩)) ∧ Boxed W (w7.heap.size + 2 + 1) 3 (.int .i64 z) ∧ Below w7.heap.size w7 W) (fun _ _ => False) HR7.out.ok
            (fun i W h => ⟨HR7.out.belowS h.2.2.2.2, h.2.2.1.cell, h.2.2.2.1.cell⟩)
            (fun i W W' h s => ⟨Boxed.sm h.1 s, Boxed.sm h.2.1 s, Boxed.sm h.2.2.1 s, Boxed.sm h.2.2.2.1 s, h.2.2.2.2.trans (s.below _)⟩)
            (fun i W hi h => by
              refine (told_29 B (w7.heap.size + 1) w7.heap.size wr.heap.size i _ (rowI ls z) W h.2.1 h.1 (Boxed.belowS hbw.out h.2.2.2.2) (hro.out.below h.2.2.2.2) hi HL64.out (by omega)).mono ?_
              rintro e W' ⟨rfl, rfl⟩
              refine .inl ⟨rfl, ?_, (h.2.1.set (.bool true)).other (by omega) _, (h.2.2.1.other (by omega) _).other (by omega) _, (h.2.2.2.1.other (by omega) _).other (by omega) _, (h.2.2.2.2.trans ((Turn.setCell _ _ _ _).below (by omega))).trans ((Turn.setCell _ _ _ _).below (Nat.le_refl _))⟩
              have := (h.1.other (B' := w7.heap.size + 1) (by omega) (.bool true)).set (.int .i64 ((i : Int) + 1))
              rw [show ((i + 1 : Nat) : Int) = (i : Int) + 1 by omega]
              exact this)
            w9 ⟨hk9, ho9, h91, h92, hb9⟩
          rw [show ((rowI ls z).length) = 0 from HLX.out] at E
          have HE := Lib.hid E
          clear E hk9 ho9 h91 h92 hb9
          go_wp2_with fail
          refine HE.out.mono ?_
          rintro e w10 ⟨⟨vv, rfl⟩, (⟨hk10, ho10, -, -, hb10⟩ | ⟨_, _, hF⟩)⟩
          case inr => exact hF.elim
          have hbw10 := Boxed.belowS hbw.out hb10
          have ck10 := hk10.cell
          have co10 := ho10.cell
          have cw10 := hbw10.cell
          replace HB := Lib.hid (HB.out.trans (hb10.mono HB.out.size))
          clear HE hb10 hk10 ho10 hbw10 hbw hro HR7 hs8
          go_wp2_with fail
          exact ⟨⟨z + 1, by omega, by omega, rfl, HB⟩, by simp [intOf]; omega⟩
        · go_wp2_with fail
          generalize wr.alloc (.cells #[.slice none 0 0] 43) = w3 at *
          clear hc0 hc1 hc0' hc1'
          have hr4 : Ring w3.drew p g c N ls := (hr1.belowS HB.out).sm (Same.drew w3)
          refine Rd.region (fun X => X.cell? ⟨wr.heap.size, 0, none⟩ = some (.slice none 0 0)) 20 [0, 1, 3, 4, 5, 6, 7, 8, 10, 11, 12, 13, 14, 15, 17, 18, 19] [0, 1, 3, 4, 2, 5, 6, 7, 8, 10, 9, 11, 12, 13, 14, 15, 17, 16, 18, 19] (by kernel_rfl) (by kernel_rfl) (by kernel_rfl) (by kernel_rfl) rfl (Boxed.sm hbw (Same.drew w3)).cell ?_
          replace hbw := Boxed.sm hbw (Same.drew w3)
          replace hro := hro.below ((Same.drew w3).below _)
          replace HB := Lib.hid (HB.out.trans ((Same.drew w3).below _))
          have hs4 : wr.heap.size + 1 ≤ w3.drew.heap.size := by rw [(Same.drew w3).size]; exact hs3
          clear hcw hs3
          generalize w3.drew = w4 at *
          refine Rd.seq_float (.pointer (some ⟨p, 0, none⟩)) (by simp only [List.getElem?_toArray, List.getElem?_cons_zero]; rfl) rfl (by rfl) (fun X _ => by go_simp) ?_
          simp only [Act.put, List.setIfInBounds_toArray, List.set_cons_succ, List.set_cons_zero]
          refine Rd.seq_float (.int .i64 z) (by simp only [List.getElem?_toArray, List.getElem?_cons_succ, List.getElem?_cons_zero]; rfl) rfl (by rfl) (fun X _ => by go_simp) ?_
          simp only [Act.put, List.setIfInBounds_toArray, List.set_cons_succ, List.set_cons_zero]
          refine Rd.seq_float (.slice none 0 0) (by simp only [List.getElem?_toArray, List.getElem?_cons_succ, List.getElem?_cons_zero]; rfl) rfl (by rfl) (fun X hX => by have e1 := hX; go_simp) ?_
          simp only [Act.put, List.setIfInBounds_toArray, List.set_cons_succ, List.set_cons_zero]
          refine Rd.seq_float (.int .i64 (0 : Int)) (by simp only [List.getElem?_toArray, List.getElem?_cons_succ, List.getElem?_cons_zero]; rfl) rfl (by rfl) (fun X _ => by go_simp) ?_
          simp only [Act.put, List.setIfInBounds_toArray, List.set_cons_succ, List.set_cons_zero]
          refine Rd.seq_move (by simp only [List.getElem?_toArray, List.getElem?_cons_succ, List.getElem?_cons_zero]; rfl) rfl (by rfl) (fun K hK => ?_)
          go_simp
          refine (Len_any p g c N z ls w4 hr4).mono ?_
          rw [HLN.out]
          rintro e w5 ⟨rfl, hb5⟩
          have hr5 := hr4.belowS hb5
          replace hbw := Boxed.belowS hbw hb5
          replace hro := hro.below hb5
          replace HB := Lib.hid (HB.out.trans (hb5.mono HB.out.size))
          have hs5 := hb5.size
          refine hK _ _ (fun _ => hbw.cell) ?_
          clear hr4 hb5
          clear hK K
          refine Rd.seq_float (.bool false) (by simp only [List.getElem?_toArray, List.getElem?_cons_succ, List.getElem?_cons_zero]; rfl) rfl (by rfl) (fun X _ => by go_simp) ?_
          simp only [Act.put, List.setIfInBounds_toArray, List.set_cons_succ, List.set_cons_zero]
          refine Rd.seq_float (.bool false) (by simp only [List.getElem?_toArray, List.getElem?_cons_succ, List.getElem?_cons_zero]; rfl) rfl (by rfl) (fun X _ => by go_simp) ?_
          simp only [Act.put, List.setIfInBounds_toArray, List.set_cons_succ, List.set_cons_zero]
          refine Rd.seq_float (.pointer (some ⟨p, 0, none⟩)) (by simp only [List.getElem?_toArray, List.getElem?_cons_succ, List.getElem?_cons_zero]; rfl) rfl (by rfl) (fun X _ => by go_simp) ?_
          simp only [Act.put, List.setIfInBounds_toArray, List.set_cons_succ, List.set_cons_zero]
          refine Rd.seq_float (.int .i64 z) (by simp only [List.getElem?_toArray, List.getElem?_cons_succ, List.getElem?_cons_zero]; rfl) rfl (by rfl) (fun X _ => by go_simp) ?_
          simp only [Act.put, List.setIfInBounds_toArray, List.set_cons_succ, List.set_cons_zero]
          refine Rd.seq_float (.int .i64 (-1)) (by simp only [List.getElem?_toArray, List.getElem?_cons_succ, List.getElem?_cons_zero]; rfl) rfl (by rfl) (fun X _ => by go_simp) ?_
          simp only [Act.put, List.setIfInBounds_toArray, List.set_cons_succ, List.set_cons_zero]
          refine Rd.seq_move (by simp only [List.getElem?_toArray, List.getElem?_cons_succ, List.getElem?_cons_zero]; rfl) rfl (by rfl) (fun K hK => ?_)
          go_simp
          refine (First_any hr5 z).mono ?_
          rw [HFI.out]
          rintro e w6 ⟨rfl, s6⟩
          have hr6 := hr5.sm s6
          replace hbw := Boxed.sm hbw s6
          replace hro := hro.below (s6.below _)
          replace HB := Lib.hid (HB.out.trans (s6.below _))
          have hs6 := s6.size
          refine hK _ _ (fun _ => hbw.cell) ?_
          clear hr5 s6
          clear hK K
          refine Rd.seq_float (.bool false) (by simp only [List.getElem?_toArray, List.getElem?_cons_succ, List.getElem?_cons_zero]; rfl) rfl (by rfl) (fun X _ => by go_simp) ?_
          simp only [Act.put, List.setIfInBounds_toArray, List.set_cons_succ, List.set_cons_zero]
          refine Rd.seq_float (.bool false) (by simp only [List.getElem?_toArray, List.getElem?_cons_succ, List.getElem?_cons_zero]; rfl) rfl (by rfl) (fun X _ => by go_simp) ?_
          simp only [Act.put, List.setIfInBounds_toArray, List.set_cons_succ, List.set_cons_zero]
          refine Rd.seq_float (.bool false) (by simp only [List.getElem?_toArray, List.getElem?_cons_succ, List.getElem?_cons_zero]; rfl) rfl (by rfl) (fun X _ => by go_simp) ?_
          simp only [Act.put, List.setIfInBounds_toArray, List.set_cons_succ, List.set_cons_zero]
          refine Rd.seq_float (.pointer (some ⟨p, 0, none⟩)) (by simp only [List.getElem?_toArray, List.getElem?_cons_succ, List.getElem?_cons_zero]; rfl) rfl (by rfl) (fun X _ => by go_simp) ?_
          simp only [Act.put, List.setIfInBounds_toArray, List.set_cons_succ, List.set_cons_zero]
          refine Rd.seq_float (.int .i64 z) (by simp only [List.getElem?_toArray, List.getElem?_cons_succ, List.getElem?_cons_zero]; rfl) rfl (by rfl) (fun X _ => by go_simp) ?_
          simp only [Act.put, List.setIfInBounds_toArray, List.set_cons_succ, List.set_cons_zero]
          refine Rd.seq_float (.int .i64 (-1)) (by simp only [List.getElem?_toArray, List.getElem?_cons_succ, List.getElem?_cons_zero]; rfl) rfl (by rfl) (fun X _ => by go_simp) ?_
          simp only [Act.put, List.setIfInBounds_toArray, List.set_cons_succ, List.set_cons_zero]
          refine Rd.seq_move (by simp only [List.getElem?_toArray, List.getElem?_cons_succ, List.getElem?_cons_zero]; rfl) rfl (by rfl) (fun K hK => ?_)
          go_simp
          refine (Last_any hr6 z).mono ?_
          rw [HLA.out]
          rintro e w7 ⟨rfl, s7⟩
          have hr7 := hr6.sm s7
          replace hbw := Boxed.sm hbw s7
          replace hro := hro.below (s7.below _)
          replace HB := Lib.hid (HB.out.trans (s7.below _))
          have hs7 := s7.size
          refine hK _ _ (fun _ => hbw.cell) ?_
          clear hr6 s7
          clear hK K
          refine Rd.seq_float (.bool false) (by simp only [List.getElem?_toArray, List.getElem?_cons_succ, List.getElem?_cons_zero]; rfl) rfl (by rfl) (fun X _ => by go_simp) ?_
          simp only [Act.put, List.setIfInBounds_toArray, List.set_cons_succ, List.set_cons_zero]
          refine Rd.seq_float (.bool false) (by simp only [List.getElem?_toArray, List.getElem?_cons_succ, List.getElem?_cons_zero]; rfl) rfl (by rfl) (fun X _ => by go_simp) ?_
          simp only [Act.put, List.setIfInBounds_toArray, List.set_cons_succ, List.set_cons_zero]
          refine Rd.seq_end ?_
          have hs8 : wr.heap.size + 1 ≤ w7.heap.size := by omega
          clear hs4 hs5 hs6 hs7
          have hk3 := (Boxed.new w7 3 (.int .i64 0)).alloc (.cells #[.bool true] 4)
          have ho3 := Boxed.new (w7.alloc (.cells #[.int .i64 0] 3)) 4 (.bool true)
          rw [World.size_alloc] at ho3
          have hb8 : Below w7.heap.size w7 ((w7.alloc (.cells #[.int .i64 0] 3)).alloc (.cells #[.bool true] 4)) := ((Below.refl _ w7).alloc (Nat.le_refl _) _).alloc (by simp) _
          have hsz8 : ((w7.alloc (.cells #[.int .i64 0] 3)).alloc (.cells #[.bool true] 4)).heap.size = w7.heap.size + 2 := by simp
          clear hcn
          have HR7 := Lib.hid hr7
          clear hr7
          go_wp2_with fail
          generalize ((w7.alloc (.cells #[.int .i64 0] 3)).alloc (.cells #[.bool true] 4)) = w8 at *
          refine (Nodes_any p z w8).mono ?_
          rw [hsz8]
          rintro e w9 ⟨rfl, rfl⟩
          have h91 := (Boxed.new w8 24 (.pointer (some ⟨p, 0, none⟩))).alloc (.cells #[.int .i64 z] 3)
          have h92 := Boxed.new (w8.alloc (.cells #[.pointer (some ⟨p, 0, none⟩)] 24)) 3 (.int .i64 z)
          rw [World.size_alloc] at h92
          rw [hsz8] at h91 h92
          have hb9 : Below w7.heap.size w7 ((w8.alloc (.cells #[.pointer (some ⟨p, 0, none⟩)] 24)).alloc (.cells #[.int .i64 z] 3)) := (hb8.alloc (by omega) _).alloc (by simp; omega) _
          have hk9 := (hk3.alloc (.cells #[.pointer (some ⟨p, 0, none⟩)] 24)).alloc (.cells #[.int .i64 z] 3)
          have ho9 := (ho3.alloc (.cells #[.pointer (some ⟨p, 0, none⟩)] 24)).alloc (.cells #[.int .i64 z] 3)
          generalize (w8.alloc (.cells #[.pointer (some ⟨p, 0, none⟩)] 24)).alloc (.cells #[.int .i64 z] 3) = w9 at *
          clear hb8 hsz8 hk3 ho3
          have hbw := Lib.hid hbw
          have hro := Lib.hid hro
          have E := each_29 p g c N (w7.heap.size + 2) (w7.heap.size + 2 + 1) z ls (.pointer (some ⟨w7.heap.size + 1, 0, none⟩)) (.pointer (some ⟨w7.heap.size, 0, none⟩)) (.pointer (some ⟨wr.heap.size, 0, none⟩))
            (fun i W => Boxed W w7.heap.size 3 (.int .i64 (i : Int)) ∧ Boxed W (w7.heap.size + 1) 4 (.bool true) ∧ Boxed W (w7.heap.size + 2) 24 (.pointer (some ⟨p, 0, none⟩)) ∧ Boxed W (w7.heap.size + 2 + 1) 3 (.int .i64 z) ∧ Below w7.heap.size w7 W) (fun _ _ => False) HR7.out.ok
            (fun i W h => ⟨HR7.out.belowS h.2.2.2.2, h.2.2.1.cell, h.2.2.2.1.cell⟩)
            (fun i W W' h s => ⟨Boxed.sm h.1 s, Boxed.sm h.2.1 s, Boxed.sm h.2.2.1 s, Boxed.sm h.2.2.2.1 s, h.2.2.2.2.trans (s.below _)⟩)
            (fun i W hi h => by
              refine (told_29 B (w7.heap.size + 1) w7.heap.size wr.heap.size i _ (rowI ls z) W h.2.1 h.1 (Boxed.belowS hbw.out h.2.2.2.2) (hro.out.below h.2.2.2.2) hi HL64.out (by omega)).mono ?_
              rintro e W' ⟨rfl, rfl⟩
              refine .inl ⟨rfl, ?_, (h.2.1.set (.bool true)).other (by omega) _, (h.2.2.1.other (by omega) _).other (by omega) _, (h.2.2.2.1.other (by omega) _).other (by omega) _, (h.2.2.2.2.trans ((Turn.setCell _ _ _ _).below (by omega))).trans ((Turn.setCell _ _ _ _).below (Nat.le_refl _))⟩
              have := (h.1.other (B' := w7.heap.size + 1) (by omega) (.bool true)).set (.int .i64 ((i : Int) + 1))
              rw [show ((i + 1 : Nat) : Int) = (i : Int) + 1 by omega]
              exact this)
            w9 ⟨hk9, ho9, h91, h92, hb9⟩
          rw [show ((rowI ls z).length) = 0 from HLX.out] at E
          have HE := Lib.hid E
          clear E hk9 ho9 h91 h92 hb9
          go_wp2_with fail
          refine HE.out.mono ?_
          rintro e w10 ⟨⟨vv, rfl⟩, (⟨hk10, ho10, -, -, hb10⟩ | ⟨_, _, hF⟩)⟩
          case inr => exact hF.elim
          have hbw10 := Boxed.belowS hbw.out hb10
          have ck10 := hk10.cell
          have co10 := ho10.cell
          have cw10 := hbw10.cell
          replace HB := Lib.hid (HB.out.trans (hb10.mono HB.out.size))
          clear HE hb10 hk10 ho10 hbw10 hbw hro HR7 hs8
          go_wp2_with fail
          exact ⟨⟨z + 1, by omega, by omega, rfl, HB⟩, by simp [intOf]; omega⟩
    · have hz3 : z = (ls.length : Int) + 1 := by omega
      subst hz3
      go_wp2_with fail
      clear hc0 hc1 hxr hsr
      go_loopw [11] (fun t w2 => ∃ y : Int, -1 ≤ y ∧ y ≤ (N : Int) + 1 ∧ t = .int .i64 y ∧ Hid (Below w1.heap.size w1 w2)) (fun t _ => ((N : Int) + 1 - intOf t).toNat)
      case atStart => exact ⟨-1, by omega, by omega, rfl, HB⟩
      case round =>
        clear HB
        obtain ⟨y, hy0, hy1, rfl, HB⟩ := hrel
        have hx2 := hx.belowS HB.out
        have hc0 := hx2.c0
        have hc1 := hx2.c1
        by_cases hy2 : y ≤ N
        · have HFD := Lib.hid (Find_any B N _ ls y _ (hd1.below HB.out) hok)
          have HRR := Lib.hid (hr1.belowS HB.out)
          cases hh : hasB ls y with
          | false =>
            have HL : Hid (listI ls y = -1 ∧ posI ls y = -1 ∧ nextI ls y = -1 ∧ prevI ls y = -1) := Lib.hid (by simp [listI, posI, nextI, prevI, hh])
            clear hh
            go_wp2_with (first | (refine wpList_load30 rfl _ rfl w.heap.size _ _ rfl hx2 ?_) | (go_at_call 30; refine HFD.out.mono ?_; rw [HL.out.1, HL.out.2.1]; rintro e w3 ⟨rfl, hb3⟩; have hr3 := HRR.out.belowS hb3; replace HB := Lib.hid (HB.out.trans (hb3.mono HB.out.size)); clear HRR hb3 hx2 hc0 hc1) | (go_at_call 16; refine (List_any hr3 y).mono ?_; rw [HL.out.1]; rintro e w4 ⟨rfl, s4⟩; have hr4 := hr3.sm s4; replace HB := Lib.hid (HB.out.trans (s4.below _)); clear hr3 s4) | (go_at_call 15; refine (Next_any hr4 y).mono ?_; rw [HL.out.2.2.1]; rintro e w5 ⟨rfl, s5⟩; have hr5 := hr4.sm s5; replace HB := Lib.hid (HB.out.trans (s5.below _)); clear hr4 s5) | (go_at_call 17; refine (Prev_any hr5 y).mono ?_; rw [HL.out.2.2.2]; rintro e w6 ⟨rfl, s6⟩; replace HB := Lib.hid (HB.out.trans (s6.below _)); clear hr5 s6))
            exact ⟨⟨y + 1, by omega, by omega, rfl, HB⟩, by simp [intOf]; omega⟩
          | true =>
            obtain ⟨xx, -, hxx⟩ := hasB_at hh
            have hk := hxx.lists
            have hi := hxx.len
            have HL : Hid (listI ls y = (fk ls y : Nat) ∧ posI ls y = (fi ls y : Nat)) := Lib.hid (by simp [listI, posI, hh])
            have HNX : Hid (nextI ls y = if fi ls y + 1 < (row ls (fk ls y)).length then (((row ls (fk ls y)).getD (fi ls y + 1) 0 : Nat) : Int) else -1) := Lib.hid (by simp [nextI, hh])
            have HPV : Hid (prevI ls y = if 0 < fi ls y then (((row ls (fk ls y)).getD (fi ls y - 1) 0 : Nat) : Int) else -1) := Lib.hid (by simp [prevI, hh])
            have hl64 := hok.len64 (fk ls y)
            clear hh hxx
            generalize fk ls y = k at *
            generalize fi ls y = i at *
            obtain ⟨bd, a', c', rfl, hbd, hcd, hlc, hcm, hro0⟩ := (hd1.below (HB.out)).at (k := k) hk
            have hbdl := block_lt_of_cell hcd
            by_cases hi0 : 0 < i
            · obtain ⟨q, rfl⟩ : ∃ q, i = q + 1 := ⟨i - 1, by omega⟩
              obtain ⟨b, rfl, hv⟩ := RowV.atI hro0 (j := q) (by omega)
              by_cases hi1 : q + 1 + 1 < (row ls k).length
              · obtain ⟨b9, e9, hv2⟩ := RowV.atI hro0 (j := q + 1 + 1) hi1
                cases e9
                have HN2 : Hid (nextI ls y = ((row ls k).getD (q + 1 + 1) 0 : Nat)) := Lib.hid (by rw [HNX.out, if_pos hi1])
                have HP2 : Hid (prevI ls y = ((row ls k).getD q 0 : Nat)) := Lib.hid (by rw [HPV.out, if_pos (by omega)]; rfl)
                generalize (row ls k).length = n at *
                clear HNX HPV hro0
                have hvb := block_lt_of_cell hv
                generalize (row ls k).getD q 0 = y1 at *
                generalize (row ls k).getD (q + 1 + 1) 0 = y2 at *
                go_wp2_with (first | (refine wpList_load30 rfl _ rfl w.heap.size _ _ rfl hx2 ?_) | (go_at_call 30; refine HFD.out.mono ?_; rw [HL.out.1, HL.out.2]; rintro e w3 ⟨rfl, hb3⟩; have hr3 := HRR.out.belowS hb3; replace HB := Lib.hid (HB.out.trans (hb3.mono HB.out.size)); replace hcd := (hb3.cell (p := ⟨bd, k, none⟩) hbdl).trans hcd; replace hv := (hb3.cell (p := ⟨b, q, none⟩) hvb).trans hv; replace hv2 := (hb3.cell (p := ⟨b, q + 1 + 1, none⟩) hvb).trans hv2; clear HRR hx2 hc0 hc1; have hc1 := (hx.belowS HB.out).c1; clear hb3) | (go_at_call 16; refine (List_any hr3 y).mono ?_; rw [HL.out.1]; rintro e w4 ⟨rfl, s4⟩; have hr4 := hr3.sm s4; replace HB := Lib.hid (HB.out.trans (s4.below _)); clear hr3 s4) | (go_at_call 15; refine (Next_any hr4 y).mono ?_; rw [HN2.out]; rintro e w5 ⟨rfl, s5⟩; have hr5 := hr4.sm s5; replace HB := Lib.hid (HB.out.trans (s5.below _)); clear hr4 s5) | (go_at_call 17; refine (Prev_any hr5 y).mono ?_; rw [HP2.out]; rintro e w6 ⟨rfl, s6⟩; replace HB := Lib.hid (HB.out.trans (s6.below _)); clear hr5 s6))
                exact ⟨⟨y + 1, by omega, by omega, rfl, HB⟩, by simp [intOf]; omega⟩
              · have HN2 : Hid (nextI ls y = -1) := Lib.hid (by rw [HNX.out, if_neg hi1])
                have HP2 : Hid (prevI ls y = ((row ls k).getD q 0 : Nat)) := Lib.hid (by rw [HPV.out, if_pos (by omega)]; rfl)
                generalize (row ls k).length = n at *
                clear HNX HPV hro0
                have hvb := block_lt_of_cell hv
                generalize (row ls k).getD q 0 = y1 at *
                go_wp2_with (first | (refine wpList_load30 rfl _ rfl w.heap.size _ _ rfl hx2 ?_) | (go_at_call 30; refine HFD.out.mono ?_; rw [HL.out.1, HL.out.2]; rintro e w3 ⟨rfl, hb3⟩; have hr3 := HRR.out.belowS hb3; replace HB := Lib.hid (HB.out.trans (hb3.mono HB.out.size)); replace hcd := (hb3.cell (p := ⟨bd, k, none⟩) hbdl).trans hcd; replace hv := (hb3.cell (p := ⟨b, q, none⟩) hvb).trans hv; clear HRR hx2 hc0 hc1; have hc1 := (hx.belowS HB.out).c1; clear hb3) | (go_at_call 16; refine (List_any hr3 y).mono ?_; rw [HL.out.1]; rintro e w4 ⟨rfl, s4⟩; have hr4 := hr3.sm s4; replace HB := Lib.hid (HB.out.trans (s4.below _)); clear hr3 s4) | (go_at_call 15; refine (Next_any hr4 y).mono ?_; rw [HN2.out]; rintro e w5 ⟨rfl, s5⟩; have hr5 := hr4.sm s5; replace HB := Lib.hid (HB.out.trans (s5.below _)); clear hr4 s5) | (go_at_call 17; refine (Prev_any hr5 y).mono ?_; rw [HP2.out]; rintro e w6 ⟨rfl, s6⟩; replace HB := Lib.hid (HB.out.trans (s6.below _)); clear hr5 s6))
                exact ⟨⟨y + 1, by omega, by omega, rfl, HB⟩, by simp [intOf]; omega⟩
            · obtain rfl : i = 0 := by omega
              by_cases hi1 : 0 + 1 < (row ls k).length
              · obtain ⟨b, rfl, hv2⟩ := RowV.atI hro0 (j := 0 + 1) hi1
                have HN2 : Hid (nextI ls y = ((row ls k).getD (0 + 1) 0 : Nat)) := Lib.hid (by rw [HNX.out, if_pos hi1])
                have HP2 : Hid (prevI ls y = -1) := Lib.hid (by rw [HPV.out, if_neg (by omega)])
                generalize (row ls k).length = n at *
                clear HNX HPV hro0
                have hvb := block_lt_of_cell hv2
                generalize (row ls k).getD (0 + 1) 0 = y2 at *
                go_wp2_with (first | (refine wpList_load30 rfl _ rfl w.heap.size _ _ rfl hx2 ?_) | (go_at_call 30; refine HFD.out.mono ?_; rw [HL.out.1, HL.out.2]; rintro e w3 ⟨rfl, hb3⟩; have hr3 := HRR.out.belowS hb3; replace HB := Lib.hid (HB.out.trans (hb3.mono HB.out.size)); replace hcd := (hb3.cell (p := ⟨bd, k, none⟩) hbdl).trans hcd; replace hv2 := (hb3.cell (p := ⟨b, 0 + 1, none⟩) hvb).trans hv2; clear HRR hx2 hc0 hc1; have hc1 := (hx.belowS HB.out).c1; clear hb3) | (go_at_call 16; refine (List_any hr3 y).mono ?_; rw [HL.out.1]; rintro e w4 ⟨rfl, s4⟩; have hr4 := hr3.sm s4; replace HB := Lib.hid (HB.out.trans (s4.below _)); clear hr3 s4) | (go_at_call 15; refine (Next_any hr4 y).mono ?_; rw [HN2.out]; rintro e w5 ⟨rfl, s5⟩; have hr5 := hr4.sm s5; replace HB := Lib.hid (HB.out.trans (s5.below _)); clear hr4 s5) | (go_at_call 17; refine (Prev_any hr5 y).mono ?_; rw [HP2.out]; rintro e w6 ⟨rfl, s6⟩; replace HB := Lib.hid (HB.out.trans (s6.below _)); clear hr5 s6))
                exact ⟨⟨y + 1, by omega, by omega, rfl, HB⟩, by simp [intOf]; omega⟩
              · have HN2 : Hid (nextI ls y = -1) := Lib.hid (by rw [HNX.out, if_neg hi1])
                have HP2 : Hid (prevI ls y = -1) := Lib.hid (by rw [HPV.out, if_neg (by omega)])
                generalize (row ls k).length = n at *
                clear HNX HPV hro0
                go_wp2_with (first | (refine wpList_load30 rfl _ rfl w.heap.size _ _ rfl hx2 ?_) | (go_at_call 30; refine HFD.out.mono ?_; rw [HL.out.1, HL.out.2]; rintro e w3 ⟨rfl, hb3⟩; have hr3 := HRR.out.belowS hb3; replace HB := Lib.hid (HB.out.trans (hb3.mono HB.out.size)); replace hcd := (hb3.cell (p := ⟨bd, k, none⟩) hbdl).trans hcd; clear HRR hx2 hc0 hc1; have hc1 := (hx.belowS HB.out).c1; clear hb3) | (go_at_call 16; refine (List_any hr3 y).mono ?_; rw [HL.out.1]; rintro e w4 ⟨rfl, s4⟩; have hr4 := hr3.sm s4; replace HB := Lib.hid (HB.out.trans (s4.below _)); clear hr3 s4) | (go_at_call 15; refine (Next_any hr4 y).mono ?_; rw [HN2.out]; rintro e w5 ⟨rfl, s5⟩; have hr5 := hr4.sm s5; replace HB := Lib.hid (HB.out.trans (s5.below _)); clear hr4 s5) | (go_at_call 17; refine (Prev_any hr5 y).mono ?_; rw [HP2.out]; rintro e w6 ⟨rfl, s6⟩; replace HB := Lib.hid (HB.out.trans (s6.below _)); clear hr5 s6))
                exact ⟨⟨y + 1, by omega, by omega, rfl, HB⟩, by simp [intOf]; omega⟩
        · obtain rfl : y = (N : Int) + 1 := by omega
          go_wp2_with fail
          go_ret
          exact ⟨rfl, hb.trans (HB.out.mono hb.size)⟩
end Go.Proofs.Ytglnjpbjlcbgoaa
