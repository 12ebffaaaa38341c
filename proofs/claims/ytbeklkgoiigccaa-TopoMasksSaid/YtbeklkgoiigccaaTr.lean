/-
  Contract of the laws' own function do, with a topology and the document's. Condition: the topology is one.
-/
import Derived.Test.YtbeklkgoiigccaaTq
namespace Go.Proofs.Ytbeklkgoiigccaa
open Go.RowKit

section
variable {ops : Array Oper} {rest : List Oper} {o : Oper} {a : Act} {w : World} {Q : Exit → Act → World → Prop}
theorem exec_load29 (x : Operand) (ho : o.op = .load 29 x) (b : Nat) (m : Int) (f : Nat → Int) (g : Nat → Bool) (hx : a.eval x = .pointer (some ⟨b, 0, none⟩)) (hw : IsT w b m f g) : (execOp a.eval o).run Try.prog w = .ok (.value (.agg (tarr m f g))) w := by
  unfold execOp
  simp only [ho, hx, Instr.loadAt, Instr.sureAddr, Sem.run_bind, Sem.run_pure, Result.andThen_ok, run_loadVar_row w b 29 29 _ (0, 0) _ hw Try.underlying29 rfl (size29 m f g)]
theorem wp_store29 {K : Act → World → Prop} (x y : Operand) (ho : o.op = .store 29 x y) (b : Nat) (m m' : Int) (f f' : Nat → Int) (g g' : Nat → Bool) (hx : a.eval x = .pointer (some ⟨b, 0, none⟩)) (hy : a.eval y = .agg (tarr m f g)) (hw : IsT w b m' f' g')
    (h : ∀ w', IsT w' b m f g → Turn b w w' → K (a.put o.dst undef) w') : o.wp Try.prog a w K Q :=
  wp_store_row 29 x y ho b _ hx hy 29 _ hw (size29 m f g) (by rw [tarr_size, tarr_size]) (tarr_one m f g) (h _ (setRow_heap w b _ _ 29 _ hw) (Turn.setRow w b _))
theorem Only.own {g b : Nat} {w w1 w2 : World} (h : Only g w w1) (ht : Turn b w1 w2) (hb : w.heap.size ≤ b) : Only g w w2 :=
  ⟨ht.os.trans h.os, ht.tape.trans h.tape, ht.output.trans h.output, by rw [ht.size]; exact h.size, fun k hk hne => (ht.block k (by omega)).trans (h.block k hk hne)⟩
theorem Only.cell {g a i : Nat} {w w' : World} (h : Only g w w') (ha : a < w.heap.size) (hne : a ≠ g) : w'.cell? ⟨a, i, none⟩ = w.cell? ⟨a, i, none⟩ := by
  unfold World.cell?
  rw [h.block a ha hne]
theorem wpList_box46 (hg : o.guard = none) (x : Operand) (ho : o.op = .box 46 x) (c : Int) (u : Bool) (hx : a.eval x = .agg #[.int .i64 c, .bool u]) (h : wpList Try.prog ops Q rest (a.put o.dst (.pointer (some ⟨w.heap.size, 0, none⟩))) (w.alloc (.cells #[.int .i64 c, .bool u] 46))) : wpList Try.prog ops Q (o :: rest) a w :=
  wpList_plain hg fun K hK => by
    unfold Oper.wp execOp
    rw [ho]
    simp only [hx]
    exact hK _ _ h
end
set_option maxRecDepth 100000 in
set_option maxHeartbeats 4000000 in
theorem do_up (p g : Nat) (cs : List Nat) (on : Nat) (c : Int) (w : World) (h : IsTopo w p g cs on) (ok : TopoOk cs on) :
    Calls Try.prog 14 #[.pointer (some ⟨p, 0, none⟩), .agg (TV cs on), .agg #[.int .i64 c, .bool true]] w fun e w' => e = .returned (.tuple #[.agg (TV cs (upN cs on c)), .bool true]) ∧ IsTopo w' p g cs (upN cs on c) ∧ Only g w w' := by
  have hpl := h.ltp
  have hgl := h.ltg
  have hW1 : World := (((w.alloc (.cells (TV cs on) 29)).alloc (.cells #[.int .i64 c, .bool true] 46)).alloc (.cells tzero 29))
  have hT : IT (((w.alloc (.cells (TV cs on) 29)).alloc (.cells #[.int .i64 c, .bool true] 46)).alloc (.cells tzero 29)) w.heap.size cs on := ((IsT.new w _ _ _).alloc _).alloc _
  have hZ : IsT (((w.alloc (.cells (TV cs on) 29)).alloc (.cells #[.int .i64 c, .bool true] 46)).alloc (.cells tzero 29)) (w.heap.size + 1 + 1) 0 (fun _ => 0) (fun _ => false) := by
    have h := IsT.new ((w.alloc (.cells (TV cs on) 29)).alloc (.cells #[.int .i64 c, .bool true] 46)) 0 (fun _ => 0) (fun _ => false)
    rw [World.size_alloc, World.size_alloc] at h
    exact h
  have hA : (((w.alloc (.cells (TV cs on) 29)).alloc (.cells #[.int .i64 c, .bool true] 46)).alloc (.cells tzero 29)).heap[w.heap.size + 1]? = some (.cells #[.int .i64 c, .bool true] 46 (0, 0)) := by
    have h := heap_alloc_new (w.alloc (.cells (TV cs on) 29)) (.cells #[.int .i64 c, .bool true] 46)
    rw [World.size_alloc] at h
    exact (heap_alloc_old _ _ (by simp)).trans h
  have hc0 : (((w.alloc (.cells (TV cs on) 29)).alloc (.cells #[.int .i64 c, .bool true] 46)).alloc (.cells tzero 29)).cell? ⟨w.heap.size + 1, 0, none⟩ = some (.int .i64 c) := by rw [cell_of_row _ _ _ _ 46 (0, 0) hA]; rfl
  have hc1 : (((w.alloc (.cells (TV cs on) 29)).alloc (.cells #[.int .i64 c, .bool true] 46)).alloc (.cells tzero 29)).cell? ⟨w.heap.size + 1, 1, none⟩ = some (.bool true) := by rw [cell_of_row _ _ _ _ 46 (0, 0) hA]; rfl
  clear hW1 hA
  have hP : IsTopo (((w.alloc (.cells (TV cs on) 29)).alloc (.cells #[.int .i64 c, .bool true] 46)).alloc (.cells tzero 29)) p g cs on := ((h.alloc _).alloc _).alloc _
  have hO : Only g w (((w.alloc (.cells (TV cs on) 29)).alloc (.cells #[.int .i64 c, .bool true] 46)).alloc (.cells tzero 29)) := Only.of_below ((((Below.refl _ w).alloc (Nat.le_refl _) _).alloc (by simp) _).alloc (by simp; omega) _)
  have hs0 : w.heap.size + 1 + 1 < (((w.alloc (.cells (TV cs on) 29)).alloc (.cells #[.int .i64 c, .bool true] 46)).alloc (.cells tzero 29)).heap.size := hZ.lt
  have HR := Lib.hid (fun w => rUp_any cs on c w)
  have HP := Lib.hid (fun w h => Up_any p g cs on c w h ok)
  have HE : Hid (Only g w (((w.alloc (.cells (TV cs on) 29)).alloc (.cells #[.int .i64 c, .bool true] 46)).alloc (.cells tzero 29))) := Lib.hid hO
  generalize hN : upN cs on c = N at *
  generalize hC : upC cs on c = C at *
  clear hN hC
  go_enter Try.func14, Try.ntmps14
  go_wp2_with (first | (refine wpList_box29 rfl _ rfl _ _ _ rfl ?_) | (refine wpList_box46 rfl _ rfl _ _ rfl ?_; try simp only [World.size_alloc]) | (refine wpList_alloc29 rfl rfl ?_; try simp only [World.size_alloc]) | (refine wpList_load29 rfl _ rfl w.heap.size _ _ _ rfl hT ?_))
  generalize (((w.alloc (.cells (TV cs on) 29)).alloc (.cells #[.int .i64 c, .bool true] 46)).alloc (.cells tzero 29)) = w1 at *
  refine (HR.out _).mono ?_
  rintro e w2 ⟨rfl, hb⟩
  clear HR HE
  replace hO := hO.trans (Only.of_below hb)
  replace hc0 := (hb.cell (p := ⟨w.heap.size + 1, 0, none⟩) (by show w.heap.size + 1 < _; omega)).trans hc0
  replace hP := hP.belowS hb
  replace hZ := hZ.below hb (by omega)
  have hs := hb.size
  clear hb hT hc1
  have h8 := IsT.new w2 0 (fun _ => 0) (fun _ => false)
  have ho2 : Only g w2 (w2.alloc (.cells tzero 29)) := Only.of_below ((Below.refl _ w2).alloc (Nat.le_refl _) _)
  replace hO := hO.trans ho2
  clear ho2
  replace hc0 : (w2.alloc (.cells tzero 29)).cell? ⟨w.heap.size + 1, 0, none⟩ = some (.int .i64 c) := (((Below.refl _ w2).alloc (Nat.le_refl _) (.cells tzero 29)).cell (p := ⟨w.heap.size + 1, 0, none⟩) (by show w.heap.size + 1 < _; omega)).trans hc0
  replace hP := hP.alloc (.cells tzero 29)
  replace hZ : IsT (w2.alloc (.cells tzero 29)) _ _ _ _ := hZ.alloc _
  go_wp2_with (first | (refine wpList_alloc29 rfl rfl ?_) | (refine wpList_store29 rfl _ _ rfl w2.heap.size _ 0 _ (fun _ => 0) _ (fun _ => false) rfl rfl h8 ?_; clear h8; intro w3 h8 t3))
  replace hO := hO.own t3 (by omega)
  replace hc0 := ((t3.below (B := w2.heap.size) (Nat.le_refl _)).cell (p := ⟨w.heap.size + 1, 0, none⟩) (by show w.heap.size + 1 < _; omega)).trans hc0
  replace hP := hP.turn t3 (by omega) (by omega)
  replace hZ := hZ.turn t3 (by omega)
  clear t3
  replace hO := hO.drew
  replace hP := hP.drew
  replace hZ : IsT w3.drew _ _ _ _ := hZ
  replace h8 : IsT w3.drew _ _ _ _ := h8
  replace hc0 : w3.drew.cell? ⟨w.heap.size + 1, 0, none⟩ = some (.int .i64 c) := hc0
  refine Rd.region (fun X => IT X w2.heap.size cs N ∧ X.cell? ⟨w.heap.size + 1, 0, none⟩ = some (.int .i64 c)) 9 [0, 1, 2, 3, 5, 6, 8] [0, 1, 2, 3, 5, 4, 6, 7, 8] (by kernel_rfl) (by kernel_rfl) (by kernel_rfl) (by kernel_rfl) rfl ⟨h8, hc0⟩ ?_
  generalize w3.drew = w3 at *
  refine Rd.seq_float (.agg (TV cs N)) (by simp only [List.getElem?_toArray, List.getElem?_cons_zero]; rfl) rfl (by rfl) (fun X hX => exec_load29 _ rfl w2.heap.size _ _ _ rfl hX.1) ?_
  simp only [Act.put, List.setIfInBounds_toArray, List.set_cons_succ, List.set_cons_zero]
  refine Rd.seq_float (.pointer (some ⟨p, 0, none⟩)) (by simp only [List.getElem?_toArray, List.getElem?_cons_succ, List.getElem?_cons_zero]; rfl) rfl (by rfl) (fun X _ => by go_simp) ?_
  simp only [Act.put, List.setIfInBounds_toArray, List.set_cons_succ, List.set_cons_zero]
  refine Rd.seq_float (.pointer (some ⟨w.heap.size + 1, 0, none⟩)) (by simp only [List.getElem?_toArray, List.getElem?_cons_succ, List.getElem?_cons_zero]; rfl) rfl (by rfl) (fun X _ => by go_simp) ?_
  simp only [Act.put, List.setIfInBounds_toArray, List.set_cons_succ, List.set_cons_zero]
  refine Rd.seq_float (.int .i64 c) (by simp only [List.getElem?_toArray, List.getElem?_cons_succ, List.getElem?_cons_zero]; rfl) rfl (by rfl) (fun X hX => by have h0 := hX.2; go_simp) ?_
  simp only [Act.put, List.setIfInBounds_toArray, List.set_cons_succ, List.set_cons_zero]
  refine Rd.seq_float (.int .i64 C) (by simp only [List.getElem?_toArray, List.getElem?_cons_succ, List.getElem?_cons_zero]; rfl) rfl (by rfl) (fun X _ => by go_simp) ?_
  simp only [Act.put, List.setIfInBounds_toArray, List.set_cons_succ, List.set_cons_zero]
  refine Rd.seq_move (by simp only [List.getElem?_toArray, List.getElem?_cons_succ, List.getElem?_cons_zero]; rfl) rfl (by rfl) (fun K hK => ?_)
  go_simp
  refine (HP.out _ hP).mono ?_
  rintro e w4 ⟨rfl, hP, ho⟩
  have hs3 := h8.lt
  replace h8 := h8.only ho (by omega)
  replace hZ := hZ.only ho (by omega)
  replace hc0 := (ho.cell (a := w.heap.size + 1) (by omega) (by omega)).trans hc0
  replace hO := hO.trans ho
  have hs4 := ho.size
  clear ho
  refine hK _ _ (fun _ => ⟨h8, hc0⟩) ?_
  clear hK K
  refine Rd.seq_float (.bool true) (by simp only [List.getElem?_toArray, List.getElem?_cons_succ, List.getElem?_cons_zero]; rfl) rfl (by rfl) (fun X _ => by go_simp) ?_
  simp only [Act.put, List.setIfInBounds_toArray, List.set_cons_succ, List.set_cons_zero]
  refine Rd.seq_move (by simp only [List.getElem?_toArray, List.getElem?_cons_succ, List.getElem?_cons_zero]; rfl) rfl (by rfl) (fun K hK => ?_)
  refine wp_store29 _ _ (by rfl) (w.heap.size + 1 + 1) (cs.length : Int) 0 (fun i => ofI cs (i : Int)) (fun _ => 0) N.testBit (fun _ => false) (by rfl) (by rfl) hZ ?_
  intro w5 hZ t5
  replace hO := hO.own t5 (by omega)
  replace hP := hP.turn t5 (by omega) (by omega)
  replace h8 := h8.turn t5 (by omega)
  replace hc0 := ((t5.below (B := w.heap.size + 1 + 1) (Nat.le_refl _)).cell (p := ⟨w.heap.size + 1, 0, none⟩) (by show w.heap.size + 1 < _; omega)).trans hc0
  refine hK _ _ (fun _ => ⟨h8, hc0⟩) ?_
  clear hK K
  refine Rd.seq_float (.bool true) (by simp only [List.getElem?_toArray, List.getElem?_cons_succ, List.getElem?_cons_zero]; rfl) rfl (by rfl) (fun X _ => by go_simp) ?_
  simp only [Act.put, List.setIfInBounds_toArray, List.set_cons_succ, List.set_cons_zero]
  refine Rd.seq_end ?_

  go_wp2_with fail
  refine bodyPost_ret (results29 rfl _ w5 (w.heap.size + 1 + 1) _ _ _ (.bool true) rfl rfl hZ) rfl ?_
  exact ⟨rfl, hP, hO⟩
set_option maxRecDepth 100000 in
set_option maxHeartbeats 4000000 in
theorem do_down (p g : Nat) (cs : List Nat) (on : Nat) (c : Int) (w : World) (h : IsTopo w p g cs on) (ok : TopoOk cs on) :
    Calls Try.prog 14 #[.pointer (some ⟨p, 0, none⟩), .agg (TV cs on), .agg #[.int .i64 c, .bool false]] w fun e w' => e = .returned (.tuple #[.agg (TV cs (downN cs on c)), .bool true]) ∧ IsTopo w' p g cs (downN cs on c) ∧ Only g w w' := by
  have hpl := h.ltp
  have hgl := h.ltg
  have hW1 : World := (((w.alloc (.cells (TV cs on) 29)).alloc (.cells #[.int .i64 c, .bool false] 46)).alloc (.cells tzero 29))
  have hT : IT (((w.alloc (.cells (TV cs on) 29)).alloc (.cells #[.int .i64 c, .bool false] 46)).alloc (.cells tzero 29)) w.heap.size cs on := ((IsT.new w _ _ _).alloc _).alloc _
  have hZ : IsT (((w.alloc (.cells (TV cs on) 29)).alloc (.cells #[.int .i64 c, .bool false] 46)).alloc (.cells tzero 29)) (w.heap.size + 1 + 1) 0 (fun _ => 0) (fun _ => false) := by
    have h := IsT.new ((w.alloc (.cells (TV cs on) 29)).alloc (.cells #[.int .i64 c, .bool false] 46)) 0 (fun _ => 0) (fun _ => false)
    rw [World.size_alloc, World.size_alloc] at h
    exact h
  have hA : (((w.alloc (.cells (TV cs on) 29)).alloc (.cells #[.int .i64 c, .bool false] 46)).alloc (.cells tzero 29)).heap[w.heap.size + 1]? = some (.cells #[.int .i64 c, .bool false] 46 (0, 0)) := by
    have h := heap_alloc_new (w.alloc (.cells (TV cs on) 29)) (.cells #[.int .i64 c, .bool false] 46)
    rw [World.size_alloc] at h
    exact (heap_alloc_old _ _ (by simp)).trans h
  have hc0 : (((w.alloc (.cells (TV cs on) 29)).alloc (.cells #[.int .i64 c, .bool false] 46)).alloc (.cells tzero 29)).cell? ⟨w.heap.size + 1, 0, none⟩ = some (.int .i64 c) := by rw [cell_of_row _ _ _ _ 46 (0, 0) hA]; rfl
  have hc1 : (((w.alloc (.cells (TV cs on) 29)).alloc (.cells #[.int .i64 c, .bool false] 46)).alloc (.cells tzero 29)).cell? ⟨w.heap.size + 1, 1, none⟩ = some (.bool false) := by rw [cell_of_row _ _ _ _ 46 (0, 0) hA]; rfl
  clear hW1 hA
  have hP : IsTopo (((w.alloc (.cells (TV cs on) 29)).alloc (.cells #[.int .i64 c, .bool false] 46)).alloc (.cells tzero 29)) p g cs on := ((h.alloc _).alloc _).alloc _
  have hO : Only g w (((w.alloc (.cells (TV cs on) 29)).alloc (.cells #[.int .i64 c, .bool false] 46)).alloc (.cells tzero 29)) := Only.of_below ((((Below.refl _ w).alloc (Nat.le_refl _) _).alloc (by simp) _).alloc (by simp; omega) _)
  have hs0 : w.heap.size + 1 + 1 < (((w.alloc (.cells (TV cs on) 29)).alloc (.cells #[.int .i64 c, .bool false] 46)).alloc (.cells tzero 29)).heap.size := hZ.lt
  have HR := Lib.hid (fun w => rDown_any cs on c w ok)
  have HP := Lib.hid (fun w h => Down_any p g cs on c w h ok)
  have HE : Hid (Only g w (((w.alloc (.cells (TV cs on) 29)).alloc (.cells #[.int .i64 c, .bool false] 46)).alloc (.cells tzero 29))) := Lib.hid hO
  generalize hN : downN cs on c = N at *
  generalize hC : downC cs on c = C at *
  clear hN hC
  go_enter Try.func14, Try.ntmps14
  go_wp2_with (first | (refine wpList_box29 rfl _ rfl _ _ _ rfl ?_) | (refine wpList_box46 rfl _ rfl _ _ rfl ?_; try simp only [World.size_alloc]) | (refine wpList_alloc29 rfl rfl ?_; try simp only [World.size_alloc]) | (refine wpList_load29 rfl _ rfl w.heap.size _ _ _ rfl hT ?_))
  generalize (((w.alloc (.cells (TV cs on) 29)).alloc (.cells #[.int .i64 c, .bool false] 46)).alloc (.cells tzero 29)) = w1 at *
  refine (HR.out _).mono ?_
  rintro e w2 ⟨rfl, hb⟩
  clear HR HE
  replace hO := hO.trans (Only.of_below hb)
  replace hc0 := (hb.cell (p := ⟨w.heap.size + 1, 0, none⟩) (by show w.heap.size + 1 < _; omega)).trans hc0
  replace hP := hP.belowS hb
  replace hZ := hZ.below hb (by omega)
  have hs := hb.size
  clear hb hT hc1
  have h8 := IsT.new w2 0 (fun _ => 0) (fun _ => false)
  have ho2 : Only g w2 (w2.alloc (.cells tzero 29)) := Only.of_below ((Below.refl _ w2).alloc (Nat.le_refl _) _)
  replace hO := hO.trans ho2
  clear ho2
  replace hc0 : (w2.alloc (.cells tzero 29)).cell? ⟨w.heap.size + 1, 0, none⟩ = some (.int .i64 c) := (((Below.refl _ w2).alloc (Nat.le_refl _) (.cells tzero 29)).cell (p := ⟨w.heap.size + 1, 0, none⟩) (by show w.heap.size + 1 < _; omega)).trans hc0
  replace hP := hP.alloc (.cells tzero 29)
  replace hZ : IsT (w2.alloc (.cells tzero 29)) _ _ _ _ := hZ.alloc _
  go_wp2_with (first | (refine wpList_alloc29 rfl rfl ?_) | (refine wpList_store29 rfl _ _ rfl w2.heap.size _ 0 _ (fun _ => 0) _ (fun _ => false) rfl rfl h8 ?_; clear h8; intro w3 h8 t3))
  replace hO := hO.own t3 (by omega)
  replace hc0 := ((t3.below (B := w2.heap.size) (Nat.le_refl _)).cell (p := ⟨w.heap.size + 1, 0, none⟩) (by show w.heap.size + 1 < _; omega)).trans hc0
  replace hP := hP.turn t3 (by omega) (by omega)
  replace hZ := hZ.turn t3 (by omega)
  clear t3
  replace hO := hO.drew
  replace hP := hP.drew
  replace hZ : IsT w3.drew _ _ _ _ := hZ
  replace h8 : IsT w3.drew _ _ _ _ := h8
  replace hc0 : w3.drew.cell? ⟨w.heap.size + 1, 0, none⟩ = some (.int .i64 c) := hc0
  refine Rd.region (fun X => IT X w2.heap.size cs N ∧ X.cell? ⟨w.heap.size + 1, 0, none⟩ = some (.int .i64 c)) 9 [0, 1, 2, 3, 5, 6, 8] [0, 1, 2, 3, 5, 4, 6, 7, 8] (by kernel_rfl) (by kernel_rfl) (by kernel_rfl) (by kernel_rfl) rfl ⟨h8, hc0⟩ ?_
  generalize w3.drew = w3 at *
  refine Rd.seq_float (.agg (TV cs N)) (by simp only [List.getElem?_toArray, List.getElem?_cons_zero]; rfl) rfl (by rfl) (fun X hX => exec_load29 _ rfl w2.heap.size _ _ _ rfl hX.1) ?_
  simp only [Act.put, List.setIfInBounds_toArray, List.set_cons_succ, List.set_cons_zero]
  refine Rd.seq_float (.pointer (some ⟨p, 0, none⟩)) (by simp only [List.getElem?_toArray, List.getElem?_cons_succ, List.getElem?_cons_zero]; rfl) rfl (by rfl) (fun X _ => by go_simp) ?_
  simp only [Act.put, List.setIfInBounds_toArray, List.set_cons_succ, List.set_cons_zero]
  refine Rd.seq_float (.pointer (some ⟨w.heap.size + 1, 0, none⟩)) (by simp only [List.getElem?_toArray, List.getElem?_cons_succ, List.getElem?_cons_zero]; rfl) rfl (by rfl) (fun X _ => by go_simp) ?_
  simp only [Act.put, List.setIfInBounds_toArray, List.set_cons_succ, List.set_cons_zero]
  refine Rd.seq_float (.int .i64 c) (by simp only [List.getElem?_toArray, List.getElem?_cons_succ, List.getElem?_cons_zero]; rfl) rfl (by rfl) (fun X hX => by have h0 := hX.2; go_simp) ?_
  simp only [Act.put, List.setIfInBounds_toArray, List.set_cons_succ, List.set_cons_zero]
  refine Rd.seq_float (.int .i64 C) (by simp only [List.getElem?_toArray, List.getElem?_cons_succ, List.getElem?_cons_zero]; rfl) rfl (by rfl) (fun X _ => by go_simp) ?_
  simp only [Act.put, List.setIfInBounds_toArray, List.set_cons_succ, List.set_cons_zero]
  refine Rd.seq_move (by simp only [List.getElem?_toArray, List.getElem?_cons_succ, List.getElem?_cons_zero]; rfl) rfl (by rfl) (fun K hK => ?_)
  go_simp
  refine (HP.out _ hP).mono ?_
  rintro e w4 ⟨rfl, hP, ho⟩
  have hs3 := h8.lt
  replace h8 := h8.only ho (by omega)
  replace hZ := hZ.only ho (by omega)
  replace hc0 := (ho.cell (a := w.heap.size + 1) (by omega) (by omega)).trans hc0
  replace hO := hO.trans ho
  have hs4 := ho.size
  clear ho
  refine hK _ _ (fun _ => ⟨h8, hc0⟩) ?_
  clear hK K
  refine Rd.seq_float (.bool true) (by simp only [List.getElem?_toArray, List.getElem?_cons_succ, List.getElem?_cons_zero]; rfl) rfl (by rfl) (fun X _ => by go_simp) ?_
  simp only [Act.put, List.setIfInBounds_toArray, List.set_cons_succ, List.set_cons_zero]
  refine Rd.seq_move (by simp only [List.getElem?_toArray, List.getElem?_cons_succ, List.getElem?_cons_zero]; rfl) rfl (by rfl) (fun K hK => ?_)
  refine wp_store29 _ _ (by rfl) (w.heap.size + 1 + 1) (cs.length : Int) 0 (fun i => ofI cs (i : Int)) (fun _ => 0) N.testBit (fun _ => false) (by rfl) (by rfl) hZ ?_
  intro w5 hZ t5
  replace hO := hO.own t5 (by omega)
  replace hP := hP.turn t5 (by omega) (by omega)
  replace h8 := h8.turn t5 (by omega)
  replace hc0 := ((t5.below (B := w.heap.size + 1 + 1) (Nat.le_refl _)).cell (p := ⟨w.heap.size + 1, 0, none⟩) (by show w.heap.size + 1 < _; omega)).trans hc0
  refine hK _ _ (fun _ => ⟨h8, hc0⟩) ?_
  clear hK K
  refine Rd.seq_float (.bool true) (by simp only [List.getElem?_toArray, List.getElem?_cons_succ, List.getElem?_cons_zero]; rfl) rfl (by rfl) (fun X _ => by go_simp) ?_
  simp only [Act.put, List.setIfInBounds_toArray, List.set_cons_succ, List.set_cons_zero]
  refine Rd.seq_end ?_

  go_wp2_with fail
  refine bodyPost_ret (results29 rfl _ w5 (w.heap.size + 1 + 1) _ _ _ (.bool true) rfl rfl hZ) rfl ?_
  exact ⟨rfl, hP, hO⟩
theorem do_any (p g : Nat) (cs : List Nat) (on : Nat) (x : Int × Bool) (w : World) (h : IsTopo w p g cs on) (ok : TopoOk cs on) :
    Calls Try.prog 14 #[.pointer (some ⟨p, 0, none⟩), .agg (TV cs on), .agg #[.int .i64 x.1, .bool x.2]] w fun e w' => e = .returned (.tuple #[.agg (TV cs (actN cs on x)), .bool true]) ∧ IsTopo w' p g cs (actN cs on x) ∧ Only g w w' := by
  obtain ⟨c, u⟩ := x
  cases u
  · exact do_down p g cs on c w h ok
  · exact do_up p g cs on c w h ok
end Go.Proofs.Ytbeklkgoiigccaa
