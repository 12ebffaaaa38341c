/-
  Contracts of the program's put and Drop, over links. Conditions: the ring set is one; the places are some of it.
-/
import Derived.Test.YtglnjpbjlcbgoaaVd
namespace Go.Proofs.Ytglnjpbjlcbgoaa
open Go.RowKit

section
variable {p g c N M : Nat} {S : Ln} {w : World}
set_option maxRecDepth 100000 in
set_option maxHeartbeats 4000000 in
theorem put_no1 (h : IsR w p g c N M S) (j x : Nat) (hj : j < N + M)  (hlj : S.li j = -1) :
    Calls Try.prog 36 #[.pointer (some ⟨p, 0, none⟩), .int .i64 (j : Int), .int .i64 (x : Int)] w fun e w' => e = .returned (.int .i64 10) ∧ IsR w' p g c N M S ∧ Only g w w' := by
  have hr' := h.range hj
  rw [hlj] at hr'
  have hr := hr'
  have h1 := h.c1
  have hb : Below w.heap.size w (w.alloc (.cells #[.int .i64 0, .int .i64 0, .int .i64 0] 55)) := (Below.refl _ w).alloc (Nat.le_refl _) _
  have hsz : (w.alloc (.cells #[.int .i64 0, .int .i64 0, .int .i64 0] 55)).heap.size = w.heap.size + 1 := by simp
  have hZ := IsK.new w 0 0 0
  have hl := h.ltp
  have hlg := h.ltg
  have h2 := h.alloc (.cells #[.int .i64 0, .int .i64 0, .int .i64 0] 55)
  go_enter Try.func36, Try.ntmps36
  go_wp2_with (first | (refine wpList_load_mid rfl 55 _ rfl g (j * 3) rfl _ _ hr Try.underlying55 rfl Try.size55 ?_) | (refine wpList_alloc55 rfl rfl ?_; generalize w.alloc (.cells #[.int .i64 0, .int .i64 0, .int .i64 0] 55) = w1 at *) | (refine wpList_store55 rfl _ _ rfl w.heap.size _ _ _ 0 0 0 rfl rfl hZ ?_; intro w2 hZ2 t2; replace h2 := h2.turn t2 (by omega) (by omega); have hb2 := hb.trans (t2.below (Nat.le_refl _)); have hk1 := hZ2.c1; have hk2 := hZ2.c2; have hk0 := hZ2.c0; have hc1 := h2.c1; have hs2 := t2.size))
  go_ret
  exact ⟨rfl, h2, Only.of_below hb2⟩
set_option maxRecDepth 100000 in
set_option maxHeartbeats 4000000 in
theorem put_no2 (h : IsR w p g c N M S) (j x : Nat) (hj : j < N + M) (hx : x < N) (y z : Int) (hlj : S.li j = z) (hlx : S.li x = y) (hz : ¬ z = -1) (hy : ¬ y = -1) :
    Calls Try.prog 36 #[.pointer (some ⟨p, 0, none⟩), .int .i64 (j : Int), .int .i64 (x : Int)] w fun e w' => e = .returned (.int .i64 10) ∧ IsR w' p g c N M S ∧ Only g w w' := by
  have hr' := h.range hj
  rw [hlj] at hr'
  have hz2 := beq_ff hz
  have hy2 := bne_tt hy
  have HLX := Lib.hid hlx
  clear hlx hlj hz hy
  have hr := hr'
  have h1 := h.c1
  have hb : Below w.heap.size w (w.alloc (.cells #[.int .i64 0, .int .i64 0, .int .i64 0] 55)) := (Below.refl _ w).alloc (Nat.le_refl _) _
  have hsz : (w.alloc (.cells #[.int .i64 0, .int .i64 0, .int .i64 0] 55)).heap.size = w.heap.size + 1 := by simp
  have hZ := IsK.new w 0 0 0
  have hl := h.ltp
  have hlg := h.ltg
  have h2 := h.alloc (.cells #[.int .i64 0, .int .i64 0, .int .i64 0] 55)
  go_enter Try.func36, Try.ntmps36
  go_wp2_with (first | (refine wpList_load_mid rfl 55 _ rfl g (j * 3) rfl _ _ hr Try.underlying55 rfl Try.size55 ?_) | (refine wpList_alloc55 rfl rfl ?_; generalize w.alloc (.cells #[.int .i64 0, .int .i64 0, .int .i64 0] 55) = w1 at *) | (refine wpList_store55 rfl _ _ rfl w.heap.size _ _ _ 0 0 0 rfl rfl hZ ?_; intro w2 hZ2 t2; replace h2 := h2.turn t2 (by omega) (by omega); have hb2 := hb.trans (t2.below (Nat.le_refl _)); have hk1 := hZ2.c1; have hk2 := hZ2.c2; have hk0 := hZ2.c0; have hc1 := h2.c1; have hs2 := t2.size; have hlx := h2.gl (j := x) (by omega); rw [HLX.out] at hlx))
  go_ret
  exact ⟨rfl, h2, Only.of_below hb2⟩
set_option maxRecDepth 100000 in
set_option maxHeartbeats 4000000 in
theorem put_yes (h : IsR w p g c N M S) (j x : Nat) (hj : j < N + M) (hx : x < N) (n : Nat) (z : Int) (hlj : S.li j = z) (hnj : S.nx j = (n : Int)) (hn : n < N + M) (hlx : S.li x = -1) (hz : ¬ z = -1) :
    Calls Try.prog 36 #[.pointer (some ⟨p, 0, none⟩), .int .i64 (j : Int), .int .i64 (x : Int)] w fun e w' => e = .returned (.int .i64 0) ∧ IsR w' p g c N M ⟨upd (upd S.pv x j) n x, upd (upd S.nx x n) j x, upd S.li x z⟩ ∧ Only g w w' := by
  have hr' := h.range hj
  rw [hlj, hnj] at hr'
  have hz2 := beq_ff hz
  have HLX := Lib.hid hlx
  clear hlx hlj hz hnj
  have hr := hr'
  have h1 := h.c1
  have hb : Below w.heap.size w (w.alloc (.cells #[.int .i64 0, .int .i64 0, .int .i64 0] 55)) := (Below.refl _ w).alloc (Nat.le_refl _) _
  have hsz : (w.alloc (.cells #[.int .i64 0, .int .i64 0, .int .i64 0] 55)).heap.size = w.heap.size + 1 := by simp
  have hZ := IsK.new w 0 0 0
  have hl := h.ltp
  have hlg := h.ltg
  have h2 := h.alloc (.cells #[.int .i64 0, .int .i64 0, .int .i64 0] 55)
  go_enter Try.func36, Try.ntmps36
  go_wp2_with (first | (refine wpList_load_mid rfl 55 _ rfl g (j * 3) rfl _ _ hr Try.underlying55 rfl Try.size55 ?_) | (refine wpList_alloc55 rfl rfl ?_; generalize w.alloc (.cells #[.int .i64 0, .int .i64 0, .int .i64 0] 55) = w1 at *) | (refine wpList_store55 rfl _ _ rfl w.heap.size _ _ _ 0 0 0 rfl rfl hZ ?_; intro w2 hZ2 t2; replace h2 := h2.turn t2 (by omega) (by omega); have hb2 := hb.trans (t2.below (Nat.le_refl _)); have hk1 := hZ2.c1; have hk2 := hZ2.c2; have hk0 := hZ2.c0; have hc1 := h2.c1; have hs2 := t2.size; have hlx := h2.gl (j := x) (by omega); rw [HLX.out] at hlx))
  have h3 := h2.drew
  have hZ3 := hZ2.drew
  have ho3 : Only g w w2.drew := Only.of_below (hb2.trans ((Same.drew w2).below _))
  have hq : (fun X => X.cell? ⟨p, 1, none⟩ = some (.slice (some ⟨g, 0, none⟩) (N + M) c) ∧ X.cell? ⟨w.heap.size, 1, none⟩ = some (.int .i64 (n : Int)) ∧ X.cell? ⟨w.heap.size, 2, none⟩ = some (.int .i64 z)) w2.drew := ⟨h3.c1, hZ3.c1, hZ3.c2⟩
  refine Rd.region (fun X => X.cell? ⟨p, 1, none⟩ = some (.slice (some ⟨g, 0, none⟩) (N + M) c) ∧ X.cell? ⟨w.heap.size, 1, none⟩ = some (.int .i64 (n : Int)) ∧ X.cell? ⟨w.heap.size, 2, none⟩ = some (.int .i64 z)) 13 [0, 1, 2, 3, 4, 5, 6, 7, 8, 9, 10, 11] [0, 1, 2, 3, 4, 5, 6, 7, 8, 9, 10, 11, 12] (by kernel_rfl) (by kernel_rfl) (by kernel_rfl) (by kernel_rfl) rfl hq ?_
  clear hk0 hk1 hk2 hc1 hq hlx h2 hZ2 t2 hb2 hb hZ
  generalize w2.drew = w3 at *
  have t4 := Turn.set3 w3 g (x * 3) (.int .i64 (j : Int)) (.int .i64 (n : Int)) (.int .i64 z)
  have h4 := h3.set3 x j n z
  have hZ4 := hZ3.turn t4 (by omega)
  have ho4 := ho3.trans (Only.of_turn t4)
  have hq1 := hZ4.c1
  have hq2 := hZ4.c2
  refine Rd.seq_float (.pointer (some ⟨p, 0, none⟩)) (by simp only [List.getElem?_toArray, List.getElem?_cons_zero]; rfl) rfl (by rfl) (fun X _ => by go_simp) ?_
  simp only [Act.put, List.setIfInBounds_toArray, List.set_cons_succ, List.set_cons_zero]
  refine Rd.seq_float (.pointer (some ⟨p, 0, none⟩)) (by simp only [List.getElem?_toArray, List.getElem?_cons_succ, List.getElem?_cons_zero]; rfl) rfl (by rfl) (fun X _ => by go_simp) ?_
  simp only [Act.put, List.setIfInBounds_toArray, List.set_cons_succ, List.set_cons_zero]
  refine Rd.seq_float (.pointer (some ⟨p, 1, none⟩)) (by simp only [List.getElem?_toArray, List.getElem?_cons_succ, List.getElem?_cons_zero]; rfl) rfl (by rfl) (fun X _ => by go_simp) ?_
  simp only [Act.put, List.setIfInBounds_toArray, List.set_cons_succ, List.set_cons_zero]
  refine Rd.seq_float (.slice (some ⟨g, 0, none⟩) (N + M) c) (by simp only [List.getElem?_toArray, List.getElem?_cons_succ, List.getElem?_cons_zero]; rfl) rfl (by rfl) (fun X hX => by obtain ⟨e1, e2, e3⟩ := hX; go_simp) ?_
  simp only [Act.put, List.setIfInBounds_toArray, List.set_cons_succ, List.set_cons_zero]
  refine Rd.seq_float (.int .i64 (x : Int)) (by simp only [List.getElem?_toArray, List.getElem?_cons_succ, List.getElem?_cons_zero]; rfl) rfl (by rfl) (fun X _ => by go_simp) ?_
  simp only [Act.put, List.setIfInBounds_toArray, List.set_cons_succ, List.set_cons_zero]
  refine Rd.seq_float (.int .i64 (j : Int)) (by simp only [List.getElem?_toArray, List.getElem?_cons_succ, List.getElem?_cons_zero]; rfl) rfl (by rfl) (fun X _ => by go_simp) ?_
  simp only [Act.put, List.setIfInBounds_toArray, List.set_cons_succ, List.set_cons_zero]
  refine Rd.seq_float (.pointer (some ⟨w.heap.size, 1, none⟩)) (by simp only [List.getElem?_toArray, List.getElem?_cons_succ, List.getElem?_cons_zero]; rfl) rfl (by rfl) (fun X _ => by go_simp) ?_
  simp only [Act.put, List.setIfInBounds_toArray, List.set_cons_succ, List.set_cons_zero]
  refine Rd.seq_float (.int .i64 (n : Int)) (by simp only [List.getElem?_toArray, List.getElem?_cons_succ, List.getElem?_cons_zero]; rfl) rfl (by rfl) (fun X hX => by obtain ⟨e1, e2, e3⟩ := hX; go_simp) ?_
  simp only [Act.put, List.setIfInBounds_toArray, List.set_cons_succ, List.set_cons_zero]
  refine Rd.seq_float (.pointer (some ⟨w.heap.size, 2, none⟩)) (by simp only [List.getElem?_toArray, List.getElem?_cons_succ, List.getElem?_cons_zero]; rfl) rfl (by rfl) (fun X _ => by go_simp) ?_
  simp only [Act.put, List.setIfInBounds_toArray, List.set_cons_succ, List.set_cons_zero]
  refine Rd.seq_float (.int .i64 z) (by simp only [List.getElem?_toArray, List.getElem?_cons_succ, List.getElem?_cons_zero]; rfl) rfl (by rfl) (fun X hX => by obtain ⟨e1, e2, e3⟩ := hX; go_simp) ?_
  simp only [Act.put, List.setIfInBounds_toArray, List.set_cons_succ, List.set_cons_zero]
  refine Rd.seq_float (.agg #[.int .i64 (j : Int), .int .i64 (n : Int), .int .i64 z]) (by simp only [List.getElem?_toArray, List.getElem?_cons_succ, List.getElem?_cons_zero]; rfl) rfl (by rfl) (fun X _ => by kernel_rfl) ?_
  simp only [Act.put, List.setIfInBounds_toArray, List.set_cons_succ, List.set_cons_zero]
  refine Rd.seq_float (.pointer (some ⟨g, x * 3, none⟩)) (by simp only [List.getElem?_toArray, List.getElem?_cons_succ, List.getElem?_cons_zero]; rfl) rfl (by rfl) (fun X _ => by first | (go_simp; done) | (go_simp; intro hx; omega)) ?_
  simp only [Act.put, List.setIfInBounds_toArray, List.set_cons_succ, List.set_cons_zero]
  refine Rd.seq_move (by simp only [List.getElem?_toArray, List.getElem?_cons_succ, List.getElem?_cons_zero]; rfl) rfl (by rfl) (fun K hK => ?_)
  refine wp_store_mid 55 _ _ rfl g (x * 3) _ rfl rfl (h3.there (by omega)) Try.size55 (by simp [Value.oneCell']) ?_
  refine hK _ _ (fun _ => ⟨h4.c1, hq1, hq2⟩) ?_
  refine Rd.seq_end ?_
  clear h3 hZ3 ho3 t4 hq1 hq2
  generalize w3.setCells g (x * 3) [.int .i64 (j : Int), .int .i64 (n : Int), .int .i64 z] = w4 at *
  go_wp2_with fail
  have h5 := h4.drew
  have hZ5 := hZ4.drew
  have ho5 := ho4.trans ((Same.drew w4).only g)
  have hq : (fun X => X.cell? ⟨p, 1, none⟩ = some (.slice (some ⟨g, 0, none⟩) (N + M) c) ∧ X.cell? ⟨w.heap.size, 1, none⟩ = some (.int .i64 (n : Int))) w4.drew := ⟨h5.c1, hZ5.c1⟩
  refine Rd.region (fun X => X.cell? ⟨p, 1, none⟩ = some (.slice (some ⟨g, 0, none⟩) (N + M) c) ∧ X.cell? ⟨w.heap.size, 1, none⟩ = some (.int .i64 (n : Int))) 10 [0, 1, 2, 3, 4, 5, 6, 7, 8] [0, 1, 2, 3, 4, 5, 6, 7, 8, 9] (by kernel_rfl) (by kernel_rfl) (by kernel_rfl) (by kernel_rfl) rfl hq ?_
  clear hq h4 hZ4 ho4
  generalize w4.drew = w5 at *
  have hg5 := h5.gp hn
  have hf5 := h5.fg (n * 3)
  have t6 := Turn.setCell w5 g (n * 3) (.int .i64 (x : Int))
  have h6 := h5.setP n x
  have hZ6 := hZ5.turn t6 (by omega)
  have ho6 := ho5.trans (Only.of_turn t6)
  have hq3 := hZ6.c1
  refine Rd.seq_float (.pointer (some ⟨p, 0, none⟩)) (by simp only [List.getElem?_toArray, List.getElem?_cons_zero]; rfl) rfl (by rfl) (fun X _ => by go_simp) ?_
  simp only [Act.put, List.setIfInBounds_toArray, List.set_cons_succ, List.set_cons_zero]
  refine Rd.seq_float (.pointer (some ⟨p, 0, none⟩)) (by simp only [List.getElem?_toArray, List.getElem?_cons_succ, List.getElem?_cons_zero]; rfl) rfl (by rfl) (fun X _ => by go_simp) ?_
  simp only [Act.put, List.setIfInBounds_toArray, List.set_cons_succ, List.set_cons_zero]
  refine Rd.seq_float (.pointer (some ⟨p, 1, none⟩)) (by simp only [List.getElem?_toArray, List.getElem?_cons_succ, List.getElem?_cons_zero]; rfl) rfl (by rfl) (fun X _ => by go_simp) ?_
  simp only [Act.put, List.setIfInBounds_toArray, List.set_cons_succ, List.set_cons_zero]
  refine Rd.seq_float (.slice (some ⟨g, 0, none⟩) (N + M) c) (by simp only [List.getElem?_toArray, List.getElem?_cons_succ, List.getElem?_cons_zero]; rfl) rfl (by rfl) (fun X hX => by obtain ⟨e1, e2⟩ := hX; go_simp) ?_
  simp only [Act.put, List.setIfInBounds_toArray, List.set_cons_succ, List.set_cons_zero]
  refine Rd.seq_float (.pointer (some ⟨w.heap.size, 1, none⟩)) (by simp only [List.getElem?_toArray, List.getElem?_cons_succ, List.getElem?_cons_zero]; rfl) rfl (by rfl) (fun X _ => by go_simp) ?_
  simp only [Act.put, List.setIfInBounds_toArray, List.set_cons_succ, List.set_cons_zero]
  refine Rd.seq_float (.int .i64 (n : Int)) (by simp only [List.getElem?_toArray, List.getElem?_cons_succ, List.getElem?_cons_zero]; rfl) rfl (by rfl) (fun X hX => by obtain ⟨e1, e2⟩ := hX; go_simp) ?_
  simp only [Act.put, List.setIfInBounds_toArray, List.set_cons_succ, List.set_cons_zero]
  refine Rd.seq_float (.int .i64 (x : Int)) (by simp only [List.getElem?_toArray, List.getElem?_cons_succ, List.getElem?_cons_zero]; rfl) rfl (by rfl) (fun X _ => by go_simp) ?_
  simp only [Act.put, List.setIfInBounds_toArray, List.set_cons_succ, List.set_cons_zero]
  refine Rd.seq_float (.pointer (some ⟨g, n * 3, none⟩)) (by simp only [List.getElem?_toArray, List.getElem?_cons_succ, List.getElem?_cons_zero]; rfl) rfl (by rfl) (fun X _ => by first | (go_simp; done) | (go_simp; intro hx; omega)) ?_
  simp only [Act.put, List.setIfInBounds_toArray, List.set_cons_succ, List.set_cons_zero]
  refine Rd.seq_float (.pointer (some ⟨g, n * 3, none⟩)) (by simp only [List.getElem?_toArray, List.getElem?_cons_succ, List.getElem?_cons_zero]; rfl) rfl (by rfl) (fun X _ => by go_simp) ?_
  simp only [Act.put, List.setIfInBounds_toArray, List.set_cons_succ, List.set_cons_zero]
  refine Rd.seq_move (by simp only [List.getElem?_toArray, List.getElem?_cons_succ, List.getElem?_cons_zero]; rfl) rfl (by rfl) (fun K hK => ?_)
  go_simp
  refine hK _ _ (fun _ => ⟨h6.c1, hq3⟩) ?_
  refine Rd.seq_end ?_
  clear h5 hZ5 ho5 t6 hg5 hf5 hq3
  generalize w5.setCell ⟨g, n * 3, none⟩ (.int .i64 (x : Int)) = w6 at *
  have h61 := h6.c1
  have hg6 := h6.gn hj
  have hf6 := h6.fg (j * 3 + 1)
  have h7 := h6.setN j x
  have t7 := Turn.setCell w6 g (j * 3 + 1) (.int .i64 (x : Int))
  have ho7 := ho6.trans (Only.of_turn t7)
  go_wp2_with fail
  go_ret
  exact ⟨rfl, h7, ho7⟩
set_option maxRecDepth 100000 in
set_option maxHeartbeats 4000000 in
theorem Drop_out (h : IsR w p g c N M S) (x : Int) (hx : ¬ (0 ≤ x ∧ x < N)) :
    Calls Try.prog 22 #[.pointer (some ⟨p, 0, none⟩), .int .i64 x] w fun e w' => e = .returned (.int .i64 14) ∧ IsR w' p g c N M S ∧ Only g w w' := by
  have HN := Lib.hid hx
  clear hx
  go_enter Try.func22, Try.ntmps22
  go_wp2_with (go_at_call 35; refine (isNode_any h x false (by have := HN.out; simp only [decide_eq_false_iff_not]; exact this)).mono ?_; rintro e w1 ⟨rfl, rfl⟩)
  go_ret
  exact ⟨rfl, h, Only.refl _ _⟩
set_option maxRecDepth 100000 in
set_option maxHeartbeats 4000000 in
theorem Drop_no (h : IsR w p g c N M S) (x : Nat) (hx : x < N) (hlj : S.li x = -1) :
    Calls Try.prog 22 #[.pointer (some ⟨p, 0, none⟩), .int .i64 (x : Int)] w fun e w' => e = .returned (.int .i64 10) ∧ IsR w' p g c N M S ∧ Only g w w' := by
  have hj : x < N + M := by omega
  have hr' := h.range hj
  rw [hlj] at hr'
  have hr := hr'
  have h1 := h.c1
  have hb : Below w.heap.size w (w.alloc (.cells #[.int .i64 0, .int .i64 0, .int .i64 0] 55)) := (Below.refl _ w).alloc (Nat.le_refl _) _
  have hsz : (w.alloc (.cells #[.int .i64 0, .int .i64 0, .int .i64 0] 55)).heap.size = w.heap.size + 1 := by simp
  have hZ := IsK.new w 0 0 0
  have hl := h.ltp
  have hlg := h.ltg
  have h2 := h.alloc (.cells #[.int .i64 0, .int .i64 0, .int .i64 0] 55)
  go_enter Try.func22, Try.ntmps22
  go_wp2_with (first | (go_at_call 35; refine (isNode_any h (x : Int) true (by simp; omega)).mono ?_; rintro e w0 ⟨rfl, rfl⟩) | (refine wpList_load_mid rfl 55 _ rfl g (x * 3) rfl _ _ hr Try.underlying55 rfl Try.size55 ?_) | (refine wpList_alloc55 rfl rfl ?_; generalize w.alloc (.cells #[.int .i64 0, .int .i64 0, .int .i64 0] 55) = w1 at *) | (refine wpList_store55 rfl _ _ rfl w.heap.size _ _ _ 0 0 0 rfl rfl hZ ?_; intro w2 hZ2 t2; replace h2 := h2.turn t2 (by omega) (by omega); have hb2 := hb.trans (t2.below (Nat.le_refl _)); have hk1 := hZ2.c1; have hk2 := hZ2.c2; have hk0 := hZ2.c0; have hc1 := h2.c1; have hs2 := t2.size))
  go_ret
  exact ⟨rfl, h2, Only.of_below hb2⟩
set_option maxRecDepth 100000 in
set_option maxHeartbeats 4000000 in
theorem Drop_yes (h : IsR w p g c N M S) (x : Nat) (hx : x < N) (a b : Nat) (z : Int) (hlj : S.li x = z) (hpj : S.pv x = (a : Int)) (hnj : S.nx x = (b : Int)) (ha : a < N + M) (hbb : b < N + M) (hz : ¬ z = -1) :
    Calls Try.prog 22 #[.pointer (some ⟨p, 0, none⟩), .int .i64 (x : Int)] w fun e w' => e = .returned (.int .i64 0) ∧ IsR w' p g c N M ⟨upd (upd S.pv b a) x (-1), upd (upd S.nx a b) x (-1), upd S.li x (-1)⟩ ∧ Only g w w' := by
  have hj : x < N + M := by omega
  have hr' := h.range hj
  rw [hlj, hpj, hnj] at hr'
  have hz2 := beq_ff hz
  clear hlj hpj hnj hz
  have hr := hr'
  have h1 := h.c1
  have hb : Below w.heap.size w (w.alloc (.cells #[.int .i64 0, .int .i64 0, .int .i64 0] 55)) := (Below.refl _ w).alloc (Nat.le_refl _) _
  have hsz : (w.alloc (.cells #[.int .i64 0, .int .i64 0, .int .i64 0] 55)).heap.size = w.heap.size + 1 := by simp
  have hZ := IsK.new w 0 0 0
  have hl := h.ltp
  have hlg := h.ltg
  have h2 := h.alloc (.cells #[.int .i64 0, .int .i64 0, .int .i64 0] 55)
  go_enter Try.func22, Try.ntmps22
  go_wp2_with (first | (go_at_call 35; refine (isNode_any h (x : Int) true (by simp; omega)).mono ?_; rintro e w0 ⟨rfl, rfl⟩) | (refine wpList_load_mid rfl 55 _ rfl g (x * 3) rfl _ _ hr Try.underlying55 rfl Try.size55 ?_) | (refine wpList_alloc55 rfl rfl ?_; generalize w.alloc (.cells #[.int .i64 0, .int .i64 0, .int .i64 0] 55) = w1 at *) | (refine wpList_store55 rfl _ _ rfl w.heap.size _ _ _ 0 0 0 rfl rfl hZ ?_; intro w2 hZ2 t2; replace h2 := h2.turn t2 (by omega) (by omega); have hb2 := hb.trans (t2.below (Nat.le_refl _)); have hk1 := hZ2.c1; have hk2 := hZ2.c2; have hk0 := hZ2.c0; have hc1 := h2.c1; have hs2 := t2.size))
  have h3 := h2.drew
  have hZ3 := hZ2.drew
  have ho3 : Only g w w2.drew := Only.of_below (hb2.trans ((Same.drew w2).below _))
  have hq : (fun X => X.cell? ⟨p, 1, none⟩ = some (.slice (some ⟨g, 0, none⟩) (N + M) c) ∧ X.cell? ⟨w.heap.size, 0, none⟩ = some (.int .i64 (a : Int)) ∧ X.cell? ⟨w.heap.size, 1, none⟩ = some (.int .i64 (b : Int))) w2.drew := ⟨h3.c1, hZ3.c0, hZ3.c1⟩
  refine Rd.region (fun X => X.cell? ⟨p, 1, none⟩ = some (.slice (some ⟨g, 0, none⟩) (N + M) c) ∧ X.cell? ⟨w.heap.size, 0, none⟩ = some (.int .i64 (a : Int)) ∧ X.cell? ⟨w.heap.size, 1, none⟩ = some (.int .i64 (b : Int))) 11 [0, 1, 2, 3, 4, 5, 6, 7, 8, 9] [0, 1, 2, 3, 4, 5, 6, 7, 8, 9, 10] (by kernel_rfl) (by kernel_rfl) (by kernel_rfl) (by kernel_rfl) rfl hq ?_
  clear hk0 hk1 hk2 hc1 hq h2 hZ2 t2 hb2 hb hZ
  generalize w2.drew = w3 at *
  have hg3 := h3.gn ha
  have hf3 := h3.fg (a * 3 + 1)
  have t4 := Turn.setCell w3 g (a * 3 + 1) (.int .i64 (b : Int))
  have h4 := h3.setN a b
  have hZ4 := hZ3.turn t4 (by omega)
  have ho4 := ho3.trans (Only.of_turn t4)
  have hq1 := hZ4.c0
  have hq2 := hZ4.c1
  refine Rd.seq_float (.pointer (some ⟨p, 0, none⟩)) (by simp only [List.getElem?_toArray, List.getElem?_cons_zero]; rfl) rfl (by rfl) (fun X _ => by go_simp) ?_
  simp only [Act.put, List.setIfInBounds_toArray, List.set_cons_succ, List.set_cons_zero]
  refine Rd.seq_float (.pointer (some ⟨p, 0, none⟩)) (by simp only [List.getElem?_toArray, List.getElem?_cons_succ, List.getElem?_cons_zero]; rfl) rfl (by rfl) (fun X _ => by go_simp) ?_
  simp only [Act.put, List.setIfInBounds_toArray, List.set_cons_succ, List.set_cons_zero]
  refine Rd.seq_float (.pointer (some ⟨p, 1, none⟩)) (by simp only [List.getElem?_toArray, List.getElem?_cons_succ, List.getElem?_cons_zero]; rfl) rfl (by rfl) (fun X _ => by go_simp) ?_
  simp only [Act.put, List.setIfInBounds_toArray, List.set_cons_succ, List.set_cons_zero]
  refine Rd.seq_float (.slice (some ⟨g, 0, none⟩) (N + M) c) (by simp only [List.getElem?_toArray, List.getElem?_cons_succ, List.getElem?_cons_zero]; rfl) rfl (by rfl) (fun X hX => by obtain ⟨e1, e2, e3⟩ := hX; go_simp) ?_
  simp only [Act.put, List.setIfInBounds_toArray, List.set_cons_succ, List.set_cons_zero]
  refine Rd.seq_float (.pointer (some ⟨w.heap.size, 0, none⟩)) (by simp only [List.getElem?_toArray, List.getElem?_cons_succ, List.getElem?_cons_zero]; rfl) rfl (by rfl) (fun X _ => by go_simp) ?_
  simp only [Act.put, List.setIfInBounds_toArray, List.set_cons_succ, List.set_cons_zero]
  refine Rd.seq_float (.int .i64 (a : Int)) (by simp only [List.getElem?_toArray, List.getElem?_cons_succ, List.getElem?_cons_zero]; rfl) rfl (by rfl) (fun X hX => by obtain ⟨e1, e2, e3⟩ := hX; go_simp) ?_
  simp only [Act.put, List.setIfInBounds_toArray, List.set_cons_succ, List.set_cons_zero]
  refine Rd.seq_float (.pointer (some ⟨w.heap.size, 1, none⟩)) (by simp only [List.getElem?_toArray, List.getElem?_cons_succ, List.getElem?_cons_zero]; rfl) rfl (by rfl) (fun X _ => by go_simp) ?_
  simp only [Act.put, List.setIfInBounds_toArray, List.set_cons_succ, List.set_cons_zero]
  refine Rd.seq_float (.int .i64 (b : Int)) (by simp only [List.getElem?_toArray, List.getElem?_cons_succ, List.getElem?_cons_zero]; rfl) rfl (by rfl) (fun X hX => by obtain ⟨e1, e2, e3⟩ := hX; go_simp) ?_
  simp only [Act.put, List.setIfInBounds_toArray, List.set_cons_succ, List.set_cons_zero]
  refine Rd.seq_float (.pointer (some ⟨g, a * 3, none⟩)) (by simp only [List.getElem?_toArray, List.getElem?_cons_succ, List.getElem?_cons_zero]; rfl) rfl (by rfl) (fun X _ => by first | (go_simp; done) | (go_simp; intro hx; omega)) ?_
  simp only [Act.put, List.setIfInBounds_toArray, List.set_cons_succ, List.set_cons_zero]
  refine Rd.seq_float (.pointer (some ⟨g, a * 3 + 1, none⟩)) (by simp only [List.getElem?_toArray, List.getElem?_cons_succ, List.getElem?_cons_zero]; rfl) rfl (by rfl) (fun X _ => by go_simp) ?_
  simp only [Act.put, List.setIfInBounds_toArray, List.set_cons_succ, List.set_cons_zero]
  refine Rd.seq_move (by simp only [List.getElem?_toArray, List.getElem?_cons_succ, List.getElem?_cons_zero]; rfl) rfl (by rfl) (fun K hK => ?_)
  go_simp
  refine hK _ _ (fun _ => ⟨h4.c1, hq1, hq2⟩) ?_
  refine Rd.seq_end ?_
  clear h3 hZ3 ho3 t4 hq1 hq2 hg3 hf3
  generalize w3.setCell ⟨g, a * 3 + 1, none⟩ (.int .i64 (b : Int)) = w4 at *
  go_wp2_with fail
  have h5 := h4.drew
  have hZ5 := hZ4.drew
  have ho5 := ho4.trans ((Same.drew w4).only g)
  have hq : (fun X => X.cell? ⟨p, 1, none⟩ = some (.slice (some ⟨g, 0, none⟩) (N + M) c) ∧ X.cell? ⟨w.heap.size, 0, none⟩ = some (.int .i64 (a : Int)) ∧ X.cell? ⟨w.heap.size, 1, none⟩ = some (.int .i64 (b : Int))) w4.drew := ⟨h5.c1, hZ5.c0, hZ5.c1⟩
  refine Rd.region (fun X => X.cell? ⟨p, 1, none⟩ = some (.slice (some ⟨g, 0, none⟩) (N + M) c) ∧ X.cell? ⟨w.heap.size, 0, none⟩ = some (.int .i64 (a : Int)) ∧ X.cell? ⟨w.heap.size, 1, none⟩ = some (.int .i64 (b : Int))) 11 [0, 1, 2, 3, 4, 5, 6, 7, 8, 9] [0, 1, 2, 3, 4, 5, 6, 7, 8, 9, 10] (by kernel_rfl) (by kernel_rfl) (by kernel_rfl) (by kernel_rfl) rfl hq ?_
  clear hq h4 hZ4 ho4
  generalize w4.drew = w5 at *
  have hg5 := h5.gp hbb
  have hf5 := h5.fg (b * 3)
  have t6 := Turn.setCell w5 g (b * 3) (.int .i64 (a : Int))
  have h6 := h5.setP b a
  have hZ6 := hZ5.turn t6 (by omega)
  have ho6 := ho5.trans (Only.of_turn t6)
  have hq1 := hZ6.c0
  have hq2 := hZ6.c1
  refine Rd.seq_float (.pointer (some ⟨p, 0, none⟩)) (by simp only [List.getElem?_toArray, List.getElem?_cons_zero]; rfl) rfl (by rfl) (fun X _ => by go_simp) ?_
  simp only [Act.put, List.setIfInBounds_toArray, List.set_cons_succ, List.set_cons_zero]
  refine Rd.seq_float (.pointer (some ⟨p, 0, none⟩)) (by simp only [List.getElem?_toArray, List.getElem?_cons_succ, List.getElem?_cons_zero]; rfl) rfl (by rfl) (fun X _ => by go_simp) ?_
  simp only [Act.put, List.setIfInBounds_toArray, List.set_cons_succ, List.set_cons_zero]
  refine Rd.seq_float (.pointer (some ⟨p, 1, none⟩)) (by simp only [List.getElem?_toArray, List.getElem?_cons_succ, List.getElem?_cons_zero]; rfl) rfl (by rfl) (fun X _ => by go_simp) ?_
  simp only [Act.put, List.setIfInBounds_toArray, List.set_cons_succ, List.set_cons_zero]
  refine Rd.seq_float (.slice (some ⟨g, 0, none⟩) (N + M) c) (by simp only [List.getElem?_toArray, List.getElem?_cons_succ, List.getElem?_cons_zero]; rfl) rfl (by rfl) (fun X hX => by obtain ⟨e1, e2, e3⟩ := hX; go_simp) ?_
  simp only [Act.put, List.setIfInBounds_toArray, List.set_cons_succ, List.set_cons_zero]
  refine Rd.seq_float (.pointer (some ⟨w.heap.size, 1, none⟩)) (by simp only [List.getElem?_toArray, List.getElem?_cons_succ, List.getElem?_cons_zero]; rfl) rfl (by rfl) (fun X _ => by go_simp) ?_
  simp only [Act.put, List.setIfInBounds_toArray, List.set_cons_succ, List.set_cons_zero]
  refine Rd.seq_float (.int .i64 (b : Int)) (by simp only [List.getElem?_toArray, List.getElem?_cons_succ, List.getElem?_cons_zero]; rfl) rfl (by rfl) (fun X hX => by obtain ⟨e1, e2, e3⟩ := hX; go_simp) ?_
  simp only [Act.put, List.setIfInBounds_toArray, List.set_cons_succ, List.set_cons_zero]
  refine Rd.seq_float (.pointer (some ⟨w.heap.size, 0, none⟩)) (by simp only [List.getElem?_toArray, List.getElem?_cons_succ, List.getElem?_cons_zero]; rfl) rfl (by rfl) (fun X _ => by go_simp) ?_
  simp only [Act.put, List.setIfInBounds_toArray, List.set_cons_succ, List.set_cons_zero]
  refine Rd.seq_float (.int .i64 (a : Int)) (by simp only [List.getElem?_toArray, List.getElem?_cons_succ, List.getElem?_cons_zero]; rfl) rfl (by rfl) (fun X hX => by obtain ⟨e1, e2, e3⟩ := hX; go_simp) ?_
  simp only [Act.put, List.setIfInBounds_toArray, List.set_cons_succ, List.set_cons_zero]
  refine Rd.seq_float (.pointer (some ⟨g, b * 3, none⟩)) (by simp only [List.getElem?_toArray, List.getElem?_cons_succ, List.getElem?_cons_zero]; rfl) rfl (by rfl) (fun X _ => by first | (go_simp; done) | (go_simp; intro hx; omega)) ?_
  simp only [Act.put, List.setIfInBounds_toArray, List.set_cons_succ, List.set_cons_zero]
  refine Rd.seq_float (.pointer (some ⟨g, b * 3, none⟩)) (by simp only [List.getElem?_toArray, List.getElem?_cons_succ, List.getElem?_cons_zero]; rfl) rfl (by rfl) (fun X _ => by go_simp) ?_
  simp only [Act.put, List.setIfInBounds_toArray, List.set_cons_succ, List.set_cons_zero]
  refine Rd.seq_move (by simp only [List.getElem?_toArray, List.getElem?_cons_succ, List.getElem?_cons_zero]; rfl) rfl (by rfl) (fun K hK => ?_)
  go_simp
  refine hK _ _ (fun _ => ⟨h6.c1, hq1, hq2⟩) ?_
  refine Rd.seq_end ?_
  clear h5 hZ5 ho5 t6 hg5 hf5 hq1 hq2
  generalize w5.setCell ⟨g, b * 3, none⟩ (.int .i64 (a : Int)) = w6 at *
  go_wp2_with fail
  have h7 := h6.drew
  have ho7 := ho6.trans ((Same.drew w6).only g)
  refine Rd.region (fun X => X.cell? ⟨p, 1, none⟩ = some (.slice (some ⟨g, 0, none⟩) (N + M) c)) 8 [0, 1, 2, 3, 4, 6] [0, 1, 2, 3, 4, 5, 6, 7] (by kernel_rfl) (by kernel_rfl) (by kernel_rfl) (by kernel_rfl) rfl h7.c1 ?_
  clear h6 hZ6 ho6
  generalize w6.drew = w7 at *
  refine Rd.seq_float (.pointer (some ⟨p, 0, none⟩)) (by simp only [List.getElem?_toArray, List.getElem?_cons_zero]; rfl) rfl (by rfl) (fun X _ => by go_simp) ?_
  simp only [Act.put, List.setIfInBounds_toArray, List.set_cons_succ, List.set_cons_zero]
  refine Rd.seq_float (.pointer (some ⟨p, 0, none⟩)) (by simp only [List.getElem?_toArray, List.getElem?_cons_succ, List.getElem?_cons_zero]; rfl) rfl (by rfl) (fun X _ => by go_simp) ?_
  simp only [Act.put, List.setIfInBounds_toArray, List.set_cons_succ, List.set_cons_zero]
  refine Rd.seq_float (.pointer (some ⟨p, 1, none⟩)) (by simp only [List.getElem?_toArray, List.getElem?_cons_succ, List.getElem?_cons_zero]; rfl) rfl (by rfl) (fun X _ => by go_simp) ?_
  simp only [Act.put, List.setIfInBounds_toArray, List.set_cons_succ, List.set_cons_zero]
  refine Rd.seq_float (.slice (some ⟨g, 0, none⟩) (N + M) c) (by simp only [List.getElem?_toArray, List.getElem?_cons_succ, List.getElem?_cons_zero]; rfl) rfl (by rfl) (fun X hX => by have e1 := hX; go_simp) ?_
  simp only [Act.put, List.setIfInBounds_toArray, List.set_cons_succ, List.set_cons_zero]
  refine Rd.seq_float (.int .i64 (x : Int)) (by simp only [List.getElem?_toArray, List.getElem?_cons_succ, List.getElem?_cons_zero]; rfl) rfl (by rfl) (fun X _ => by go_simp) ?_
  simp only [Act.put, List.setIfInBounds_toArray, List.set_cons_succ, List.set_cons_zero]
  refine Rd.seq_move (by simp only [List.getElem?_toArray, List.getElem?_cons_succ, List.getElem?_cons_zero]; rfl) rfl (by rfl) (fun K hK => ?_)
  go_simp
  refine (loose_any w7).mono ?_
  rintro e w8 ⟨rfl, hb8⟩
  have h8 := h7.belowS hb8
  have ho8 := ho7.trans (Only.of_below hb8)
  have h9 := h8.set3 x (-1) (-1) (-1)
  have t9 := Turn.set3 w8 g (x * 3) (.int .i64 (-1)) (.int .i64 (-1)) (.int .i64 (-1))
  have ho9 := ho8.trans (Only.of_turn t9)
  refine hK _ _ (fun _ => h8.c1) ?_
  clear hK K
  refine Rd.seq_float (.pointer (some ⟨g, x * 3, none⟩)) (by simp only [List.getElem?_toArray, List.getElem?_cons_succ, List.getElem?_cons_zero]; rfl) rfl (by rfl) (fun X _ => by first | (go_simp; done) | (go_simp; intro hx; omega)) ?_
  simp only [Act.put, List.setIfInBounds_toArray, List.set_cons_succ, List.set_cons_zero]
  refine Rd.seq_move (by simp only [List.getElem?_toArray, List.getElem?_cons_succ, List.getElem?_cons_zero]; rfl) rfl (by rfl) (fun K hK => ?_)
  refine wp_store_mid 55 _ _ rfl g (x * 3) _ rfl rfl (h8.there (by omega)) Try.size55 (by simp [Value.oneCell']) ?_
  refine hK _ _ (fun _ => h9.c1) ?_
  refine Rd.seq_end ?_
  go_wp2_with fail
  go_ret
  exact ⟨rfl, h9, ho9⟩
end
end Go.Proofs.Ytglnjpbjlcbgoaa
