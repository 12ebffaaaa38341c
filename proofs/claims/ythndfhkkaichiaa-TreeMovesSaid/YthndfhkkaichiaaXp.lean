/-
  The document's Children, Fan, Active. Condition: the groups are a forest.
-/
import Derived.Test.YthndfhkkaichiaaXo
namespace Go.Proofs.Ythndfhkkaichiaa
open Go.RowKit Go.Maps

theorem take_snoc {L : List Gr} {k : Nat} (h : k < L.length) : L.take (k + 1) = L.take k ++ [L.getD k g0] := by
  rw [List.take_add_one]
  simp [List.getD, h]
theorem kids_yes {L : List Gr} {x : Int} {k : Nat} (h : k < L.length) (hp : (L.getD k g0).pa = x) : kids (L.take (k + 1)) x = kids (L.take k) x ++ [(L.getD k g0).id] := by
  rw [take_snoc h]
  unfold kids
  rw [List.filter_append, List.map_append, List.filter_cons_of_pos (by simpa using hp)]
  rfl
theorem kids_no {L : List Gr} {x : Int} {k : Nat} (h : k < L.length) (hp : ¬ (L.getD k g0).pa = x) : kids (L.take (k + 1)) x = kids (L.take k) x := by
  rw [take_snoc h]
  unfold kids
  rw [List.filter_append, List.map_append, List.filter_cons_of_neg (by simpa using hp)]
  simp
theorem sumA_snoc {L : List Gr} {t : Int} {k : Nat} (h : k < L.length) : sumA L t (idsG (L.take (k + 1))) = sumA L t (idsG (L.take k)) + aw1 L t (L.getD k g0).id := by
  rw [take_snoc h]
  unfold sumA idsG
  simp
theorem ids_take {L : List Gr} {k : Nat} {y : Int} (h : y ∈ idsG (L.take k)) : has L y = true := by
  rw [has_ids]
  unfold idsG at *
  obtain ⟨g, hg, rfl⟩ := List.mem_map.1 h
  exact List.mem_map.2 ⟨g, List.mem_of_mem_take hg, rfl⟩
section
variable (r m : Int) (a : Option Addr) (c : Nat) (L : List Gr)
set_option maxRecDepth 100000 in
set_option maxHeartbeats 4000000 in
theorem rKids_any (x : Int) (w : World) (h : RowG w (.slice a L.length c) L) (hl : L.length ≤ 64) (hx : 1 ≤ x) :
    Calls Try.prog 37 #[.agg (cellsF r m (.slice a L.length c)), .int .i64 x] w fun e w' => (∃ a' c', e = .returned (.slice a' (kids L x).length c') ∧ RowO w' w.heap.size (.slice a' (kids L x).length c') (kids L x)) ∧ Below w.heap.size w w' := by
  have hb1 : Below w.heap.size w (w.alloc (.cells (cellsF r m (.slice a L.length c)) 30)) := (Below.refl _ w).alloc (Nat.le_refl _) _
  have h1 := h.alloc (.cells (cellsF r m (.slice a L.length c)) 30)
  have hB := Blk.new w 30 (cellsF r m (.slice a L.length c))
  have h2 := cF2 hB
  have HB : Hid (∀ X, Below w.heap.size (w.alloc (.cells (cellsF r m (.slice a L.length c)) 30)) X → True) := Lib.hid fun _ _ => trivial
  have HX : Hid (∀ X, Below (w.alloc (.cells (cellsF r m (.slice a L.length c)) 30)).heap.size (w.alloc (.cells (cellsF r m (.slice a L.length c)) 30)) X → RowG X (.slice a L.length c) L ∧ X.cell? ⟨w.heap.size, 2, none⟩ = some (.slice a L.length c)) := Lib.hid fun X hX => ⟨h1.below hX, cF2 (hB.below hX)⟩
  clear h h1 hB HB
  unfold cellsF at h2 hb1 HX ⊢
  go_enter Try.func37, Try.ntmps37
  go_wp2_with fail
  have hs1 := hb1.size
  generalize w.alloc (.cells #[.int .i64 r, .int .i64 m, .slice a L.length c] 30) = w1 at *
  go_loopw [5, 10] (fun v i wr => ∃ (k : Nat) (a' : Option Addr) (c' : Nat), k ≤ L.length ∧ i = .int .i64 k ∧ v = .slice a' (kids (L.take k) x).length c' ∧ RowO wr w1.heap.size (.slice a' (kids (L.take k) x).length c') (kids (L.take k) x) ∧ Below w1.heap.size w1 wr) (fun _ i _ => L.length - (intOf i).toNat)
  case atStart => exact ⟨0, none, 0, by omega, rfl, rfl, RowO.nil _ _, Below.refl _ _⟩
  case round =>
    obtain ⟨k, a', c', hk, rfl, rfl, hro, hb⟩ := hrel
    have h3 := (HX.out _ hb).2
    have hsz := hb.size
    by_cases hlt : k < L.length
    · obtain ⟨b, rfl, hc⟩ := (HX.out _ hb).1.at hlt
      have hid := hc.id hlt
      have hpa := hc.pa hlt
      have hkl := kids_len (L.take k) x
      have hkl2 : (L.take k).length ≤ 64 := by rw [List.length_take]; omega
      clear hc
      by_cases e : (L.getD k g0).pa = x
      · have HE := Lib.hid (kids_yes hlt e)
        rw [e] at hpa
        clear e
        generalize (L.getD k g0).id = y at *
        generalize kids (L.take k) x = ks at *
        have hA := OneAt.new wr y
        have hba : Below w1.heap.size w1 (wr.alloc (.cells #[.int .i64 y] 3)) := Below.allocS hb _
        have hroa : RowO (wr.alloc (.cells #[.int .i64 y] 3)) w1.heap.size (.slice a' ks.length c') ks := hro.alloc _
        go_wp2_with (first | (refine wpList_append rfl _ _ rfl w1.heap.size (.slice a' ks.length c') _ ks [y] rfl rfl (by simp; omega) hroa hA.src (by simp; omega) ?_; intro v' w2 hro2 hg2))
        have hb2 : Below w1.heap.size w1 w2 := hba.trans (grown_below hroa hba.size hg2)
        obtain ⟨a2, c2, rfl⟩ := hro2.sl
        exact ⟨⟨k + 1, a2, c2, by omega, by go_num, by rw [HE.out], by rw [HE.out]; exact hro2, hb2⟩, by simp [intOf]; omega⟩
      · have HE := Lib.hid (kids_no hlt e)
        have e2 := beq_ff e
        generalize (L.getD k g0).pa = p at *
        go_wp2_with fail
        exact ⟨⟨k + 1, a', c', by omega, by go_num, by rw [HE.out], by rw [HE.out]; exact hro, hb⟩, by simp [intOf]; omega⟩
    · obtain rfl : k = L.length := by omega
      rw [List.take_length] at *
      go_wp2_with fail
      go_ret
      exact ⟨⟨a', c', rfl, hro.mono hs1⟩, hb1.trans (hb.mono hs1)⟩
set_option maxRecDepth 100000 in
set_option maxHeartbeats 4000000 in
theorem rFan_any (x : Int) (m0 k : Int) (w : World) (h : RowG w (.slice a L.length c) L) (ok : Ok L m0 k) (hh : has L x = true) :
    Calls Try.prog 51 #[.agg (cellsF r m (.slice a L.length c)), .int .i64 x] w fun e w' => e = .returned (.int .i64 (fanI L x)) ∧ Below w.heap.size w w' := by
  have hne := has_pos_len hh
  have n64 := ok.n64
  obtain ⟨b, rfl, hR⟩ := Rdd.of (r := r) (m := m) h ok.n64 hne
  have hb1 : Below w.heap.size w (w.alloc (.cells #[.int .i64 r, .int .i64 m, .slice (some ⟨b, 0, none⟩) L.length c] 30)) := (Below.refl _ w).alloc (Nat.le_refl _) _
  have hj := has_pos hh
  have HJ : Hid (atG L x = (pos L x : Int)) := Lib.hid (atG_yes hh)
  have HV : Hid (∀ X, Below (w.alloc (.cells #[.int .i64 r, .int .i64 m, .slice (some ⟨b, 0, none⟩) L.length c] 30)).heap.size (w.alloc (.cells #[.int .i64 r, .int .i64 m, .slice (some ⟨b, 0, none⟩) L.length c] 30)) X → X.cell? ⟨b, pos L x * 5 + 3, none⟩ = some (.int .i64 (gr L x).me)) := Lib.hid fun X hX => (hR.cl X hX).me hj
  have HC : Hid (∀ X, Below (w.alloc (.cells #[.int .i64 r, .int .i64 m, .slice (some ⟨b, 0, none⟩) L.length c] 30)).heap.size (w.alloc (.cells #[.int .i64 r, .int .i64 m, .slice (some ⟨b, 0, none⟩) L.length c] 30)) X → Calls Try.prog 37 #[.agg #[.int .i64 r, .int .i64 m, .slice (some ⟨b, 0, none⟩) L.length c], .int .i64 x] X fun e w' => (∃ a' c', e = .returned (.slice a' (kids L x).length c')) ∧ Below (w.alloc (.cells #[.int .i64 r, .int .i64 m, .slice (some ⟨b, 0, none⟩) L.length c] 30)).heap.size (w.alloc (.cells #[.int .i64 r, .int .i64 m, .slice (some ⟨b, 0, none⟩) L.length c] 30)) w') := Lib.hid fun X hX => by
    refine (rKids_any r m _ c L x X ((h.below hb1).below hX) n64 (ok.id hh).1).mono ?_
    rintro e w' ⟨⟨a', c', rfl, _⟩, hb⟩
    exact ⟨⟨a', c', rfl⟩, Below.stay hX hb⟩
  have HR := Lib.hid hR
  have hn := kids_len L x
  have hme := ok.num _ (gr_mem hh)
  have hkk := ok.k1
  unfold fanI
  clear h ok hR hne hh
  generalize (kids L x).length = n at *
  generalize (gr L x).me = me at *
  generalize pos L x = j at *
  obtain ⟨n1, n2, n3, _⟩ := hme
  have HW : Hid (IntKind.i64.wrap ((n : Int) + me) = (n : Int) + me) := Lib.hid (IntWalk.i64_in _ (by omega))
  clear n1 n2 n3 hkk
  unfold cellsF
  go_enter Try.func51, Try.ntmps51
  go_wp2_with fail
  generalize w.alloc (.cells #[.int .i64 r, .int .i64 m, .slice (some ⟨b, 0, none⟩) L.length c] 30) = w1 at *
  have hq : Below w1.heap.size w1 w1.drew := (Same.drew w1).below _
  refine Rd.region (fun X => Below w1.heap.size w1 X) 14 [0, 1, 3, 4, 5, 6, 7, 9, 10, 11, 12, 13] [0, 1, 4, 5, 6, 7, 2, 3, 8, 9, 10, 11, 12, 13] (by kernel_rfl) (by kernel_rfl) (by kernel_rfl) (by kernel_rfl) rfl hq ?_
  refine Rd.seq_float (.agg #[.int .i64 r, .int .i64 m, .slice (some ⟨b, 0, none⟩) L.length c]) (by simp only [List.getElem?_toArray, List.getElem?_cons_zero]; rfl) rfl (by rfl) (fun X hX => run_load30 rfl rfl (HR.out.box X hX)) ?_
  simp only [Act.put, List.setIfInBounds_toArray, List.set_cons_succ, List.set_cons_zero]
  refine Rd.seq_float (.int .i64 x) (by simp only [List.getElem?_toArray, List.getElem?_cons_succ, List.getElem?_cons_zero]; rfl) rfl (by rfl) (fun X _ => by go_simp) ?_
  simp only [Act.put, List.setIfInBounds_toArray, List.set_cons_succ, List.set_cons_zero]
  refine Rd.seq_float (.pointer (some ⟨w.heap.size, 2, none⟩)) (by simp only [List.getElem?_toArray, List.getElem?_cons_succ, List.getElem?_cons_zero]; rfl) rfl (by rfl) (fun X _ => by go_simp) ?_
  simp only [Act.put, List.setIfInBounds_toArray, List.set_cons_succ, List.set_cons_zero]
  refine Rd.seq_float (.slice (some ⟨b, 0, none⟩) L.length c) (by simp only [List.getElem?_toArray, List.getElem?_cons_succ, List.getElem?_cons_zero]; rfl) rfl (by rfl) (fun X hX => by have e2 := cF2 (HR.out.box X hX); go_simp) ?_
  simp only [Act.put, List.setIfInBounds_toArray, List.set_cons_succ, List.set_cons_zero]
  refine Rd.seq_float (.agg #[.int .i64 r, .int .i64 m, .slice (some ⟨b, 0, none⟩) L.length c]) (by simp only [List.getElem?_toArray, List.getElem?_cons_succ, List.getElem?_cons_zero]; rfl) rfl (by rfl) (fun X hX => run_load30 rfl rfl (HR.out.box X hX)) ?_
  simp only [Act.put, List.setIfInBounds_toArray, List.set_cons_succ, List.set_cons_zero]
  refine Rd.seq_float (.int .i64 x) (by simp only [List.getElem?_toArray, List.getElem?_cons_succ, List.getElem?_cons_zero]; rfl) rfl (by rfl) (fun X _ => by go_simp) ?_
  simp only [Act.put, List.setIfInBounds_toArray, List.set_cons_succ, List.set_cons_zero]
  refine Rd.seq_move (by simp only [List.getElem?_toArray, List.getElem?_cons_succ, List.getElem?_cons_zero]; rfl) rfl (by rfl) (fun K hK => ?_)
  go_simp
  refine (HC.out _ hq).mono ?_
  rintro e w3 ⟨⟨a', c', rfl⟩, hb3⟩
  refine hK _ _ (fun _ => hb3) ?_
  clear hK K
  refine Rd.seq_float (.int .i64 (n : Int)) (by simp only [List.getElem?_toArray, List.getElem?_cons_succ, List.getElem?_cons_zero]; rfl) rfl (by rfl) (fun X _ => by go_simp) ?_
  simp only [Act.put, List.setIfInBounds_toArray, List.set_cons_succ, List.set_cons_zero]
  refine Rd.seq_move (by simp only [List.getElem?_toArray, List.getElem?_cons_succ, List.getElem?_cons_zero]; rfl) rfl (by rfl) (fun K hK => ?_)
  go_simp
  refine (HR.out.at' _ _ hb3).mono ?_
  rw [HJ.out]
  rintro e w4 ⟨rfl, hb4⟩
  refine hK _ _ (fun _ => hb4) ?_
  clear hK K
  refine Rd.seq_float (.pointer (some ⟨b, j * 5, none⟩)) (by simp only [List.getElem?_toArray, List.getElem?_cons_succ, List.getElem?_cons_zero]; rfl) rfl (by rfl) (fun X _ => by first | (go_simp; done) | (go_simp; intro hx; omega)) ?_
  simp only [Act.put, List.setIfInBounds_toArray, List.set_cons_succ, List.set_cons_zero]
  refine Rd.seq_float (.pointer (some ⟨b, j * 5 + 3, none⟩)) (by simp only [List.getElem?_toArray, List.getElem?_cons_succ, List.getElem?_cons_zero]; rfl) rfl (by rfl) (fun X _ => by go_simp) ?_
  simp only [Act.put, List.setIfInBounds_toArray, List.set_cons_succ, List.set_cons_zero]
  refine Rd.seq_float (.int .i64 me) (by simp only [List.getElem?_toArray, List.getElem?_cons_succ, List.getElem?_cons_zero]; rfl) rfl (by rfl) (fun X hX => by have e2 := HV.out X hX; go_simp) ?_
  simp only [Act.put, List.setIfInBounds_toArray, List.set_cons_succ, List.set_cons_zero]
  refine Rd.seq_float (.int .i64 ((n : Int) + me)) (by simp only [List.getElem?_toArray, List.getElem?_cons_succ, List.getElem?_cons_zero]; rfl) rfl (by rfl) (fun X _ => by go_simp; exact HW.out) ?_
  simp only [Act.put, List.setIfInBounds_toArray, List.set_cons_succ, List.set_cons_zero]
  refine Rd.seq_float (.int .i64 ((n : Int) + me)) (by simp only [List.getElem?_toArray, List.getElem?_cons_succ, List.getElem?_cons_zero]; rfl) rfl (by rfl) (fun X _ => by go_simp) ?_
  simp only [Act.put, List.setIfInBounds_toArray, List.set_cons_succ, List.set_cons_zero]
  refine Rd.seq_end ?_
  go_wp2_with fail
  go_ret
  exact ⟨rfl, hb1.trans (hb4.mono hb1.size)⟩
set_option maxRecDepth 100000 in
set_option maxHeartbeats 4000000 in
theorem rActive_any (t : Int) (m0 kk : Int) (w : World) (h : RowG w (.slice a L.length c) L) (ok : Ok L m0 kk) (hh : has L t = true) :
    Calls Try.prog 38 #[.agg (cellsF r m (.slice a L.length c)), .int .i64 t] w fun e w' => e = .returned (.int .i64 (actI L t)) ∧ Below w.heap.size w w' := by
  have hne := has_pos_len hh
  have n64 := ok.n64
  obtain ⟨b, rfl, hR⟩ := Rdd.of (r := r) (m := m) h ok.n64 hne
  have hb1 : Below w.heap.size w (w.alloc (.cells #[.int .i64 r, .int .i64 m, .slice (some ⟨b, 0, none⟩) L.length c] 30)) := (Below.refl _ w).alloc (Nat.le_refl _) _
  have OK := Lib.hid ok
  have HR := Lib.hid hR
  have hj := has_pos hh
  have HJ : Hid (atG L t = (pos L t : Int)) := Lib.hid (atG_yes hh)
  have HBB : Hid (∀ (y : Int) X, has L y = true → Below (w.alloc (.cells #[.int .i64 r, .int .i64 m, .slice (some ⟨b, 0, none⟩) L.length c] 30)).heap.size (w.alloc (.cells #[.int .i64 r, .int .i64 m, .slice (some ⟨b, 0, none⟩) L.length c] 30)) X → Calls Try.prog 53 #[.agg #[.int .i64 r, .int .i64 m, .slice (some ⟨b, 0, none⟩) L.length c], .int .i64 y, .int .i64 t] X fun e w' => e = .returned (.bool (belowB L y t)) ∧ Below (w.alloc (.cells #[.int .i64 r, .int .i64 m, .slice (some ⟨b, 0, none⟩) L.length c] 30)).heap.size (w.alloc (.cells #[.int .i64 r, .int .i64 m, .slice (some ⟨b, 0, none⟩) L.length c] 30)) w') := Lib.hid fun y X hy hX => by
    refine (rBelow_any r m _ c L y t m0 kk X ((h.below hb1).below hX) ok hy).mono ?_
    rintro e w' ⟨rfl, hb⟩
    exact ⟨rfl, Below.stay hX hb⟩
  clear h ok hR hne hh
  generalize pos L t = j at *
  unfold cellsF
  go_enter Try.func38, Try.ntmps38
  go_wp2_with (fail)
  have h20 := cF2 (HR.out.box _ (Below.refl _ _))
  generalize w.alloc (.cells #[.int .i64 r, .int .i64 m, .slice (some ⟨b, 0, none⟩) L.length c] 30) = w1 at *
  go_wp2_with fail
  go_loopw [5, 10] (fun v i wr => ∃ (k : Nat) (s : Int), k ≤ L.length ∧ i = .int .i64 k ∧ v = .int .i64 s ∧ Hid (s = sumA L t (idsG (L.take k))) ∧ Below w1.heap.size w1 wr) (fun _ i _ => L.length - (intOf i).toNat)
  case atStart => exact ⟨0, 0, by omega, rfl, rfl, Lib.hid rfl, Below.refl _ _⟩
  case round =>
    obtain ⟨k, s, hk, rfl, rfl, HS, hb⟩ := hrel
    by_cases hlt : k < L.length
    · have HE := sumA_snoc (t := t) hlt
      have hs := sumA_bound OK.out t (idsG (L.take k)) (fun y hy => ids_take hy)
      have hyy : has L (L.getD k g0).id = true := has_mem (getD_memG hlt)
      have hs2 := aw1_bound OK.out t _ hyy
      have hge := gr_of OK.out.rise (getD_memG hlt)
      have hl2 : ((idsG (L.take k)).length : Int) ≤ 64 := by unfold idsG; rw [List.length_map, List.length_take]; omega
      rw [← HS.out] at HE hs
      unfold aw1 at HE hs2
      rw [hge] at HE hs2
      have HV : Hid (∀ X, Below w1.heap.size w1 X → X.cell? ⟨b, k * 5, none⟩ = some (.int .i64 (L.getD k g0).id) ∧ X.cell? ⟨b, k * 5 + 4, none⟩ = some (.int .i64 (L.getD k g0).aw)) := Lib.hid fun X hX => ⟨(HR.out.cl X hX).id hlt, (HR.out.cl X hX).aw hlt⟩
      have HBE : Hid (∀ X, Below w1.heap.size w1 X → Calls Try.prog 53 #[.agg #[.int .i64 r, .int .i64 m, .slice (some ⟨b, 0, none⟩) L.length c], .int .i64 (L.getD k g0).id, .int .i64 t] X fun e w' => e = .returned (.bool (belowB L (L.getD k g0).id t)) ∧ Below w1.heap.size w1 w') := Lib.hid fun X hX => HBB.out _ X hyy hX
      clear hge hyy HS
      have hq : Below w1.heap.size w1 wr.drew := Below.drewS hb
      generalize (L.getD k g0).aw = aw at *
      generalize (L.getD k g0).id = y at *
      cases hbe : belowB L y t with
      | true =>
        rw [hbe] at HBE HE hs2
        simp only [if_true] at HE hs2
        have HE2 : Hid (s + aw = sumA L t (idsG (L.take (k + 1)))) := Lib.hid (by rw [HE])
        have hs0 : 0 ≤ s := hs.1
        have hs4 : s ≤ 64000 := by omega
        clear HE hbe hs hl2
        go_wp2_with fail
        refine Rd.region (fun X => Below w1.heap.size w1 X) 15 [0, 1, 3, 4, 5, 6, 7, 8, 9, 10, 11, 12, 14] [0, 1, 2, 3, 4, 5, 6, 7, 8, 9, 10, 11, 12, 13, 14] (by kernel_rfl) (by kernel_rfl) (by kernel_rfl) (by kernel_rfl) rfl hq ?_
        refine Rd.seq_float (.agg #[.int .i64 r, .int .i64 m, .slice (some ⟨b, 0, none⟩) L.length c]) (by simp only [List.getElem?_toArray, List.getElem?_cons_zero]; rfl) rfl (by rfl) (fun X hX => run_load30 rfl rfl (HR.out.box X hX)) ?_
        simp only [Act.put, List.setIfInBounds_toArray, List.set_cons_succ, List.set_cons_zero]
        refine Rd.seq_float (.int .i64 t) (by simp only [List.getElem?_toArray, List.getElem?_cons_succ, List.getElem?_cons_zero]; rfl) rfl (by rfl) (fun X _ => by go_simp) ?_
        simp only [Act.put, List.setIfInBounds_toArray, List.set_cons_succ, List.set_cons_zero]
        refine Rd.seq_move (by simp only [List.getElem?_toArray, List.getElem?_cons_succ, List.getElem?_cons_zero]; rfl) rfl (by rfl) (fun K hK => ?_)
        go_simp
        refine (HR.out.at' _ _ hq).mono ?_
        rw [HJ.out]
        rintro e w3 ⟨rfl, hb3⟩
        refine hK _ _ (fun _ => hb3) ?_
        clear hK K
        refine Rd.seq_float (.bool true) (by simp only [List.getElem?_toArray, List.getElem?_cons_succ, List.getElem?_cons_zero]; rfl) rfl (by rfl) (fun X _ => by go_simp) ?_
        simp only [Act.put, List.setIfInBounds_toArray, List.set_cons_succ, List.set_cons_zero]
        refine Rd.seq_float (.bool true) (by simp only [List.getElem?_toArray, List.getElem?_cons_succ, List.getElem?_cons_zero]; rfl) rfl (by rfl) (fun X _ => by go_simp) ?_
        simp only [Act.put, List.setIfInBounds_toArray, List.set_cons_succ, List.set_cons_zero]
        refine Rd.seq_float (.agg #[.int .i64 r, .int .i64 m, .slice (some ⟨b, 0, none⟩) L.length c]) (by simp only [List.getElem?_toArray, List.getElem?_cons_succ, List.getElem?_cons_zero]; rfl) rfl (by rfl) (fun X hX => run_load30 rfl rfl (HR.out.box X hX)) ?_
        simp only [Act.put, List.setIfInBounds_toArray, List.set_cons_succ, List.set_cons_zero]
        refine Rd.seq_float (.pointer (some ⟨w.heap.size, 2, none⟩)) (by simp only [List.getElem?_toArray, List.getElem?_cons_succ, List.getElem?_cons_zero]; rfl) rfl (by rfl) (fun X _ => by go_simp) ?_
        simp only [Act.put, List.setIfInBounds_toArray, List.set_cons_succ, List.set_cons_zero]
        refine Rd.seq_float (.slice (some ⟨b, 0, none⟩) L.length c) (by simp only [List.getElem?_toArray, List.getElem?_cons_succ, List.getElem?_cons_zero]; rfl) rfl (by rfl) (fun X hX => by have e2 := cF2 (HR.out.box X hX); go_simp) ?_
        simp only [Act.put, List.setIfInBounds_toArray, List.set_cons_succ, List.set_cons_zero]
        refine Rd.seq_float (.int .i64 (k : Int)) (by simp only [List.getElem?_toArray, List.getElem?_cons_succ, List.getElem?_cons_zero]; rfl) rfl (by rfl) (fun X _ => by go_simp) ?_
        simp only [Act.put, List.setIfInBounds_toArray, List.set_cons_succ, List.set_cons_zero]
        refine Rd.seq_float (.pointer (some ⟨b, k * 5, none⟩)) (by simp only [List.getElem?_toArray, List.getElem?_cons_succ, List.getElem?_cons_zero]; rfl) rfl (by rfl) (fun X _ => by first | (go_simp; done) | (go_simp; intro hx; omega)) ?_
        simp only [Act.put, List.setIfInBounds_toArray, List.set_cons_succ, List.set_cons_zero]
        refine Rd.seq_float (.pointer (some ⟨b, k * 5, none⟩)) (by simp only [List.getElem?_toArray, List.getElem?_cons_succ, List.getElem?_cons_zero]; rfl) rfl (by rfl) (fun X _ => by go_simp) ?_
        simp only [Act.put, List.setIfInBounds_toArray, List.set_cons_succ, List.set_cons_zero]
        refine Rd.seq_float (.int .i64 y) (by simp only [List.getElem?_toArray, List.getElem?_cons_succ, List.getElem?_cons_zero]; rfl) rfl (by rfl) (fun X hX => by have e2 := (HV.out X hX).1; go_simp) ?_
        simp only [Act.put, List.setIfInBounds_toArray, List.set_cons_succ, List.set_cons_zero]
        refine Rd.seq_float (.int .i64 t) (by simp only [List.getElem?_toArray, List.getElem?_cons_succ, List.getElem?_cons_zero]; rfl) rfl (by rfl) (fun X _ => by go_simp) ?_
        simp only [Act.put, List.setIfInBounds_toArray, List.set_cons_succ, List.set_cons_zero]
        refine Rd.seq_move (by simp only [List.getElem?_toArray, List.getElem?_cons_succ, List.getElem?_cons_zero]; rfl) rfl (by rfl) (fun K hK => ?_)
        go_simp
        refine (HBE.out _ hb3).mono ?_
        rintro e w4 ⟨rfl, hb4⟩
        refine hK _ _ (fun _ => hb4) ?_
        clear hK K
        refine Rd.seq_float (.bool true) (by simp only [List.getElem?_toArray, List.getElem?_cons_succ, List.getElem?_cons_zero]; rfl) rfl (by rfl) (fun X _ => by go_simp) ?_
        simp only [Act.put, List.setIfInBounds_toArray, List.set_cons_succ, List.set_cons_zero]
        refine Rd.seq_end ?_
        have h21 := cF2 (HR.out.box _ hb4)
        have h22 := (HV.out _ hb4).2
        go_wp2_with fail
        exact ⟨⟨k + 1, s + aw, by omega, by go_num, rfl, HE2, hb4⟩, by simp [intOf]; omega⟩
      | false =>
        rw [hbe] at HBE HE
        have HE2 : Hid (s = sumA L t (idsG (L.take (k + 1)))) := Lib.hid (by rw [HE]; simp)
        clear HE hbe hs hl2 hs2
        go_wp2_with fail
        refine Rd.region (fun X => Below w1.heap.size w1 X) 15 [0, 1, 3, 4, 5, 6, 7, 8, 9, 10, 11, 12, 14] [0, 1, 2, 3, 4, 5, 6, 7, 8, 9, 10, 11, 12, 13, 14] (by kernel_rfl) (by kernel_rfl) (by kernel_rfl) (by kernel_rfl) rfl hq ?_
        refine Rd.seq_float (.agg #[.int .i64 r, .int .i64 m, .slice (some ⟨b, 0, none⟩) L.length c]) (by simp only [List.getElem?_toArray, List.getElem?_cons_zero]; rfl) rfl (by rfl) (fun X hX => run_load30 rfl rfl (HR.out.box X hX)) ?_
        simp only [Act.put, List.setIfInBounds_toArray, List.set_cons_succ, List.set_cons_zero]
        refine Rd.seq_float (.int .i64 t) (by simp only [List.getElem?_toArray, List.getElem?_cons_succ, List.getElem?_cons_zero]; rfl) rfl (by rfl) (fun X _ => by go_simp) ?_
        simp only [Act.put, List.setIfInBounds_toArray, List.set_cons_succ, List.set_cons_zero]
        refine Rd.seq_move (by simp only [List.getElem?_toArray, List.getElem?_cons_succ, List.getElem?_cons_zero]; rfl) rfl (by rfl) (fun K hK => ?_)
        go_simp
        refine (HR.out.at' _ _ hq).mono ?_
        rw [HJ.out]
        rintro e w3 ⟨rfl, hb3⟩
        refine hK _ _ (fun _ => hb3) ?_
        clear hK K
        refine Rd.seq_float (.bool true) (by simp only [List.getElem?_toArray, List.getElem?_cons_succ, List.getElem?_cons_zero]; rfl) rfl (by rfl) (fun X _ => by go_simp) ?_
        simp only [Act.put, List.setIfInBounds_toArray, List.set_cons_succ, List.set_cons_zero]
        refine Rd.seq_float (.bool true) (by simp only [List.getElem?_toArray, List.getElem?_cons_succ, List.getElem?_cons_zero]; rfl) rfl (by rfl) (fun X _ => by go_simp) ?_
        simp only [Act.put, List.setIfInBounds_toArray, List.set_cons_succ, List.set_cons_zero]
        refine Rd.seq_float (.agg #[.int .i64 r, .int .i64 m, .slice (some ⟨b, 0, none⟩) L.length c]) (by simp only [List.getElem?_toArray, List.getElem?_cons_succ, List.getElem?_cons_zero]; rfl) rfl (by rfl) (fun X hX => run_load30 rfl rfl (HR.out.box X hX)) ?_
        simp only [Act.put, List.setIfInBounds_toArray, List.set_cons_succ, List.set_cons_zero]
        refine Rd.seq_float (.pointer (some ⟨w.heap.size, 2, none⟩)) (by simp only [List.getElem?_toArray, List.getElem?_cons_succ, List.getElem?_cons_zero]; rfl) rfl (by rfl) (fun X _ => by go_simp) ?_
        simp only [Act.put, List.setIfInBounds_toArray, List.set_cons_succ, List.set_cons_zero]
        refine Rd.seq_float (.slice (some ⟨b, 0, none⟩) L.length c) (by simp only [List.getElem?_toArray, List.getElem?_cons_succ, List.getElem?_cons_zero]; rfl) rfl (by rfl) (fun X hX => by have e2 := cF2 (HR.out.box X hX); go_simp) ?_
        simp only [Act.put, List.setIfInBounds_toArray, List.set_cons_succ, List.set_cons_zero]
        refine Rd.seq_float (.int .i64 (k : Int)) (by simp only [List.getElem?_toArray, List.getElem?_cons_succ, List.getElem?_cons_zero]; rfl) rfl (by rfl) (fun X _ => by go_simp) ?_
        simp only [Act.put, List.setIfInBounds_toArray, List.set_cons_succ, List.set_cons_zero]
        refine Rd.seq_float (.pointer (some ⟨b, k * 5, none⟩)) (by simp only [List.getElem?_toArray, List.getElem?_cons_succ, List.getElem?_cons_zero]; rfl) rfl (by rfl) (fun X _ => by first | (go_simp; done) | (go_simp; intro hx; omega)) ?_
        simp only [Act.put, List.setIfInBounds_toArray, List.set_cons_succ, List.set_cons_zero]
        refine Rd.seq_float (.pointer (some ⟨b, k * 5, none⟩)) (by simp only [List.getElem?_toArray, List.getElem?_cons_succ, List.getElem?_cons_zero]; rfl) rfl (by rfl) (fun X _ => by go_simp) ?_
        simp only [Act.put, List.setIfInBounds_toArray, List.set_cons_succ, List.set_cons_zero]
        refine Rd.seq_float (.int .i64 y) (by simp only [List.getElem?_toArray, List.getElem?_cons_succ, List.getElem?_cons_zero]; rfl) rfl (by rfl) (fun X hX => by have e2 := (HV.out X hX).1; go_simp) ?_
        simp only [Act.put, List.setIfInBounds_toArray, List.set_cons_succ, List.set_cons_zero]
        refine Rd.seq_float (.int .i64 t) (by simp only [List.getElem?_toArray, List.getElem?_cons_succ, List.getElem?_cons_zero]; rfl) rfl (by rfl) (fun X _ => by go_simp) ?_
        simp only [Act.put, List.setIfInBounds_toArray, List.set_cons_succ, List.set_cons_zero]
        refine Rd.seq_move (by simp only [List.getElem?_toArray, List.getElem?_cons_succ, List.getElem?_cons_zero]; rfl) rfl (by rfl) (fun K hK => ?_)
        go_simp
        refine (HBE.out _ hb3).mono ?_
        rintro e w4 ⟨rfl, hb4⟩
        refine hK _ _ (fun _ => hb4) ?_
        clear hK K
        refine Rd.seq_float (.bool false) (by simp only [List.getElem?_toArray, List.getElem?_cons_succ, List.getElem?_cons_zero]; rfl) rfl (by rfl) (fun X _ => by go_simp) ?_
        simp only [Act.put, List.setIfInBounds_toArray, List.set_cons_succ, List.set_cons_zero]
        refine Rd.seq_end ?_
        go_wp2_with fail
        exact ⟨⟨k + 1, s, by omega, by go_num, rfl, HE2, hb4⟩, by simp [intOf]; omega⟩
    · obtain rfl : k = L.length := by omega
      rw [List.take_length] at HS
      go_wp2_with fail
      go_ret
      unfold actI
      rw [← HS.out]
      exact ⟨rfl, hb1.trans (hb.mono hb1.size)⟩
end
end Go.Proofs.Ythndfhkkaichiaa
