/-
  TopoCopies: a copy has the same, and goes on by itself. Conditions: the numbers are of 64 bits, and lie in memory that there may be.
-/
import Derived.Test.YtbeklkgoiigccaaTt
namespace Go.Proofs.Ytbeklkgoiigccaa
open Go.RowKit

/-- what stands beside the first topology: a copy at q and k, the document's in c. -/
structure Su (p g b : Nat) (q k c : Nat) (cs : List Nat) (w : World) (on onr : Nat) : Prop where
  ok : TopoOk cs on
  topo : IsTopo w q k cs on
  ref : IT w c cs onr
  lt : b < q ∧ b < k ∧ b < c ∧ q ≠ c ∧ k ≠ c
section
variable {W w w' : World} {p g b q k c : Nat} {cs : List Nat} {on onr on1 on2 : Nat}
theorem wp_alloc29 {o : Oper} {a : Act} {w : World} {K : Act → World → Prop} {Q : Exit → Act → World → Prop} (ho : o.op = .alloc 29) (h : K (a.put o.dst (.pointer (some ⟨w.heap.size, 0, none⟩))) (w.alloc (.cells tzero 29))) : o.wp Try.prog a w K Q := by
  unfold Oper.wp execOp
  rw [ho]
  simp only [run_alloc29, Sem.run_bind, Sem.run_pure, Result.andThen_ok]
  exact h
theorem Su.clt (h : Su p g b q k c cs w on onr) : c < w.heap.size := IsT.lt h.ref
theorem Su.below (h : Su p g b q k c cs w on onr) (hb : Below w.heap.size w w') : Su p g b q k c cs w' on onr := ⟨h.ok, h.topo.belowS hb, IsT.below h.ref hb h.clt, h.lt⟩
theorem Su.alloc (h : Su p g b q k c cs w on onr) (o : Obj) : Su p g b q k c cs (w.alloc o) on onr := h.below ((Below.refl _ w).alloc (Nat.le_refl _) o)
theorem Su.only {x : Nat} (h : Su p g b q k c cs w on onr) (ho : Only x w w') (hx : x ≤ b) : Su p g b q k c cs w' on onr := by
  have hl := h.lt
  exact ⟨h.ok, h.topo.only ho (by omega) (by omega), IsT.only h.ref ho (by omega), h.lt⟩
theorem Su.turn {x : Nat} (h : Su p g b q k c cs w on onr) (ht : Turn x w w') (hx : x ≤ b ∨ (q < x ∧ k < x ∧ c < x)) : Su p g b q k c cs w' on onr := by
  have hl := h.lt
  exact ⟨h.ok, h.topo.turn ht (by omega) (by omega), IsT.turn h.ref ht (by omega), h.lt⟩
theorem Su.act {on' : Nat} (h : Su p g b q k c cs w on onr) (ok : TopoOk cs on') (ht : IsTopo w' q k cs on') (ho : Only k w w') : Su p g b q k c cs w' on' onr := by
  have hl := h.lt
  exact ⟨ok, ht, IsT.only h.ref ho (by omega), h.lt⟩
theorem Su.set {onr' : Nat} (h : Su p g b q k c cs w on onr) (ht : Turn c w w') (hr : IT w' c cs onr') : Su p g b q k c cs w' on onr' := by
  have hl := h.lt
  exact ⟨h.ok, h.topo.turn ht (by omega) (by omega), hr, h.lt⟩
theorem Su.fresh (h : Su p g b q k c cs w on onr) (o : Obj) (ht : Turn w.heap.size (w.alloc o) w') : Su p g b q k c cs w' on onr :=
  (h.alloc o).turn ht (.inr ⟨h.topo.ltp, h.topo.ltg, h.clt⟩)
/-- the first one, where a copy beside it turned. -/
theorem St.only {x : Nat} (h : St W p g b cs w on onr) (ho : Only x w w') (hx : b < x) : St W p g b cs w' on onr := by
  have := h.pb
  have := h.gb
  have := h.Wp
  exact ⟨h.ok, h.topo.only ho (by omega) (by omega), IsT.only h.ref ho (by omega), h.bel.trans (ho.below h.bel.size (by omega)), h.pb, h.gb, h.Wp, h.Wg⟩
end
set_option maxRecDepth 100000 in
set_option maxHeartbeats 4000000 in
theorem copies_any (v v1 v2 : Value) (l : List Nat) (xs ys : List (Int × Bool)) (w : World) (h : RowN w v l) (hs : ∀ j, l.getD j 0 < 18446744073709551616) (hr : l.length * 8 ≤ 140737488351232) (hx1 : RowA w v1 xs) (hx2 : RowA w v2 ys) :
    Calls Try.prog 6 #[v, v1, v2] w fun e w' => e = .returned (.bool true) ∧ Below w.heap.size w w' := by
  obtain ⟨a1, c1, rfl, -⟩ := id hx1
  obtain ⟨a2, c2, rfl, -⟩ := id hx2
  have HO := Lib.hid (fun w h => Open_any v l w h hs hr)
  have hB := Below.refl w.heap.size w
  by_cases hlen0 : 20 < xs.length
  · have h1 : (20 : Int) < (xs.length : Int) := by omega
    clear hlen0
    go_enter Try.func6, Try.ntmps6
    go_wp2_with fail
    refine (awake_any _).mono ?_
    rintro e w1 ⟨rfl, hb⟩
    replace hB := hB.trans (hb.mono hB.size)
    clear hb
    go_wp2_with fail
    refine (awake_any _).mono ?_
    rintro e w2 ⟨rfl, hb⟩
    replace hB := hB.trans (hb.mono hB.size)
    clear hb
    go_wp2_with fail
    go_ret
    exact ⟨rfl, hB⟩
  · have h5 : ¬ (20 : Int) < (xs.length : Int) := by omega
    by_cases hlen1 : 20 < ys.length
    · have h1 : (20 : Int) < (ys.length : Int) := by omega
      clear hlen1
      go_enter Try.func6, Try.ntmps6
      go_wp2_with fail
      refine (awake_any _).mono ?_
      rintro e w1 ⟨rfl, hb⟩
      replace hB := hB.trans (hb.mono hB.size)
      clear hb
      go_wp2_with fail
      refine (awake_any _).mono ?_
      rintro e w2 ⟨rfl, hb⟩
      replace hB := hB.trans (hb.mono hB.size)
      clear hb
      go_wp2_with fail
      go_ret
      exact ⟨rfl, hB⟩
    · have h6 : ¬ (20 : Int) < (ys.length : Int) := by omega
      go_enter Try.func6, Try.ntmps6
      go_wp2_with fail
      refine (awake_any _).mono ?_
      rintro e w1 ⟨rfl, hb⟩
      replace hB := hB.trans (hb.mono hB.size)
      clear hb
      go_wp2_with fail
      refine (HO.out _ (h.below hB)).mono ?_
      rintro e w2 ⟨h2, hb⟩
      have hs1 := hB.size
      rcases h2 with ⟨hg8, p, g, rfl, hP, hp, hg⟩ | ⟨_, rfl⟩
      · replace hB := hB.trans (hb.mono hB.size)
        have hZ : IsT (w2.alloc (.cells tzero 29)) w2.heap.size 0 (fun _ => 0) (fun _ => false) := IsT.new w2 0 (fun _ => 0) (fun _ => false)
        have hpl := hP.ltp
        have hgl := hP.ltg
        replace hB := hB.alloc hB.size (.cells tzero 29)
        replace hP := hP.alloc (.cells tzero 29)
        have OK := Lib.hid (TopoOk.new hg8 hs)
        generalize hU : uni l = U at *
        clear hU hg8
        generalize hb6 : w2.heap.size = b at *
        go_wp2_with (first | (refine wpList_alloc29 rfl rfl ?_; try rw [hb6]) | (refine wpList_store29 rfl _ _ rfl b (l.length : Int) 0 (fun i => ofI l (i : Int)) (fun _ => 0) U.testBit (fun _ => false) rfl rfl hZ ?_; clear hZ; intro w3 h8 t3))
        have hS : St w p g b l w3 U U := ⟨OK.out, hP.turn t3 (by omega) (by omega), h8, hB.trans (t3.below (by omega)), by omega, by omega, by omega, by omega⟩
        clear OK h8 t3 hP hB hb hpl hgl hp hg hb6 hs1
        go_loopw [40] (fun i wr => ∃ (k on : Nat), k ≤ xs.length ∧ i = .int .i64 k ∧ Hid (St w p g b l wr on on)) (fun i _ => xs.length - (intOf i).toNat)
        case atStart => exact ⟨0, U, by omega, rfl, Lib.hid hS⟩
        case round =>
          clear hS
          obtain ⟨k, on, hk, rfl, HS⟩ := hrel
          have hS := HS.out
          clear HS
          by_cases hlt : k < xs.length
          · obtain ⟨bx, off, rfl, hx0, hx1⟩ := (hS.row hx1).at hlt
            generalize hxx : xs.getD k (0, false) = x at *
            clear hxx
            have hb0 := hS.lt
            have hA := IsA.new wr 0 false
            go_wp2_with (first | (refine wpList_alloc46 rfl rfl ?_) | (refine wpList_store46 rfl _ _ rfl wr.heap.size x.1 0 x.2 false rfl rfl hA ?_; clear hA; intro w4 hA t4; replace hS := (hS.alloc (.cells #[.int .i64 0, .bool false] 46)).turn t4 hb0; clear t4) | (refine wpList_load29 rfl _ rfl b _ _ _ rfl hS.ref ?_) | (refine wpList_load46 rfl _ rfl wr.heap.size _ _ rfl hA ?_))
            clear hA hx0 hx1 hb0
            refine (do_any p g l on x _ hS.topo hS.ok).mono ?_
            rintro e w5 ⟨rfl, hP, ho⟩
            replace hS := hS.act (hS.ok.act x) hP ho
            clear ho hP
            generalize hN : actN l on x = N at *
            clear hN
            go_wp2_with (first | (refine wpList_store29 rfl _ _ rfl b (l.length : Int) (l.length : Int) (fun i => ofI l (i : Int)) (fun i => ofI l (i : Int)) N.testBit on.testBit rfl rfl hS.ref ?_; intro w7 h7 t3; replace hS := hS.set t3 h7; clear t3 h7))
            exact ⟨⟨k + 1, N, by omega, by go_num, Lib.hid hS⟩, by simp [intOf]; omega⟩
          · skip
            go_wp2_with fail
            replace hS := hS.drew
            have hb0 := hS.lt
            
            refine Rd.regionF (fun X => IT X b l on) [0, 2, 4] [0, 2] 1 [3, 4, 5] 3 [1, 4, 5] (fun a' w' => ∃ q kk c, a' = { tmps := List.toArray (v :: (Value.slice a1 xs.length c1) :: (Value.slice a2 ys.length c2) :: undef :: undef :: undef :: (Value.bool false) :: (Value.pointer (some { block := p, off := 0 })) :: (Value.pointer (some { block := b, off := 0 })) :: (Value.bool true) :: undef :: u11 :: (.pointer (some ⟨q, 0, none⟩)) :: (.pointer (some ⟨c, 0, none⟩)) :: undef :: undef :: undef :: (Value.bool true) :: (Value.bool false) :: (Value.bool false) :: (Value.slice a1 xs.length c1) :: (Value.int IntKind.i64 ↑xs.length) :: (Value.bool (decide ((20 : Int) < (xs.length : Int)))) :: (Value.bool (decide ((20 : Int) < (xs.length : Int)))) :: (Value.bool (decide ((20 : Int) < (xs.length : Int)))) :: (Value.slice a2 ys.length c2) :: (Value.int IntKind.i64 ↑ys.length) :: (Value.bool (decide ((20 : Int) < (ys.length : Int)))) :: (Value.bool (decide ((20 : Int) < (xs.length : Int)) || decide ((20 : Int) < (ys.length : Int)))) :: undef :: (Value.tuple #[Value.pointer (some { block := p, off := 0 }), Value.agg (TV l U), Value.bool true]) :: v :: (Value.tuple #[Value.pointer (some { block := p, off := 0 }), Value.agg (TV l U), Value.bool true]) :: (Value.pointer (some { block := p, off := 0 })) :: (Value.agg (TV l U)) :: (Value.bool true) :: (Value.bool true) :: (Value.bool false) :: (Value.slice a1 xs.length c1) :: (Value.int IntKind.i64 ↑xs.length) :: (Value.int IntKind.i64 ↑k) :: (Value.bool false) :: u42 :: u43 :: u44 :: u45 :: u46 :: u47 :: u48 :: u49 :: u50 :: u51 :: (.pointer (some ⟨p, 0, none⟩)) :: (.pointer (some ⟨q, 0, none⟩)) :: (.agg (TV l on)) :: undef :: undef :: undef :: undef :: undef :: undef :: undef :: undef :: undef :: undef :: undef :: undef :: undef :: undef :: undef :: undef :: undef :: undef :: undef :: undef :: undef :: undef :: undef :: undef :: undef :: undef :: undef :: undef :: undef :: undef :: undef :: undef :: undef :: undef :: undef :: []), defers := [] } ∧ Hid (St w p g b l w' on on) ∧ Hid (Su p g b q kk c l w' on on)) (by kernel_rfl) (by kernel_rfl) (by kernel_rfl) rfl rfl hS.ref ?pre ?behind
            case pre =>
              generalize wr.drew = w4 at *
              refine Rd.pre_float (.pointer (some ⟨p, 0, none⟩)) (by simp only [List.getElem?_toArray, List.getElem?_cons_zero]; rfl) rfl (by rfl) (fun X _ => by go_simp) ?_
              simp only [Act.put, List.setIfInBounds_toArray, List.set_cons_succ, List.set_cons_zero]
              refine Rd.pre_float (.agg (TV l on)) (by simp only [List.getElem?_toArray, List.getElem?_cons_succ, List.getElem?_cons_zero]; rfl) rfl (by rfl) (fun X hX => exec_load29 _ rfl b _ _ _ rfl hX) ?_
              simp only [Act.put, List.setIfInBounds_toArray, List.set_cons_succ, List.set_cons_zero]
              refine Rd.pre_end ?_
              refine Rd.fork_both (by simp only [List.getElem?_toArray, List.getElem?_cons_succ, List.getElem?_cons_zero]; rfl) (by simp only [List.getElem?_toArray, List.getElem?_cons_succ, List.getElem?_cons_zero]; rfl) (by rfl) (by rfl) (fun K hK => ?_) (fun K hK => ?_)
              · go_simp
                refine (Copy_any p g l on _ hS.topo hS.ok).mono ?_
                rintro e w5 ⟨q, kk, rfl, hQ, hq, hk2, hb⟩
                have hs5 := hb.size
                have hql := hQ.ltp
                have hkl := hQ.ltg
                have hok := hS.ok
                replace hS := hS.below hb
                clear hb
                refine hK _ _ hS.ref ?_
                clear hK K
                refine Rd.pre_move (by simp only [List.getElem?_toArray, List.getElem?_cons_succ, List.getElem?_cons_zero]; rfl) rfl (by rfl) (fun K hK => ?_)
                refine wp_alloc29 (by rfl) ?_
                have hZ : IsT (w5.alloc (.cells tzero 29)) w5.heap.size 0 (fun _ => 0) (fun _ => false) := IsT.new w5 0 (fun _ => 0) (fun _ => false)
                have hb5 := hS.lt
                replace hS := hS.alloc (.cells tzero 29)
                replace hQ := hQ.alloc (.cells tzero 29)
                refine hK _ _ hS.ref ?_
                clear hK K
                simp only [Act.put, List.setIfInBounds_toArray, List.set_cons_succ, List.set_cons_zero]
                refine Rd.pre_float (.pointer (some ⟨q, 0, none⟩)) (by simp only [List.getElem?_toArray, List.getElem?_cons_succ, List.getElem?_cons_zero]; rfl) rfl (by rfl) (fun X _ => by go_simp) ?_
                simp only [Act.put, List.setIfInBounds_toArray, List.set_cons_succ, List.set_cons_zero]
                refine Rd.pre_move (by simp only [List.getElem?_toArray, List.getElem?_cons_succ, List.getElem?_cons_zero]; rfl) rfl (by rfl) (fun K hK => ?_)
                refine wp_store29 _ _ (by rfl) w5.heap.size (l.length : Int) 0 (fun i => ofI l (i : Int)) (fun _ => 0) on.testBit (fun _ => false) (by rfl) (by rfl) hZ ?_
                intro w6 hC t6
                replace hS := hS.turn t6 hb5
                replace hQ := hQ.turn t6 (by omega) (by omega)
                refine hK _ _ hS.ref (Rd.pre_end ⟨q, kk, w5.heap.size, rfl, Lib.hid hS, Lib.hid ⟨hok, hQ, hC, by omega, by omega, by omega, by omega, by omega⟩⟩)
              · refine wp_alloc29 (by rfl) ?_
                have hZ : IsT (w4.alloc (.cells tzero 29)) w4.heap.size 0 (fun _ => 0) (fun _ => false) := IsT.new w4 0 (fun _ => 0) (fun _ => false)
                have hs4 : (w4.alloc (.cells tzero 29)).heap.size = w4.heap.size + 1 := by simp
                replace hS := hS.alloc (.cells tzero 29)
                refine hK _ _ hS.ref ?_
                clear hK K
                simp only [Act.put, List.setIfInBounds_toArray, List.set_cons_succ, List.set_cons_zero]
                refine Rd.pre_move (by simp only [List.getElem?_toArray, List.getElem?_cons_succ, List.getElem?_cons_zero]; rfl) rfl (by rfl) (fun K hK => ?_)
                go_simp
                refine (Copy_any p g l on _ hS.topo hS.ok).mono ?_
                rintro e w5 ⟨q, kk, rfl, hQ, hq, hk2, hb⟩
                have hs5 := hb.size
                have hql := hQ.ltp
                have hkl := hQ.ltg
                have hok := hS.ok
                replace hZ := hZ.below hb hZ.lt
                replace hS := hS.below hb
                clear hb
                refine hK _ _ hS.ref ?_
                clear hK K
                refine Rd.pre_float (.pointer (some ⟨q, 0, none⟩)) (by simp only [List.getElem?_toArray, List.getElem?_cons_succ, List.getElem?_cons_zero]; rfl) rfl (by rfl) (fun X _ => by go_simp) ?_
                simp only [Act.put, List.setIfInBounds_toArray, List.set_cons_succ, List.set_cons_zero]
                refine Rd.pre_move (by simp only [List.getElem?_toArray, List.getElem?_cons_succ, List.getElem?_cons_zero]; rfl) rfl (by rfl) (fun K hK => ?_)
                refine wp_store29 _ _ (by rfl) w4.heap.size (l.length : Int) 0 (fun i => ofI l (i : Int)) (fun _ => 0) on.testBit (fun _ => false) (by rfl) (by rfl) hZ ?_
                intro w6 hC t6
                replace hS := hS.turn t6 hb0
                replace hQ := hQ.turn t6 (by omega) (by omega)
                refine hK _ _ hS.ref (Rd.pre_end ⟨q, kk, w4.heap.size, rfl, Lib.hid hS, Lib.hid ⟨hok, hQ, hC, by omega, by omega, by omega, by omega, by omega⟩⟩)
            case behind =>
              rintro a w4 ⟨q, kk, c, rfl, HS, HU⟩
              have hS := HS.out
              have hU := HU.out
              clear HS HU
              go_wp2_with fail
              go_loopw [57] (fun i wr => ∃ (j on1 on2 : Nat), j ≤ ys.length ∧ i = .int .i64 j ∧ Hid (St w p g b l wr on1 on1) ∧ Hid (Su p g b q kk c l wr on2 on2)) (fun i _ => ys.length - (intOf i).toNat)
              case atStart => exact ⟨0, on, on, by omega, rfl, Lib.hid hS, Lib.hid hU⟩
              case round =>
                clear hS hU
                obtain ⟨j, on1, on2, hj, rfl, HS, HU⟩ := hrel
                have hS := HS.out
                have hU := HU.out
                clear HS HU
                by_cases hlt : j < ys.length
                · obtain ⟨bx, off, rfl, hx0, hx1⟩ := (hS.row hx2).at hlt
                  generalize hxx : ys.getD j (0, false) = x at *
                  clear hxx
                  have hb0 := hS.lt
                  have hA := IsA.new wr 0 false
                  rcases (by omega : j % 2 = 0 ∨ j % 2 = 1) with hpar | hpar
                  · have hp2 : (((j : Int) % 2) == 0) = true := by rw [beq_iff_eq]; omega
                    have hp3 := Lib.hid hpar
                    clear hpar
                    go_wp2_with (first | (refine wpList_alloc46 rfl rfl ?_) | (refine wpList_store46 rfl _ _ rfl wr.heap.size x.1 0 x.2 false rfl rfl hA ?_; clear hA; intro w5 hA t4; replace hS := (hS.alloc (.cells #[.int .i64 0, .bool false] 46)).turn t4 hb0; replace hU := hU.fresh _ t4; clear t4) | (refine wpList_load29 rfl _ rfl b _ _ _ rfl hS.ref ?_) | (refine wpList_load46 rfl _ rfl wr.heap.size _ _ rfl hA ?_))
                    clear hA hx0 hx1 hb0
                    refine (do_any p g l on1 x _ hS.topo hS.ok).mono ?_
                    rintro e w6 ⟨rfl, hP, ho⟩
                    replace hU := hU.only ho (Nat.le_of_lt hS.gb)
                    replace hS := hS.act (hS.ok.act x) hP ho
                    clear ho hP
                    generalize hN : actN l on1 x = N at *
                    clear hN
                    go_wp2_with (first | (refine wpList_store29 rfl _ _ rfl b (l.length : Int) (l.length : Int) (fun i => ofI l (i : Int)) (fun i => ofI l (i : Int)) N.testBit on1.testBit rfl rfl hS.ref ?_; intro w7 h7 t3; replace hU := hU.turn t3 (.inl (Nat.le_refl _)); replace hS := hS.set t3 h7; clear t3 h7))
                    exact ⟨⟨j + 1, N, on2, by omega, by go_num, Lib.hid hS, Lib.hid hU⟩, by simp [intOf]; omega⟩
                  · have hp2 : (((j : Int) % 2) == 0) = false := by rw [beq_eq_false_iff_ne]; omega
                    have hp3 := Lib.hid hpar
                    clear hpar
                    go_wp2_with (first | (refine wpList_alloc46 rfl rfl ?_) | (refine wpList_store46 rfl _ _ rfl wr.heap.size x.1 0 x.2 false rfl rfl hA ?_; clear hA; intro w5 hA t4; replace hS := (hS.alloc (.cells #[.int .i64 0, .bool false] 46)).turn t4 hb0; replace hU := hU.fresh _ t4; clear t4) | (refine wpList_load29 rfl _ rfl c _ _ _ rfl hU.ref ?_) | (refine wpList_load46 rfl _ rfl wr.heap.size _ _ rfl hA ?_))
                    clear hA hx0 hx1 hb0
                    refine (do_any q kk l on2 x _ hU.topo hU.ok).mono ?_
                    rintro e w6 ⟨rfl, hP, ho⟩
                    replace hS := hS.only ho hU.lt.2.1
                    replace hU := hU.act (hU.ok.act x) hP ho
                    clear ho hP
                    generalize hN : actN l on2 x = N at *
                    clear hN
                    go_wp2_with (first | (refine wpList_store29 rfl _ _ rfl c (l.length : Int) (l.length : Int) (fun i => ofI l (i : Int)) (fun i => ofI l (i : Int)) N.testBit on2.testBit rfl rfl hU.ref ?_; intro w7 h7 t3; replace hS := hS.turn t3 hU.lt.2.2.1; replace hU := hU.set t3 h7; clear t3 h7))
                    exact ⟨⟨j + 1, on1, N, by omega, by go_num, Lib.hid hS, Lib.hid hU⟩, by simp [intOf]; omega⟩
                · go_wp2_with (first | (refine wpList_load29 rfl _ rfl b _ _ _ rfl hS.ref ?_))
                  refine (Is_topo p g l on1 _ hS.topo hS.ok).mono ?_
                  rintro e w8 ⟨rfl, hb⟩
                  replace hS := hS.below hb
                  replace hU := hU.below hb
                  clear hb
                  go_wp2_with (first | (refine wpList_load29g (by rfl) _ rfl c _ _ _ rfl hU.ref ?_))
                  refine (Is_topo q kk l on2 _ hU.topo hU.ok).mono ?_
                  rintro e w9 ⟨rfl, hb⟩
                  replace hS := hS.below hb
                  go_wp2_with fail
                  go_ret
                  exact ⟨rfl, hS.bel⟩
      · replace hB := hB.trans (hb.mono hB.size)
        have hZ : IsT (w2.alloc (.cells tzero 29)) w2.heap.size 0 (fun _ => 0) (fun _ => false) := IsT.new w2 0 (fun _ => 0) (fun _ => false)
        have hbs := hB.size
        replace hB := hB.alloc hB.size (.cells tzero 29)
        go_wp2_with (first | (refine wpList_alloc29 rfl rfl ?_) | (refine wpList_store29 rfl _ _ rfl w2.heap.size 0 0 (fun _ => 0) (fun _ => 0) (fun _ => false) (fun _ => false) rfl rfl hZ ?_; clear hZ; intro w3 h8 t3; replace hB := hB.trans (t3.below hbs)))
        go_ret
        exact ⟨rfl, hB⟩
end Go.Proofs.Ytbeklkgoiigccaa
