/-
  Contract of the law's question whether a topology is the document's, where it is. Condition: it is one.
-/
import Derived.Test.YtbeklkgoiigccaaTo
namespace Go.Proofs.Ytbeklkgoiigccaa
open Go.RowKit

/-- what is told of a domain's cores, and the error. -/
def tellN (cs : List Nat) (on : Nat) (d : Int) (b : Bool) : Nat := if domB cs d then pickN cs on d.toNat b else 0
def tellE (cs : List Nat) (d : Int) : Int := if domB cs d then 0 else 5
/-- what is told of a core's domain, and the error. -/
def ofN (cs : List Nat) (c : Int) : Int := if domN cs c < cs.length then (domN cs c : Int) else 0
def ofE (cs : List Nat) (c : Int) : Int := if domN cs c < cs.length then 0 else 2
theorem domB_cases {cs : List Nat} {d : Int} (h : domB cs d) : ∃ k : Nat, d = (k : Int) ∧ k < cs.length := ⟨d.toNat, by have := h.1; omega, by have := h.1; have := h.2; omega⟩
theorem tellN_lt {cs : List Nat} {on : Nat} (ok : TopoOk cs on) (d : Int) (b : Bool) : tellN cs on d b < 18446744073709551616 := by
  unfold tellN
  split
  · exact pickN_lt ok _ _
  · omega
theorem tell_yes {cs : List Nat} {on k : Nat} (h : k < cs.length) (b : Bool) : tellN cs on (k : Int) b = pickN cs on k b ∧ tellE cs (k : Int) = 0 := by
  have hd : domB cs (k : Int) := ⟨by omega, by omega⟩
  simp [tellN, tellE, hd]
theorem tell_no {cs : List Nat} {on : Nat} {d : Int} (h : ¬ domB cs d) (b : Bool) : tellN cs on d b = 0 ∧ tellE cs d = 5 := by simp [tellN, tellE, h]
theorem Cores_all (p g : Nat) (cs : List Nat) (on : Nat) (d : Int) (w : World) (h : IsTopo w p g cs on) :
    Calls Try.prog 26 #[.pointer (some ⟨p, 0, none⟩), .int .i64 d] w fun e w' => e = .returned (.tuple #[.int .u64 (tellN cs on d false : Nat), .int .i64 (tellE cs d)]) ∧ w = w' := by
  by_cases hd : domB cs d
  · obtain ⟨k, rfl, hk⟩ := domB_cases hd
    rw [(tell_yes (on := on) hk false).1, (tell_yes (on := on) hk false).2]
    exact Cores_yes p g cs on k w h hk
  · rw [(tell_no (on := on) hd false).1, (tell_no (on := on) hd false).2]
    exact Cores_no p g cs on d w h hd
theorem Online_all (p g : Nat) (cs : List Nat) (on : Nat) (d : Int) (w : World) (h : IsTopo w p g cs on) :
    Calls Try.prog 15 #[.pointer (some ⟨p, 0, none⟩), .int .i64 d] w fun e w' => e = .returned (.tuple #[.int .u64 (tellN cs on d true : Nat), .int .i64 (tellE cs d)]) ∧ w = w' := by
  by_cases hd : domB cs d
  · obtain ⟨k, rfl, hk⟩ := domB_cases hd
    rw [(tell_yes (on := on) hk true).1, (tell_yes (on := on) hk true).2]
    exact Online_yes p g cs on k w h hk
  · rw [(tell_no (on := on) hd true).1, (tell_no (on := on) hd true).2]
    exact Online_no p g cs on d w h hd
theorem rCores_all (cs : List Nat) (on : Nat) (d : Int) (b : Bool) (w : World) (ok : TopoOk cs on) :
    Calls Try.prog 31 #[.agg (TV cs on), .int .i64 d, .bool b] w fun e w' => e = .returned (.tuple #[.agg (arrB (tellN cs on d b).testBit), .int .i64 (tellE cs d)]) ∧ Below w.heap.size w w' := by
  by_cases hd : domB cs d
  · obtain ⟨k, rfl, hk⟩ := domB_cases hd
    rw [(tell_yes (on := on) hk b).1, (tell_yes (on := on) hk b).2]
    exact rCores_yes cs on k b w ok hk
  · rw [(tell_no (on := on) hd b).1, (tell_no (on := on) hd b).2]
    exact rCores_no cs on d b w hd
theorem Of_all (p g : Nat) (cs : List Nat) (on : Nat) (c : Int) (w : World) (h : IsTopo w p g cs on) (ok : TopoOk cs on) :
    Calls Try.prog 24 #[.pointer (some ⟨p, 0, none⟩), .int .i64 c] w fun e w' => e = .returned (.tuple #[.int .i64 (ofN cs c), .int .i64 (ofE cs c)]) ∧ Below w.heap.size w w' := by
  by_cases hd : domN cs c < cs.length
  · rw [show ofN cs c = (domN cs c : Nat) by simp [ofN, hd], show ofE cs c = 0 by simp [ofE, hd]]
    exact Of_yes p g cs on c w h ok hd
  · rw [show ofN cs c = 0 by simp [ofN, hd], show ofE cs c = 2 by simp [ofE, hd]]
    exact Of_no p g cs on c w h ok hd
theorem rDomain_all (cs : List Nat) (on : Nat) (c : Int) (w : World) :
    Calls Try.prog 32 #[.agg (TV cs on), .int .i64 c] w fun e w' => e = .returned (.tuple #[.int .i64 (ofN cs c), .int .i64 (ofE cs c)]) ∧ Below w.heap.size w w' := by
  by_cases hd : domN cs c < cs.length
  · rw [show ofN cs c = (domN cs c : Nat) by simp [ofN, hd], show ofE cs c = 0 by simp [ofE, hd]]
    exact rDomain_yes cs on c w hd
  · rw [show ofN cs c = 0 by simp [ofN, hd], show ofE cs c = 2 by simp [ofE, hd]]
    exact rDomain_no cs on c w hd
section
variable {ops : Array Oper} {rest : List Oper} {o : Oper} {a : Act} {w : World} {Q : Exit → Act → World → Prop}
theorem wpList_want {P : Program} (hw : Region.wanted o (yielded ops a.tmps) = true) (h : ∀ K : Act → World → Prop, (∀ a w, wpList P ops Q rest a w → K a w) → o.wp P a w K Q) : wpList P ops Q (o :: rest) a w :=
  wpList_step fun K hK => by rw [if_pos hw]; exact h K hK
theorem wpList_load27g (hg : Region.wanted o (yielded ops a.tmps) = true) (x : Operand) (ho : o.op = .load 27 x) (b : Nat) (f : Nat → Bool) (hx : a.eval x = .pointer (some ⟨b, 0, none⟩)) (hw : IsArr w b f) (h : wpList Try.prog ops Q rest (a.put o.dst (.agg (arrB f))) w) : wpList Try.prog ops Q (o :: rest) a w :=
  wpList_want hg fun _ hK => wp_load_row 27 x ho b hx 27 _ (0, 0) _ hw Try.underlying27 rfl (size30 f) (hK _ _ h)
end
theorem IsTopo.drew {w : World} {p g : Nat} {cs : List Nat} {on : Nat} (h : IsTopo w p g cs on) : IsTopo w.drew p g cs on := h.same rfl rfl
set_option maxRecDepth 100000 in
set_option maxHeartbeats 4000000 in
theorem Is_topo (p g : Nat) (cs : List Nat) (on : Nat) (w : World) (h : IsTopo w p g cs on) (ok : TopoOk cs on) :
    Calls Try.prog 13 #[.pointer (some ⟨p, 0, none⟩), .agg (TV cs on)] w fun e w' => e = .returned (.bool true) ∧ Below w.heap.size w w' := by
  have hT : IT ((w.alloc (.cells (TV cs on) 29)).drew) w.heap.size cs on := IsT.new w _ _ _
  have hP : IsTopo ((w.alloc (.cells (TV cs on) 29)).drew) p g cs on := (h.alloc _).drew
  have hB : Below w.heap.size w ((w.alloc (.cells (TV cs on) 29)).drew) := ((Below.refl _ w).alloc (Nat.le_refl _) _).drew
  have hc := hT.many
  have hle := ok.good.2.1
  go_enter Try.func13, Try.ntmps13
  go_wp2_with (first | (refine wpList_box29 rfl _ rfl _ _ _ rfl ?_))
  refine Rd.region (fun X => X.cell? ⟨w.heap.size, 0, none⟩ = some (.int .i64 (cs.length : Int))) 9 [0, 1, 2, 3, 5, 6, 7, 8] [0, 1, 2, 3, 5, 6, 4, 7, 8] (by kernel_rfl) (by kernel_rfl) (by kernel_rfl) (by kernel_rfl) rfl hc ?_
  generalize (w.alloc (.cells (TV cs on) 29)).drew = w1 at *
  refine Rd.seq_float (.pointer (some ⟨p, 0, none⟩)) (by simp only [List.getElem?_toArray, List.getElem?_cons_zero]; rfl) rfl (by rfl) (fun X _ => by go_simp) ?_
  simp only [Act.put, List.setIfInBounds_toArray, List.set_cons_succ, List.set_cons_zero]
  refine Rd.seq_float (.bool false) (by simp only [List.getElem?_toArray, List.getElem?_cons_succ, List.getElem?_cons_zero]; rfl) rfl (by rfl) (fun X _ => by go_simp) ?_
  simp only [Act.put, List.setIfInBounds_toArray, List.set_cons_succ, List.set_cons_zero]
  refine Rd.seq_float (.bool false) (by simp only [List.getElem?_toArray, List.getElem?_cons_succ, List.getElem?_cons_zero]; rfl) rfl (by rfl) (fun X _ => by go_simp) ?_
  simp only [Act.put, List.setIfInBounds_toArray, List.set_cons_succ, List.set_cons_zero]
  refine Rd.seq_float (.pointer (some ⟨p, 0, none⟩)) (by simp only [List.getElem?_toArray, List.getElem?_cons_succ, List.getElem?_cons_zero]; rfl) rfl (by rfl) (fun X _ => by go_simp) ?_
  simp only [Act.put, List.setIfInBounds_toArray, List.set_cons_succ, List.set_cons_zero]
  refine Rd.seq_float (.pointer (some ⟨w.heap.size, 0, none⟩)) (by simp only [List.getElem?_toArray, List.getElem?_cons_succ, List.getElem?_cons_zero]; rfl) rfl (by rfl) (fun X _ => by go_simp) ?_
  simp only [Act.put, List.setIfInBounds_toArray, List.set_cons_succ, List.set_cons_zero]
  refine Rd.seq_float (.int .i64 (cs.length : Int)) (by simp only [List.getElem?_toArray, List.getElem?_cons_succ, List.getElem?_cons_zero]; rfl) rfl (by rfl) (fun X hX => by go_simp) ?_
  simp only [Act.put, List.setIfInBounds_toArray, List.set_cons_succ, List.set_cons_zero]
  refine Rd.seq_move (by simp only [List.getElem?_toArray, List.getElem?_cons_succ, List.getElem?_cons_zero]; rfl) rfl (by rfl) (fun K hK => ?_)
  go_simp
  refine (Domains_any p g cs on _ hP).mono ?_
  rintro e w3 ⟨rfl, rfl⟩
  refine hK _ _ (fun _ => hc) ?_
  clear hK K
  refine Rd.seq_float (.bool false) (by simp only [List.getElem?_toArray, List.getElem?_cons_succ, List.getElem?_cons_zero]; rfl) rfl (by rfl) (fun X _ => by go_simp) ?_
  simp only [Act.put, List.setIfInBounds_toArray, List.set_cons_succ, List.set_cons_zero]
  refine Rd.seq_float (.bool false) (by simp only [List.getElem?_toArray, List.getElem?_cons_succ, List.getElem?_cons_zero]; rfl) rfl (by rfl) (fun X _ => by go_simp) ?_
  simp only [Act.put, List.setIfInBounds_toArray, List.set_cons_succ, List.set_cons_zero]
  refine Rd.seq_end ?_
  clear hc
  go_wp2_with fail
  go_loopw [5] (fun i wr => ∃ d : Int, -1 ≤ d ∧ d ≤ cs.length + 1 ∧ i = .int .i64 d ∧ Hid (IT wr w.heap.size cs on) ∧ Hid (IsTopo wr p g cs on) ∧ Hid (Below w.heap.size w wr)) (fun i _ => (cs.length + 2 - intOf i).toNat)
  case atStart => exact ⟨-1, by omega, by omega, rfl, Lib.hid hT, Lib.hid hP, Lib.hid hB⟩
  case round =>
    clear hT hP hB
    obtain ⟨d, hd0, hd1, rfl, HT, HP, HB⟩ := hrel
    have hT := HT.out
    have hP := HP.out
    have hB := HB.out
    clear HT HP HB
    have hc := hT.many
    by_cases hlt : d ≤ (cs.length : Int)
    · have hlE := tellN_lt ok d false
      have hlF := tellN_lt ok d true
      have HC := Lib.hid (Cores_all p g cs on d wr hP)
      have HO := Lib.hid (Online_all p g cs on d wr hP)
      have HR0 := Lib.hid (fun w => rCores_all cs on d false w ok)
      have HR1 := Lib.hid (fun w => rCores_all cs on d true w ok)
      generalize tellN cs on d false = N at *
      generalize tellN cs on d true = M at *
      generalize tellE cs d = E at *
      go_wp2_with (first | (go_at_call 26; refine HC.out.mono ?_; rintro e w3 ⟨rfl, rfl⟩) | (go_at_call 15; refine HO.out.mono ?_; rintro e w3 ⟨rfl, rfl⟩) | (refine wpList_load29 rfl _ rfl w.heap.size _ _ _ rfl hT ?_))
      clear HC HO hc
      refine (HR0.out _).mono ?_
      rintro e w3 ⟨rfl, hb⟩
      replace hB := hB.trans (hb.mono (Nat.le_of_lt hT.lt)); replace hP := hP.belowS hb; replace hT := hT.below hb hT.lt
      clear hb
      have hpl := hP.ltp
      have hgl := hP.ltg
      have hX := IsArr.new w3 (fun _ => false)
      have hl3 := hT.lt
      replace hB := hB.alloc (by omega) (.cells (arrB fun _ => false) 27)
      replace hP := hP.alloc (.cells (arrB fun _ => false) 27)
      replace hT := hT.alloc (.cells (arrB fun _ => false) 27)
      clear HR0
      go_wp2_with (first | (refine wpList_alloc30 rfl rfl ?_) | (refine wpList_store30 rfl _ _ rfl w3.heap.size _ (fun _ => false) rfl rfl hX ?_; clear hX; intro w4 hA t4; replace hP := hP.turn t4 (Nat.ne_of_lt hpl) (Nat.ne_of_lt hgl); replace hT := hT.turn t4 (Nat.ne_of_lt hl3); replace hB := hB.trans (t4.below (Nat.le_of_lt hl3)); clear hpl hgl hl3 t4) | (refine wpList_load29 rfl _ rfl w.heap.size _ _ _ rfl hT ?_))
      refine (HR1.out _).mono ?_
      rintro e w5 ⟨rfl, hb⟩
      replace hB := hB.trans (hb.mono (Nat.le_of_lt hT.lt)); replace hP := hP.belowS hb; replace hT := hT.below hb hT.lt; have hal := hA.lt; replace hA := (hA.below hb hal).alloc (.cells (arrB fun _ => false) 27); have hal2 : w3.heap.size < w5.heap.size := Nat.lt_of_lt_of_le hal hb.size
      clear hb
      have hpl := hP.ltp
      have hgl := hP.ltg
      have hX := IsArr.new w5 (fun _ => false)
      have hl3 := hT.lt
      replace hB := hB.alloc (by omega) (.cells (arrB fun _ => false) 27)
      replace hP := hP.alloc (.cells (arrB fun _ => false) 27)
      replace hT := hT.alloc (.cells (arrB fun _ => false) 27)
      clear HR1
      have hE : (E != E) = false := bne_self_eq_false E
      go_wp2_with (first | (refine wpList_alloc30 rfl rfl ?_) | (refine wpList_store30 rfl _ _ rfl w5.heap.size _ (fun _ => false) rfl rfl hX ?_; clear hX; intro w6 hC t4; replace hP := hP.turn t4 (Nat.ne_of_lt hpl) (Nat.ne_of_lt hgl); replace hT := hT.turn t4 (Nat.ne_of_lt hl3); replace hB := hB.trans (t4.below (Nat.le_of_lt hl3)); replace hA := hA.turn t4 (Nat.ne_of_lt hal2); clear hpl hgl hl3 t4) | (refine wpList_load29 rfl _ rfl w.heap.size _ _ _ rfl hT ?_) | (refine wpList_load27g (by rfl) _ rfl w3.heap.size _ rfl hA ?_))
      refine (Is_any N N _ hlE).mono ?_
      rintro e w7 ⟨rfl, hb⟩
      replace hB := hB.trans (hb.mono (Nat.le_of_lt hT.lt)); replace hP := hP.belowS hb; replace hT := hT.below hb hT.lt
      replace hC := hC.below hb hC.lt
      clear hb hA
      have hN : ((N : Int) == (N : Int)) = true := beq_self_eq_true _
      have hM : ((M : Int) == (M : Int)) = true := beq_self_eq_true _
      go_wp2_with (first | (refine wpList_load27g (by rfl) _ rfl w5.heap.size _ rfl hC ?_))
      refine (Is_any M M _ hlF).mono ?_
      rintro e w8 ⟨rfl, hb⟩
      replace hB := hB.trans (hb.mono (Nat.le_of_lt hT.lt)); replace hP := hP.belowS hb; replace hT := hT.below hb hT.lt
      clear hb hC
      go_wp2_with fail
      exact ⟨⟨d + 1, by omega, by omega, rfl, Lib.hid hT, Lib.hid hP, Lib.hid hB⟩, by simp only [intOf]; omega⟩
    · go_wp2_with fail
      clear hc
      go_loopw [14] (fun i wr => ∃ c : Int, -1 ≤ c ∧ c ≤ 65 ∧ i = .int .i64 c ∧ Hid (IT wr w.heap.size cs on) ∧ Hid (IsTopo wr p g cs on) ∧ Hid (Below w.heap.size w wr)) (fun i _ => (66 - intOf i).toNat)
      case atStart => exact ⟨-1, by omega, by omega, rfl, Lib.hid hT, Lib.hid hP, Lib.hid hB⟩
      case round =>
        clear hT hP hB
        obtain ⟨c, hc0, hc1, rfl, HT, HP, HB⟩ := hrel
        have hT := HT.out
        have hP := HP.out
        have hB := HB.out
        clear HT HP HB
        by_cases hlt : c ≤ 64
        · have HO := Lib.hid (Of_all p g cs on c wr hP ok)
          have HR := Lib.hid (fun w => rDomain_all cs on c w)
          have HN := Lib.hid (fun w h => On_any p g cs on c w h ok)
          by_cases hdom : domN cs c < cs.length
          · have hcore := has_core (dom_has hdom)
            obtain ⟨k, hk, rfl⟩ := core_nat hcore
            have h1 : ofE cs (k : Int) = 0 := by simp [ofE, hdom]
            have h2 : onB cs on (k : Int) = on.testBit k := by simp [onB, hdom, hasB_nat hk]
            rw [h1] at HO HR
            simp only [h2] at HN
            clear h1 h2 hcore
            generalize ofN cs (k : Int) = N at *
            generalize hbb : on.testBit k = bb at *
            have hN : (N != N) = false := bne_self_eq_false N
            have hbn : (bb != bb) = false := bne_self_eq_false bb
            have HB2 := Lib.hid hbb
            clear hdom hbb
            rcases Nat.eq_zero_or_pos k with rfl | hk0
            · go_wp2_with (first | (go_at_call 24; refine HO.out.mono ?_; rintro e w3 ⟨rfl, hb⟩; replace hB := hB.trans (hb.mono (Nat.le_of_lt hT.lt)); replace hP := hP.belowS hb; replace hT := hT.below hb hT.lt; clear hb) | (refine wpList_load29 rfl _ rfl w.heap.size _ _ _ rfl hT ?_) | (go_at_call 32; refine (HR.out _).mono ?_; rintro e w4 ⟨rfl, hb⟩; replace hB := hB.trans (hb.mono (Nat.le_of_lt hT.lt)); replace hP := hP.belowS hb; replace hT := hT.below hb hT.lt; clear hb) | (go_at_call 28; refine (HN.out _ hP).mono ?_; rintro e w5 ⟨rfl, hb⟩; replace hB := hB.trans (hb.mono (Nat.le_of_lt hT.lt)); replace hP := hP.belowS hb; replace hT := hT.below hb hT.lt; clear hb; have hcell := hT.on (i := 0) (by omega); rw [HB2.out] at hcell))
              exact ⟨⟨0 + 1, by omega, by omega, rfl, Lib.hid hT, Lib.hid hP, Lib.hid hB⟩, by simp only [intOf]; omega⟩
            · go_wp2_with (first | (go_at_call 24; refine HO.out.mono ?_; rintro e w3 ⟨rfl, hb⟩; replace hB := hB.trans (hb.mono (Nat.le_of_lt hT.lt)); replace hP := hP.belowS hb; replace hT := hT.below hb hT.lt; clear hb) | (refine wpList_load29 rfl _ rfl w.heap.size _ _ _ rfl hT ?_) | (go_at_call 32; refine (HR.out _).mono ?_; rintro e w4 ⟨rfl, hb⟩; replace hB := hB.trans (hb.mono (Nat.le_of_lt hT.lt)); replace hP := hP.belowS hb; replace hT := hT.below hb hT.lt; clear hb) | (go_at_call 28; refine (HN.out _ hP).mono ?_; rintro e w5 ⟨rfl, hb⟩; replace hB := hB.trans (hb.mono (Nat.le_of_lt hT.lt)); replace hP := hP.belowS hb; replace hT := hT.below hb hT.lt; clear hb; have hcell := hT.on hk; rw [HB2.out] at hcell))
              exact ⟨⟨(k : Int) + 1, by omega, by omega, rfl, Lib.hid hT, Lib.hid hP, Lib.hid hB⟩, by simp only [intOf]; omega⟩
          · have h1 : ofE cs c = 2 := by simp [ofE, hdom]
            have h2 : onB cs on c = false := by simp [onB, hdom]
            rw [h1] at HO HR
            simp only [h2] at HN
            clear h1 h2
            generalize ofN cs c = N at *
            have hN : (N != N) = false := bne_self_eq_false N
            clear hdom
            go_wp2_with (first | (go_at_call 24; refine HO.out.mono ?_; rintro e w3 ⟨rfl, hb⟩; replace hB := hB.trans (hb.mono (Nat.le_of_lt hT.lt)); replace hP := hP.belowS hb; replace hT := hT.below hb hT.lt; clear hb) | (refine wpList_load29 rfl _ rfl w.heap.size _ _ _ rfl hT ?_) | (go_at_call 32; refine (HR.out _).mono ?_; rintro e w4 ⟨rfl, hb⟩; replace hB := hB.trans (hb.mono (Nat.le_of_lt hT.lt)); replace hP := hP.belowS hb; replace hT := hT.below hb hT.lt; clear hb) | (go_at_call 28; refine (HN.out _ hP).mono ?_; rintro e w5 ⟨rfl, hb⟩; replace hB := hB.trans (hb.mono (Nat.le_of_lt hT.lt)); replace hP := hP.belowS hb; replace hT := hT.below hb hT.lt; clear hb))
            exact ⟨⟨c + 1, by omega, by omega, rfl, Lib.hid hT, Lib.hid hP, Lib.hid hB⟩, by simp only [intOf]; omega⟩
        · go_wp2_with fail
          go_ret
          exact ⟨rfl, hB⟩

end Go.Proofs.Ytbeklkgoiigccaa
