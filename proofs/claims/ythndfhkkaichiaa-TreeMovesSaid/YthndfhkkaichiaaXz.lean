/-
  Is: a forest is the document's. Condition: both hold the same groups.
-/
import Derived.Test.YthndfhkkaichiaaXy
namespace Go.Proofs.Ythndfhkkaichiaa
open Go.RowKit Go.Maps

theorem Blk.grownX {w w' : World} {b t B : Nat} {cs : Array Value} {v : Value} {l : List Int} (h : Blk w b t cs) (ht : t ≠ 3) (hro : RowO w B v l) (hg : w.grownBy w' v.ownBlock) : Blk w' b t cs := by
  refine (hg.block b h.lt fun e => ?_).trans h
  rcases hro.2 with ⟨rfl, _⟩ | ⟨g, cap, cur, rfl, hbg, hg', _⟩
  · cases e
  · have : b = g := by simpa [Value.ownBlock] using e
    subst this
    unfold Blk at h
    rw [hg'] at h
    injection h with h1
    injection h1 with _ h2 _
    exact ht h2.symm
theorem kids_out {L : List Gr} {m k x : Int} (ok : Ok L m k) (hx : has L x = false) (hn : ¬ x = -1) : kids L x = [] := by
  unfold kids
  rw [List.map_eq_nil_iff, List.filter_eq_nil_iff]
  intro g hg e
  have e : g.pa = x := by simpa using e
  rcases ok.par g hg with h | h
  · omega
  · rw [e, hx] at h; cases h
theorem act_out {L : List Gr} {m k x : Int} (ok : Ok L m k) (hx : has L x = false) : actI L x = 0 := by
  have : ∀ vs : List Int, sumA L x vs = 0 := by
    intro vs
    induction vs with
    | nil => rfl
    | cons y vs ih =>
      rw [sumA_cons, ih]
      unfold aw1
      rw [ok.below_not hx]
      rfl
  exact this _
theorem neq44 (w : World) : (binOp .neq 44 (.agg #[.int .i64 0, .int .i64 0, .int .i64 0, .int .i64 0, .int .i64 0, .int .i64 0, .int .i64 0]) (.agg #[.int .i64 0, .int .i64 0, .int .i64 0, .int .i64 0, .int .i64 0, .int .i64 0, .int .i64 0])).run Try.prog w = .ok (.bool false) w := by kernel_rfl
theorem ids_snoc {L : List Gr} {k : Nat} (h : k < L.length) : idsG (L.take (k + 1)) = idsG (L.take k) ++ [(L.getD k g0).id] := by
  rw [take_snoc h]
  unfold idsG
  simp
section
variable {ops : Array Oper} {rest : List Oper} {o : Oper} {a : Act} {w : World} {Q : Exit → Act → World → Prop}
theorem wpList_index74 (hg : o.guard = none) (x i : Operand) (ho : o.op = .index 74 x i) (cs : Array Value) (j v : Int) (hx : a.eval x = .agg cs) (hi : a.eval i = .int .i64 j) (hr : ∀ w, (Instr.index 74 (.agg cs) (.int .i64 j)).run Try.prog w = .ok (.int .i64 v) w)
    (h : wpList Try.prog ops Q rest (a.put o.dst (.int .i64 v)) w) : wpList Try.prog ops Q (o :: rest) a w :=
  wpList_plain hg fun K hK => by
    unfold Oper.wp execOp
    simp only [ho, hx, hi, hr, Sem.run_bind, Sem.run_pure, Result.andThen_ok]
    exact hK _ _ h
end
section
variable (fp B R : Nat) (a : Option Addr) (c : Nat) (L : List Gr) (l : List Int) (m k : Int)
set_option maxRecDepth 100000 in
set_option maxHeartbeats 8000000 in
theorem Is_any (w : World) (hF : IsF w B fp L l m k) (hr : RowG w (.slice a L.length c) L) :
    Calls Try.prog 12 #[.pointer (some ⟨fp, 0, none⟩), .agg (cellsF (R : Int) m (.slice a L.length c))] w fun e w' => e = .returned (.bool true) ∧ Below w.heap.size w w' := by
  have hb1 : Below w.heap.size w (w.alloc (.cells #[.int .i64 (R : Int), .int .i64 m, .slice a L.length c] 30)) := (Below.refl _ w).alloc (Nat.le_refl _) _
  have hx : Blk (w.alloc (.cells #[.int .i64 (R : Int), .int .i64 m, .slice a L.length c] 30)) w.heap.size 30 (cellsF (R : Int) m (.slice a L.length c)) := Blk.new w 30 _
  have OK := Lib.hid hF.ok
  have hm0 := hF.ok.m0
  have hmk := hF.ok.mle
  have hk1 := hF.ok.k1
  have n64 := hF.ok.n64
  have HFX : Hid (∀ X, Below (w.alloc (.cells #[.int .i64 (R : Int), .int .i64 m, .slice a L.length c] 30)).heap.size (w.alloc (.cells #[.int .i64 (R : Int), .int .i64 m, .slice a L.length c] 30)) X → IsF X B fp L l m k) := Lib.hid fun X hX => (hF.below hb1).below hX
  have HRX : Hid (∀ X, Below (w.alloc (.cells #[.int .i64 (R : Int), .int .i64 m, .slice a L.length c] 30)).heap.size (w.alloc (.cells #[.int .i64 (R : Int), .int .i64 m, .slice a L.length c] 30)) X → RowG X (.slice a L.length c) L) := Lib.hid fun X hX => (hr.below hb1).below hX
  have HXB : Hid (∀ X, Below (w.alloc (.cells #[.int .i64 (R : Int), .int .i64 m, .slice a L.length c] 30)).heap.size (w.alloc (.cells #[.int .i64 (R : Int), .int .i64 m, .slice a L.length c] 30)) X → Blk X w.heap.size 30 (cellsF (R : Int) m (.slice a L.length c))) := Lib.hid fun X hX => hx.below hX
  have h2 := cF2 hx
  have h1 := cF1 hx
  have hs1 := hb1.size
  clear hF hr hx
  unfold cellsF
  go_enter Try.func12, Try.ntmps12
  go_wp2_with fail
  generalize (w.alloc (.cells #[.int .i64 (R : Int), .int .i64 m, .slice a L.length c] 30)) = w1 at *
  go_loopw [5, 19] (fun v i wr => ∃ (k : Nat) (a' : Option Addr) (c' : Nat), k ≤ L.length ∧ i = .int .i64 k ∧ v = .slice a' (idsG (L.take k)).length c' ∧ RowO wr w1.heap.size (.slice a' (idsG (L.take k)).length c') (idsG (L.take k)) ∧ Below w1.heap.size w1 wr) (fun _ i _ => L.length - (intOf i).toNat)
  case atStart => exact ⟨0, none, 0, by omega, rfl, rfl, RowO.nil _ _, Below.refl _ _⟩
  case round =>
    obtain ⟨kk, a', c', hkk, rfl, rfl, hro, hb⟩ := hrel
    by_cases hlt : kk < L.length
    · obtain ⟨b, rfl, hcl⟩ := (HRX.out wr hb).at hlt
      have hg : L.getD kk g0 ∈ L := getD_memG hlt
      have hhas := has_mem hg
      have hge := gr_of OK.out.rise hg
      have hid := OK.out.id hhas
      have hI : I64 (L.getD kk g0).id := by unfold I64; omega
      have hkl64 : (kids L (L.getD kk g0).id).length ≤ 64 := Nat.le_trans (kids_len _ _) n64
      have HGr : Hid (∀ X, Below w1.heap.size w1 X → Calls Try.prog 16 #[.pointer (some ⟨fp, 0, none⟩), .int .i64 (L.getD kk g0).id] X fun e w' => e = .returned (.tuple #[.agg (cellsU (L.getD kk g0).id (L.getD kk g0).pa (L.getD kk g0).wt (dep L (L.getD kk g0).id) (topI L (L.getD kk g0).id) (L.getD kk g0).me (L.getD kk g0).aw), .int .i64 0]) ∧ Below X.heap.size X w') := Lib.hid fun X hX => by have := Group_yes fp B L l m k _ X (HFX.out X hX) hI hhas; rwa [hge] at this
      have HDep : Hid (∀ X, Below w1.heap.size w1 X → Calls Try.prog 34 #[.agg #[.int .i64 (R : Int), .int .i64 m, .slice (some ⟨b, 0, none⟩) L.length c], .int .i64 (L.getD kk g0).id] X fun e w' => e = .returned (.int .i64 (dep L (L.getD kk g0).id)) ∧ Below X.heap.size X w') := Lib.hid fun X hX => rDepth_any (R : Int) m _ c L _ m k X (HRX.out X hX) OK.out hhas
      have HTop : Hid (∀ X, Below w1.heap.size w1 X → Calls Try.prog 35 #[.agg #[.int .i64 (R : Int), .int .i64 m, .slice (some ⟨b, 0, none⟩) L.length c], .int .i64 (L.getD kk g0).id] X fun e w' => e = .returned (.int .i64 (topI L (L.getD kk g0).id)) ∧ Below X.heap.size X w') := Lib.hid fun X hX => rRoot_any (R : Int) m _ c L _ m k X (HRX.out X hX) OK.out hhas
      have HKid : Hid (∀ X, Below w1.heap.size w1 X → Calls Try.prog 19 #[.pointer (some ⟨fp, 0, none⟩), .int .i64 (L.getD kk g0).id] X fun e w' => (∃ a c, e = .returned (.slice a (kids L (L.getD kk g0).id).length c) ∧ RowO w' X.heap.size (.slice a (kids L (L.getD kk g0).id).length c) (kids L (L.getD kk g0).id)) ∧ Below X.heap.size X w') := Lib.hid fun X hX => Children_any fp B L l m k _ X (HFX.out X hX) (by omega)
      have HRKid : Hid (∀ X, Below w1.heap.size w1 X → Calls Try.prog 37 #[.agg #[.int .i64 (R : Int), .int .i64 m, .slice (some ⟨b, 0, none⟩) L.length c], .int .i64 (L.getD kk g0).id] X fun e w' => (∃ a c, e = .returned (.slice a (kids L (L.getD kk g0).id).length c) ∧ RowO w' X.heap.size (.slice a (kids L (L.getD kk g0).id).length c) (kids L (L.getD kk g0).id)) ∧ Below X.heap.size X w') := Lib.hid fun X hX => rKids_any (R : Int) m _ c L _ X (HRX.out X hX) n64 hid.1
      have HAct : Hid (∀ X, Below w1.heap.size w1 X → Calls Try.prog 21 #[.pointer (some ⟨fp, 0, none⟩), .int .i64 (L.getD kk g0).id] X fun e w' => e = .returned (.int .i64 (actI L (L.getD kk g0).id)) ∧ Below X.heap.size X w') := Lib.hid fun X hX => Active_any fp B L l m k _ X (HFX.out X hX)
      have HRAct : Hid (∀ X, Below w1.heap.size w1 X → Calls Try.prog 38 #[.agg #[.int .i64 (R : Int), .int .i64 m, .slice (some ⟨b, 0, none⟩) L.length c], .int .i64 (L.getD kk g0).id] X fun e w' => e = .returned (.int .i64 (actI L (L.getD kk g0).id)) ∧ Below X.heap.size X w') := Lib.hid fun X hX => rActive_any (R : Int) m _ c L _ m k X (HRX.out X hX) OK.out hhas
      have HRange := Lib.hid (hcl.range hlt)
      have HIds := Lib.hid (ids_snoc hlt)
      have hil : (idsG (L.take kk)).length ≤ 64 := by unfold idsG; rw [List.length_map, List.length_take]; omega
      have hsw := hb.size
      clear hcl hg hhas hge hid hI
      generalize L.getD kk g0 = g at *
      generalize idsG (L.take kk) = ids at *
      have hZg := Blk.new wr 70 #[.int .i64 0, .int .i64 0, .int .i64 0, .int .i64 0, .int .i64 0]
      have hbg : Below w1.heap.size w1 (wr.alloc (.cells #[.int .i64 0, .int .i64 0, .int .i64 0, .int .i64 0, .int .i64 0] 70)) := Below.allocS hb _
      have hrog := hro.alloc (.cells #[.int .i64 0, .int .i64 0, .int .i64 0, .int .i64 0, .int .i64 0] 70)
      go_wp2_with (first | (refine wpList_load_mid rfl 70 _ rfl b (kk * 5) rfl _ _ HRange.out Try.underlying70 rfl Try.info70 ?_) | (refine wpList_alloc70 rfl rfl ?_; generalize wr.alloc (.cells #[.int .i64 0, .int .i64 0, .int .i64 0, .int .i64 0, .int .i64 0] 70) = wg at *) | (refine wpList_store70 rfl _ _ rfl wr.heap.size g rfl rfl hZg rfl ?_; intro wh hZh th; have hbh : Below w1.heap.size w1 wh := hbg.trans (th.below hsw); have hroh := hrog.turn th hZg (by decide); have q7 := cE0 hZh; have hAo := OneAt.new wh g.id; have hbA : Below w1.heap.size w1 (wh.alloc (.cells #[.int .i64 g.id] 3)) := Below.allocS hbh _; have hroA : RowO (wh.alloc (.cells #[.int .i64 g.id] 3)) w1.heap.size (.slice a' ids.length c') ids := hroh.alloc _; have hZA := hZh.alloc (.cells #[.int .i64 g.id] 3); clear hZg th hrog) | (refine wpList_append rfl _ _ rfl w1.heap.size (.slice a' ids.length c') _ ids [g.id] rfl rfl (by have := hbh.size; simp; omega) hroA hAo.src (by simp; omega) ?_; intro v9 w9 hro9 hg9; have hb9 := hbA.trans (grown_below hroA hbA.size hg9); have hZ9 := hZA.grownX (by decide) hroA hg9; have q79 := cE0 hZ9; clear hroA hZA hg9) | (go_at_call 16; refine (HGr.out _ hb9).mono ?_; rintro e w10 ⟨rfl, hb10'⟩; have hb10 := Below.stay hb9 hb10'; have hro10 := hro9.below hb10'; have hZ10 := hZ9.below hb10'; have hZu := Blk.new w10 44 #[.int .i64 0, .int .i64 0, .int .i64 0, .int .i64 0, .int .i64 0, .int .i64 0, .int .i64 0]; have hbu : Below w1.heap.size w1 (w10.alloc (.cells #[.int .i64 0, .int .i64 0, .int .i64 0, .int .i64 0, .int .i64 0, .int .i64 0, .int .i64 0] 44)) := Below.allocS hb10 _; have hrou := hro10.alloc (.cells #[.int .i64 0, .int .i64 0, .int .i64 0, .int .i64 0, .int .i64 0, .int .i64 0, .int .i64 0] 44); have hZ7u := hZ10.alloc (.cells #[.int .i64 0, .int .i64 0, .int .i64 0, .int .i64 0, .int .i64 0, .int .i64 0, .int .i64 0] 44); have hlu := hZ10.lt; have hsu := hb10.size) | (refine wpList_alloc44 rfl rfl ?_; generalize w10.alloc (.cells #[.int .i64 0, .int .i64 0, .int .i64 0, .int .i64 0, .int .i64 0, .int .i64 0, .int .i64 0] 44) = w11 at *) | (refine wpList_store44 rfl _ _ rfl w10.heap.size g.id g.pa g.wt (dep L g.id) (topI L g.id) g.me g.aw rfl rfl hZu rfl ?_; intro w12 hZ12 t12; have hbs : Below w1.heap.size w1 w12 := hbu.trans (t12.below hsu); have hro12 := hrou.turn t12 hZu (by decide); have hZ712 := hZ7u.turn t12 (by omega); clear hZu hZ7u t12 hrou))
      have HC8 : Hid (∀ X, Below w12.heap.size w12 X → Blk X w10.heap.size 44 (cellsU g.id g.pa g.wt (dep L g.id) (topI L g.id) g.me g.aw) ∧ Blk X wr.heap.size 70 (cellsE g)) := Lib.hid fun X hX => ⟨hZ12.below hX, hZ712.below hX⟩
      have hq : Below w12.heap.size w12 w12.drew := (Same.drew w12).below _
      refine Rd.region (fun X => Below w12.heap.size w12 X) 55 [0, 1, 2, 3, 4, 5, 6, 7, 8, 9, 10, 11, 12, 13, 14, 15, 16, 17, 18, 19, 20, 21, 22, 23, 24, 25, 26, 27, 28, 29, 30, 31, 32, 33, 34, 35, 36, 37, 38, 39, 40, 41, 42, 44, 45, 46, 47, 48, 49, 50, 51, 53, 54] [0, 1, 2, 3, 4, 5, 6, 7, 8, 9, 10, 11, 12, 13, 14, 15, 16, 17, 18, 19, 20, 21, 22, 23, 24, 25, 26, 27, 28, 29, 30, 31, 32, 33, 34, 35, 36, 37, 38, 39, 40, 41, 42, 43, 44, 45, 46, 47, 48, 49, 50, 51, 52, 53, 54] (by kernel_rfl) (by kernel_rfl) (by kernel_rfl) (by kernel_rfl) rfl hq ?_
      refine Rd.seq_floatL (.int .i64 0) (by simp only [List.getElem?_toArray, List.getElem?_cons_zero]; rfl) (by rfl) rfl (by rfl) (fun X _ => by go_simp) ?_
      dsimp only [List.set_cons_succ, List.set_cons_zero]
      refine Rd.seq_floatL (.bool false) (by simp only [List.getElem?_toArray, List.getElem?_cons_succ, List.getElem?_cons_zero]; rfl) (by rfl) rfl (by rfl) (fun X _ => by go_simp) ?_
      dsimp only [List.set_cons_succ, List.set_cons_zero]
      refine Rd.seq_floatL (.bool false) (by simp only [List.getElem?_toArray, List.getElem?_cons_succ, List.getElem?_cons_zero]; rfl) (by rfl) rfl (by rfl) (fun X _ => by go_simp) ?_
      dsimp only [List.set_cons_succ, List.set_cons_zero]
      refine Rd.seq_floatL (.pointer (some ⟨w10.heap.size, 0, none⟩)) (by simp only [List.getElem?_toArray, List.getElem?_cons_succ, List.getElem?_cons_zero]; rfl) (by rfl) rfl (by rfl) (fun X _ => by go_simp) ?_
      dsimp only [List.set_cons_succ, List.set_cons_zero]
      refine Rd.seq_floatL (.int .i64 g.id) (by simp only [List.getElem?_toArray, List.getElem?_cons_succ, List.getElem?_cons_zero]; rfl) (by rfl) rfl (by rfl) (fun X hX => by have q := cU0 (HC8.out X hX).1; go_simp) ?_
      dsimp only [List.set_cons_succ, List.set_cons_zero]
      refine Rd.seq_floatL (.pointer (some ⟨wr.heap.size, 0, none⟩)) (by simp only [List.getElem?_toArray, List.getElem?_cons_succ, List.getElem?_cons_zero]; rfl) (by rfl) rfl (by rfl) (fun X _ => by go_simp) ?_
      dsimp only [List.set_cons_succ, List.set_cons_zero]
      refine Rd.seq_floatL (.int .i64 g.id) (by simp only [List.getElem?_toArray, List.getElem?_cons_succ, List.getElem?_cons_zero]; rfl) (by rfl) rfl (by rfl) (fun X hX => by have q := cE0 (HC8.out X hX).2; go_simp) ?_
      dsimp only [List.set_cons_succ, List.set_cons_zero]
      refine Rd.seq_floatL (.bool false) (by simp only [List.getElem?_toArray, List.getElem?_cons_succ, List.getElem?_cons_zero]; rfl) (by rfl) rfl (by rfl) (fun X _ => by go_simp) ?_
      dsimp only [List.set_cons_succ, List.set_cons_zero]
      refine Rd.seq_floatL (.bool false) (by simp only [List.getElem?_toArray, List.getElem?_cons_succ, List.getElem?_cons_zero]; rfl) (by rfl) rfl (by rfl) (fun X _ => by go_simp) ?_
      dsimp only [List.set_cons_succ, List.set_cons_zero]
      refine Rd.seq_floatL (.bool false) (by simp only [List.getElem?_toArray, List.getElem?_cons_succ, List.getElem?_cons_zero]; rfl) (by rfl) rfl (by rfl) (fun X _ => by go_simp) ?_
      dsimp only [List.set_cons_succ, List.set_cons_zero]
      refine Rd.seq_floatL (.pointer (some ⟨w10.heap.size, 1, none⟩)) (by simp only [List.getElem?_toArray, List.getElem?_cons_succ, List.getElem?_cons_zero]; rfl) (by rfl) rfl (by rfl) (fun X _ => by go_simp) ?_
      dsimp only [List.set_cons_succ, List.set_cons_zero]
      refine Rd.seq_floatL (.int .i64 g.pa) (by simp only [List.getElem?_toArray, List.getElem?_cons_succ, List.getElem?_cons_zero]; rfl) (by rfl) rfl (by rfl) (fun X hX => by have q := cU1 (HC8.out X hX).1; go_simp) ?_
      dsimp only [List.set_cons_succ, List.set_cons_zero]
      refine Rd.seq_floatL (.pointer (some ⟨wr.heap.size, 1, none⟩)) (by simp only [List.getElem?_toArray, List.getElem?_cons_succ, List.getElem?_cons_zero]; rfl) (by rfl) rfl (by rfl) (fun X _ => by go_simp) ?_
      dsimp only [List.set_cons_succ, List.set_cons_zero]
      refine Rd.seq_floatL (.int .i64 g.pa) (by simp only [List.getElem?_toArray, List.getElem?_cons_succ, List.getElem?_cons_zero]; rfl) (by rfl) rfl (by rfl) (fun X hX => by have q := cE1 (HC8.out X hX).2; go_simp) ?_
      dsimp only [List.set_cons_succ, List.set_cons_zero]
      refine Rd.seq_floatL (.bool false) (by simp only [List.getElem?_toArray, List.getElem?_cons_succ, List.getElem?_cons_zero]; rfl) (by rfl) rfl (by rfl) (fun X _ => by go_simp) ?_
      dsimp only [List.set_cons_succ, List.set_cons_zero]
      refine Rd.seq_floatL (.bool false) (by simp only [List.getElem?_toArray, List.getElem?_cons_succ, List.getElem?_cons_zero]; rfl) (by rfl) rfl (by rfl) (fun X _ => by go_simp) ?_
      dsimp only [List.set_cons_succ, List.set_cons_zero]
      refine Rd.seq_floatL (.bool false) (by simp only [List.getElem?_toArray, List.getElem?_cons_succ, List.getElem?_cons_zero]; rfl) (by rfl) rfl (by rfl) (fun X _ => by go_simp) ?_
      dsimp only [List.set_cons_succ, List.set_cons_zero]
      refine Rd.seq_floatL (.pointer (some ⟨w10.heap.size, 2, none⟩)) (by simp only [List.getElem?_toArray, List.getElem?_cons_succ, List.getElem?_cons_zero]; rfl) (by rfl) rfl (by rfl) (fun X _ => by go_simp) ?_
      dsimp only [List.set_cons_succ, List.set_cons_zero]
      refine Rd.seq_floatL (.int .i64 g.wt) (by simp only [List.getElem?_toArray, List.getElem?_cons_succ, List.getElem?_cons_zero]; rfl) (by rfl) rfl (by rfl) (fun X hX => by have q := cU2 (HC8.out X hX).1; go_simp) ?_
      dsimp only [List.set_cons_succ, List.set_cons_zero]
      refine Rd.seq_floatL (.pointer (some ⟨wr.heap.size, 2, none⟩)) (by simp only [List.getElem?_toArray, List.getElem?_cons_succ, List.getElem?_cons_zero]; rfl) (by rfl) rfl (by rfl) (fun X _ => by go_simp) ?_
      dsimp only [List.set_cons_succ, List.set_cons_zero]
      refine Rd.seq_floatL (.int .i64 g.wt) (by simp only [List.getElem?_toArray, List.getElem?_cons_succ, List.getElem?_cons_zero]; rfl) (by rfl) rfl (by rfl) (fun X hX => by have q := cE2 (HC8.out X hX).2; go_simp) ?_
      dsimp only [List.set_cons_succ, List.set_cons_zero]
      refine Rd.seq_floatL (.bool false) (by simp only [List.getElem?_toArray, List.getElem?_cons_succ, List.getElem?_cons_zero]; rfl) (by rfl) rfl (by rfl) (fun X _ => by go_simp) ?_
      dsimp only [List.set_cons_succ, List.set_cons_zero]
      refine Rd.seq_floatL (.bool false) (by simp only [List.getElem?_toArray, List.getElem?_cons_succ, List.getElem?_cons_zero]; rfl) (by rfl) rfl (by rfl) (fun X _ => by go_simp) ?_
      dsimp only [List.set_cons_succ, List.set_cons_zero]
      refine Rd.seq_floatL (.bool false) (by simp only [List.getElem?_toArray, List.getElem?_cons_succ, List.getElem?_cons_zero]; rfl) (by rfl) rfl (by rfl) (fun X _ => by go_simp) ?_
      dsimp only [List.set_cons_succ, List.set_cons_zero]
      refine Rd.seq_floatL (.pointer (some ⟨w10.heap.size, 5, none⟩)) (by simp only [List.getElem?_toArray, List.getElem?_cons_succ, List.getElem?_cons_zero]; rfl) (by rfl) rfl (by rfl) (fun X _ => by go_simp) ?_
      dsimp only [List.set_cons_succ, List.set_cons_zero]
      refine Rd.seq_floatL (.int .i64 g.me) (by simp only [List.getElem?_toArray, List.getElem?_cons_succ, List.getElem?_cons_zero]; rfl) (by rfl) rfl (by rfl) (fun X hX => by have q := cU5 (HC8.out X hX).1; go_simp) ?_
      dsimp only [List.set_cons_succ, List.set_cons_zero]
      refine Rd.seq_floatL (.pointer (some ⟨wr.heap.size, 3, none⟩)) (by simp only [List.getElem?_toArray, List.getElem?_cons_succ, List.getElem?_cons_zero]; rfl) (by rfl) rfl (by rfl) (fun X _ => by go_simp) ?_
      dsimp only [List.set_cons_succ, List.set_cons_zero]
      refine Rd.seq_floatL (.int .i64 g.me) (by simp only [List.getElem?_toArray, List.getElem?_cons_succ, List.getElem?_cons_zero]; rfl) (by rfl) rfl (by rfl) (fun X hX => by have q := cE3 (HC8.out X hX).2; go_simp) ?_
      dsimp only [List.set_cons_succ, List.set_cons_zero]
      refine Rd.seq_floatL (.bool false) (by simp only [List.getElem?_toArray, List.getElem?_cons_succ, List.getElem?_cons_zero]; rfl) (by rfl) rfl (by rfl) (fun X _ => by go_simp) ?_
      dsimp only [List.set_cons_succ, List.set_cons_zero]
      refine Rd.seq_floatL (.bool false) (by simp only [List.getElem?_toArray, List.getElem?_cons_succ, List.getElem?_cons_zero]; rfl) (by rfl) rfl (by rfl) (fun X _ => by go_simp) ?_
      dsimp only [List.set_cons_succ, List.set_cons_zero]
      refine Rd.seq_floatL (.bool false) (by simp only [List.getElem?_toArray, List.getElem?_cons_succ, List.getElem?_cons_zero]; rfl) (by rfl) rfl (by rfl) (fun X _ => by go_simp) ?_
      dsimp only [List.set_cons_succ, List.set_cons_zero]
      refine Rd.seq_floatL (.pointer (some ⟨w10.heap.size, 6, none⟩)) (by simp only [List.getElem?_toArray, List.getElem?_cons_succ, List.getElem?_cons_zero]; rfl) (by rfl) rfl (by rfl) (fun X _ => by go_simp) ?_
      dsimp only [List.set_cons_succ, List.set_cons_zero]
      refine Rd.seq_floatL (.int .i64 g.aw) (by simp only [List.getElem?_toArray, List.getElem?_cons_succ, List.getElem?_cons_zero]; rfl) (by rfl) rfl (by rfl) (fun X hX => by have q := cU6 (HC8.out X hX).1; go_simp) ?_
      dsimp only [List.set_cons_succ, List.set_cons_zero]
      refine Rd.seq_floatL (.pointer (some ⟨wr.heap.size, 4, none⟩)) (by simp only [List.getElem?_toArray, List.getElem?_cons_succ, List.getElem?_cons_zero]; rfl) (by rfl) rfl (by rfl) (fun X _ => by go_simp) ?_
      dsimp only [List.set_cons_succ, List.set_cons_zero]
      refine Rd.seq_floatL (.int .i64 g.aw) (by simp only [List.getElem?_toArray, List.getElem?_cons_succ, List.getElem?_cons_zero]; rfl) (by rfl) rfl (by rfl) (fun X hX => by have q := cE4 (HC8.out X hX).2; go_simp) ?_
      dsimp only [List.set_cons_succ, List.set_cons_zero]
      refine Rd.seq_floatL (.bool false) (by simp only [List.getElem?_toArray, List.getElem?_cons_succ, List.getElem?_cons_zero]; rfl) (by rfl) rfl (by rfl) (fun X _ => by go_simp) ?_
      dsimp only [List.set_cons_succ, List.set_cons_zero]
      refine Rd.seq_floatL (.bool false) (by simp only [List.getElem?_toArray, List.getElem?_cons_succ, List.getElem?_cons_zero]; rfl) (by rfl) rfl (by rfl) (fun X _ => by go_simp) ?_
      dsimp only [List.set_cons_succ, List.set_cons_zero]
      refine Rd.seq_floatL (.bool false) (by simp only [List.getElem?_toArray, List.getElem?_cons_succ, List.getElem?_cons_zero]; rfl) (by rfl) rfl (by rfl) (fun X _ => by go_simp) ?_
      dsimp only [List.set_cons_succ, List.set_cons_zero]
      refine Rd.seq_floatL (.pointer (some ⟨w10.heap.size, 3, none⟩)) (by simp only [List.getElem?_toArray, List.getElem?_cons_succ, List.getElem?_cons_zero]; rfl) (by rfl) rfl (by rfl) (fun X _ => by go_simp) ?_
      dsimp only [List.set_cons_succ, List.set_cons_zero]
      refine Rd.seq_floatL (.int .i64 (dep L g.id)) (by simp only [List.getElem?_toArray, List.getElem?_cons_succ, List.getElem?_cons_zero]; rfl) (by rfl) rfl (by rfl) (fun X hX => by have q := cU3 (HC8.out X hX).1; go_simp) ?_
      dsimp only [List.set_cons_succ, List.set_cons_zero]
      refine Rd.seq_floatL (.agg #[.int .i64 (R : Int), .int .i64 m, .slice (some ⟨b, 0, none⟩) L.length c]) (by simp only [List.getElem?_toArray, List.getElem?_cons_succ, List.getElem?_cons_zero]; rfl) (by rfl) rfl (by rfl) (fun X hX => run_load30 rfl rfl (HXB.out X (hbs.trans (hX.mono hbs.size)))) ?_
      dsimp only [List.set_cons_succ, List.set_cons_zero]
      refine Rd.seq_floatL (.pointer (some ⟨wr.heap.size, 0, none⟩)) (by simp only [List.getElem?_toArray, List.getElem?_cons_succ, List.getElem?_cons_zero]; rfl) (by rfl) rfl (by rfl) (fun X _ => by go_simp) ?_
      dsimp only [List.set_cons_succ, List.set_cons_zero]
      refine Rd.seq_floatL (.int .i64 g.id) (by simp only [List.getElem?_toArray, List.getElem?_cons_succ, List.getElem?_cons_zero]; rfl) (by rfl) rfl (by rfl) (fun X hX => by have q := cE0 (HC8.out X hX).2; go_simp) ?_
      dsimp only [List.set_cons_succ, List.set_cons_zero]
      refine Rd.seq_move (by simp only [List.getElem?_toArray, List.getElem?_cons_succ, List.getElem?_cons_zero]; rfl) rfl (by rfl) (fun K hK => ?_)
      go_simp
      refine (HDep.out _ (hbs.trans (hq.mono hbs.size))).mono ?_
      rintro e w13 ⟨rfl, hb13⟩
      have hq13 := Below.stay hq hb13
      refine hK _ _ (fun _ => hq13) ?_
      clear hK K
      refine Rd.seq_floatL (.bool false) (by simp only [List.getElem?_toArray, List.getElem?_cons_succ, List.getElem?_cons_zero]; rfl) (by rfl) rfl (by rfl) (fun X _ => by go_simp) ?_
      dsimp only [List.set_cons_succ, List.set_cons_zero]
      refine Rd.seq_floatL (.bool false) (by simp only [List.getElem?_toArray, List.getElem?_cons_succ, List.getElem?_cons_zero]; rfl) (by rfl) rfl (by rfl) (fun X _ => by go_simp) ?_
      dsimp only [List.set_cons_succ, List.set_cons_zero]
      refine Rd.seq_floatL (.bool false) (by simp only [List.getElem?_toArray, List.getElem?_cons_succ, List.getElem?_cons_zero]; rfl) (by rfl) rfl (by rfl) (fun X _ => by go_simp) ?_
      dsimp only [List.set_cons_succ, List.set_cons_zero]
      refine Rd.seq_floatL (.pointer (some ⟨w10.heap.size, 4, none⟩)) (by simp only [List.getElem?_toArray, List.getElem?_cons_succ, List.getElem?_cons_zero]; rfl) (by rfl) rfl (by rfl) (fun X _ => by go_simp) ?_
      dsimp only [List.set_cons_succ, List.set_cons_zero]
      refine Rd.seq_floatL (.int .i64 (topI L g.id)) (by simp only [List.getElem?_toArray, List.getElem?_cons_succ, List.getElem?_cons_zero]; rfl) (by rfl) rfl (by rfl) (fun X hX => by have q := cU4 (HC8.out X hX).1; go_simp) ?_
      dsimp only [List.set_cons_succ, List.set_cons_zero]
      refine Rd.seq_floatL (.agg #[.int .i64 (R : Int), .int .i64 m, .slice (some ⟨b, 0, none⟩) L.length c]) (by simp only [List.getElem?_toArray, List.getElem?_cons_succ, List.getElem?_cons_zero]; rfl) (by rfl) rfl (by rfl) (fun X hX => run_load30 rfl rfl (HXB.out X (hbs.trans (hX.mono hbs.size)))) ?_
      dsimp only [List.set_cons_succ, List.set_cons_zero]
      refine Rd.seq_floatL (.pointer (some ⟨wr.heap.size, 0, none⟩)) (by simp only [List.getElem?_toArray, List.getElem?_cons_succ, List.getElem?_cons_zero]; rfl) (by rfl) rfl (by rfl) (fun X _ => by go_simp) ?_
      dsimp only [List.set_cons_succ, List.set_cons_zero]
      refine Rd.seq_floatL (.int .i64 g.id) (by simp only [List.getElem?_toArray, List.getElem?_cons_succ, List.getElem?_cons_zero]; rfl) (by rfl) rfl (by rfl) (fun X hX => by have q := cE0 (HC8.out X hX).2; go_simp) ?_
      dsimp only [List.set_cons_succ, List.set_cons_zero]
      refine Rd.seq_move (by simp only [List.getElem?_toArray, List.getElem?_cons_succ, List.getElem?_cons_zero]; rfl) rfl (by rfl) (fun K hK => ?_)
      go_simp
      refine (HTop.out _ (hbs.trans (hq13.mono hbs.size))).mono ?_
      rintro e w14 ⟨rfl, hb14⟩
      have hq14 := Below.stay hq13 hb14
      refine hK _ _ (fun _ => hq14) ?_
      clear hK K
      refine Rd.seq_floatL (.bool false) (by simp only [List.getElem?_toArray, List.getElem?_cons_succ, List.getElem?_cons_zero]; rfl) (by rfl) rfl (by rfl) (fun X _ => by go_simp) ?_
      dsimp only [List.set_cons_succ, List.set_cons_zero]
      refine Rd.seq_floatL (.bool false) (by simp only [List.getElem?_toArray, List.getElem?_cons_succ, List.getElem?_cons_zero]; rfl) (by rfl) rfl (by rfl) (fun X _ => by go_simp) ?_
      dsimp only [List.set_cons_succ, List.set_cons_zero]
      refine Rd.seq_end ?_
      go_wp2_with fail
      have hq2 : Below w12.heap.size w12 w14.drew := Below.drewS hq14
      refine Rd.region (fun X => Below w12.heap.size w12 X) 21 [0, 1, 2, 4, 5, 6, 9, 10, 11, 12, 13, 15, 16, 17, 19, 20] [0, 1, 2, 4, 5, 6, 3, 7, 8, 9, 10, 11, 12, 13, 15, 16, 17, 14, 18, 19, 20] (by kernel_rfl) (by kernel_rfl) (by kernel_rfl) (by kernel_rfl) rfl hq2 ?_
      refine Rd.seq_floatL (.pointer (some ⟨fp, 0, none⟩)) (by simp only [List.getElem?_toArray, List.getElem?_cons_zero]; rfl) (by rfl) rfl (by rfl) (fun X _ => by go_simp) ?_
      dsimp only [List.set_cons_succ, List.set_cons_zero]
      refine Rd.seq_floatL (.pointer (some ⟨wr.heap.size, 0, none⟩)) (by simp only [List.getElem?_toArray, List.getElem?_cons_succ, List.getElem?_cons_zero]; rfl) (by rfl) rfl (by rfl) (fun X _ => by go_simp) ?_
      dsimp only [List.set_cons_succ, List.set_cons_zero]
      refine Rd.seq_floatL (.int .i64 g.id) (by simp only [List.getElem?_toArray, List.getElem?_cons_succ, List.getElem?_cons_zero]; rfl) (by rfl) rfl (by rfl) (fun X hX => by have q := cE0 (HC8.out X hX).2; go_simp) ?_
      dsimp only [List.set_cons_succ, List.set_cons_zero]
      refine Rd.seq_floatL (.agg #[.int .i64 (R : Int), .int .i64 m, .slice (some ⟨b, 0, none⟩) L.length c]) (by simp only [List.getElem?_toArray, List.getElem?_cons_succ, List.getElem?_cons_zero]; rfl) (by rfl) rfl (by rfl) (fun X hX => run_load30 rfl rfl (HXB.out X (hbs.trans (hX.mono hbs.size)))) ?_
      dsimp only [List.set_cons_succ, List.set_cons_zero]
      refine Rd.seq_floatL (.pointer (some ⟨wr.heap.size, 0, none⟩)) (by simp only [List.getElem?_toArray, List.getElem?_cons_succ, List.getElem?_cons_zero]; rfl) (by rfl) rfl (by rfl) (fun X _ => by go_simp) ?_
      dsimp only [List.set_cons_succ, List.set_cons_zero]
      refine Rd.seq_floatL (.int .i64 g.id) (by simp only [List.getElem?_toArray, List.getElem?_cons_succ, List.getElem?_cons_zero]; rfl) (by rfl) rfl (by rfl) (fun X hX => by have q := cE0 (HC8.out X hX).2; go_simp) ?_
      dsimp only [List.set_cons_succ, List.set_cons_zero]
      refine Rd.seq_move (by simp only [List.getElem?_toArray, List.getElem?_cons_succ, List.getElem?_cons_zero]; rfl) rfl (by rfl) (fun K hK => ?_)
      go_simp
      refine (HKid.out _ (hbs.trans (hq2.mono hbs.size))).mono ?_
      rintro e w15 ⟨⟨a15, c15, rfl, hr15⟩, hb15⟩
      have hq15 := Below.stay hq2 hb15
      refine hK _ _ (fun _ => hq15) ?_
      clear hK K
      refine Rd.seq_move (by simp only [List.getElem?_toArray, List.getElem?_cons_succ, List.getElem?_cons_zero]; rfl) rfl (by rfl) (fun K hK => ?_)
      go_simp
      refine (HRKid.out _ (hbs.trans (hq15.mono hbs.size))).mono ?_
      rintro e w16 ⟨⟨a16, c16, rfl, hr16⟩, hb16⟩
      have hq16 := Below.stay hq15 hb16
      refine hK _ _ (fun _ => hq16) ?_
      clear hK K
      refine Rd.seq_move (by simp only [List.getElem?_toArray, List.getElem?_cons_succ, List.getElem?_cons_zero]; rfl) rfl (by rfl) (fun K hK => ?_)
      go_simp
      refine (Ints_same _ _ _ _ (hr15.below hb16).src hr16.src hkl64).mono ?_
      rintro e w17 ⟨rfl, hb17⟩
      have hq17 := Below.stay hq16 hb17
      refine hK _ _ (fun _ => hq17) ?_
      clear hK K
      refine Rd.seq_floatL (.bool false) (by simp only [List.getElem?_toArray, List.getElem?_cons_succ, List.getElem?_cons_zero]; rfl) (by rfl) rfl (by rfl) (fun X _ => by go_simp) ?_
      dsimp only [List.set_cons_succ, List.set_cons_zero]
      refine Rd.seq_floatL (.bool false) (by simp only [List.getElem?_toArray, List.getElem?_cons_succ, List.getElem?_cons_zero]; rfl) (by rfl) rfl (by rfl) (fun X _ => by go_simp) ?_
      dsimp only [List.set_cons_succ, List.set_cons_zero]
      refine Rd.seq_floatL (.pointer (some ⟨fp, 0, none⟩)) (by simp only [List.getElem?_toArray, List.getElem?_cons_succ, List.getElem?_cons_zero]; rfl) (by rfl) rfl (by rfl) (fun X _ => by go_simp) ?_
      dsimp only [List.set_cons_succ, List.set_cons_zero]
      refine Rd.seq_floatL (.pointer (some ⟨wr.heap.size, 0, none⟩)) (by simp only [List.getElem?_toArray, List.getElem?_cons_succ, List.getElem?_cons_zero]; rfl) (by rfl) rfl (by rfl) (fun X _ => by go_simp) ?_
      dsimp only [List.set_cons_succ, List.set_cons_zero]
      refine Rd.seq_floatL (.int .i64 g.id) (by simp only [List.getElem?_toArray, List.getElem?_cons_succ, List.getElem?_cons_zero]; rfl) (by rfl) rfl (by rfl) (fun X hX => by have q := cE0 (HC8.out X hX).2; go_simp) ?_
      dsimp only [List.set_cons_succ, List.set_cons_zero]
      refine Rd.seq_floatL (.agg #[.int .i64 (R : Int), .int .i64 m, .slice (some ⟨b, 0, none⟩) L.length c]) (by simp only [List.getElem?_toArray, List.getElem?_cons_succ, List.getElem?_cons_zero]; rfl) (by rfl) rfl (by rfl) (fun X hX => run_load30 rfl rfl (HXB.out X (hbs.trans (hX.mono hbs.size)))) ?_
      dsimp only [List.set_cons_succ, List.set_cons_zero]
      refine Rd.seq_floatL (.pointer (some ⟨wr.heap.size, 0, none⟩)) (by simp only [List.getElem?_toArray, List.getElem?_cons_succ, List.getElem?_cons_zero]; rfl) (by rfl) rfl (by rfl) (fun X _ => by go_simp) ?_
      dsimp only [List.set_cons_succ, List.set_cons_zero]
      refine Rd.seq_floatL (.int .i64 g.id) (by simp only [List.getElem?_toArray, List.getElem?_cons_succ, List.getElem?_cons_zero]; rfl) (by rfl) rfl (by rfl) (fun X hX => by have q := cE0 (HC8.out X hX).2; go_simp) ?_
      dsimp only [List.set_cons_succ, List.set_cons_zero]
      refine Rd.seq_move (by simp only [List.getElem?_toArray, List.getElem?_cons_succ, List.getElem?_cons_zero]; rfl) rfl (by rfl) (fun K hK => ?_)
      go_simp
      refine (HAct.out _ (hbs.trans (hq17.mono hbs.size))).mono ?_
      rintro e w18 ⟨rfl, hb18⟩
      have hq18 := Below.stay hq17 hb18
      refine hK _ _ (fun _ => hq18) ?_
      clear hK K
      refine Rd.seq_move (by simp only [List.getElem?_toArray, List.getElem?_cons_succ, List.getElem?_cons_zero]; rfl) rfl (by rfl) (fun K hK => ?_)
      go_simp
      refine (HRAct.out _ (hbs.trans (hq18.mono hbs.size))).mono ?_
      rintro e w19 ⟨rfl, hb19⟩
      have hq19 := Below.stay hq18 hb19
      refine hK _ _ (fun _ => hq19) ?_
      clear hK K
      refine Rd.seq_floatL (.bool false) (by simp only [List.getElem?_toArray, List.getElem?_cons_succ, List.getElem?_cons_zero]; rfl) (by rfl) rfl (by rfl) (fun X _ => by go_simp) ?_
      dsimp only [List.set_cons_succ, List.set_cons_zero]
      refine Rd.seq_floatL (.bool false) (by simp only [List.getElem?_toArray, List.getElem?_cons_succ, List.getElem?_cons_zero]; rfl) (by rfl) rfl (by rfl) (fun X _ => by go_simp) ?_
      dsimp only [List.set_cons_succ, List.set_cons_zero]
      refine Rd.seq_end ?_
      go_wp2_with fail
      obtain ⟨av, cv, rfl⟩ := hro12.sl
      exact ⟨⟨kk + 1, av, cv, by omega, by go_num, by rw [HIds.out], by rw [HIds.out]; exact hro12.below hq19, hbs.trans (hq19.mono hbs.size)⟩, by simp [intOf]; omega⟩
    · obtain rfl : kk = L.length := by omega
      rw [List.take_length] at *
      have hX := HXB.out wr hb
      have h1r := cF1 hX
      clear hX
      have HIN : Hid (∀ X, Below wr.heap.size wr X → Below w1.heap.size w1 X) := Lib.hid fun X hX => hb.trans (hX.mono hb.size)
      have HROW : Hid (∀ X, Below wr.heap.size wr X → RowO X w1.heap.size (.slice a' (idsG L).length c') (idsG L)) := Lib.hid fun X hX => hro.below hX
      have HBZ : Hid (∀ X, Below wr.heap.size wr X → Below w.heap.size w X) := Lib.hid fun X hX => hb1.trans ((hb.trans (hX.mono hb.size)).mono hs1)
      have hil : (idsG L).length ≤ 64 := by unfold idsG; rw [List.length_map]; exact n64
      clear hro hb hb1 h1 h2
      go_wp2_with fail
      have q44 := neq44
      have y0 : (cellsU 0 0 0 0 0 0 0)[0]? = some (.int .i64 0) := rfl
      have y1 : (cellsU 0 0 0 0 0 0 0)[1]? = some (.int .i64 0) := rfl
      have y2 : (cellsU 0 0 0 0 0 0 0)[2]? = some (.int .i64 0) := rfl
      have y3 : (cellsU 0 0 0 0 0 0 0)[3]? = some (.int .i64 0) := rfl
      have y4 : (cellsU 0 0 0 0 0 0 0)[4]? = some (.int .i64 0) := rfl
      have y5 : (cellsU 0 0 0 0 0 0 0)[5]? = some (.int .i64 0) := rfl
      have y6 : (cellsU 0 0 0 0 0 0 0)[6]? = some (.int .i64 0) := rfl
      go_loopw [116] (fun i wz => ∃ kz : Nat, kz ≤ 3 ∧ i = .int .i64 kz ∧ Below wr.heap.size wr wz) (fun i _ => 3 - (intOf i).toNat)
      case atStart => exact ⟨0, by omega, rfl, Below.refl _ _⟩
      case round =>
        obtain ⟨kz, hkz, rfl, hbz⟩ := hrel
        rcases (by omega : kz = 0 ∨ kz = 1 ∨ kz = 2 ∨ kz = 3) with rfl | rfl | rfl | rfl
        · have hno : has L 0 = false := OK.out.low (by omega)
          have hI : I64 0 := by unfold I64; omega
          have HG := Lib.hid (Group_no fp B L l m k 0 wr (HFX.out _ (HIN.out _ hbz)) hI hno)
          have HKO := Lib.hid (kids_out OK.out hno (by omega))
          have HAO := Lib.hid (act_out OK.out hno)
          have HBO := Lib.hid (below_no hno 0)
          clear hno
          go_wp2_with (first | (refine wpList_index74 rfl _ _ rfl #[.int .i64 0, .int .i64 (-1), .int .i64 (m + 1)] 0 0 rfl rfl (fun _ => by kernel_rfl) ?_) | (go_at_call 16; refine HG.out.mono ?_; rintro e wg ⟨rfl, hbg'⟩; have hbg := Below.stay hbz hbg'; have hZu := Blk.new wg 44 #[.int .i64 0, .int .i64 0, .int .i64 0, .int .i64 0, .int .i64 0, .int .i64 0, .int .i64 0]; have hbu := Below.allocS hbg (.cells #[.int .i64 0, .int .i64 0, .int .i64 0, .int .i64 0, .int .i64 0, .int .i64 0, .int .i64 0] 44); have hsu := hbg.size) | (refine wpList_alloc44 rfl rfl ?_; generalize wg.alloc (.cells #[.int .i64 0, .int .i64 0, .int .i64 0, .int .i64 0, .int .i64 0, .int .i64 0, .int .i64 0] 44) = wu at *) | (refine wpList_store44 rfl _ _ rfl wg.heap.size 0 0 0 0 0 0 0 rfl rfl hZu rfl ?_; intro ws hZs ts; have hbs := hbu.trans (ts.below hsu); have z0 := cU0 hZs; have z1 := cU1 hZs; have z2 := cU2 hZs; have z3 := cU3 hZs; have z4 := cU4 hZs; have z5 := cU5 hZs; have z6 := cU6 hZs) | (refine wpList_want rfl ?_; intro K hK; refine wp_load44 _ rfl wg.heap.size 0 0 0 0 0 0 0 rfl hZs ?_; refine hK _ _ ?_; clear hK K) | (go_at_call 19; refine (Children_any fp B L l m k 0 _ (HFX.out _ (HIN.out _ hbs)) (by omega)).mono ?_; rw [HKO.out]; rintro e wk ⟨⟨ak, ck, rfl, hrk⟩, hbk'⟩; have hbk := Below.stay hbs hbk') | (go_at_call 21; refine (Active_any fp B L l m k 0 _ (HFX.out _ (HIN.out _ hbk))).mono ?_; rw [HAO.out]; rintro e wa ⟨rfl, hba'⟩; have hba := Below.stay hbk hba') | (go_at_call 17; refine (Below_any fp B L l m k 0 0 _ (HFX.out _ (HIN.out _ hba)) hI).mono ?_; rw [HBO.out]; rintro e wb ⟨rfl, hbb'⟩; have hbb := Below.stay hba hbb'))
          exact ⟨⟨0 + 1, by omega, rfl, hbb⟩, by decide⟩
        · have hno : has L (-1) = false := OK.out.low (by omega)
          have hI : I64 (-1) := by unfold I64; omega
          have HG := Lib.hid (Group_no fp B L l m k (-1) wr (HFX.out _ (HIN.out _ hbz)) hI hno)
          skip
          have HAO := Lib.hid (act_out OK.out hno)
          have HBO := Lib.hid (below_no hno (-1))
          clear hno
          go_wp2_with (first | (refine wpList_index74 rfl _ _ rfl #[.int .i64 0, .int .i64 (-1), .int .i64 (m + 1)] 1 (-1) rfl rfl (fun _ => by kernel_rfl) ?_) | (go_at_call 16; refine HG.out.mono ?_; rintro e wg ⟨rfl, hbg'⟩; have hbg := Below.stay hbz hbg'; have hZu := Blk.new wg 44 #[.int .i64 0, .int .i64 0, .int .i64 0, .int .i64 0, .int .i64 0, .int .i64 0, .int .i64 0]; have hbu := Below.allocS hbg (.cells #[.int .i64 0, .int .i64 0, .int .i64 0, .int .i64 0, .int .i64 0, .int .i64 0, .int .i64 0] 44); have hsu := hbg.size) | (refine wpList_alloc44 rfl rfl ?_; generalize wg.alloc (.cells #[.int .i64 0, .int .i64 0, .int .i64 0, .int .i64 0, .int .i64 0, .int .i64 0, .int .i64 0] 44) = wu at *) | (refine wpList_store44 rfl _ _ rfl wg.heap.size 0 0 0 0 0 0 0 rfl rfl hZu rfl ?_; intro ws hZs ts; have hbs := hbu.trans (ts.below hsu); have z0 := cU0 hZs; have z1 := cU1 hZs; have z2 := cU2 hZs; have z3 := cU3 hZs; have z4 := cU4 hZs; have z5 := cU5 hZs; have z6 := cU6 hZs) | (refine wpList_want rfl ?_; intro K hK; refine wp_load44 _ rfl wg.heap.size 0 0 0 0 0 0 0 rfl hZs ?_; refine hK _ _ ?_; clear hK K) | (go_at_call 19; refine (Children_none fp _).mono ?_; rintro e wk ⟨rfl, rfl⟩) | (go_at_call 21; refine (Active_any fp B L l m k (-1) _ (HFX.out _ (HIN.out _ hbs))).mono ?_; rw [HAO.out]; rintro e wa ⟨rfl, hba'⟩; have hba := Below.stay hbs hba') | (go_at_call 17; refine (Below_any fp B L l m k (-1) (-1) _ (HFX.out _ (HIN.out _ hba)) hI).mono ?_; rw [HBO.out]; rintro e wb ⟨rfl, hbb'⟩; have hbb := Below.stay hba hbb'))
          exact ⟨⟨1 + 1, by omega, rfl, hbb⟩, by decide⟩
        · have hno : has L (m + 1) = false := OK.out.high (by omega)
          have hI : I64 (m + 1) := by unfold I64; omega
          have HG := Lib.hid (Group_no fp B L l m k (m + 1) wr (HFX.out _ (HIN.out _ hbz)) hI hno)
          have HKO := Lib.hid (kids_out OK.out hno (by omega))
          have HAO := Lib.hid (act_out OK.out hno)
          have HBO := Lib.hid (below_no hno (m + 1))
          clear hno
          go_wp2_with (first | (refine wpList_index74 rfl _ _ rfl #[.int .i64 0, .int .i64 (-1), .int .i64 (m + 1)] 2 (m + 1) rfl rfl (fun _ => by kernel_rfl) ?_) | (go_at_call 16; refine HG.out.mono ?_; rintro e wg ⟨rfl, hbg'⟩; have hbg := Below.stay hbz hbg'; have hZu := Blk.new wg 44 #[.int .i64 0, .int .i64 0, .int .i64 0, .int .i64 0, .int .i64 0, .int .i64 0, .int .i64 0]; have hbu := Below.allocS hbg (.cells #[.int .i64 0, .int .i64 0, .int .i64 0, .int .i64 0, .int .i64 0, .int .i64 0, .int .i64 0] 44); have hsu := hbg.size) | (refine wpList_alloc44 rfl rfl ?_; generalize wg.alloc (.cells #[.int .i64 0, .int .i64 0, .int .i64 0, .int .i64 0, .int .i64 0, .int .i64 0, .int .i64 0] 44) = wu at *) | (refine wpList_store44 rfl _ _ rfl wg.heap.size 0 0 0 0 0 0 0 rfl rfl hZu rfl ?_; intro ws hZs ts; have hbs := hbu.trans (ts.below hsu); have z0 := cU0 hZs; have z1 := cU1 hZs; have z2 := cU2 hZs; have z3 := cU3 hZs; have z4 := cU4 hZs; have z5 := cU5 hZs; have z6 := cU6 hZs) | (refine wpList_want rfl ?_; intro K hK; refine wp_load44 _ rfl wg.heap.size 0 0 0 0 0 0 0 rfl hZs ?_; refine hK _ _ ?_; clear hK K) | (go_at_call 19; refine (Children_any fp B L l m k (m + 1) _ (HFX.out _ (HIN.out _ hbs)) (by omega)).mono ?_; rw [HKO.out]; rintro e wk ⟨⟨ak, ck, rfl, hrk⟩, hbk'⟩; have hbk := Below.stay hbs hbk') | (go_at_call 21; refine (Active_any fp B L l m k (m + 1) _ (HFX.out _ (HIN.out _ hbk))).mono ?_; rw [HAO.out]; rintro e wa ⟨rfl, hba'⟩; have hba := Below.stay hbk hba') | (go_at_call 17; refine (Below_any fp B L l m k (m + 1) (m + 1) _ (HFX.out _ (HIN.out _ hba)) hI).mono ?_; rw [HBO.out]; rintro e wb ⟨rfl, hbb'⟩; have hbb := Below.stay hba hbb'))
          exact ⟨⟨2 + 1, by omega, rfl, hbb⟩, by decide⟩
        · have HI := Lib.hid (IdsF_any fp B L l m k wr (HFX.out _ (HIN.out _ hbz)))
          go_wp2_with (first | (go_at_call 20; refine HI.out.mono ?_; rintro e wi ⟨⟨ai, ci, rfl, hri⟩, hbi'⟩; have hbi := Below.stay hbz hbi') | (go_at_call 36; refine (Ints_same _ _ (idsG L) _ hri.src (HROW.out _ hbi).src hil).mono ?_; rintro e wj ⟨rfl, hbj'⟩; have hbj := Below.stay hbi hbj'))
          go_ret
          exact ⟨rfl, HBZ.out _ hbj⟩
end
end Go.Proofs.Ythndfhkkaichiaa
