/-
  TopoNews: of any sets there is a topology, or it is told why there is none; all its cores are on. Conditions: the numbers are of 64 bits, and lie in memory that there may be.
-/
import Derived.Test.YtbeklkgoiigccaaTt
namespace Go.Proofs.Ytbeklkgoiigccaa
open Go.RowKit

theorem tarr_ints (m : Int) (f : Nat → Int) (g : Nat → Bool) {i : Nat} (h : i < 64) : ((tarr m f g).extract 1 65)[i]? = some (.int .i64 (f i)) := by
  have e := tarr_get1 m f g h
  rw [Array.getElem?_eq_getElem (by rw [tarr_size]; omega)] at e
  rw [Array.getElem?_extract_of_lt (by rw [tarr_size]; omega)]
  exact e
theorem tarr_bools (m : Int) (f : Nat → Int) (g : Nat → Bool) : (tarr m f g).extract 65 129 = arrB g := by
  apply Array.ext
  · simp [tarr_size, arrB_size]
  · intro i h1 h2
    have hi : i < 64 := by simpa [arrB_size] using h2
    have e1 : ((tarr m f g).extract 65 129)[i]? = some (.bool (g i)) := by
      have e := tarr_get2 m f g hi
      rw [Array.getElem?_eq_getElem (by rw [tarr_size]; omega)] at e
      rw [Array.getElem?_extract_of_lt (by rw [tarr_size]; omega)]
      exact e
    have e2 := arrB_get g hi
    rw [Array.getElem?_eq_getElem h1] at e1
    rw [Array.getElem?_eq_getElem h2] at e2
    exact Option.some.inj (e1.trans e2.symm)
theorem run_partI (xs : Array Value) (f : Nat → Int) (h : ∀ i, i < 64 → xs[i]? = some (.int .i64 (f i))) {i : Nat} (hi : i < 64) (w : World) : (part 3 xs i).run Try.prog w = .ok (.int .i64 (f i)) w := by
  have hs : (isAgg 3).run Try.prog w = .ok false w := by kernel_rfl
  unfold part
  simp only [Sem.run_bind, hs, Result.andThen_ok, Bool.false_eq_true, if_false, h i hi, Sem.run_pure]
theorem run_intLoop (d : Nat) (xs : Array Value) (f : Nat → Int) (hx : ∀ i, i < 64 → xs[i]? = some (.int .i64 (f i))) (w : World) : ∀ (l : List Nat), (∀ i ∈ l, i < 64) →
    Sem.run Try.prog (forIn l ((none, ()) : Option Bool × Unit) fun i (_ : Option Bool × Unit) => do
            let x ← part 3 xs i
            let y ← part 3 xs i
            let b ← Op.equalIn (d + 1) 3 x y
            if (!b) = true then pure (ForInStep.done (some false, ())) else pure (ForInStep.yield (none, ()))) w = .ok (none, ()) w
  | [], _ => by simp
  | i :: l, h => by
    have hi := h i (by simp)
    have ih := run_intLoop d xs f hx w l (fun j hj => h j (by simp [hj]))
    have hb : (f i == f i) = true := beq_self_eq_true _
    simp only [List.forIn_cons, Sem.run_bind, run_partI xs f hx hi, Result.andThen_ok, run_equalIn_int w d 3 .i64 .i64 (f i) (f i) Try.underlying3]
    rw [if_neg (by rw [hb]; decide)]
    simp only [Sem.run_pure, Result.andThen_ok]
    exact ih
theorem run_equalIn25 (d : Nat) (xs : Array Value) (f : Nat → Int) (hx : ∀ i, i < 64 → xs[i]? = some (.int .i64 (f i))) (w : World) : (Op.equalIn (d + 2) 25 (.agg xs) (.agg xs)).run Try.prog w = .ok true w := by
  have hs : (sizeOf 3).run Try.prog w = .ok 1 w := by kernel_rfl
  unfold Op.equalIn
  simp only [Sem.run_bind, run_underlying Try.underlying25, Result.andThen_ok, hs, Nat.mul_one]
  rw [Std.Legacy.Range.forIn_eq_forIn_range']
  have h := run_intLoop d xs f hx w (List.range 64) (fun i hi => by simpa using hi)
  have e : List.range' [:64].start [:64].size [:64].step = List.range 64 := by decide
  rw [e, h, Result.andThen_ok]
  rfl
def fieldsB (fs : List Field) : Bool := match fs with
  | [n0, n1, n2] => (n0.name != "_" && n0.type == 3 && n0.offset == 0) && (n1.name != "_" && n1.type == 25 && n1.offset == 1) && (n2.name != "_" && n2.type == 27 && n2.offset == 65)
  | _ => false
theorem fields29 : ∃ n0 n1 n2 : Field, (Try.prog.fieldsOf 29).toList = [n0, n1, n2] ∧ (n0.name ≠ "_" ∧ n0.type = 3 ∧ n0.offset = 0) ∧ (n1.name ≠ "_" ∧ n1.type = 25 ∧ n1.offset = 1) ∧ (n2.name ≠ "_" ∧ n2.type = 27 ∧ n2.offset = 65) := by
  have h : fieldsB (Try.prog.fieldsOf 29).toList = true := by kernel_rfl
  revert h
  generalize (Try.prog.fieldsOf 29).toList = fs
  intro h
  match fs, h with
  | [n0, n1, n2], h =>
    simp only [fieldsB, Bool.and_eq_true, bne_iff_ne, beq_iff_eq] at h
    exact ⟨n0, n1, n2, rfl, ⟨h.1.1.1.1, h.1.1.1.2, h.1.1.2⟩, ⟨h.1.2.1.1, h.1.2.1.2, h.1.2.2⟩, ⟨h.2.1.1, h.2.1.2, h.2.2⟩⟩
theorem eqFields29 (D : Nat) (xs : Array Value) (w : World) (x0 x1 x2 : Value) (n0 n1 n2 : Field) (a : n0.name ≠ "_" ∧ n0.type = 3 ∧ n0.offset = 0) (b : n1.name ≠ "_" ∧ n1.type = 25 ∧ n1.offset = 1) (c : n2.name ≠ "_" ∧ n2.type = 27 ∧ n2.offset = 65)
    (p0 : (part 3 xs 0).run Try.prog w = .ok x0 w) (p1 : (part 25 xs 1).run Try.prog w = .ok x1 w) (p2 : (part 27 xs 65).run Try.prog w = .ok x2 w)
    (q0 : (Op.equalIn D 3 x0 x0).run Try.prog w = .ok true w) (q1 : (Op.equalIn D 25 x1 x1).run Try.prog w = .ok true w) (q2 : (Op.equalIn D 27 x2 x2).run Try.prog w = .ok true w) :
    ((Op.eqFields D xs xs [n0, n1, n2]).run Try.prog w).andThen (fun b w' => .ok (Value.bool b) w') = .ok (.bool true) w := by
  have fin : (Op.eqFields D xs xs []).run Try.prog w = .ok true w := rfl
  have st2 : (Op.eqFields D xs xs [n2]).run Try.prog w = .ok true w := by
    rw [Op.eqFields, if_pos c.1, c.2.1, c.2.2]
    simp only [Sem.run_bind, p2, q2, Result.andThen_ok, Bool.not_true, Bool.false_eq_true, if_false, fin]
  have st1 : (Op.eqFields D xs xs [n1, n2]).run Try.prog w = .ok true w := by
    rw [Op.eqFields, if_pos b.1, b.2.1, b.2.2]
    simp only [Sem.run_bind, p1, q1, Result.andThen_ok, Bool.not_true, Bool.false_eq_true, if_false, st2]
  rw [Op.eqFields, if_pos a.1, a.2.1, a.2.2]
  simp only [Sem.run_bind, p0, q0, Result.andThen_ok, Bool.not_true, Bool.false_eq_true, if_false, st1]
theorem run_eql29 (m : Int) (f : Nat → Int) (g : Nat → Bool) (w : World) : (binOp .eql 29 (.agg (tarr m f g)) (.agg (tarr m f g))).run Try.prog w = .ok (.bool true) w := by
  obtain ⟨n0, n1, n2, hf, ⟨a0, a1, a2⟩, ⟨b0, b1, b2⟩, c0, c1, c2⟩ := fields29
  have hs3 : (isAgg 3).run Try.prog w = .ok false w := by kernel_rfl
  have hs25 : (isAgg 25).run Try.prog w = .ok true w := by kernel_rfl
  have hs27 : (isAgg 27).run Try.prog w = .ok true w := by kernel_rfl
  have hz25 : (sizeOf 25).run Try.prog w = .ok 64 w := by kernel_rfl
  have hz27 : (sizeOf 27).run Try.prog w = .ok 64 w := by kernel_rfl
  have p0 : (part 3 (tarr m f g) 0).run Try.prog w = .ok (.int .i64 m) w := by
    unfold part
    simp only [Sem.run_bind, hs3, Result.andThen_ok, Bool.false_eq_true, if_false, tarr_get0, Sem.run_pure]
  have p1 : (part 25 (tarr m f g) 1).run Try.prog w = .ok (.agg ((tarr m f g).extract 1 65)) w := by
    unfold part
    simp only [Sem.run_bind, hs25, hz25, Result.andThen_ok, if_true, Sem.run_pure]
  have p2 : (part 27 (tarr m f g) 65).run Try.prog w = .ok (.agg (arrB g)) w := by
    unfold part
    simp only [Sem.run_bind, hs27, hz27, Result.andThen_ok, if_true, Sem.run_pure]
    rw [show 65 + 64 = 129 from rfl, tarr_bools]
  have e27 : (List.range 64).all (fun i => g i == g i) = true := by simp
  have q0 : (Op.equalIn 9999 3 (.int .i64 m) (.int .i64 m)).run Try.prog w = .ok true w := by
    rw [run_equalIn_int w 9998 3 .i64 .i64 m m Try.underlying3, beq_self_eq_true]
  have q1 : (Op.equalIn 9999 25 (.agg ((tarr m f g).extract 1 65)) (.agg ((tarr m f g).extract 1 65))).run Try.prog w = .ok true w := run_equalIn25 9997 _ f (fun i hi => tarr_ints m f g hi) w
  have q2 : (Op.equalIn 9999 27 (.agg (arrB g)) (.agg (arrB g))).run Try.prog w = .ok true w := by
    rw [run_equalIn30 9997 g g w, e27]
  rw [run_eql_struct, run_equalIn_struct w 9999 29 _ _ (by kernel_rfl) (by kernel_rfl), hf]
  exact eqFields29 9999 _ w _ _ _ n0 n1 n2 ⟨a0, a1, a2⟩ ⟨b0, b1, b2⟩ ⟨c0, c1, c2⟩ p0 p1 p2 q0 q1 q2
section
variable {ops : Array Oper} {rest : List Oper} {o : Oper} {a : Act} {w : World} {Q : Exit → Act → World → Prop}
theorem exec_eql29 (x y : Operand) (ty : TypeId) (m : Int) (f : Nat → Int) (g : Nat → Bool) (ho : o.op = .binOp .eql 29 x y ty) (hx : a.eval x = .agg (tarr m f g)) (hy : a.eval y = .agg (tarr m f g)) : (execOp a.eval o).run Try.prog w = .ok (.value (.bool true)) w := by
  have hm : Try.prog.eqGuardType Try.prog.depth 29 = false := by kernel_rfl
  unfold execOp
  rw [ho]
  simp only [hx, hy, Sem.run_bind, run_eqGuard_agg w .eql 29 x y _ _ hm, Result.andThen_ok, run_eql29 m f g w, Sem.run_pure]
theorem wpList_eql29g (hg : Region.wanted o (yielded ops a.tmps) = true) (x y : Operand) (ty : TypeId) (ho : o.op = .binOp .eql 29 x y ty) (m : Int) (f : Nat → Int) (g : Nat → Bool) (hx : a.eval x = .agg (tarr m f g)) (hy : a.eval y = .agg (tarr m f g)) (h : wpList Try.prog ops Q rest (a.put o.dst (.bool true)) w) : wpList Try.prog ops Q (o :: rest) a w :=
  wpList_want hg fun K hK => by
    unfold Oper.wp
    rw [exec_eql29 x y ty m f g ho hx hy]
    exact hK _ _ h
end
set_option maxRecDepth 100000 in
set_option maxHeartbeats 4000000 in
theorem news_any (v : Value) (l : List Nat) (w : World) (h : RowN w v l) (hs : ∀ j, l.getD j 0 < 18446744073709551616) (hr : l.length * 8 ≤ 140737488351232) :
    Calls Try.prog 3 #[v] w fun e w' => e = .returned (.bool true) ∧ Below w.heap.size w w' := by
  obtain ⟨i0, hi, hz0, hz1, hz2⟩ := info_parts Try.info38
  obtain ⟨a, cap, rfl, hcap, h2⟩ := id h
  have HC : Hid (∀ k, k < l.length → ∃ b off, a = some ⟨b, off, none⟩ ∧ b < w.heap.size ∧ w.cell? ⟨b, off + k, none⟩ = some (.int .u64 (l.getD k 0 : Nat))) := Lib.hid (fun k hk => by
    obtain ⟨b, off, e, hb, hc⟩ := h2 (by rintro rfl; simp at hk)
    exact ⟨b, off, e, hb, hc k hk⟩)
  clear h2
  have HO := Lib.hid (fun w h => Open_any (.slice a l.length cap) l w h hs hr)
  have hB := Below.refl w.heap.size w
  by_cases hlen : 20 < l.length
  · have h1 : (20 : Int) < (l.length : Int) := by omega
    clear hlen
    go_enter Try.func3, Try.ntmps3
    go_wp2_with fail
    refine (awake_any _).mono ?_
    rintro e w1 ⟨rfl, hb⟩
    replace hB := hB.trans (hb.mono hB.size)
    clear hb
    go_wp2_with fail
    refine (awake_any _).mono ?_
    rintro e w2 ⟨rfl, hb⟩
    replace hB := hB.trans (hb.mono hB.size)
    clear hb
    go_wp2_with fail
    go_ret
    exact ⟨rfl, hB⟩
  · have h1 : ¬ (20 : Int) < (l.length : Int) := by omega
    go_enter Try.func3, Try.ntmps3
    go_wp2_with fail
    refine (awake_any _).mono ?_
    rintro e w1 ⟨rfl, hb⟩
    replace hB := hB.trans (hb.mono hB.size)
    clear hb
    go_wp2_with fail
    refine (HO.out _ (h.below hB)).mono ?_
    rintro e w2 ⟨h2, hb⟩
    have hs1 := hB.size
    rcases h2 with ⟨hg8, p, g, rfl, hP, hp, hg⟩ | ⟨hbad, rfl⟩
    · replace hB := hB.trans (hb.mono hB.size)
      have hZ : IsT (w2.alloc (.cells tzero 29)) w2.heap.size 0 (fun _ => 0) (fun _ => false) := IsT.new w2 0 (fun _ => 0) (fun _ => false)
      have hpl := hP.ltp
      have hgl := hP.ltg
      replace hB := hB.alloc hB.size (.cells tzero 29)
      replace hP := hP.alloc (.cells tzero 29)
      have OK := Lib.hid (TopoOk.new hg8 hs)
      have HG := Lib.hid hg8
      clear hg8
      generalize hU : uni l = U at *
      have HU := Lib.hid hU
      clear hU
      generalize hb6 : w2.heap.size = b at *
      go_wp2_with (first | (refine wpList_alloc29 rfl rfl ?_; try rw [hb6]) | (refine wpList_store29 rfl _ _ rfl b (l.length : Int) 0 (fun i => ofI l (i : Int)) (fun _ => 0) U.testBit (fun _ => false) rfl rfl hZ ?_; clear hZ; intro w3 h8 t3))
      have hS : St w p g b l w3 U U := ⟨OK.out, hP.turn t3 (by omega) (by omega), h8, hB.trans (t3.below (by omega)), by omega, by omega, by omega, by omega⟩
      clear h8 t3 hP hB hb hpl hgl hp hg hb6 hs1
      refine (Sets_any _ l _ (h.below hS.bel) hs (by omega)).mono ?_
      rintro e w4 ⟨v3, rfl, hown3, hb⟩
      replace hS := hS.below hb
      clear hb
      go_wp2_with fail
      refine (rNew_any _ l _ (RowS.of_owns hown3) hs).mono ?_
      rintro e w5 ⟨h3, hb⟩
      rw [HU.out] at h3
      replace hS := hS.below hb
      clear hb hown3
      rcases h3 with ⟨_, rfl⟩ | ⟨hbad, _⟩
      · have hZ : IsT (w5.alloc (.cells tzero 29)) w5.heap.size 0 (fun _ => 0) (fun _ => false) := IsT.new w5 0 (fun _ => 0) (fun _ => false)
        have hb0 := hS.lt
        replace hS := hS.alloc (.cells tzero 29)
        generalize hb5 : w5.heap.size = b5 at *
        go_wp2_with (first | (refine wpList_alloc29 rfl rfl ?_; try rw [hb5]) | (refine wpList_store29 rfl _ _ rfl b5 (l.length : Int) 0 (fun i => ofI l (i : Int)) (fun _ => 0) U.testBit (fun _ => false) rfl rfl hZ ?_; clear hZ; intro w6 h9 t3; replace hS := hS.turn t3 hb0; clear t3))
        have hB := hS.bel
        have hgo := Below.refl w6.heap.size w6
        have hrw := (h.below hB)
        go_wp2_with fail
        go_loopw [8, 35] (fun v i wr => ∃ (k : Nat) (a : Option Addr) (c : Nat), k ≤ l.length ∧ i = .int .i64 k ∧ v = .slice a k c ∧ wr.ownsRow w6.heap.size 38 1 (.slice a k c) k (encN (l.take k)) ∧ Below w6.heap.size w6 wr) (fun _ i _ => l.length - (intOf i).toNat)
        case atStart => exact ⟨0, none, 0, by omega, rfl, rfl, World.ownsRow_nil _ _ _ _, Below.refl _ w6⟩
        case round =>
          obtain ⟨k, a', c', hk, rfl, rfl, hown, hb⟩ := hrel
          have hbs := hb.size
          by_cases hlt : k < l.length
          · obtain ⟨b0, off, rfl, hbl, hc0⟩ := HC.out k hlt
            have hx := ((hB.trans (hb.mono hB.size)).cell (p := ⟨b0, off + k, none⟩) hbl).trans hc0
            have hxs := hs k
            have HD : Hid (encN (l.take (k + 1)) = encN (l.take k) ++ [.int .u64 (l.getD k 0 : Nat)]) := Lib.hid (by rw [take_snoc hlt, encN_snoc])
            generalize l.getD k 0 = x at *
            have hnews : ∀ (w2 : World) (j : Nat) (y : Value), ([.int .u64 (x : Int)] : List Value)[j]? = some y → (w2.alloc (.cells #[.int .u64 (x : Int)] 38)).cell? (Addr.add ⟨w2.heap.size, 0, none⟩ j) = some y := by
              intro w2 j y hj
              rw [Addr.add_lit, Nat.zero_add, cell_of_row _ w2.heap.size j _ 38 (0, 0) (heap_alloc_new w2 _)]
              simpa using hj
            go_wp2_with (first | (at_builtin; refine wpList_append_own _ rfl _ _ 36 rfl w6.heap.size 38 i0 (.int .u64 0) 1 8 Try.underlying36 hi hz0 hz1 hz2 rfl (by decide) _ k _ rfl (hown.alloc _) ⟨wr.heap.size, 0, none⟩ 1 1 [.int .u64 (x : Int)] rfl rfl (hnews wr) (by intro u hu; simp at hu; subst hu; rfl) (by unfold maxLen; omega) (by omega) (by simp; omega) ?_; intro v' w3 hown' hgrow _; obtain ⟨a3, c3, rfl⟩ := own_slice hown'))
            have hb3 : Below w6.heap.size w6 w3 := (hb.alloc (by omega) _).grown hgrow (by simp; omega) (fun j ej => (hown.lt j ej).1)
            exact ⟨⟨k + 1, a3, c3, by omega, by go_num, rfl, by rw [HD.out]; exact hown', hb3⟩, by simp [intOf]; omega⟩
          · obtain rfl : k = l.length := by omega
            rw [List.take_length] at hown
            have hrow2 := RowN.of_owns hown
            replace hB := hB.trans (hb.mono hB.size)
            replace h9 := IsT.below h9 hb h9.lt
            replace hS := hS.below hb
            go_wp2_with (first | (refine wpList_load29g (by rfl) _ rfl b (l.length : Int) (fun i => ofI l (i : Int)) U.testBit rfl hS.ref ?_) | (refine wpList_load29g (by rfl) _ rfl b5 (l.length : Int) (fun i => ofI l (i : Int)) U.testBit rfl h9 ?_) | (refine wpList_eql29g (by rfl) _ _ _ rfl (l.length : Int) (fun i => ofI l (i : Int)) U.testBit rfl rfl ?_))
            refine (Is_topo p g l U _ hS.topo hS.ok).mono ?_
            rintro e w8 ⟨rfl, hb8⟩
            go_wp2_with fail
            go_ret
            exact ⟨rfl, hB.trans (hb8.mono hB.size)⟩
      · exact absurd HG.out hbad
    · replace hB := hB.trans (hb.mono hB.size)
      have HG := Lib.hid hbad
      clear hbad hb
      have hZ : IsT (w2.alloc (.cells tzero 29)) w2.heap.size 0 (fun _ => 0) (fun _ => false) := IsT.new w2 0 (fun _ => 0) (fun _ => false)
      have hbs := hB.size
      replace hB := hB.alloc hB.size (.cells tzero 29)
      go_wp2_with (first | (refine wpList_alloc29 rfl rfl ?_) | (refine wpList_store29 rfl _ _ rfl w2.heap.size 0 0 (fun _ => 0) (fun _ => 0) (fun _ => false) (fun _ => false) rfl rfl hZ ?_; clear hZ; intro w3 h8 t3; replace hB := hB.trans (t3.below hbs); clear h8 t3))
      refine (Sets_any _ l _ (h.below hB) hs (by omega)).mono ?_
      rintro e w4 ⟨v3, rfl, hown3, hb⟩
      replace hB := hB.trans (hb.mono hB.size)
      clear hb hbs
      go_wp2_with fail
      refine (rNew_any _ l _ (RowS.of_owns hown3) hs).mono ?_
      rintro e w5 ⟨h3, hb⟩
      replace hB := hB.trans (hb.mono hB.size)
      clear hb hown3
      rcases h3 with ⟨hgood, _⟩ | ⟨_, rfl⟩
      · exact absurd hgood HG.out
      · have hE := errNew_ne l
        have hEE : (errNew l == errNew l) = true := beq_self_eq_true _
        have HN := Lib.hid (fun v w h => New_any v l w h hs)
        generalize errNew l = E at *
        have hZ : IsT (w5.alloc (.cells tzero 29)) w5.heap.size 0 (fun _ => 0) (fun _ => false) := IsT.new w5 0 (fun _ => 0) (fun _ => false)
        have hbs := hB.size
        replace hB := hB.alloc hB.size (.cells tzero 29)
        go_wp2_with (first | (refine wpList_alloc29 rfl rfl ?_) | (refine wpList_store29 rfl _ _ rfl w5.heap.size 0 0 (fun _ => 0) (fun _ => 0) (fun _ => false) (fun _ => false) rfl rfl hZ ?_; clear hZ; intro w6 h8 t3; replace hB := hB.trans (t3.below hbs); clear h8 t3))
        clear hbs
        have hgo := Below.refl w6.heap.size w6
        have hrw := (h.below hB)
        go_wp2_with fail
        go_loopw [8, 35] (fun v i wr => ∃ (k : Nat) (a : Option Addr) (c : Nat), k ≤ l.length ∧ i = .int .i64 k ∧ v = .slice a k c ∧ wr.ownsRow w6.heap.size 38 1 (.slice a k c) k (encN (l.take k)) ∧ Below w6.heap.size w6 wr) (fun _ i _ => l.length - (intOf i).toNat)
        case atStart => exact ⟨0, none, 0, by omega, rfl, rfl, World.ownsRow_nil _ _ _ _, Below.refl _ w6⟩
        case round =>
          obtain ⟨k, a', c', hk, rfl, rfl, hown, hb⟩ := hrel
          have hbs := hb.size
          by_cases hlt : k < l.length
          · obtain ⟨b0, off, rfl, hbl, hc0⟩ := HC.out k hlt
            have hx := ((hB.trans (hb.mono hB.size)).cell (p := ⟨b0, off + k, none⟩) hbl).trans hc0
            have hxs := hs k
            have HD : Hid (encN (l.take (k + 1)) = encN (l.take k) ++ [.int .u64 (l.getD k 0 : Nat)]) := Lib.hid (by rw [take_snoc hlt, encN_snoc])
            generalize l.getD k 0 = x at *
            have hnews : ∀ (w2 : World) (j : Nat) (y : Value), ([.int .u64 (x : Int)] : List Value)[j]? = some y → (w2.alloc (.cells #[.int .u64 (x : Int)] 38)).cell? (Addr.add ⟨w2.heap.size, 0, none⟩ j) = some y := by
              intro w2 j y hj
              rw [Addr.add_lit, Nat.zero_add, cell_of_row _ w2.heap.size j _ 38 (0, 0) (heap_alloc_new w2 _)]
              simpa using hj
            go_wp2_with (first | (at_builtin; refine wpList_append_own _ rfl _ _ 36 rfl w6.heap.size 38 i0 (.int .u64 0) 1 8 Try.underlying36 hi hz0 hz1 hz2 rfl (by decide) _ k _ rfl (hown.alloc _) ⟨wr.heap.size, 0, none⟩ 1 1 [.int .u64 (x : Int)] rfl rfl (hnews wr) (by intro u hu; simp at hu; subst hu; rfl) (by unfold maxLen; omega) (by omega) (by simp; omega) ?_; intro v' w3 hown' hgrow _; obtain ⟨a3, c3, rfl⟩ := own_slice hown'))
            have hb3 : Below w6.heap.size w6 w3 := (hb.alloc (by omega) _).grown hgrow (by simp; omega) (fun j ej => (hown.lt j ej).1)
            exact ⟨⟨k + 1, a3, c3, by omega, by go_num, rfl, by rw [HD.out]; exact hown', hb3⟩, by simp [intOf]; omega⟩
          · obtain rfl : k = l.length := by omega
            rw [List.take_length] at hown
            have hrow2 := RowN.of_owns hown
            replace hB := hB.trans (hb.mono hB.size)
            go_wp2_with fail
            refine (HN.out _ _ hrow2).mono ?_
            rintro e w8 ⟨h4, hb8⟩
            replace hB := hB.trans (hb8.mono hB.size)
            clear hb8
            rcases h4 with ⟨hgood, _⟩ | ⟨_, rfl⟩
            · exact absurd hgood HG.out
            · go_wp2_with fail
              go_ret
              exact ⟨rfl, hB⟩
end Go.Proofs.Ytbeklkgoiigccaa
