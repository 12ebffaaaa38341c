/-
  Contract of the laws' own function Open. Condition: the numbers are of 64 bits, and lie in memory that there may be.
-/
import Derived.Test.YtbeklkgoiigccaaTr
namespace Go.Proofs.Ytbeklkgoiigccaa
open Go.RowKit

theorem Try.info38 : (Try.prog.info? 38).map (fun i => (i.zero, i.size, i.bytes)) = some (some (.int .u64 0), 1, 8) := by kernel_rfl
def encN (l : List Nat) : List Value := l.map fun (n : Nat) => Value.int .u64 (n : Int)
theorem encN_snoc (l : List Nat) (x : Nat) : encN (l ++ [x]) = encN l ++ [.int .u64 (x : Int)] := by simp [encN]
theorem encN_len (l : List Nat) : (encN l).length = l.length := by simp [encN]
theorem RowN.of_owns {w : World} {base : Nat} {v : Value} {l : List Nat} (h : w.ownsRow base 38 1 v l.length (encN l)) : RowN w v l := by
  rcases h.2 with ⟨rfl, h1⟩ | ⟨g, cap, cur, rfl, hbg, hg, hnc, _, hcs, htake⟩
  · have : l = [] := List.length_eq_zero_iff.1 h1
    subst this
    exact ⟨none, 0, rfl, Nat.le_refl _, fun h => absurd rfl h⟩
  · refine ⟨_, cap, rfl, hnc, fun _ => ⟨g, 0, rfl, (Array.getElem?_eq_some_iff.1 hg).1, fun j hj => ?_⟩⟩
    rw [cell_of_row _ g _ _ 38 (0, 0) hg]
    have h1 : (cur.toList.take (l.length * 1))[0 + j]? = (encN l)[0 + j]? := by rw [htake]
    rw [List.getElem?_take_of_lt (by omega)] at h1
    rw [← Array.getElem?_toList, h1]
    simp [encN, List.getD, hj]
theorem results_tct {fn : Func} {t p u : Tmp} (h : fn.results = #[.tmp t, .cell p 29, .tmp u]) (tmps : Array Value) (w : World) (b : Nat) (m : Int) (o : Nat → Int) (g : Nat → Bool) (x v : Value) (hx : tmps.getD t undef = x) (hp : tmps.getD p undef = .pointer (some ⟨b, 0, none⟩)) (hv : tmps.getD u undef = v) (hw : IsT w b m o g) :
    (results fn tmps).run Try.prog w = .ok (.tuple #[x, .agg (tarr m o g), v]) w := by
  have hp' : tmps[p]?.getD undef = .pointer (some ⟨b, 0, none⟩) := by simpa using hp
  have hx' : tmps[t]?.getD undef = x := by simpa using hx
  have hv' : tmps[u]?.getD undef = v := by simpa using hv
  simp [results, h, hp', hx', hv', asAddr, run_loadVar_row w b 29 29 _ (0, 0) _ hw Try.underlying29 rfl (size29 m o g)]
theorem errNew_ne (l : List Nat) : (errNew l == 0) = false := by
  unfold errNew
  split <;> rfl
set_option maxRecDepth 100000 in
set_option maxHeartbeats 4000000 in
theorem Open_any (v : Value) (l : List Nat) (w : World) (h : RowN w v l) (hs : ∀ j, l.getD j 0 < 18446744073709551616) (hr : l.length * 8 ≤ 140737488351232) :
    Calls Try.prog 9 #[v] w fun e w' => ((Good8 l ∧ ∃ p g, e = .returned (.tuple #[.pointer (some ⟨p, 0, none⟩), .agg (TV l (uni l)), .bool true]) ∧ IsTopo w' p g l (uni l) ∧ w.heap.size ≤ p ∧ w.heap.size ≤ g) ∨ (¬ Good8 l ∧ e = .returned (.tuple #[.pointer none, .agg tzero, .bool false]))) ∧ Below w.heap.size w w' := by
  obtain ⟨i0, hi, hz0, hz1, hz2⟩ := info_parts Try.info38
  have hrow := h
  obtain ⟨a, cap, rfl, hcap, h2⟩ := h
  have HC : Hid (∀ k, k < l.length → ∃ b off, a = some ⟨b, off, none⟩ ∧ b < w.heap.size ∧ w.cell? ⟨b, off + k, none⟩ = some (.int .u64 (l.getD k 0 : Nat))) := Lib.hid (fun k hk => by
    obtain ⟨b, off, e, hb, hc⟩ := h2 (by rintro rfl; simp at hk)
    exact ⟨b, off, e, hb, hc k hk⟩)
  clear h2
  have hZ : IsT (w.alloc (.cells tzero 29)) w.heap.size 0 (fun _ => 0) (fun _ => false) := IsT.new w 0 (fun _ => 0) (fun _ => false)
  have hB : Below w.heap.size w (w.alloc (.cells tzero 29)) := (Below.refl _ w).alloc (Nat.le_refl _) _
  have hsz : (w.alloc (.cells tzero 29)).heap.size = w.heap.size + 1 := by simp
  go_enter Try.func9, Try.ntmps9
  go_wp2_with (first | (refine wpList_alloc29 rfl rfl ?_))
  generalize w.alloc (.cells tzero 29) = w1 at *
  go_loopw [5, 14] (fun v i wr => ∃ (k : Nat) (a : Option Addr) (c : Nat), k ≤ l.length ∧ i = .int .i64 k ∧ v = .slice a k c ∧ wr.ownsRow (w.heap.size + 1) 38 1 (.slice a k c) k (encN (l.take k)) ∧ Below (w.heap.size + 1) w1 wr) (fun _ i _ => l.length - (intOf i).toNat)
  case atStart => exact ⟨0, none, 0, by omega, rfl, rfl, World.ownsRow_nil _ _ _ _, Below.refl _ w1⟩
  case round =>
    obtain ⟨k, a', c', hk, rfl, rfl, hown, hb⟩ := hrel
    have hbs := hb.size
    by_cases hlt : k < l.length
    · obtain ⟨b, off, rfl, hbl, hc0⟩ := HC.out k hlt
      have hx := ((hB.trans (hb.mono (by omega))).cell (p := ⟨b, off + k, none⟩) hbl).trans hc0
      have hxs := hs k
      have HD : Hid (encN (l.take (k + 1)) = encN (l.take k) ++ [.int .u64 (l.getD k 0 : Nat)]) := Lib.hid (by rw [take_snoc hlt, encN_snoc])
      generalize l.getD k 0 = x at *
      have hnews : ∀ (w2 : World) (j : Nat) (y : Value), ([.int .u64 (x : Int)] : List Value)[j]? = some y → (w2.alloc (.cells #[.int .u64 (x : Int)] 38)).cell? (Addr.add ⟨w2.heap.size, 0, none⟩ j) = some y := by
        intro w2 j y hj
        rw [Addr.add_lit, Nat.zero_add, cell_of_row _ w2.heap.size j _ 38 (0, 0) (heap_alloc_new w2 _)]
        simpa using hj
      go_wp2_with (first | (at_builtin; refine wpList_append_own _ rfl _ _ 36 rfl (w.heap.size + 1) 38 i0 (.int .u64 0) 1 8 Try.underlying36 hi hz0 hz1 hz2 rfl (by decide) _ k _ rfl (hown.alloc _) ⟨wr.heap.size, 0, none⟩ 1 1 [.int .u64 (x : Int)] rfl rfl (hnews wr) (by intro u hu; simp at hu; subst hu; rfl) (by unfold maxLen; omega) (by omega) (by simp; omega) ?_; intro v' w3 hown' hgrow _; obtain ⟨a3, c3, rfl⟩ := own_slice hown'))
      have hb3 : Below (w.heap.size + 1) w1 w3 := (hb.alloc (by omega) _).grown hgrow (by simp; omega) (fun j ej => (hown.lt j ej).1)
      exact ⟨⟨k + 1, a3, c3, by omega, by go_num, rfl, by rw [HD.out]; exact hown', hb3⟩, by simp [intOf]; omega⟩
    · obtain rfl : k = l.length := by omega
      rw [List.take_length] at hown
      have hrow2 := RowN.of_owns hown
      replace hZ := hZ.below hb (show w.heap.size < w.heap.size + 1 by omega)
      replace hB := hB.trans (hb.mono (by omega))
      by_cases h20 : 20 < l.length
      · have h1 : (20 : Int) < (l.length : Int) := by omega
        have hbad : ¬ Good8 l := fun hg => by have := hg.2.1; omega
        go_wp2_with (first | (refine wpList_build29 rfl rfl ?_) | (refine wpList_store29 rfl _ _ rfl w.heap.size 0 0 (fun _ => 0) (fun _ => 0) (fun _ => false) (fun _ => false) rfl rfl hZ ?_; intro w9 hZ9 t9))
        refine bodyPost_ret (results_tct rfl _ w9 w.heap.size 0 (fun _ => 0) (fun _ => false) (.pointer none) (.bool false) rfl rfl rfl hZ9) rfl ?_
        exact ⟨.inr ⟨hbad, rfl⟩, hB.trans (t9.below (Nat.le_refl _))⟩
      · have h1 : ¬ (20 : Int) < (l.length : Int) := by omega
        have hrow3 := hrow.below hB
        have hzl := hZ.lt
        go_wp2_with fail
        refine (New_any _ l _ hrow2 hs).mono ?_
        rintro e w2 ⟨h2, hb2⟩
        have hs2 := hb2.size
        replace hZ := hZ.below hb2 hzl
        replace hrow3 := hrow3.below hb2
        replace hB := hB.trans (hb2.mono hB.size)
        rcases h2 with ⟨hg8, p, g, rfl, hP, hpl, hgl⟩ | ⟨hbad, rfl⟩
        · have HG := Lib.hid hg8
          clear hg8 hb2
          go_wp2_with fail
          refine (Sets_any _ l _ hrow3 hs (by omega)).mono ?_
          rintro e w3 ⟨v3, rfl, hown3, hb⟩
          have hs3 := hb.size
          replace hZ := hZ.below hb (by omega)
          replace hP := hP.belowS hb
          replace hB := hB.trans (hb.mono hB.size)
          clear hb
          go_wp2_with fail
          refine (rNew_any _ l _ (RowS.of_owns hown3) hs).mono ?_
          rintro e w4 ⟨h3, hb⟩
          rcases h3 with ⟨_, rfl⟩ | ⟨hbad, _⟩
          · have hs4 := hb.size
            replace hZ := hZ.below hb (by omega)
            replace hP := hP.belowS hb
            replace hB := hB.trans (hb.mono hB.size)
            clear hb
            have h8 : IsT (w4.alloc (.cells tzero 29)) w4.heap.size 0 (fun _ => 0) (fun _ => false) := IsT.new w4 0 (fun _ => 0) (fun _ => false)
            replace hZ : IsT (w4.alloc (.cells tzero 29)) w.heap.size _ _ _ := hZ.alloc _
            have hpl4 := hP.ltp
            have hgl4 := hP.ltg
            replace hP := hP.alloc (.cells tzero 29)
            replace hB := hB.alloc (by omega) (.cells tzero 29)
            generalize hU : uni l = U at *
            generalize hb10 : w4.heap.size = b10 at *
            go_wp2_with (first | (refine wpList_alloc29 rfl rfl ?_; try rw [hb10]) | (refine wpList_store29 rfl _ _ rfl b10 (l.length : Int) 0 (fun i => ofI l (i : Int)) (fun _ => 0) U.testBit (fun _ => false) rfl rfl h8 ?_; clear h8; intro w5 h8 t5))
            replace hZ := hZ.turn t5 (by omega)
            replace hP := hP.turn t5 (by omega) (by omega)
            replace hB := hB.trans (t5.below (by omega))
            clear t5
            replace hP := hP.drew
            replace hB := hB.drew
            replace hZ : IsT w5.drew _ _ _ _ := hZ
            replace h8 : IsT w5.drew _ _ _ _ := h8
            refine Rd.region (fun X => IT X b10 l U) 15 [0, 1, 2, 3, 4, 5, 6, 7, 8, 9, 10, 11, 12, 14] [0, 1, 2, 3, 4, 5, 6, 7, 8, 9, 10, 11, 12, 13, 14] (by kernel_rfl) (by kernel_rfl) (by kernel_rfl) (by kernel_rfl) rfl h8 ?_
            refine Rd.seq_float (.pointer (some ⟨p, 0, none⟩)) (by simp only [List.getElem?_toArray, List.getElem?_cons_zero]; rfl) rfl (by rfl) (fun X _ => by go_simp) ?_
            simp only [Act.put, List.setIfInBounds_toArray, List.set_cons_succ, List.set_cons_zero]
            refine Rd.seq_float (.agg (TV l U)) (by simp only [List.getElem?_toArray, List.getElem?_cons_succ, List.getElem?_cons_zero]; rfl) rfl (by rfl) (fun X hX => exec_load29 _ rfl b10 _ _ _ rfl hX) ?_
            simp only [Act.put, List.setIfInBounds_toArray, List.set_cons_succ, List.set_cons_zero]
            refine Rd.seq_float (.int .i64 0) (by simp only [List.getElem?_toArray, List.getElem?_cons_succ, List.getElem?_cons_zero]; rfl) rfl (by rfl) (fun X _ => by go_simp) ?_
            simp only [Act.put, List.setIfInBounds_toArray, List.set_cons_succ, List.set_cons_zero]
            refine Rd.seq_float (.bool true) (by simp only [List.getElem?_toArray, List.getElem?_cons_succ, List.getElem?_cons_zero]; rfl) rfl (by rfl) (fun X _ => by go_simp) ?_
            simp only [Act.put, List.setIfInBounds_toArray, List.set_cons_succ, List.set_cons_zero]
            refine Rd.seq_float (.bool true) (by simp only [List.getElem?_toArray, List.getElem?_cons_succ, List.getElem?_cons_zero]; rfl) rfl (by rfl) (fun X _ => by go_simp) ?_
            simp only [Act.put, List.setIfInBounds_toArray, List.set_cons_succ, List.set_cons_zero]
            refine Rd.seq_float (.int .i64 0) (by simp only [List.getElem?_toArray, List.getElem?_cons_succ, List.getElem?_cons_zero]; rfl) rfl (by rfl) (fun X _ => by go_simp) ?_
            simp only [Act.put, List.setIfInBounds_toArray, List.set_cons_succ, List.set_cons_zero]
            refine Rd.seq_float (.bool true) (by simp only [List.getElem?_toArray, List.getElem?_cons_succ, List.getElem?_cons_zero]; rfl) rfl (by rfl) (fun X _ => by go_simp) ?_
            simp only [Act.put, List.setIfInBounds_toArray, List.set_cons_succ, List.set_cons_zero]
            refine Rd.seq_float (.bool true) (by simp only [List.getElem?_toArray, List.getElem?_cons_succ, List.getElem?_cons_zero]; rfl) rfl (by rfl) (fun X _ => by go_simp) ?_
            simp only [Act.put, List.setIfInBounds_toArray, List.set_cons_succ, List.set_cons_zero]
            refine Rd.seq_float (.bool true) (by simp only [List.getElem?_toArray, List.getElem?_cons_succ, List.getElem?_cons_zero]; rfl) rfl (by rfl) (fun X _ => by go_simp) ?_
            simp only [Act.put, List.setIfInBounds_toArray, List.set_cons_succ, List.set_cons_zero]
            refine Rd.seq_float (.pointer (some ⟨p, 0, none⟩)) (by simp only [List.getElem?_toArray, List.getElem?_cons_succ, List.getElem?_cons_zero]; rfl) rfl (by rfl) (fun X _ => by go_simp) ?_
            simp only [Act.put, List.setIfInBounds_toArray, List.set_cons_succ, List.set_cons_zero]
            refine Rd.seq_float (.bool true) (by simp only [List.getElem?_toArray, List.getElem?_cons_succ, List.getElem?_cons_zero]; rfl) rfl (by rfl) (fun X _ => by go_simp) ?_
            simp only [Act.put, List.setIfInBounds_toArray, List.set_cons_succ, List.set_cons_zero]
            refine Rd.seq_float (.bool true) (by simp only [List.getElem?_toArray, List.getElem?_cons_succ, List.getElem?_cons_zero]; rfl) rfl (by rfl) (fun X _ => by go_simp) ?_
            simp only [Act.put, List.setIfInBounds_toArray, List.set_cons_succ, List.set_cons_zero]
            refine Rd.seq_float (.pointer (some ⟨p, 0, none⟩)) (by simp only [List.getElem?_toArray, List.getElem?_cons_succ, List.getElem?_cons_zero]; rfl) rfl (by rfl) (fun X _ => by go_simp) ?_
            simp only [Act.put, List.setIfInBounds_toArray, List.set_cons_succ, List.set_cons_zero]
            refine Rd.seq_move (by simp only [List.getElem?_toArray, List.getElem?_cons_succ, List.getElem?_cons_zero]; rfl) rfl (by rfl) (fun K hK => ?_)
            refine wp_store29 _ _ (by rfl) w.heap.size (l.length : Int) 0 (fun i => ofI l (i : Int)) (fun _ => 0) U.testBit (fun _ => false) (by rfl) (by rfl) hZ ?_
            intro w9 hZ t9
            replace hB := hB.trans (t9.below (Nat.le_refl _))
            replace hP := hP.turn t9 (by omega) (by omega)
            replace h8 := h8.turn t9 (by omega)
            refine hK _ _ (fun _ => h8) ?_
            clear hK K
            refine Rd.seq_float (.bool true) (by simp only [List.getElem?_toArray, List.getElem?_cons_succ, List.getElem?_cons_zero]; rfl) rfl (by rfl) (fun X _ => by go_simp) ?_
            simp only [Act.put, List.setIfInBounds_toArray, List.set_cons_succ, List.set_cons_zero]
            refine Rd.seq_end ?_
            go_wp2_with fail
            refine bodyPost_ret (results_tct rfl _ w9 w.heap.size (l.length : Int) (fun i => ofI l (i : Int)) U.testBit (.pointer (some ⟨p, 0, none⟩)) (.bool true) rfl rfl rfl hZ) rfl ?_
            exact ⟨.inl ⟨HG.out, p, g, by rw [hU], by rw [hU]; exact hP, by omega, by omega⟩, hB⟩
          · exact absurd HG.out hbad
        · have HG := Lib.hid hbad
          clear hbad hb2
          have hE := errNew_ne l
          generalize errNew l = E at *
          go_wp2_with fail
          refine (Sets_any _ l _ hrow3 hs (by omega)).mono ?_
          rintro e w3 ⟨v3, rfl, hown3, hb⟩
          have hs3 := hb.size
          replace hZ := hZ.below hb (by omega)
          replace hB := hB.trans (hb.mono hB.size)
          clear hb
          go_wp2_with fail
          refine (rNew_any _ l _ (RowS.of_owns hown3) hs).mono ?_
          rintro e w4 ⟨h3, hb⟩
          rcases h3 with ⟨hgood, _⟩ | ⟨_, rfl⟩
          · exact absurd hgood HG.out
          · have hs4 := hb.size
            replace hZ := hZ.below hb (by omega)
            replace hB := hB.trans (hb.mono hB.size)
            clear hb
            have h8 : IsT (w4.alloc (.cells tzero 29)) w4.heap.size 0 (fun _ => 0) (fun _ => false) := IsT.new w4 0 (fun _ => 0) (fun _ => false)
            replace hZ : IsT (w4.alloc (.cells tzero 29)) w.heap.size _ _ _ := hZ.alloc _
            replace hB := hB.alloc (by omega) (.cells tzero 29)
            generalize hb10 : w4.heap.size = b10 at *
            go_wp2_with (first | (refine wpList_alloc29 rfl rfl ?_; try rw [hb10]) | (refine wpList_store29 rfl _ _ rfl b10 0 0 (fun _ => 0) (fun _ => 0) (fun _ => false) (fun _ => false) rfl rfl h8 ?_; clear h8; intro w5 h8 t5))
            replace hZ := hZ.turn t5 (by omega)
            replace hB := hB.trans (t5.below (by omega))
            clear t5
            replace hB := hB.drew
            replace hZ : IsT w5.drew _ _ _ _ := hZ
            replace h8 : IsT w5.drew _ _ _ _ := h8
            refine Rd.region (fun X => IsT X b10 0 (fun _ => 0) (fun _ => false)) 15 [0, 1, 2, 3, 4, 5, 6, 7, 8, 9, 10, 11, 12, 14] [0, 1, 2, 3, 4, 5, 6, 7, 8, 9, 10, 11, 12, 13, 14] (by kernel_rfl) (by kernel_rfl) (by kernel_rfl) (by kernel_rfl) rfl h8 ?_
            refine Rd.seq_float (.pointer none) (by simp only [List.getElem?_toArray, List.getElem?_cons_zero]; rfl) rfl (by rfl) (fun X _ => by go_simp) ?_
            simp only [Act.put, List.setIfInBounds_toArray, List.set_cons_succ, List.set_cons_zero]
            refine Rd.seq_float (.agg (tzero)) (by simp only [List.getElem?_toArray, List.getElem?_cons_succ, List.getElem?_cons_zero]; rfl) rfl (by rfl) (fun X hX => exec_load29 _ rfl b10 _ _ _ rfl hX) ?_
            simp only [Act.put, List.setIfInBounds_toArray, List.set_cons_succ, List.set_cons_zero]
            refine Rd.seq_float (.int .i64 E) (by simp only [List.getElem?_toArray, List.getElem?_cons_succ, List.getElem?_cons_zero]; rfl) rfl (by rfl) (fun X _ => by go_simp) ?_
            simp only [Act.put, List.setIfInBounds_toArray, List.set_cons_succ, List.set_cons_zero]
            refine Rd.seq_float (.bool false) (by simp only [List.getElem?_toArray, List.getElem?_cons_succ, List.getElem?_cons_zero]; rfl) rfl (by rfl) (fun X _ => by go_simp) ?_
            simp only [Act.put, List.setIfInBounds_toArray, List.set_cons_succ, List.set_cons_zero]
            refine Rd.seq_float (.bool false) (by simp only [List.getElem?_toArray, List.getElem?_cons_succ, List.getElem?_cons_zero]; rfl) rfl (by rfl) (fun X _ => by go_simp) ?_
            simp only [Act.put, List.setIfInBounds_toArray, List.set_cons_succ, List.set_cons_zero]
            refine Rd.seq_skip (by simp only [List.getElem?_toArray, List.getElem?_cons_succ, List.getElem?_cons_zero]; rfl) rfl (by rfl) ?_
            simp only [Act.put, List.setIfInBounds_toArray, List.set_cons_succ, List.set_cons_zero]
            refine Rd.seq_skip (by simp only [List.getElem?_toArray, List.getElem?_cons_succ, List.getElem?_cons_zero]; rfl) rfl (by rfl) ?_
            simp only [Act.put, List.setIfInBounds_toArray, List.set_cons_succ, List.set_cons_zero]
            refine Rd.seq_float (.bool false) (by simp only [List.getElem?_toArray, List.getElem?_cons_succ, List.getElem?_cons_zero]; rfl) rfl (by rfl) (fun X _ => by go_simp) ?_
            simp only [Act.put, List.setIfInBounds_toArray, List.set_cons_succ, List.set_cons_zero]
            refine Rd.seq_float (.bool false) (by simp only [List.getElem?_toArray, List.getElem?_cons_succ, List.getElem?_cons_zero]; rfl) rfl (by rfl) (fun X _ => by go_simp) ?_
            simp only [Act.put, List.setIfInBounds_toArray, List.set_cons_succ, List.set_cons_zero]
            refine Rd.seq_skip (by simp only [List.getElem?_toArray, List.getElem?_cons_succ, List.getElem?_cons_zero]; rfl) rfl (by rfl) ?_
            simp only [Act.put, List.setIfInBounds_toArray, List.set_cons_succ, List.set_cons_zero]
            refine Rd.seq_skip (by simp only [List.getElem?_toArray, List.getElem?_cons_succ, List.getElem?_cons_zero]; rfl) rfl (by rfl) ?_
            simp only [Act.put, List.setIfInBounds_toArray, List.set_cons_succ, List.set_cons_zero]
            refine Rd.seq_float (.bool false) (by simp only [List.getElem?_toArray, List.getElem?_cons_succ, List.getElem?_cons_zero]; rfl) rfl (by rfl) (fun X _ => by go_simp) ?_
            simp only [Act.put, List.setIfInBounds_toArray, List.set_cons_succ, List.set_cons_zero]
            refine Rd.seq_float (.pointer none) (by simp only [List.getElem?_toArray, List.getElem?_cons_succ, List.getElem?_cons_zero]; rfl) rfl (by rfl) (fun X _ => by go_simp) ?_
            simp only [Act.put, List.setIfInBounds_toArray, List.set_cons_succ, List.set_cons_zero]
            refine Rd.seq_move (by simp only [List.getElem?_toArray, List.getElem?_cons_succ, List.getElem?_cons_zero]; rfl) rfl (by rfl) (fun K hK => ?_)
            refine wp_store29 _ _ (by rfl) w.heap.size 0 0 (fun _ => 0) (fun _ => 0) (fun _ => false) (fun _ => false) (by rfl) (by rfl) hZ ?_
            intro w9 hZ t9
            replace hB := hB.trans (t9.below (Nat.le_refl _))
            replace h8 := h8.turn t9 (by omega)
            refine hK _ _ (fun _ => h8) ?_
            clear hK K
            refine Rd.seq_float (.bool false) (by simp only [List.getElem?_toArray, List.getElem?_cons_succ, List.getElem?_cons_zero]; rfl) rfl (by rfl) (fun X _ => by go_simp) ?_
            simp only [Act.put, List.setIfInBounds_toArray, List.set_cons_succ, List.set_cons_zero]
            refine Rd.seq_end ?_
            go_wp2_with fail
            refine bodyPost_ret (results_tct rfl _ w9 w.heap.size 0 (fun _ => 0) (fun _ => false) (.pointer none) (.bool false) rfl rfl rfl hZ) rfl ?_
            exact ⟨.inr ⟨HG.out, rfl⟩, hB⟩
end Go.Proofs.Ytbeklkgoiigccaa
