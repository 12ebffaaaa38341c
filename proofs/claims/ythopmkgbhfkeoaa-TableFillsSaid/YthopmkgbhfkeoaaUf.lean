/-
  The document's New, set, Drop, Skip, Add. Conditions: at most 64 slots; the place is one of them.
-/
import Derived.Test.YthopmkgbhfkeoaaUe
namespace Go.Proofs.Ythopmkgbhfkeoaa
open Go.RowKit

set_option maxRecDepth 100000 in
set_option maxHeartbeats 4000000 in
theorem rNew_no (n : Int) (w : World) (hn : ¬ (1 ≤ n ∧ n ≤ 64)) :
    Calls Try.prog 10 #[.int .i64 n] w fun e w' => e = .returned (.tuple #[.agg #[.slice none 0 0, .int .i64 0], .int .i64 14]) ∧ Below w.heap.size w w' := by
  have hb : Below w.heap.size w (w.alloc (.cells #[.slice none 0 0, .int .i64 0] 30)) := (Below.refl _ w).alloc (Nat.le_refl _) _
  have hZ := IsT.new w (.slice none 0 0) 0
  by_cases h1 : n < 1
  · go_enter Try.func10, Try.ntmps10
    go_wp2_with (first | (refine wpList_alloc30 rfl rfl ?_) | (refine wpList_store30 rfl _ _ rfl w.heap.size (.slice none 0 0) (.slice none 0 0) 0 0 rfl rfl hZ rfl ?_; clear hZ; intro w1 hZ t1))
    refine bodyPost_ret (results_ct rfl _ w1 w.heap.size (.slice none 0 0) (.int .i64 14) 0 rfl rfl hZ) rfl ?_
    exact ⟨rfl, hb.trans (t1.below (Nat.le_refl _))⟩
  · have h2 : 64 < n := by omega
    go_enter Try.func10, Try.ntmps10
    go_wp2_with (first | (refine wpList_alloc30 rfl rfl ?_) | (refine wpList_store30 rfl _ _ rfl w.heap.size (.slice none 0 0) (.slice none 0 0) 0 0 rfl rfl hZ rfl ?_; clear hZ; intro w1 hZ t1))
    refine bodyPost_ret (results_ct rfl _ w1 w.heap.size (.slice none 0 0) (.int .i64 14) 0 rfl rfl hZ) rfl ?_
    exact ⟨rfl, hb.trans (t1.below (Nat.le_refl _))⟩
set_option maxRecDepth 100000 in
set_option maxHeartbeats 4000000 in
theorem rNew_yes (n : Nat) (w : World) (h1 : 1 ≤ n) (h2 : n ≤ 64) :
    Calls Try.prog 10 #[.int .i64 (n : Int)] w fun e w' => (∃ a c, e = .returned (.tuple #[.agg #[.slice a n c, .int .i64 0], .int .i64 0]) ∧ RowO w' w.heap.size (.slice a n c) (List.replicate n 0)) ∧ Below w.heap.size w w' := by
  obtain ⟨i0, hi, hz0, hz1, hz2⟩ := info_parts Try.info3
  have h3 : ¬ (n : Int) < 1 := by omega
  have h4 : ¬ 64 < (n : Int) := by omega
  have hb : Below w.heap.size w (w.alloc (.cells #[.slice none 0 0, .int .i64 0] 30)) := (Below.refl _ w).alloc (Nat.le_refl _) _
  have hZ := IsT.new w (.slice none 0 0) 0
  have hsz : (w.alloc (.cells #[.slice none 0 0, .int .i64 0] 30)).heap.size = w.heap.size + 1 := by simp
  go_enter Try.func10, Try.ntmps10
  go_wp2_with (first | (refine wpList_alloc30 rfl rfl ?_; generalize w.alloc (.cells #[.slice none 0 0, .int .i64 0] 30) = w0 at *) | (refine wpList_make_full _ rfl _ _ 28 rfl w.heap.size 3 i0 (.int .i64 0) 1 Try.underlying28 hi hz0 hz1 .i64 .i64 (n : Int) (n : Int) n rfl rfl rfl rfl (by rw [hz2]; omega) (by unfold maxLen; omega) (by omega) ?_; intro w1 hown hgrow; have hb1 := (Below.refl w0.heap.size w0).grown hgrow (Nat.le_refl _) (fun _ e => by cases e); replace hZ := hZ.below hb1 (by omega)) | (refine wpList_store30 rfl _ _ rfl w.heap.size _ (.slice none 0 0) 0 0 rfl rfl hZ rfl ?_; intro w2 hZ2 t2))
  rw [zeros, hsz] at hown
  have hs1 := hgrow.size
  have hr : RowO w1 w.heap.size (.slice (some ⟨w.heap.size + 1, 0, none⟩) n n) (List.replicate n 0) := by
    unfold RowO
    rw [List.length_replicate]
    exact hown
  have hr2 := hr.turn t2 hZ (by decide)
  refine bodyPost_ret (results_ct rfl _ w2 w.heap.size _ (.int .i64 0) 0 rfl rfl hZ2) rfl ?_
  exact ⟨⟨_, _, rfl, hr2⟩, (hb.trans (hb1.mono (by omega))).trans (t2.below (Nat.le_refl _))⟩
theorem rNew_any (n : Int) (w : World) :
    Calls Try.prog 10 #[.int .i64 n] w fun e w' => ((1 ≤ n ∧ n ≤ 64 ∧ ∃ a c, e = .returned (.tuple #[.agg #[.slice a n.toNat c, .int .i64 0], .int .i64 0]) ∧ RowO w' w.heap.size (.slice a n.toNat c) (List.replicate n.toNat 0)) ∨ (¬ (1 ≤ n ∧ n ≤ 64) ∧ e = .returned (.tuple #[.agg #[.slice none 0 0, .int .i64 0], .int .i64 14]))) ∧ Below w.heap.size w w' := by
  by_cases hn : 1 ≤ n ∧ n ≤ 64
  · obtain ⟨k, rfl⟩ : ∃ k : Nat, n = k := ⟨n.toNat, by omega⟩
    refine (rNew_yes k w (by omega) (by omega)).mono ?_
    rintro e w1 ⟨⟨a, c, rfl, hr⟩, hb⟩
    exact ⟨.inl ⟨hn.1, hn.2, a, c, rfl, hr⟩, hb⟩
  · refine (rNew_no n w hn).mono ?_
    rintro e w1 ⟨rfl, hb⟩
    exact ⟨.inr ⟨hn, rfl⟩, hb⟩
set_option maxRecDepth 100000 in
set_option maxHeartbeats 4000000 in
theorem set_any (B : Nat) (a : Option Addr) (c : Nat) (l : List Int) (m x : Int) (k : Nat) (w : World) (h : RowO w B (.slice a l.length c) l) (hB : B ≤ w.heap.size) (hl : l.length ≤ 64) (hk : k < l.length) :
    Calls Try.prog 25 #[.agg #[.slice a l.length c, .int .i64 m], .int .i64 (k : Int), .int .i64 x] w fun e w' => (∃ a' c', e = .returned (.agg #[.slice a' l.length c', .int .i64 m]) ∧ RowO w' B (.slice a' l.length c') (l.set k x)) ∧ Below w.heap.size w w' := by
  have hx := ((IsT.new w (.slice a l.length c) m).alloc (.cells #[.slice none 0 0, .int .i64 0] 30)).alloc (.cells #[] 3)
  have hZ : IsT (((w.alloc (.cells #[.slice a l.length c, .int .i64 m] 30)).alloc (.cells #[.slice none 0 0, .int .i64 0] 30)).alloc (.cells #[] 3)) (w.heap.size + 1) (.slice none 0 0) 0 := by
    have := (IsT.new (w.alloc (.cells #[.slice a l.length c, .int .i64 m] 30)) (.slice none 0 0) 0).alloc (.cells #[] 3)
    simpa using this
  have hE : RowO (((w.alloc (.cells #[.slice a l.length c, .int .i64 m] 30)).alloc (.cells #[.slice none 0 0, .int .i64 0] 30)).alloc (.cells #[] 3)) (w.heap.size + 2) (.slice (some ⟨w.heap.size + 2, 0, none⟩) 0 0) [] := by
    have := RowO.empty ((w.alloc (.cells #[.slice a l.length c, .int .i64 m] 30)).alloc (.cells #[.slice none 0 0, .int .i64 0] 30)) (w.heap.size + 2) (by simp)
    simpa using this
  have hS := (((h.alloc (.cells #[.slice a l.length c, .int .i64 m] 30)).alloc (.cells #[.slice none 0 0, .int .i64 0] 30)).alloc (.cells #[] 3)).src
  have hb : Below w.heap.size w (((w.alloc (.cells #[.slice a l.length c, .int .i64 m] 30)).alloc (.cells #[.slice none 0 0, .int .i64 0] 30)).alloc (.cells #[] 3)) := (((Below.refl _ w).alloc (Nat.le_refl _) _).alloc (by simp) _).alloc (by simp; omega) _
  have hsz : (((w.alloc (.cells #[.slice a l.length c, .int .i64 m] 30)).alloc (.cells #[.slice none 0 0, .int .i64 0] 30)).alloc (.cells #[] 3)).heap.size = w.heap.size + 3 := by simp
  have hx0 := hx.c0
  go_enter Try.func25, Try.ntmps25
  go_wp2_with (first | (refine wpList_alloc30 rfl rfl ?_) | (at_builtin; refine wpList_append rfl _ _ rfl (w.heap.size + 2) _ _ [] l rfl rfl (by omega) hE hS (by simp; omega) ?_; intro v3 w3 h3 g3; clear hx0; rw [List.nil_append] at h3; obtain ⟨a3, c3, rfl⟩ := h3.sl; obtain ⟨b3, rfl, hb3, hb4, hc3, hf3⟩ := h3.at hk; have hb5 := (Below.refl (w.heap.size + 2) _).grown g3 (by omega) (fun j e => (hE.lt j e).1); replace hx := hx.below hb5 (by omega); replace hZ := hZ.below hb5 (by omega); replace hb := hb.trans (hb5.mono (by omega)); have t4 := Turn.setCell w3 b3 k (.int .i64 x); replace hx := hx.turn t4 (by omega); replace hZ := hZ.turn t4 (by omega); replace h3 := h3.put k x; have hx1 := hx.c1) | (refine wpList_store30 rfl _ _ rfl (w.heap.size + 1) _ (.slice none 0 0) m 0 rfl rfl hZ rfl ?_; intro w5 hZ5 t5))
  refine bodyPost_ret (results_c rfl _ w5 (w.heap.size + 1) _ m rfl hZ5) rfl ?_
  exact ⟨⟨_, _, rfl, ((h3.turn t5 hZ (by decide)).mono (by omega))⟩, (hb.trans (t4.below (by omega))).trans (t5.below (by omega))⟩
/-- the document's table as a value, its row in a block of its own, from B on. -/
def RT (w : World) (B : Nat) (v : Value) (l : List Int) (m : Int) : Prop := ∃ a c, v = .agg #[.slice a l.length c, .int .i64 m] ∧ RowO w B (.slice a l.length c) l
theorem RT.below {w w' : World} {B : Nat} {v : Value} {l : List Int} {m : Int} (h : RT w B v l m) (hb : Below w.heap.size w w') : RT w' B v l m := by
  obtain ⟨a, c, e, h⟩ := h
  exact ⟨a, c, e, h.below hb⟩
theorem RT.only {w w' : World} {B p g : Nat} {v : Value} {l : List Int} {m : Int} (h : RT w B v l m) (ho : Only p g w w') (hp : p < B) (hg : g < B) : RT w' B v l m := by
  obtain ⟨a, c, e, h⟩ := h
  exact ⟨a, c, e, h.only ho hp hg⟩
theorem rset (B : Nat) (v : Value) (l : List Int) (m x : Int) (k : Nat) (w : World) (h : RT w B v l m) (hB : B ≤ w.heap.size) (hl : l.length ≤ 64) (hk : k < l.length) :
    Calls Try.prog 25 #[v, .int .i64 (k : Int), .int .i64 x] w fun e w' => (∃ v', e = .returned v' ∧ RT w' B v' (l.set k x) m) ∧ Below w.heap.size w w' := by
  obtain ⟨a, c, rfl, h⟩ := h
  refine (set_any B a c l m x k w h hB hl hk).mono ?_
  rintro e w1 ⟨⟨a', c', rfl, h'⟩, hb⟩
  exact ⟨⟨_, rfl, a', c', by rw [List.length_set], by rw [List.length_set]; exact h'⟩, hb⟩
theorem rAt (B : Nat) (v : Value) (l : List Int) (m x : Int) (w : World) (h : RT w B v l m) (hl : l.length ≤ 64) :
    Calls Try.prog 26 #[v, .int .i64 x] w fun e w' => e = .returned (.int .i64 (atI l x)) ∧ Below w.heap.size w w' := by
  obtain ⟨a, c, rfl, h⟩ := h
  exact rAt_any B a c l m x w h hl
set_option maxRecDepth 100000 in
set_option maxHeartbeats 4000000 in
theorem rDrop_any (B : Nat) (v : Value) (l : List Int) (m x : Int) (w : World) (h : RT w B v l m) (hB : B ≤ w.heap.size) (hl : l.length ≤ 64) :
    Calls Try.prog 13 #[v, .int .i64 x] w fun e w' => (∃ v', e = .returned (.tuple #[v', .int .i64 (hasE l x)]) ∧ RT w' B v' (dropL l x) m) ∧ Below w.heap.size w w' := by
  have HT := Lib.hid h
  obtain ⟨a, c, rfl, -⟩ := h
  have hx := (IsT.new w (.slice a l.length c) m).alloc (.cells #[.slice none 0 0, .int .i64 0] 30)
  have hZ : IsT ((w.alloc (.cells #[.slice a l.length c, .int .i64 m] 30)).alloc (.cells #[.slice none 0 0, .int .i64 0] 30)) (w.heap.size + 1) (.slice none 0 0) 0 := by
    have := IsT.new (w.alloc (.cells #[.slice a l.length c, .int .i64 m] 30)) (.slice none 0 0) 0
    simpa using this
  have hb : Below w.heap.size w ((w.alloc (.cells #[.slice a l.length c, .int .i64 m] 30)).alloc (.cells #[.slice none 0 0, .int .i64 0] 30)) := ((Below.refl _ w).alloc (Nat.le_refl _) _).alloc (by simp) _
  have hsz : ((w.alloc (.cells #[.slice a l.length c, .int .i64 m] 30)).alloc (.cells #[.slice none 0 0, .int .i64 0] 30)).heap.size = w.heap.size + 2 := by simp
  have HT2 := Lib.hid (HT.out.below hb)
  clear HT
  cases hh : hasB l x with
  | true =>
    have hk : find l x < l.length := by have : find l x < l.length ∧ x ≠ 0 := by simpa [hasB] using hh
                                        exact this.1
    have HR : Hid (atI l x = (find l x : Int) ∧ hasE l x = 0 ∧ dropL l x = l.set (find l x) 0) := Lib.hid (by simp [atI, hasE, dropL, hh])
    clear hh
    rw [HR.out.2.1, HR.out.2.2]
    generalize find l x = k at *
    go_enter Try.func13, Try.ntmps13
    go_wp2_with (first | (refine wpList_alloc30 rfl rfl ?_) | (refine wpList_load30 rfl _ rfl w.heap.size _ m rfl hx ?_))
    generalize (w.alloc (.cells #[.slice a l.length c, .int .i64 m] 30)).alloc (.cells #[.slice none 0 0, .int .i64 0] 30) = w2 at *
    refine (rAt B _ l m x _ HT2.out hl).mono ?_
    rw [HR.out.1]
    rintro e w3 ⟨rfl, hb3⟩
    have hs3 := hb3.size
    replace hx := hx.belowS hb3
    replace hZ := hZ.belowS hb3
    replace hb := hb.trans (hb3.mono (by omega))
    have HT3 := Lib.hid (HT2.out.below hb3)
    clear HT2 hb3
    go_wp2_with (first | (refine wpList_load30 rfl _ rfl w.heap.size _ m rfl hx ?_))
    refine (rset B _ l m 0 k _ HT3.out (by omega) hl hk).mono ?_
    rintro e w4 ⟨⟨v4, rfl, h4⟩, hb4⟩
    obtain ⟨a4, c4, rfl, h4⟩ := h4
    have hs4 := hb4.size
    replace hZ := hZ.belowS hb4
    replace hb := hb.trans (hb4.mono (by omega))
    clear HT3 hb4 hx
    go_wp2_with (first | (refine wpList_store30 rfl _ _ rfl (w.heap.size + 1) _ (.slice none 0 0) m 0 rfl rfl hZ rfl ?_; intro w5 hZ5 t5))
    refine bodyPost_ret (results_ct rfl _ w5 (w.heap.size + 1) _ (.int .i64 0) m rfl rfl hZ5) rfl ?_
    exact ⟨⟨_, rfl, a4, c4, by rw [List.length_set], h4.turn t5 hZ (by decide)⟩, hb.trans (t5.below (by omega))⟩
  | false =>
    have HR : Hid (atI l x = -1 ∧ hasE l x = 3 ∧ dropL l x = l) := Lib.hid (by simp [atI, hasE, dropL, hh])
    clear hh
    rw [HR.out.2.1, HR.out.2.2]
    go_enter Try.func13, Try.ntmps13
    go_wp2_with (first | (refine wpList_alloc30 rfl rfl ?_) | (refine wpList_load30 rfl _ rfl w.heap.size _ m rfl hx ?_))
    generalize (w.alloc (.cells #[.slice a l.length c, .int .i64 m] 30)).alloc (.cells #[.slice none 0 0, .int .i64 0] 30) = w2 at *
    refine (rAt B _ l m x _ HT2.out hl).mono ?_
    rw [HR.out.1]
    rintro e w3 ⟨rfl, hb3⟩
    have hs3 := hb3.size
    replace hx := hx.belowS hb3
    replace hZ := hZ.belowS hb3
    replace hb := hb.trans (hb3.mono (by omega))
    have HT3 := Lib.hid (HT2.out.below hb3)
    clear HT2 hb3
    go_wp2_with (first | (refine wpList_load30 rfl _ rfl w.heap.size _ m rfl hx ?_) | (refine wpList_store30 rfl _ _ rfl (w.heap.size + 1) _ (.slice none 0 0) m 0 rfl rfl hZ rfl ?_; intro w5 hZ5 t5))
    refine bodyPost_ret (results_ct rfl _ w5 (w.heap.size + 1) _ (.int .i64 3) m rfl rfl hZ5) rfl ?_
    obtain ⟨a4, c4, e4, h4⟩ := HT3.out
    exact ⟨⟨_, rfl, a4, c4, e4, h4.turn t5 hZ (by decide)⟩, hb.trans (t5.below (by omega))⟩
set_option maxRecDepth 100000 in
set_option maxHeartbeats 4000000 in
theorem rSkip_any (B : Nat) (v : Value) (l : List Int) (m n : Int) (w : World) (h : RT w B v l m) (ok : TabOk l m) :
    Calls Try.prog 15 #[v, .int .i64 n] w fun e w' => (∃ v', e = .returned (.tuple #[v', .int .i64 (skipE m n)]) ∧ RT w' B v' l (skipM m n)) ∧ Below w.heap.size w w' := by
  have HT := Lib.hid h
  obtain ⟨a, c, rfl, -⟩ := h
  have hm0 := ok.m0
  have hm1 := ok.mM
  have hx := (IsT.new w (.slice a l.length c) m).alloc (.cells #[.slice none 0 0, .int .i64 0] 30)
  have hZ : IsT ((w.alloc (.cells #[.slice a l.length c, .int .i64 m] 30)).alloc (.cells #[.slice none 0 0, .int .i64 0] 30)) (w.heap.size + 1) (.slice none 0 0) 0 := by
    have := IsT.new (w.alloc (.cells #[.slice a l.length c, .int .i64 m] 30)) (.slice none 0 0) 0
    simpa using this
  have hb : Below w.heap.size w ((w.alloc (.cells #[.slice a l.length c, .int .i64 m] 30)).alloc (.cells #[.slice none 0 0, .int .i64 0] 30)) := ((Below.refl _ w).alloc (Nat.le_refl _) _).alloc (by simp) _
  have hsz : ((w.alloc (.cells #[.slice a l.length c, .int .i64 m] 30)).alloc (.cells #[.slice none 0 0, .int .i64 0] 30)).heap.size = w.heap.size + 2 := by simp
  have HT2 := Lib.hid (HT.out.below hb)
  have hx1 := hx.c1
  have hf1 := hx.f1
  clear HT ok
  by_cases hn : 0 ≤ n
  · by_cases hle : n ≤ 2147483648 - m
    · have HI : Hid (skipE m n = 0 ∧ skipM m n = m + n) := Lib.hid (by simp [skipE, skipM, skipB, hn, hle])
      rw [HI.out.1, HI.out.2]
      go_enter Try.func15, Try.ntmps15
      go_wp2_with (first | (refine wpList_alloc30 rfl rfl ?_; generalize (w.alloc (.cells #[.slice a l.length c, .int .i64 m] 30)).alloc (.cells #[.slice none 0 0, .int .i64 0] 30) = w2 at *; have tm := Turn.setCell w2 w.heap.size 1 (.int .i64 (m + n)); have hxm := hx.setM (m + n); have hZm := hZ.turn tm (by omega)) | (refine wpList_load30 rfl _ rfl w.heap.size _ (m + n) rfl hxm ?_) | (refine wpList_store30 rfl _ _ rfl (w.heap.size + 1) _ (.slice none 0 0) (m + n) 0 rfl rfl hZm rfl ?_; intro w5 hZ5 t5))
      refine bodyPost_ret (results_ct rfl _ w5 (w.heap.size + 1) _ (.int .i64 0) (m + n) rfl rfl hZ5) rfl ?_
      obtain ⟨a4, c4, e4, h4⟩ := HT2.out
      cases e4
      exact ⟨⟨_, rfl, a, c, rfl, (h4.turn tm hx (by decide)).turn t5 hZm (by decide)⟩, (hb.trans (tm.below (Nat.le_refl _))).trans (t5.below (by omega))⟩
    · have HI : Hid (skipE m n = 14 ∧ skipM m n = m) := Lib.hid (by simp [skipE, skipM, skipB, hle])
      rw [HI.out.1, HI.out.2]
      go_enter Try.func15, Try.ntmps15
      go_wp2_with (first | (refine wpList_alloc30 rfl rfl ?_) | (refine wpList_load30 rfl _ rfl w.heap.size _ m rfl hx ?_) | (refine wpList_store30 rfl _ _ rfl (w.heap.size + 1) _ (.slice none 0 0) m 0 rfl rfl hZ rfl ?_; intro w5 hZ5 t5))
      refine bodyPost_ret (results_ct rfl _ w5 (w.heap.size + 1) _ (.int .i64 14) m rfl rfl hZ5) rfl ?_
      obtain ⟨a4, c4, e4, h4⟩ := HT2.out
      exact ⟨⟨_, rfl, a4, c4, e4, h4.turn t5 hZ (by decide)⟩, hb.trans (t5.below (by omega))⟩
  · have HI : Hid (skipE m n = 14 ∧ skipM m n = m) := Lib.hid (by simp [skipE, skipM, skipB, hn])
    rw [HI.out.1, HI.out.2]
    go_enter Try.func15, Try.ntmps15
    go_wp2_with (first | (refine wpList_alloc30 rfl rfl ?_) | (refine wpList_load30 rfl _ rfl w.heap.size _ m rfl hx ?_) | (refine wpList_store30 rfl _ _ rfl (w.heap.size + 1) _ (.slice none 0 0) m 0 rfl rfl hZ rfl ?_; intro w5 hZ5 t5))
    refine bodyPost_ret (results_ct rfl _ w5 (w.heap.size + 1) _ (.int .i64 14) m rfl rfl hZ5) rfl ?_
    obtain ⟨a4, c4, e4, h4⟩ := HT2.out
    exact ⟨⟨_, rfl, a4, c4, e4, h4.turn t5 hZ (by decide)⟩, hb.trans (t5.below (by omega))⟩
end Go.Proofs.Ythopmkgbhfkeoaa
