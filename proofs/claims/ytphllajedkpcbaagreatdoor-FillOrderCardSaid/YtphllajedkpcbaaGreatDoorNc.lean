/-
  Contracts of nat.divLimb, which makes limbs their quotient by a limb in place, and of slices.Clone at limbs. Conditions: the limbs lie in a block that the call may write; the divisor isn't 0; not more than a million limbs.
-/
import Derived.Test.YtphllajedkpcbaaGreatDoorNa
import Derived.Test.YtphllajedkpcbaaGreatDoorDa
namespace Go.Proofs.YtphllajedkpcbaaGreatDoor
open Go.RowKit Go.Dig Go.Shelf Go.Proofs
attribute [local go_sem] Oper.semAt_some

/-- what the loop of divLimb keeps while m places are to come. -/
def DivLI (w : World) (base g n cap : Nat) (l : List Nat) (d : Nat) (m : Nat) (W : World) : Prop :=
  ∃ (c : List Nat) (r : Nat), Hid (DivI 18446744073709551616 l c d r m ∧ ∀ k, k < m → c.getD k 0 = l.getD k 0) ∧ Own64 W base g n cap c ∧ Boxed W w.heap.size 27 (.slice (some ⟨g, 0, none⟩) n cap) ∧ Boxed W (w.heap.size + 1) 56 (.int .u64 (d : Int)) ∧
    Boxed W (w.heap.size + 1 + 1) 56 (.int .u64 (r : Int)) ∧ Boxed W (w.heap.size + 1 + 1 + 1) 27 (.slice (some ⟨g, 0, none⟩) n cap) ∧ Fr (· = g) w W
theorem DivLI.own {w : World} {base g n cap : Nat} {l : List Nat} {d B : Nat} (hB : w.heap.size ≤ B) : OwnFrom B (DivLI w base g n cap l d) := by
  rintro m X Y row ⟨c, r, H, hO, bA, bD, bR, bC, hF⟩ hg hr
  have hr2 := fun r e => (hr r e).2
  exact ⟨c, r, H, owns_own hO hg hr2, boxed_keep bA hg hr2, boxed_keep bD hg hr2, boxed_keep bR hg hr2, boxed_keep bC hg hr2, ownFrom_fr (β := Unit) hB () X Y row hF hg hr⟩

theorem getD_set_lt {l : List Nat} {i d : Nat} (h : i < l.length) : (l.set i d).getD i 0 = d := by simp [List.getD, h]

set_option maxRecDepth 100000 in
set_option maxHeartbeats 4000000 in
theorem divLimb_any (base g n cap : Nat) (l : List Nat) (d : Nat) (w : World) (h : Own64 w base g n cap l) (hs : SmallU l) (hn : n ≤ 1000000) (hd : 0 < d) (hd2 : d < 18446744073709551616) :
    Calls Tryz.prog 76 #[.slice (some ⟨g, 0, none⟩) n cap, .int .u64 (d : Int)] w fun e w' =>
      e = .returned (.int .u64 ((V l % d : Nat) : Int)) ∧ (∃ q, Own64 w' base g n cap q ∧ SmallU q ∧ V q = V l / d) ∧ Fr (· = g) w w' := by
  have hO := Lib.hid h
  have hll := h.len
  have hgl := h.lt.2
  have hcap := h.cap
  have HS := Lib.hid hs
  clear h hs
  refine (callsIn_wide (n := 3)).1 ?_
  refine callsIn_of_wp_marks Tryz.func76 rfl trivial ?_ rfl
  simp only [Tryz.ntmps76, List.size_toArray, List.length_cons, List.length_nil, Nat.reduceAdd, Nat.reduceSub, Array.replicate_succ, Array.replicate_zero, List.push_toArray, List.append_toArray, List.nil_append, List.cons_append]
  gi_wp2_with fail
  refine ⟨trivial, ?_⟩
  refine (callsIn_wide.2 (Backward_any _ _ _ _)).mono ?_
  rintro e w' ⟨rfl, rfl⟩
  gi_wp2_with fail
  have bA := Boxed.new w 27 (.slice (some ⟨g, 0, none⟩) n cap)
  have bD := Boxed.new (w.alloc (.cells #[.slice (some ⟨g, 0, none⟩) n cap] 27)) 56 (.int .u64 (d : Int))
  have bR := Boxed.new ((w.alloc (.cells #[.slice (some ⟨g, 0, none⟩) n cap] 27)).alloc (.cells #[.int .u64 (d : Int)] 56)) 56 (.int .u64 0)
  have bC := Boxed.new (((w.alloc (.cells #[.slice (some ⟨g, 0, none⟩) n cap] 27)).alloc (.cells #[.int .u64 (d : Int)] 56)).alloc (.cells #[.int .u64 0] 56)) 27 (.slice (some ⟨g, 0, none⟩) n cap)
  simp only [World.size_alloc] at bD bR bC
  replace bA := ((bA.alloc (.cells #[.int .u64 (d : Int)] 56)).alloc (.cells #[.int .u64 0] 56)).alloc (.cells #[.slice (some ⟨g, 0, none⟩) n cap] 27)
  replace bD := (bD.alloc (.cells #[.int .u64 0] 56)).alloc (.cells #[.slice (some ⟨g, 0, none⟩) n cap] 27)
  replace bR := bR.alloc (.cells #[.slice (some ⟨g, 0, none⟩) n cap] 27)
  have hO0 := (((hO.out.alloc (.cells #[.slice (some ⟨g, 0, none⟩) n cap] 27)).alloc (.cells #[.int .u64 (d : Int)] 56)).alloc (.cells #[.int .u64 0] 56)).alloc (.cells #[.slice (some ⟨g, 0, none⟩) n cap] 27)
  have hF0 := ((((Fr.refl (· = g) w).alloc (.cells #[.slice (some ⟨g, 0, none⟩) n cap] 27)).alloc (.cells #[.int .u64 (d : Int)] 56)).alloc (.cells #[.int .u64 0] 56)).alloc (.cells #[.slice (some ⟨g, 0, none⟩) n cap] 27)
  have hsz : ((((w.alloc (.cells #[.slice (some ⟨g, 0, none⟩) n cap] 27)).alloc (.cells #[.int .u64 (d : Int)] 56)).alloc (.cells #[.int .u64 0] 56)).alloc (.cells #[.slice (some ⟨g, 0, none⟩) n cap] 27)).heap.size = w.heap.size + 4 := by simp
  generalize (((w.alloc (.cells #[.slice (some ⟨g, 0, none⟩) n cap] 27)).alloc (.cells #[.int .u64 (d : Int)] 56)).alloc (.cells #[.int .u64 0] 56)).alloc (.cells #[.slice (some ⟨g, 0, none⟩) n cap] 27) = W0 at bA bD bR bC hO0 hF0 hsz ⊢
  obtain ⟨B0, hB0⟩ : ∃ B0, B0 = W0.heap.size := ⟨_, rfl⟩
  refine range_back (w.heap.size + 1 + 1 + 1) (some ⟨g, 0, none⟩) n cap hn (fun k => l.getD k 0) rfl rfl bC.cell
    (DivLI w base g n cap l d) (fun _ _ => False) (DivLI.own (by omega)) (fun _ _ _ _ hs _ _ => hs)
    (fun k W hk hi => by
      obtain ⟨c, r, H, hO, bA, bD, bR, bC, hF⟩ := hi
      refine ⟨bC.cell, g, 0, rfl, ?_⟩
      rw [Nat.zero_add, hO.cell hk, H.out.2 k (by omega)])
    ⟨l, 0, Lib.hid ⟨?start, fun _ _ => rfl⟩, hO0, bA, bD, bR, bC, hF0⟩
    (fun k => { tmps := #[.slice (some ⟨g, 0, none⟩) n cap, .int .u64 (d : Int), .pointer (some ⟨w.heap.size, 0, none⟩), .pointer (some ⟨w.heap.size + 1, 0, none⟩), .int .u64 0, .pointer (some ⟨w.heap.size + 1 + 1, 0, none⟩), .int .i64 (k : Int), .int .u64 (l.getD k 0 : Nat), .slice (some ⟨g, 0, none⟩) n cap, .func (.func 88) #[] #[.pointer (some ⟨w.heap.size + 1 + 1 + 1, 0, none⟩)], .int .i64 (k : Int), .int .u64 (l.getD k 0 : Nat), undef, undef, undef, undef, undef, undef, undef, undef, undef, undef, undef], defers := [] }) ?assign ?body ?done ?stop
  case start =>
    rw [← hll]
    exact ⟨HS.out, rfl, hd, by simp [val]⟩
  case assign =>
    intro ll k W K hK
    gi_wp2
    exact hK
  case body =>
    rintro ll k W hk _ _ ⟨c, r, H, hO, bA, bD, bR, bC, hF⟩
    have hx := HS.out.getD (by omega) k
    have hrd : r < d := H.out.1.low
    have HN := Lib.hid (H.out.1.step (by omega) HS.out (by omega))
    have HP := H.out.2
    have HPh := Lib.hid HP
    clear HP
    have hqq := digit_lt (B := 18446744073709551616) hx hrd
    have hm : l.getD k 0 + 18446744073709551616 * r - d * ((l.getD k 0 + 18446744073709551616 * r) / d) = (l.getD k 0 + 18446744073709551616 * r) % d := by
      have := Nat.mod_add_div (l.getD k 0 + 18446744073709551616 * r) d; omega
    rw [hm] at HN
    have H62 := Lib.hid (Div64_any r (l.getD k 0) d W.drew hrd hd2 hx)
    have hrr : (l.getD k 0 + 18446744073709551616 * r) % d < d := Nat.mod_lt _ hd
    generalize (l.getD k 0 + 18446744073709551616 * r) / d = qq at HN H62 hqq
    generalize (l.getD k 0 + 18446744073709551616 * r) % d = rr at HN H62 hrr
    clear hm H
    generalize l.getD k 0 = x at H62 hx ⊢
    have hkc : (k : Int) < (cap : Int) := by omega
    gi_wp2_with fail
    refine Rd.regionIn (fun X => X.cell? ⟨w.heap.size, 0, none⟩ = some (.slice (some ⟨g, 0, none⟩) n cap) ∧ X.cell? ⟨w.heap.size + 1 + 1, 0, none⟩ = some (.int .u64 (r : Int)) ∧ X.cell? ⟨w.heap.size + 1, 0, none⟩ = some (.int .u64 (d : Int))) 11 [0, 1, 2, 3, 4, 6, 7, 8, 9] [0, 1, 2, 3, 4, 5, 6, 7, 8, 9, 10, 11] (by kernel_rfl) (by kernel_rfl) (by kernel_rfl) (by kernel_rfl) (by kernel_rfl) rfl ⟨bA.cell, bR.cell, bD.cell⟩ ?_
    have bA1 : Boxed W.drew w.heap.size 27 (.slice (some ⟨g, 0, none⟩) n cap) := bA
    have bD1 : Boxed W.drew (w.heap.size + 1) 56 (.int .u64 (d : Int)) := bD
    have bR1 : Boxed W.drew (w.heap.size + 1 + 1) 56 (.int .u64 (r : Int)) := bR
    have bC1 : Boxed W.drew (w.heap.size + 1 + 1 + 1) 27 (.slice (some ⟨g, 0, none⟩) n cap) := bC
    have hO1 : Own64 W.drew base g n cap c := hO
    have hF1 : Fr (· = g) w W.drew := hF.drew
    have hK1 : KeepsFrom B0 W W.drew := (KeepsOthers.drew _).from _
    clear bA bD bR bC hO hF
    generalize W.drew = W1 at bA1 bD1 bR1 bC1 hO1 hF1 hK1 H62 ⊢
    refine Rd.seq_float (.slice (some ⟨g, 0, none⟩) n cap) (by simp only [List.getElem?_toArray, List.getElem?_cons_zero]; rfl) rfl (by rfl) (fun X hX => by have h1 := hX.1; go_simp) ?_
    simp only [Act.put, List.setIfInBounds_toArray, List.set_cons_succ, List.set_cons_zero]
    refine Rd.seq_float (.int .i64 (k : Int)) (by simp only [List.getElem?_toArray, List.getElem?_cons_succ, List.getElem?_cons_zero]; rfl) rfl (by rfl) (fun X _ => by go_simp) ?_
    simp only [Act.put, List.setIfInBounds_toArray, List.set_cons_succ, List.set_cons_zero]
    refine Rd.seq_float (.int .u64 (r : Int)) (by simp only [List.getElem?_toArray, List.getElem?_cons_succ, List.getElem?_cons_zero]; rfl) rfl (by rfl) (fun X hX => by have h1 := hX.2.1; go_simp) ?_
    simp only [Act.put, List.setIfInBounds_toArray, List.set_cons_succ, List.set_cons_zero]
    refine Rd.seq_float (.int .u64 (x : Int)) (by simp only [List.getElem?_toArray, List.getElem?_cons_succ, List.getElem?_cons_zero]; rfl) rfl (by rfl) (fun X _ => by go_simp) ?_
    simp only [Act.put, List.setIfInBounds_toArray, List.set_cons_succ, List.set_cons_zero]
    refine Rd.seq_float (.int .u64 (d : Int)) (by simp only [List.getElem?_toArray, List.getElem?_cons_succ, List.getElem?_cons_zero]; rfl) rfl (by rfl) (fun X hX => by have h1 := hX.2.2; go_simp) ?_
    simp only [Act.put, List.setIfInBounds_toArray, List.set_cons_succ, List.set_cons_zero]
    refine Rd.seq_move (by simp only [List.getElem?_toArray, List.getElem?_cons_succ, List.getElem?_cons_zero]; rfl) rfl (by rfl) (fun K hK => ?_)
    go_simp
    refine H62.out.mono ?_
    rintro e W2 ⟨rfl, hb2⟩
    have bA2 : Boxed W2 w.heap.size 27 (.slice (some ⟨g, 0, none⟩) n cap) := (hb2.block _ bA1.lt).trans bA1
    have bD2 : Boxed W2 (w.heap.size + 1) 56 (.int .u64 (d : Int)) := (hb2.block _ bD1.lt).trans bD1
    have bR2 : Boxed W2 (w.heap.size + 1 + 1) 56 (.int .u64 (r : Int)) := (hb2.block _ bR1.lt).trans bR1
    have bC2 : Boxed W2 (w.heap.size + 1 + 1 + 1) 27 (.slice (some ⟨g, 0, none⟩) n cap) := (hb2.block _ bC1.lt).trans bC1
    have hO2 : Own64 W2 base g n cap c := (Fr.of_below (G := fun _ => False) hb2).owns hO1 (fun h => h)
    have hF2 : Fr (· = g) w W2 := hF1.trans (G' := fun _ => False) (Fr.of_below hb2) (fun _ _ h => h.elim)
    have hK2 : KeepsFrom B0 W W2 := hK1.trans ⟨hb2.size, fun i o _ hi _ => (hb2.block i (Array.getElem?_eq_some_iff.1 hi).1).trans hi⟩
    refine hK _ _ (fun _ => ⟨bA2.cell, bR2.cell, bD2.cell⟩) ?_
    clear hK K
    refine Rd.seq_float (.tuple #[.int .u64 (qq : Int), .int .u64 (rr : Int)]) (by simp only [List.getElem?_toArray, List.getElem?_cons_succ, List.getElem?_cons_zero]; rfl) rfl (by rfl) (fun X _ => by go_simp) ?_
    simp only [Act.put, List.setIfInBounds_toArray, List.set_cons_succ, List.set_cons_zero]
    refine Rd.seq_float (.int .u64 (qq : Int)) (by simp only [List.getElem?_toArray, List.getElem?_cons_succ, List.getElem?_cons_zero]; rfl) rfl (by rfl) (fun X _ => by go_simp) ?_
    simp only [Act.put, List.setIfInBounds_toArray, List.set_cons_succ, List.set_cons_zero]
    refine Rd.seq_float (.int .u64 (rr : Int)) (by simp only [List.getElem?_toArray, List.getElem?_cons_succ, List.getElem?_cons_zero]; rfl) rfl (by rfl) (fun X _ => by go_simp) ?_
    simp only [Act.put, List.setIfInBounds_toArray, List.set_cons_succ, List.set_cons_zero]
    refine Rd.seq_float (.pointer (some ⟨g, k, none⟩)) (by simp only [List.getElem?_toArray, List.getElem?_cons_succ, List.getElem?_cons_zero]; rfl) rfl (by rfl) (fun X _ => by go_simp) ?_
    simp only [Act.put, List.setIfInBounds_toArray, List.set_cons_succ, List.set_cons_zero]
    refine Rd.seq_move (by simp only [List.getElem?_toArray, List.getElem?_cons_succ, List.getElem?_cons_zero]; rfl) rfl (by rfl) (fun K hK => ?_)
    go_simp
    have hfz := hO2.frozen k
    have hcz := hO2.cell hk
    go_simp
    have bA3 := bA2.kept (hO2.stored k (.int .u64 (qq : Int))).2 (fun e => by cases e; have := hO2.lt; omega)
    have bD3 := bD2.kept (hO2.stored k (.int .u64 (qq : Int))).2 (fun e => by cases e; have := hO2.lt; omega)
    have bR3 := bR2.kept (hO2.stored k (.int .u64 (qq : Int))).2 (fun e => by cases e; have := hO2.lt; omega)
    have bC3 := bC2.kept (hO2.stored k (.int .u64 (qq : Int))).2 (fun e => by cases e; have := hO2.lt; omega)
    have hO3 := hO2.set k qq
    have hF3 : Fr (· = g) w (W2.setCell ⟨g, k, none⟩ (.int .u64 (qq : Int))) := hF2.setCell (.inr rfl) _
    have hK3 : KeepsFrom B0 W (W2.setCell ⟨g, k, none⟩ (.int .u64 (qq : Int))) := hK2.trans ((KeepsOthers.setCell _ _ _).from _)
    refine hK _ _ (fun _ => ⟨bA3.cell, bR3.cell, bD3.cell⟩) ?_
    generalize W2.setCell ⟨g, k, none⟩ (.int .u64 (qq : Int)) = W3 at bA3 bD3 bR3 bC3 hO3 hF3 hK3 ⊢
    clear hK K
    refine Rd.seq_move (by simp only [List.getElem?_toArray, List.getElem?_cons_succ, List.getElem?_cons_zero]; rfl) rfl (by rfl) (fun K hK => ?_)
    go_simp
    have hc3 := bR3.cell
    have hf3 := bR3.frozen
    go_simp
    refine hK _ _ (fun h => absurd h (by omega)) ?_
    refine Rd.seq_end ?_
    refine ⟨by rw [← hB0]; exact hK3.trans ((KeepsOthers.setCell _ _ _).from _), c.set k qq, rr, Lib.hid ⟨HN.out, fun j hj => ?_⟩, ?_, bA3.other (by omega) _, bD3.other (by omega) _, bR3.set _, bC3.other (by omega) _, hF3.setCell (.inl (by show w.heap.size ≤ w.heap.size + 1 + 1; omega)) _⟩
    · rw [Go.Dig.getD_set_ne (by omega)]; exact HPh.out j (by omega)
    · exact hO3.kept (grownBy_setCell' W3 (w.heap.size + 1 + 1) (.int .u64 (rr : Int))) (.inr (fun e => by have e2 : g = w.heap.size + 1 + 1 := (by simpa [Value.ownBlock] using e); omega))
  case done =>
    rintro D W hD ⟨c, r, H, hO, bA, bD, bR, bC, hF⟩ hK
    have hcr := bR.cell
    have HE := Lib.hid (H.out.1.done)
    have HC := Lib.hid H.out.1.small
    clear H
    gi_wp2_with fail
    refine ⟨by simp, .inl ⟨_, _, rfl, run_takeDeferred hK, ?_⟩⟩
    have hg2 := grownBy_putObj' W D (.deferred none)
    have hr2 : ∀ r, some D = some r → ∃ o : Obj, W.heap[r]? = some o ∧ o.isCells = false := fun r e => by cases e; exact ⟨_, hK, rfl⟩
    refine ⟨_, results_tmp rfl _ _ _, by rw [show V l % d = r from HE.out.2.symm]; rfl, ⟨c, owns_own hO hg2 hr2, HC.out, HE.out.1⟩, ?_⟩
    exact hF.trans (G' := fun k => k = D) (Fr.of_grown hg2 (fun k _ e => by cases e; rfl)) (fun i hi e => by omega)
  case stop =>
    rintro D c W hD h hK
    exact h.elim

/-! ### slices.Clone -/
theorem owns_form {w : World} {base : Nat} {e : TypeId} {size : Nat} {v : Value} {n : Nat} {xs : List Value} (h : w.ownsRow base e size v n xs) (hn : 0 < n) : ∃ g cap, v = .slice (some ⟨g, 0, none⟩) n cap := by
  rcases h.2 with ⟨rfl, h1⟩ | ⟨g, cap, cur, rfl, _⟩
  · omega
  · exact ⟨g, cap, rfl⟩
theorem eql26 (w : World) (a : Option Addr) (n c : Nat) : (binOp .eql 27 (.slice a n c) (.slice none 0 0)).run Tryz.prog w = .ok (.bool a.isNone) w := Lib.run_eql_slice_nil w 27 56 a n c 0 0 Tryz.underlying27
set_option maxRecDepth 100000 in
theorem Clone_nil (w : World) : Calls Tryz.prog 74 #[.slice none 0 0] w fun e w' => e = .returned (.slice none 0 0) ∧ w = w' := by
  have q26 := eql26
  go_enter Tryz.func74, Tryz.ntmps74
  go_wp2_with fail
  go_ret
  exact ⟨rfl, rfl⟩
set_option maxRecDepth 100000 in
set_option maxHeartbeats 1000000 in
theorem Clone_any (v : Value) (l : List Nat) (w : World) (h : RowU w v l) (h0 : l ≠ []) (hl : l.length ≤ 1000000) :
    Calls Tryz.prog 74 #[v] w fun e w' => ∃ g cap, e = .returned (.slice (some ⟨g, 0, none⟩) l.length cap) ∧ Own64 w' w.heap.size g l.length cap l ∧ Below w.heap.size w w' := by
  obtain ⟨i0, hi, hz0, hz1, hz2⟩ := info_parts Tryz.info56
  obtain ⟨ad, cap, rfl, hcap, h2⟩ := h
  obtain ⟨b, off, rfl, hb, hc⟩ := h2 h0
  have H0 := Lib.hid h0
  clear h2 h0
  have hpos : 0 < l.length := List.length_pos_iff.2 H0.out
  have hnews : ∀ (j : Nat) (u : Value), (l.map encU)[j]? = some u → (w.alloc (.cells #[] 56)).cell? (Addr.add ⟨b, off, none⟩ j) = some u := by
    intro j u hu
    have hj : j < l.length := by have := (List.getElem?_eq_some_iff.1 hu).1; simpa using this
    have hbb : Below w.heap.size w (w.alloc (.cells #[] 56)) := (Below.refl _ w).alloc (Nat.le_refl _) _
    rw [Addr.add_lit, hbb.cell (p := ⟨b, off + j, none⟩) hb, hc j hj]
    simp [hj, encU] at hu
    rw [← hu]
    simp [List.getD, hj]
  have hown : (w.alloc (.cells #[] 56)).ownsRow w.heap.size 56 1 (.slice (some ⟨w.heap.size, 0, none⟩) 0 0) 0 [] := World.ownsRow_lit w #[] 0 (Nat.le_refl _) (by omega) rfl
  have HN := Lib.hid hnews
  clear hnews hc
  have q26 := eql26
  go_enter Tryz.func74, Tryz.ntmps74
  go_wp2_with (at_builtin; refine wpList_append_own _ rfl _ _ 27 rfl w.heap.size 56 i0 (.int .u64 0) 1 8 Tryz.underlying27 hi hz0 hz1 hz2 rfl (by decide) _ _ _ rfl hown ⟨b, off, none⟩ l.length cap (l.map encU) rfl (by simp) HN.out (fun u hu => by simp [encU] at hu; obtain ⟨x, _, rfl⟩ := hu; rfl) (by unfold maxLen; omega) (by omega) (by simp) ?_; intro v2 w2 hown2 hgrow _)
  obtain ⟨g, cp, rfl⟩ := owns_form hown2 (by omega)
  go_ret
  rw [Nat.zero_add, List.nil_append] at hown2
  refine ⟨g, cp, by rw [Nat.zero_add]; rfl, hown2, ?_⟩
  exact ((Below.refl _ w).alloc (Nat.le_refl _) _).grown hgrow (by simp) (fun k e => by cases e; exact Nat.le_refl _)
end Go.Proofs.YtphllajedkpcbaaGreatDoor
