/-
  Contracts of nat.appendGroup and of slices.Reverse at bytes, over decimal digits; facts on groups of digits. Conditions: not more than a hundred thousand digits; the row is the call's own.
-/
import Derived.Test.YtnfoblmfjldheaaDoorNc
import Derived.Deep.LoopGhost
import Derived.Laws.BytesArg
namespace Go.Proofs.YtnfoblmfjldheaaDoor
open Go.RowKit Go.Dig Go.Shelf Go.Proofs

/-- so many decimal digits, the least first. -/
def decs : Nat → Nat → List Nat
  | 0, _ => []
  | k + 1, n => n % 10 :: decs k (n / 10)
theorem decs_len : ∀ (k n : Nat), (decs k n).length = k
  | 0, _ => rfl
  | k + 1, n => by rw [decs, List.length_cons, decs_len k]
theorem decs_small : ∀ (k n : Nat), Small 10 (decs k n)
  | 0, _ => Small.nil
  | k + 1, n => Small.cons (Nat.mod_lt _ (by omega)) (decs_small k _)
theorem decs_val : ∀ (k n : Nat), val 10 (decs k n) = n % 10 ^ k
  | 0, n => by simp [decs, val, Nat.mod_one]
  | k + 1, n => by
    rw [decs, val, decs_val k, Nat.pow_succ, Nat.mul_comm (10 ^ k) 10, Nat.mod_mul]
/-- a decimal digit as a byte. -/
def encD (d : Nat) : Value := .int .u8 ((48 + d : Nat) : Int)
theorem Tryd.info5 : (Tryd.prog.info? 5).map (fun i => (i.zero, i.size, i.bytes)) = some (some (.int .u8 0), 1, 1) := by kernel_rfl

set_option maxRecDepth 100000 in
set_option maxHeartbeats 2000000 in
theorem appendGroup_any (base : Nat) (v : Value) (ds : List Nat) (grp : Nat) (w : World) (h : w.ownsRow base 5 1 v ds.length (ds.map encD)) (hg : grp < 18446744073709551616) (hl : ds.length ≤ 100000) (hb : base ≤ w.heap.size) :
    Calls Tryd.prog 62 #[v, .int .u64 (grp : Int)] w fun e w' => ∃ v', e = .returned v' ∧ w'.ownsRow base 5 1 v' (ds ++ decs 19 grp).length ((ds ++ decs 19 grp).map encD) ∧ Below base w w' := by
  obtain ⟨i0, hi, hz0, hz1, hz2⟩ := info_parts Tryd.info5
  generalize hX : ds ++ decs 19 grp = X
  have HX := Lib.hid hX
  have HO := Lib.hid h
  clear hX h
  go_enter Tryd.func62, Tryd.ntmps62
  go_wp2_with fail
  go_loopw [0, 1, 5] (fun a b c wr => ∃ (i n : Nat) (es : List Nat), i ≤ 19 ∧ n < 18446744073709551616 ∧ b = .int .u64 (n : Int) ∧ c = .int .i64 (i : Int) ∧ wr.ownsRow base 5 1 a es.length (es.map encD) ∧ es.length = ds.length + i ∧ Hid (es ++ decs (19 - i) n = X) ∧ Below base w wr) (fun _ _ c _ => 19 - (intOf c).toNat)
  case atStart => exact ⟨0, grp, ds, by omega, hg, rfl, rfl, HO.out, by omega, Lib.hid HX.out, Below.refl _ _⟩
  case round =>
    obtain ⟨i, n, es, hi19, hn, rfl, rfl, hrow, hel, HE, hbl⟩ := hrel
    have hbs := hbl.size
    by_cases hlt : i < 19
    · have HE2 : Hid (Hid ((es ++ [n % 10]) ++ decs (19 - (i + 1)) (n / 10) = X)) := Lib.hid (Lib.hid (by rw [← HE.out, show 19 - i = (19 - (i + 1)) + 1 by omega, decs]; simp))
      clear HE
      have hdl : n / 10 < 18446744073709551616 := by omega
      have HC : Hid (48 + (n : Int) % 10 = ((48 + n % 10 : Nat) : Int)) := Lib.hid (by omega)
      go_wp2_with (at_builtin; refine wpList_append_own _ rfl _ _ 85 rfl base 5 i0 (.int .u8 0) 1 1 Tryd.underlying85 hi hz0 hz1 hz2 rfl (by decide) u0 _ _ rfl (hrow.alloc _) ⟨wr.heap.size, 0, none⟩ 1 1 [.int .u8 (48 + (n : Int) % 10)] rfl rfl (cell_one_new _ _ _) (by simp [Value.oneCell']) (by unfold maxLen; omega) (by omega) (by simp; omega) ?_; intro v2 w2 hown2 hgrow _)
      refine ⟨⟨i + 1, n / 10, es ++ [n % 10], by omega, hdl, rfl, by go_num, ?_, by simp; omega, HE2.out, (hbl.alloc (by omega) _).grown hgrow (by simp; omega) (fun j ej => (hrow.lt j ej).1)⟩, ?_⟩
      · rw [List.length_append, List.map_append]
        have e1 : [n % 10].map encD = [.int .u8 (48 + (n : Int) % 10)] := by rw [HC.out]; rfl
        rw [e1]
        exact hown2
      · simp only [intOf]; omega
    · have h19 : i = 19 := by omega
      subst h19
      go_wp2_with fail
      go_ret
      have e : es = X := by have := HE.out; rw [Nat.sub_self, decs, List.append_nil] at this; exact this
      refine ⟨_, rfl, ?_, hbl⟩
      rw [← e]
      exact hrow

/-! ### slices.Reverse -/
/-- what the loop keeps: both ends are turned as far as i. -/
def RevI (ds c : List Nat) (i : Nat) : Prop := c.length = ds.length ∧ ∀ k, k < ds.length → c.getD k 0 = if k < i ∨ ds.length - 1 - i < k then ds.getD (ds.length - 1 - k) 0 else ds.getD k 0
theorem RevI.zero (ds : List Nat) : RevI ds ds 0 := ⟨rfl, fun k hk => by rw [if_neg (by omega)]⟩
theorem RevI.step {ds c : List Nat} {i : Nat} (h : RevI ds c i) (hi : i < ds.length - 1 - i) :
    RevI ds ((c.set i (c.getD (ds.length - 1 - i) 0)).set (ds.length - 1 - i) (c.getD i 0)) (i + 1) := by
  obtain ⟨h1, h2⟩ := h
  refine ⟨by simp [h1], fun k hk => ?_⟩
  have ei := h2 i (by omega)
  have ej := h2 (ds.length - 1 - i) (by omega)
  rw [if_neg (by omega)] at ei ej
  by_cases hkj : k = ds.length - 1 - i
  · subst hkj
    rw [getD_set_lt (by simp [h1]; omega), if_pos (by omega), ei]
    congr 1; omega
  · rw [Go.Dig.getD_set_ne (fun e => hkj e.symm)]
    by_cases hki : k = i
    · subst hki
      rw [getD_set_lt (by rw [h1]; omega), if_pos (by omega), ej]
    · rw [Go.Dig.getD_set_ne (fun e => hki e.symm), h2 k hk]
      by_cases hc : k < i ∨ ds.length - 1 - i < k
      · rw [if_pos hc, if_pos (by omega)]
      · rw [if_neg hc, if_neg (by omega)]
theorem RevI.done {ds c : List Nat} {i : Nat} (h : RevI ds c i) (hi : ds.length ≤ 1 + i + i) : c = ds.reverse := by
  obtain ⟨h1, h2⟩ := h
  apply List.ext_getElem?
  intro k
  by_cases hk : k < ds.length
  · have e := h2 k hk
    have e1 : c.getD k 0 = c[k] := by simp [List.getD, show k < c.length by omega]
    have e2 : ds.getD (ds.length - 1 - k) 0 = ds.reverse[k]'(by simpa using hk) := by
      simp [List.getD, show ds.length - 1 - k < ds.length by omega]
    rw [List.getElem?_eq_getElem (by omega), List.getElem?_eq_getElem (by simpa using hk), ← e1, ← e2, e]
    by_cases hc : k < i ∨ ds.length - 1 - i < k
    · rw [if_pos hc]
    · rw [if_neg hc, show ds.length - 1 - k = k by omega]
  · rw [List.getElem?_eq_none (by omega), List.getElem?_eq_none (by simp; omega)]

set_option maxRecDepth 100000 in
theorem Reverse_nil (cap : Nat) (a : Option Addr) (w : World) : Calls Tryd.prog 64 #[.slice a 0 cap] w fun e w' => e = .returned (.tuple #[]) ∧ w = w' := by
  go_enter Tryd.func64, Tryd.ntmps64
  go_wp2_with fail
  go_loop [2, 3] (fun a b => a = .int .i64 0 ∧ b = .int .i64 (-1)) (fun _ _ => 0)
  case atStart => exact ⟨rfl, rfl⟩
  case round =>
    obtain ⟨rfl, rfl⟩ := hrel
    go_wp2_with fail
    go_end0
    exact ⟨rfl, rfl⟩

set_option maxRecDepth 100000 in
set_option maxHeartbeats 4000000 in
theorem Reverse_any (base g cap : Nat) (ds : List Nat) (w : World) (h : w.ownsRow base 5 1 (.slice (some ⟨g, 0, none⟩) ds.length cap) ds.length (ds.map encD)) (hl : ds.length ≤ 100000) (hp : 0 < ds.length) :
    Calls Tryd.prog 64 #[.slice (some ⟨g, 0, none⟩) ds.length cap] w fun e w' => e = .returned (.tuple #[]) ∧ w'.ownsRow base 5 1 (.slice (some ⟨g, 0, none⟩) ds.length cap) ds.length (ds.reverse.map encD) ∧ Fr (· = g) w w' := by
  obtain ⟨n, hn⟩ : ∃ n, n = ds.length := ⟨_, rfl⟩
  rw [← hn] at h hl hp ⊢
  have HN := Lib.hid hn
  have HO := Lib.hid h
  have hcap : n ≤ cap := by
    rcases h.2 with ⟨h', _⟩ | ⟨g', cap', cur, h', hb, hg, h1, _⟩
    · cases h'
    · cases h'; exact h1
  clear h hn
  go_enter Tryd.func64, Tryd.ntmps64
  go_wp2_with fail
  go_loopw [2, 3] (fun a b wr => ∃ (i : Nat) (c : List Nat), a = .int .i64 (i : Int) ∧ b = .int .i64 ((n : Int) - 1 - i) ∧ i ≤ n ∧ Hid (RevI ds c i) ∧ wr.ownsRow base 5 1 (.slice (some ⟨g, 0, none⟩) n cap) n (c.map encD) ∧ Fr (· = g) w wr) (fun a _ _ => n - (intOf a).toNat)
  case atStart => exact ⟨0, ds, rfl, by go_num, by omega, Lib.hid (RevI.zero ds), HO.out, Fr.refl _ _⟩
  case round =>
    obtain ⟨i, c, rfl, rfl, hin, HR, hO, hF⟩ := hrel
    by_cases hlt : i < n - 1 - i
    · obtain ⟨j, hj⟩ : ∃ j, j = n - 1 - i := ⟨_, rfl⟩
      have hji : (n : Int) - 1 - i = (j : Int) := by omega
      have HR2 := Lib.hid (Lib.hid (HR.out.step (by rw [← HN.out]; exact hlt)))
      rw [← HN.out, ← hj] at HR2
      have hcl : c.length = n := by rw [HR.out.1, HN.out]
      have ci : wr.cell? ⟨g, i, none⟩ = some (.int .u8 ((48 + c.getD i 0 : Nat) : Int)) := by
        rw [hO.cellAt i (by omega)]; simp [List.getD, show i < c.length by omega, encD]
      have cj : wr.cell? ⟨g, j, none⟩ = some (.int .u8 ((48 + c.getD j 0 : Nat) : Int)) := by
        rw [hO.cellAt j (by omega)]; simp [List.getD, show j < c.length by omega, encD]
      have fi := hO.frozenAt i
      have fj := hO.frozenAt j
      have hjn : j < n := by omega
      have hin2 : i < n := by omega
      generalize c.getD i 0 = x at ci HR2
      generalize c.getD j 0 = y at cj HR2
      have hij : i < j := by omega
      have HJ := Lib.hid hji
      clear hj HR hlt
      rw [hji]
      clear hji
      have HS := Lib.hid (hO.stored i (.int .u8 (48 + (y : Int))))
      have HT := Lib.hid (HS.out.1.stored j (.int .u8 (48 + (x : Int))))
      go_wp2_with fail
      go_region
      have hO2 := HT.out.1.drew
      have hF2 : Fr (· = g) w ((wr.setCell ⟨g, i, none⟩ (.int .u8 (48 + (y : Int)))).setCell ⟨g, j, none⟩ (.int .u8 (48 + (x : Int)))).drew := ((hF.setCell (.inr rfl) _).setCell (.inr rfl) _).drew
      clear HS HT ci cj fi fj hO hF
      generalize ((wr.setCell ⟨g, i, none⟩ (.int .u8 (48 + (y : Int)))).setCell ⟨g, j, none⟩ (.int .u8 (48 + (x : Int)))).drew = W2 at hO2 hF2 ⊢
      go_wp2_with fail
      go_round
      case rel =>
        refine ⟨i + 1, _, by go_num, by have := HJ.out; go_num, by omega, HR2.out, ?_, hF2⟩
        have e : ((c.set i y).set j x).map encD = ((c.map encD).set i (.int .u8 (48 + (y : Int)))).set j (.int .u8 (48 + (x : Int))) := by
          rw [List.map_set, List.map_set]; simp [encD]
        rw [e]
        exact hO2
      case measure => simp [intOf]; omega
    · go_wp2_with fail
      go_end0
      refine ⟨rfl, ?_, hF⟩
      rw [← HR.out.done (by have := HN.out; omega)]
      exact hO
end Go.Proofs.YtnfoblmfjldheaaDoor
