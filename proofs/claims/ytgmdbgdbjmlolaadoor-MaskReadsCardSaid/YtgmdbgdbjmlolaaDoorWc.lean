/-
  The contract of (mask.Set).Text: the text of any set. Condition: the table of math/bits lies as its initialiser lays it.
-/
import Derived.Test.YtgmdbgdbjmlolaaDoorWb
import Derived.Test.YtgmdbgdbjmlolaaDoorRd
import Derived.RangeFuncBox
import Derived.Maps.AppendAt
import Derived.Lib.SmallJoins
namespace Go.Proofs.YtgmdbgdbjmlolaaDoor
open Go.RowKit Go.Shelf
attribute [local go_sem] Oper.semAt_some

theorem Tryd.info9 : (Tryd.prog.info? 9).map (fun i => (i.zero, i.size, i.bytes)) = some (some (.string ⟨#[]⟩), 1, 16) := by kernel_rfl

/-- a text as a value. -/
def encS (l : List UInt8) : Value := .string ⟨l.toArray⟩

set_option maxHeartbeats 400000 in
theorem Text_zero (w : World) : Calls Tryd.prog 28 #[.int .u64 0] w fun e w' => e = .returned (encS (textOf 0)) ∧ Below w.heap.size w w' := by
  have H := Lib.hid (show textOf 0 = [110, 111, 110, 101] by simp [textOf])
  go_enter Tryd.func28, Tryd.ntmps28
  go_wp2
  go_ret
  exact ⟨by rw [H.out]; rfl, (Below.refl _ _).alloc (Nat.le_refl _) _⟩

/-- strings.Join of runs that a slice of the call's own holds, a comma between each two. -/
theorem Join_runs (base g cap : Nat) (rs : List (List UInt8)) (W : World) (hrow : W.ownsRow base 9 1 (.slice (some ⟨g, 0, none⟩) rs.length cap) rs.length (rs.map encS)) (hlen : (Lib.join rs [44]).length ≤ 140737488355328) (hN : rs.length ≤ 64) :
    Calls Tryd.prog 40 #[.slice (some ⟨g, 0, none⟩) rs.length cap, .string ⟨#[44]⟩] W fun e w' => e = .returned (encS (Lib.join rs [44])) ∧ Below W.heap.size W w' := by
  have hm : (rs.map fun l => (⟨l.toArray⟩ : ByteArray)).map (fun b => b.data.toList) = rs := by
    rw [List.map_map]; conv => rhs; rw [← List.map_id rs]
    apply List.map_congr_left; intro l _; simp
  have hl : (rs.map fun l => (⟨l.toArray⟩ : ByteArray)).length = rs.length := List.length_map _
  obtain ⟨hlt, hcap⟩ : g < W.heap.size ∧ rs.length ≤ cap := by
    rcases hrow.2 with ⟨h, _⟩ | ⟨g', cap', cur, h, _, hb, h1, _⟩
    · cases h
    · cases h; exact ⟨(Array.getElem?_eq_some_iff.1 hb).1, h1⟩
  have h := Tryd.strings_Join g 0 cap (rs.map fun l => (⟨l.toArray⟩ : ByteArray)) ⟨#[44]⟩ W (fun j x hx => by
    rw [List.getElem?_map] at hx
    cases hr : rs[j]? with
    | none => rw [hr] at hx; cases hx
    | some l =>
      rw [hr] at hx
      cases hx
      have hj : j < rs.length := (List.getElem?_eq_some_iff.1 hr).1
      have h3 := hrow.cellAt j (by omega)
      rw [List.getElem?_map, hr] at h3
      rw [Nat.zero_add]; exact h3) hlt (by rw [hl]; omega) (by rw [hl]; exact hcap) (by rw [hm]; exact hlen)
  rw [hl, hm] at h
  exact h

/-- what the loop of Text keeps. -/
def TextI (w : World) (s : Nat) (pre : List Core) (W : World) : Prop :=
  (∃ v, Boxed W (w.heap.size + 1) 57 v ∧ W.ownsRow w.heap.size 9 1 v (runsOf s (pre.map (·.val))).length ((runsOf s (pre.map (·.val))).map encS) ∧ True) ∧ (Boxed W w.heap.size 25 (.int .u64 s) ∧ Below w.heap.size w W)

set_option maxRecDepth 100000 in
set_option maxHeartbeats 2000000 in
theorem Text_more (s : Nat) (h0 : s ≠ 0) (hs : s < 18446744073709551616) (xs : List Core) (hxs : xs.map (·.val) = coresOf s) (w : World) (hT : Tab w) (hw : 0 < w.heap.size) :
    Calls Tryd.prog 28 #[.int .u64 s] w fun e w' => e = .returned (encS (textOf s)) ∧ Below w.heap.size w w' := by
  obtain ⟨i0, hi, hz0, hz1, hz2⟩ := info_parts Tryd.info9
  have hs0 : ((s : Int) == 0) = false := by simp; omega
  have hxl : xs.length ≤ 64 := by have h1 := cores_len s; rw [← hxs, List.length_map] at h1; exact h1
  have H0 := Lib.hid h0
  have HX := Lib.hid hxs
  clear h0 hxs
  refine (callsIn_wide (n := 3)).1 ?_
  refine callsIn_of_wp_marks Tryd.func28 rfl trivial ?_ rfl
  simp only [Tryd.ntmps28, List.size_toArray, List.length_cons, List.length_nil, Nat.reduceAdd, Nat.reduceSub, Array.replicate_succ, Array.replicate_zero, List.push_toArray, List.append_toArray, List.nil_append, List.cons_append]
  gi_wp2_with fail
  refine ⟨trivial, ?_⟩
  refine (callsIn_wide.2 (Cores_any s _)).mono ?_
  rintro e w' ⟨rfl, rfl⟩
  gi_wp2_with fail
  have bS := Boxed.new w 25 (.int .u64 s)
  have bR := Boxed.new (w.alloc (.cells #[.int .u64 s] 25)) 57 (.slice none 0 0)
  rw [World.size_alloc] at bR
  have bC := Boxed.new ((w.alloc (.cells #[.int .u64 s] 25)).alloc (.cells #[.slice none 0 0] 57)) 25 (.int .u64 s)
  rw [World.size_alloc, World.size_alloc] at bC
  have hB0 : Below w.heap.size w (((w.alloc (.cells #[.int .u64 s] 25)).alloc (.cells #[.slice none 0 0] 57)).alloc (.cells #[.int .u64 s] 25)) := (((Below.refl _ w).alloc (Nat.le_refl _) _).alloc (by simp) _).alloc (by simp; omega) _
  refine wpIn_rangeFunc_ownG rfl (by omega) (gf := 37) (lb := #[.pointer (some ⟨w.heap.size + 1 + 1, 0, none⟩)]) rfl trivial (enters_of Tryd.func37 (by kernel_rfl) rfl)
    (Cores_stops (3 - 1) (w.heap.size + 1 + 1) w.heap.size hw s hs xs HX.out _ (by simp) bC.cell (hT.below hB0 hw)) belowK_t (belowK_b (by simp; omega)) (Below.refl _ _) (fun _ => rfl)
    (TextI w s) (fun _ _ _ => False)
    (OwnFrom.and (Own.from (holdsRow_own w.heap.size (w.heap.size + 1) 57 9 1 (fun pre : List Core => (runsOf s (pre.map (·.val))).length) (fun pre => (runsOf s (pre.map (·.val))).map encS) (fun _ _ => True)) _) (OwnFrom.and (Own.from (boxed_own _ _ _) _) (ownFrom_below (Nat.le_refl _) (by simp; omega))))
    (fun _ _ _ _ _ hs _ _ => hs)
    ⟨⟨_, bR.alloc _, World.ownsRow_nil _ _ _ _, trivial⟩, (bS.alloc _).alloc _, hB0⟩
    (fun x => { tmps := #[.int .u64 s, .pointer (some ⟨w.heap.size, 0, none⟩), .string ⟨#[]⟩, .pointer (some ⟨w.heap.size + 1, 0, none⟩), .int .i64 (x.val : Int), .int .u64 s, .bool false, .int .u64 s, .func (.func 37) #[] #[.pointer (some ⟨w.heap.size + 1 + 1, 0, none⟩)], .int .i64 (x.val : Int), undef, undef, undef, undef, undef, undef, undef, undef, undef, undef, undef, undef, undef, undef], defers := [] }) ?assign ?body ?done ?stop
  case assign =>
    intro l x W K hK
    gi_wp2
    exact hK
  case body =>
    rintro l pre x W ⟨⟨v, hv, hrow, _⟩, hv2, hB⟩ hlt
    have hc := hv.cell
    have hc2 := hv2.cell
    have hx64 : x.val < 64 := x.isLt
    have hpl := runs_len s (pre.map (·.val))
    rw [List.length_map] at hpl
    gi_wp2_with fail
    refine ⟨trivial, ?_⟩
    refine (CallsIn.inRound l (callsIn_wide.2 (Has_any s _ W hs))).mono ?_
    rintro e w' ⟨rfl, rfl⟩
    cases hh : hasB s ((x.val : Int) - 1)
    · have HH := Lib.hid hh
      clear hh
      have hre := runEndN_lt hs hx64
      gi_wp2_with fail
      refine Rd.regionIn (fun X => X.cell? ⟨w.heap.size + 1, 0, none⟩ = some v ∧ X.cell? ⟨w.heap.size, 0, none⟩ = some (.int .u64 s)) 8 [0, 1, 2, 3] [0, 1, 2, 3, 4, 5, 6, 7, 8] (by kernel_rfl) (by kernel_rfl) (by kernel_rfl) (by kernel_rfl) (by kernel_rfl) rfl ⟨hc, hc2⟩ ?_
      have hvD : Boxed W.drew (w.heap.size + 1) 57 v := hv
      have hv2D : Boxed W.drew w.heap.size 25 (.int .u64 s) := hv2
      have hrowD : W.drew.ownsRow w.heap.size 9 1 v (runsOf s (pre.map (·.val))).length ((runsOf s (pre.map (·.val))).map encS) := hrow
      have hk0 : KeepsOthers W W.drew := KeepsOthers.drew _
      have hb0 : Below w.heap.size W W.drew := (Below.refl _ _).drew
      generalize W.drew = W1 at hvD hv2D hrowD hk0 hb0 ⊢
      have hc1 := hvD.cell
      have hc3 := hv2D.cell
      have hsz : w.heap.size ≤ W1.heap.size := Nat.le_trans hB.size hb0.size
      refine Rd.seq_float v rfl rfl rfl (fun X ⟨hX, _⟩ => by go_simp) ?_
      refine Rd.seq_float (.int .i64 (x.val : Int)) rfl rfl rfl (fun X _ => by go_simp) ?_
      refine Rd.seq_float (.int .u64 s) rfl rfl rfl (fun X ⟨_, hX⟩ => by go_simp) ?_
      refine Rd.seq_float (.int .i64 (x.val : Int)) rfl rfl rfl (fun X _ => by go_simp) ?_
      refine Rd.seq_move rfl rfl rfl (fun K hK => ?_)
      go_simp
      refine (runEnd_any s x.val W1 hs hx64).mono ?_
      rintro e w' ⟨rfl, rfl⟩
      refine hK _ _ (fun _ => ⟨hc1, hc3⟩) ?_
      clear hK K
      refine Rd.seq_move rfl rfl rfl (fun K hK => ?_)
      go_simp
      refine (runText_any x.val (runEndN s x.val) W1 hx64 hre).mono ?_
      rintro e w' ⟨rfl, rfl⟩
      refine hK _ _ (fun _ => ⟨hc1, hc3⟩) ?_
      clear hK K
      refine Rd.seq_move rfl rfl rfl (fun K hK => ?_)
      go_simp
      refine hK _ _ (fun _ => ⟨(hvD.alloc _).cell, (hv2D.alloc _).cell⟩) ?_
      clear hK K
      refine Rd.seq_move rfl rfl rfl (fun K hK => ?_)
      refine wp_append_own _ (.tmp 14) (.tmp 20) 57 rfl w.heap.size 9 i0 (.string ⟨#[]⟩) 1 16 Tryd.underlying57 hi hz0 hz1 hz2 rfl (by decide) v _ _ rfl (hrowD.alloc _) ⟨W1.heap.size, 0, none⟩ 1 1 [encS (runTextL x.val (runEndN s x.val))] rfl rfl (cell_one_new _ _ _) (by simp [Value.oneCell', encS]) (by unfold maxLen; omega) (by omega) (by simp; omega) ?_
      intro v' w1 hown' hgrow _
      obtain ⟨g', cap', rfl⟩ := ownsRow_succ hown'
      obtain ⟨hv1, hv3, hr2, hk2, hb2⟩ := hvD.appended (by decide) hrowD hsz (Nat.le_succ _) hown' hgrow
      have hv21 : Boxed w1 w.heap.size 25 (.int .u64 s) := (hv2D.alloc _).kept hgrow (hv2D.not_row (by decide) hrowD)
      have hc11 := hv1.cell
      have hf11 := hv1.frozen
      refine hK _ _ (fun _ => ⟨hv1.cell, hv21.cell⟩) ?_
      clear hK K
      refine Rd.seq_move rfl rfl rfl (fun K hK => ?_)
      go_simp
      refine hK _ _ (fun h => absurd h (by omega)) ?_
      refine Rd.seq_end ?_
      exact ⟨(hk0.trans hk2).from _, hb0.trans hb2, ⟨_, hv3, by rw [List.map_append, List.map_cons, List.map_nil, runs_hit HH.out]; simpa using hr2, trivial⟩, hv21.other (by omega) _, (hB.trans hb0).trans hb2⟩
    · have HH := Lib.hid hh
      clear hh
      gi_wp2_with fail
      exact ⟨KeepsFrom.refl _ _, Below.refl _ _, ⟨v, hv, by rw [List.map_append, List.map_cons, List.map_nil, runs_miss HH.out]; exact hrow, trivial⟩, hv2, hB⟩
  case done =>
    rintro D ys W hD rfl ⟨⟨v, hv, hrow, _⟩, hv2, hB⟩ hK
    have hc := hv.cell
    have hne := runs_ne H0.out hs
    have HR := Lib.hid (show runsOf s (ys.map (·.val)) = runsOf s (coresOf s) by rw [HX.out])
    rw [HR.out] at hrow
    have htx := Lib.hid (show textOf s = Lib.join (runsOf s (coresOf s)) [44] by unfold textOf; rw [if_neg H0.out])
    have hjl : (Lib.join (runsOf s (coresOf s)) [44]).length ≤ 140737488355328 := by
      have h1 := join_len _ (runs_small hs (fun c hc => cores_lt hc) : ∀ x ∈ runsOf s (coresOf s), x.length ≤ 5)
      have h2 := runs_len s (coresOf s)
      have h3 := cores_len s
      omega
    have hN : (runsOf s (coresOf s)).length ≤ 64 := Nat.le_trans (runs_len s _) (cores_len s)
    generalize runsOf s (coresOf s) = rs at hrow htx hjl hne hN
    obtain ⟨g, cap, rfl⟩ := Go.Joins.ownsRow_form hrow (List.length_pos_iff.2 hne)
    have hD2 : w.heap.size ≤ D := by simp at hD; omega
    have HK := Lib.hid hK
    clear hK
    gi_wp2_with fail
    refine ⟨trivial, ?_⟩
    refine (callsIn_wide.2 (Join_runs _ g cap rs W hrow hjl hN)).mono ?_
    rintro e W2 ⟨rfl, hb2⟩
    have hDW : W2.heap[D]? = some (.deferred (some [])) := by
      have hlt : D < W.heap.size := (Array.getElem?_eq_some_iff.1 HK.out).1
      rw [hb2.block D hlt]; exact HK.out
    gi_wp2_with fail
    refine ⟨by simp, .inl ⟨_, _, rfl, run_takeDeferred hDW, ?_⟩⟩
    exact ⟨_, results_tmp rfl _ _ _, by rw [htx.out]; rfl, (hB.trans (hb2.mono hB.size)).trans (belowK_b (w := w) (Nat.le_refl _) W2 D _ _ hD2 hDW rfl rfl)⟩
  case stop =>
    rintro D c pre W _ _ h _
    exact h.elim

/-- the text of any set. -/
theorem Text_any (s : Nat) (hs : s < 18446744073709551616) (w : World) (hT : Tab w) (hw : 0 < w.heap.size) :
    Calls Tryd.prog 28 #[.int .u64 s] w fun e w' => e = .returned (encS (textOf s)) ∧ Below w.heap.size w w' := by
  by_cases h0 : s = 0
  · subst h0; exact Text_zero w
  · refine Text_more s h0 hs ((coresOf s).pmap (fun c h => (⟨c, h⟩ : Core)) (fun c hc => cores_lt hc)) ?_ w hT hw
    rw [List.map_pmap]; simp
end Go.Proofs.YtgmdbgdbjmlolaaDoor
