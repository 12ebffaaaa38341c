/-
  Contract of the law's own function Sets: the document's sets of numbers' bits. Condition: not more than twenty numbers, each of 64 bits.
-/
import Derived.Test.YtbeklkgoiigccaaTm
namespace Go.Proofs.Ytbeklkgoiigccaa
open Go.RowKit

theorem Try.info27 : (Try.prog.info? 27).map (fun i => (i.zero, i.size, i.bytes)) = some (some (.agg (arrB fun _ => false)), 64, 64) := by kernel_rfl
theorem run_buildSlice34 (w : World) (f : Nat → Bool) : (Instr.buildSlice 34 1 #[(0, .agg (arrB f))]).run Try.prog w = .ok (.slice (some ⟨w.heap.size, 0, none⟩) 1 1) (w.alloc (.cells (arrB f) 27)) := by kernel_rfl
theorem wpList_buildSlice34 {ops : Array Oper} {rest : List Oper} {o : Oper} {a : Act} {w : World} {Q : Exit → Act → World → Prop} (hg : o.guard = none) (x : Operand) (ho : o.op = .buildSlice 34 1 #[(0, x)]) (f : Nat → Bool) (hx : a.eval x = .agg (arrB f)) (h : wpList Try.prog ops Q rest (a.put o.dst (.slice (some ⟨w.heap.size, 0, none⟩) 1 1)) (w.alloc (.cells (arrB f) 27))) : wpList Try.prog ops Q (o :: rest) a w :=
  wpList_plain hg fun K hK => by
    unfold Oper.wp execOp
    rw [ho]
    simp only [List.map_toArray, List.map_cons, List.map_nil, hx, run_buildSlice34, Sem.run_bind, Sem.run_pure, Result.andThen_ok]
    exact hK _ _ h
/-- a row of sets. -/
def RowS (w : World) (v : Value) (l : List Nat) : Prop :=
  ∃ a cap, v = .slice a l.length cap ∧ (l ≠ [] → ∃ g, a = some ⟨g, 0, none⟩ ∧ g < w.heap.size ∧ ∀ d k, d < l.length → k < 64 → w.cell? ⟨g, d * 64 + k, none⟩ = some (.bool ((l.getD d 0).testBit k)))
theorem RowS.of_owns {w : World} {base : Nat} {v : Value} {l : List Nat} (h : w.ownsRow base 27 64 v l.length (srow l)) : RowS w v l := by
  rcases h.2 with ⟨rfl, h1⟩ | ⟨g, cap, cur, rfl, hbg, hg, hnc, _, hcs, htake⟩
  · exact ⟨none, 0, by rw [h1], fun hl => absurd (List.eq_nil_of_length_eq_zero h1) hl⟩
  · refine ⟨_, cap, rfl, fun _ => ⟨g, rfl, (Array.getElem?_eq_some_iff.1 hg).1, fun d k hd hk => ?_⟩⟩
    have := srow_get l d k hd hk
    rw [cell_of_row w g _ _ 27 (0, 0) hg, ← this, ← htake, List.getElem?_take, if_pos (by omega)]
    simp
theorem RowN.nil {w : World} {v : Value} (h : RowN w v []) : ∃ a cap, v = .slice a 0 cap := by
  obtain ⟨a, cap, rfl, _⟩ := h
  exact ⟨a, cap, rfl⟩
theorem own_below {w w' : World} {base : Nat} {e : TypeId} {size : Nat} {v : Value} {n : Nat} {xs : List Value} (h : w.ownsRow base e size v n xs) (hb : Below w.heap.size w w') : w'.ownsRow base e size v n xs := by
  refine ⟨h.1, ?_⟩
  rcases h.2 with h | ⟨g, cap, cur, h1, h2, h3, h4⟩
  · exact .inl h
  · exact .inr ⟨g, cap, cur, h1, h2, (hb.block g (Array.getElem?_eq_some_iff.1 h3).1).trans h3, h4⟩
set_option maxRecDepth 100000 in
set_option maxHeartbeats 4000000 in
theorem Sets_any (v : Value) (l : List Nat) (w : World) (h : RowN w v l) (hs : ∀ j, l.getD j 0 < 18446744073709551616) (h20 : l.length ≤ 20) :
    Calls Try.prog 11 #[v] w fun e w' => ∃ v', e = .returned v' ∧ w'.ownsRow w.heap.size 27 64 v' l.length (srow l) ∧ Below w.heap.size w w' := by
  obtain ⟨i0, hi, hz0, hz1, hz2⟩ := info_parts Try.info27
  obtain ⟨a, cap, rfl, hcap, h2⟩ := h
  have HC : Hid (∀ k, k < l.length → ∃ b off, a = some ⟨b, off, none⟩ ∧ b < w.heap.size ∧ w.cell? ⟨b, off + k, none⟩ = some (.int .u64 (l.getD k 0 : Nat))) := Lib.hid (fun k hk => by
    obtain ⟨b, off, e, hb, hc⟩ := h2 (by rintro rfl; simp at hk)
    exact ⟨b, off, e, hb, hc k hk⟩)
  clear h2
  go_enter Try.func11, Try.ntmps11
  go_wp2_with fail
  go_loopw [3, 8] (fun v i wr => ∃ (k : Nat) (a : Option Addr) (c : Nat), k ≤ l.length ∧ i = .int .i64 k ∧ v = .slice a k c ∧ wr.ownsRow w.heap.size 27 64 (.slice a k c) k (srow (l.take k)) ∧ Below w.heap.size w wr) (fun _ i _ => l.length - (intOf i).toNat)
  case atStart => exact ⟨0, none, 0, by omega, rfl, rfl, World.ownsRow_nil _ _ _ _, Below.refl _ w⟩
  case round =>
    obtain ⟨k, a', c', hk, rfl, rfl, hown, hb⟩ := hrel
    by_cases hlt : k < l.length
    · obtain ⟨b, off, rfl, hbl, hc0⟩ := HC.out k hlt
      have hx := (hb.cell (p := ⟨b, off + k, none⟩) hbl).trans hc0
      have hxs := hs k
      have HD : Hid (srow (l.take (k + 1)) = srow (l.take k) ++ (arrB (l.getD k 0).testBit).toList) := Lib.hid (by rw [take_snoc hlt, srow_snoc])
      generalize l.getD k 0 = x at *
      have hnews : ∀ (w2 : World) (j : Nat) (y : Value), (arrB x.testBit).toList[j]? = some y → (w2.alloc (.cells (arrB x.testBit) 27)).cell? (Addr.add ⟨w2.heap.size, 0, none⟩ j) = some y := by
        intro w2 j y hj
        rw [Addr.add_lit, Nat.zero_add, cell_of_row _ w2.heap.size j _ 27 (0, 0) (heap_alloc_new w2 _)]
        simpa using hj
      have hone : ∀ u ∈ (arrB x.testBit).toList, u.oneCell' = true := by
        intro u hu
        have := arrB_one x.testBit
        rw [Array.all_eq_true_iff_forall_mem] at this
        exact this u (by simpa using hu)
      go_wp2_with (first | (go_at_call 16; refine (Bits_any x _ hxs).mono ?_; rintro e w2 ⟨rfl, hb2⟩; have hown2 : w2.ownsRow w.heap.size 27 64 (.slice a' k c') k (srow (l.take k)) := own_below hown hb2; have hbb := hb.trans (hb2.mono hb.size)) | (refine wpList_buildSlice34 rfl _ rfl _ rfl ?_) | (at_builtin; refine wpList_append_own _ rfl _ _ 34 rfl w.heap.size 27 i0 (.agg (arrB fun _ => false)) 64 64 Try.underlying34 hi hz0 hz1 hz2 (arrB_size _) (by decide) _ k _ rfl (hown2.alloc _) ⟨w2.heap.size, 0, none⟩ 1 1 (arrB x.testBit).toList rfl (arrB_len _) (hnews w2) hone (by unfold maxLen; omega) (by omega) (Nat.le_trans hbb.size (by simp)) ?_; intro v' w3 hown' hgrow _; obtain ⟨a3, c3, rfl⟩ := own_slice hown'))
      have hb3 : Below w.heap.size w w3 := (hbb.alloc hbb.size _).grown hgrow (Nat.le_trans hbb.size (by simp)) (fun j ej => (hown2.lt j ej).1)
      exact ⟨⟨k + 1, a3, c3, by omega, by go_num, rfl, by rw [HD.out]; exact hown', hb3⟩, by simp [intOf]; omega⟩
    · obtain rfl : k = l.length := by omega
      rw [List.take_length] at hown
      go_wp2_with fail
      go_ret
      exact ⟨_, rfl, hown, hb⟩
end Go.Proofs.Ytbeklkgoiigccaa
