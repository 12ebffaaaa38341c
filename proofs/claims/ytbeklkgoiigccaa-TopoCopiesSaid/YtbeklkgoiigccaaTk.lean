/-
  Contracts of the program's Copy and New. Conditions: the topology is one; the sets are numbers of 64 bits.
-/
import Derived.Test.YtbeklkgoiigccaaTj
namespace Go.Proofs.Ytbeklkgoiigccaa
open Go.RowKit

theorem Try.info74 : (Try.prog.info? 74).map (fun i => (i.zero, i.size, i.bytes)) = some (some (.agg #[.int .u64 0, .int .u64 0]), 2, 16) := by kernel_rfl
/-- a row of numbers of 64 bits. -/
def RowN (w : World) (v : Value) (l : List Nat) : Prop :=
  ∃ a cap, v = .slice a l.length cap ∧ l.length ≤ cap ∧ (l ≠ [] → ∃ b off, a = some ⟨b, off, none⟩ ∧ b < w.heap.size ∧ ∀ j, j < l.length → w.cell? ⟨b, off + j, none⟩ = some (.int .u64 (l.getD j 0 : Nat)))
theorem RowN.below {w w' : World} {v : Value} {l : List Nat} (h : RowN w v l) (hb : Below w.heap.size w w') : RowN w' v l := by
  obtain ⟨a, cap, rfl, h1, h2⟩ := h
  refine ⟨a, cap, rfl, h1, fun hl => ?_⟩
  obtain ⟨b, off, rfl, h3, h4⟩ := h2 hl
  exact ⟨b, off, rfl, Nat.lt_of_lt_of_le h3 hb.size, fun j hj => (hb.cell (p := ⟨b, off + j, none⟩) h3).trans (h4 j hj)⟩
theorem own_slice {w : World} {base : Nat} {e : TypeId} {size : Nat} {v : Value} {n : Nat} {xs : List Value} (h : w.ownsRow base e size v n xs) : ∃ a cap, v = .slice a n cap := by
  rcases h.2 with ⟨rfl, rfl⟩ | ⟨g, cap, cur, rfl, _⟩
  · exact ⟨_, _, rfl⟩
  · exact ⟨_, _, rfl⟩
theorem IsTopo.of_owns {w : World} {base p : Nat} {v : Value} {cs : List Nat} {on : Nat} (hp : w.heap[p]? = some (.cells #[v] 72 (0, 0))) (h : w.ownsRow base 74 2 v cs.length (drow cs on)) (h0 : 0 < cs.length) (hne : ∀ k, v.ownBlock = some k → k ≠ p) :
    ∃ g, IsTopo w p g cs on ∧ base ≤ g := by
  rcases h.2 with ⟨rfl, h1⟩ | ⟨g, cap, cur, rfl, hbg, hg, hnc, _, hcs, htake⟩
  · omega
  · exact ⟨g, ⟨⟨cap, hp, hnc⟩, ⟨cur, hg, by rw [hcs]; exact Nat.mul_le_mul_right 2 hnc, htake⟩, (hne g rfl).symm⟩, hbg⟩
theorem drow_one {cs : List Nat} {on : Nat} : ∀ u ∈ drow cs on, u.oneCell' = true := by
  intro u hu
  simp only [drow, List.mem_flatMap] at hu
  obtain ⟨a, _, hu⟩ := hu
  simp at hu
  rcases hu with rfl | rfl <;> rfl

theorem eql70 (w : World) (a : Option Addr) (n c : Nat) : (binOp .eql 70 (.slice a n c) (.slice none 0 0)).run Try.prog w = .ok (.bool a.isNone) w := Lib.run_eql_slice_nil w 70 74 a n c 0 0 Try.underlying70
set_option maxRecDepth 100000 in
set_option maxHeartbeats 4000000 in
theorem Clone_any (p g cap : Nat) (cs : List Nat) (on : Nat) (w : World) (h : IsTopo w p g cs on) (ok : TopoOk cs on) :
    Calls Try.prog 39 #[.slice (some ⟨g, 0, none⟩) cs.length cap] w fun e w' => ∃ v, e = .returned v ∧ w'.ownsRow w.heap.size 74 2 v cs.length (drow cs on) ∧ Below w.heap.size w w' := by
  have q70 := eql70
  obtain ⟨i0, hi, hz0, hz1, hz2⟩ := info_parts Try.info74
  have hle := ok.good.2.1
  have hown : (w.alloc (.cells #[] 74)).ownsRow w.heap.size 74 2 (.slice (some ⟨w.heap.size, 0, none⟩) 0 0) 0 [] := World.ownsRow_lit w #[] 0 (Nat.le_refl _) (by omega) rfl
  have hB : Below w.heap.size w (w.alloc (.cells #[] 74)) := (Below.refl _ w).alloc (Nat.le_refl _) _
  have h2 := h.alloc (.cells #[] 74)
  have hnews : ∀ (j : Nat) (u : Value), (drow cs on)[j]? = some u → (w.alloc (.cells #[] 74)).cell? (Addr.add ⟨g, 0, none⟩ j) = some u := by
    intro j u hu
    have hj : j < cs.length * 2 := by have := (List.getElem?_eq_some_iff.1 hu).1; rwa [drow_len] at this
    rw [Addr.add_lit, Nat.zero_add, h2.at hj, hu]
  go_enter Try.func39, Try.ntmps39
  go_wp2_with (at_builtin; refine wpList_append_own _ rfl _ _ 70 rfl w.heap.size 74 i0 (.agg #[.int .u64 0, .int .u64 0]) 2 16 Try.underlying70 hi hz0 hz1 hz2 rfl (by decide) _ 0 [] rfl hown ⟨g, 0, none⟩ cs.length cap (drow cs on) rfl (drow_len cs on) hnews drow_one (by unfold maxLen; omega) (by omega) (by simp) ?_; intro v' w2 hown' hgrow _)
  rw [Nat.zero_add, List.nil_append] at hown'
  have hb2 : Below w.heap.size w w2 := hB.grown hgrow (by simp) (fun k e => by cases e; exact Nat.le_refl _)
  obtain ⟨a, c, rfl⟩ := own_slice hown'
  go_wp2_with fail
  go_ret
  exact ⟨_, rfl, hown', hb2⟩
set_option maxRecDepth 100000 in
set_option maxHeartbeats 4000000 in
theorem Copy_any (p g : Nat) (cs : List Nat) (on : Nat) (w : World) (h : IsTopo w p g cs on) (ok : TopoOk cs on) :
    Calls Try.prog 23 #[.pointer (some ⟨p, 0, none⟩)] w fun e w' => ∃ p' g', e = .returned (.pointer (some ⟨p', 0, none⟩)) ∧ IsTopo w' p' g' cs on ∧ w.heap.size ≤ p' ∧ w.heap.size ≤ g' ∧ Below w.heap.size w w' := by
  obtain ⟨cap, hc, hcap⟩ := h.cell
  have HI := Lib.hid (Clone_any p g cap cs on w h ok)
  go_enter Try.func23, Try.ntmps23
  go_wp2_with (go_at_call 39; refine HI.out.mono ?_; rintro e w2 ⟨v, rfl, hown, hb2⟩; obtain ⟨a, c, rfl⟩ := own_slice hown)
  go_ret
  have hp : (w2.alloc (.cells #[.slice a cs.length c] 72)).heap[w2.heap.size]? = some (.cells #[.slice a cs.length c] 72 (0, 0)) := heap_alloc_new w2 _
  obtain ⟨g', hT, hg⟩ := IsTopo.of_owns hp (hown.alloc _) ok.good.1 (fun k e => by have := (hown.lt k e).2; omega)
  exact ⟨w2.heap.size, g', rfl, hT, hb2.size, hg, hb2.alloc hb2.size _⟩
end Go.Proofs.Ytbeklkgoiigccaa
