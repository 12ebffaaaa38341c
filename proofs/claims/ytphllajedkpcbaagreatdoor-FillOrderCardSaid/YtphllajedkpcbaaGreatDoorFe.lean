/-
  Children, sorted by the level at which they come to their caps. Condition: not more than a hundred; weights from 1 to 10000, caps to 64.
-/
import Derived.Test.YtphllajedkpcbaaGreatDoorFd
import Derived.Test.YtphllajedkpcbaaGreatDoorShes
namespace Go.Proofs.YtphllajedkpcbaaGreatDoor
open Go.RowKit Go.Dig Go.Shelf Go.Proofs Go.Rq Go.Sort

/-- what a child may be. -/
def okKid (k : Kid) : Prop := k.1 ≠ 0 ∧ k.1 ≤ 10000 ∧ k.2 ≤ 64
abbrev Kd := {k : Kid // okKid k}
instance : Inhabited Kd := ⟨⟨(1, 0), by unfold okKid; decide⟩⟩
def encK (x : Kd) : List Value := [.int .i64 (x.1.1 : Int), .int .i64 (x.1.2 : Int)]
def cfK (x y : Kd) : Int := cmpZ (x.1.2 * y.1.1) (y.1.2 * x.1.1)
theorem ltK (x y : Kd) : ltOf cfK x y = decide (x.1.2 * y.1.1 < y.1.2 * x.1.1) := by
  unfold ltOf cfK cmpZ
  by_cases h : x.1.2 * y.1.1 < y.1.2 * x.1.1
  · simp [h]
  · rw [if_neg h]
    by_cases h2 : y.1.2 * x.1.1 < x.1.2 * y.1.1 <;> simp [h, h2]
theorem mul3 (a b c : Nat) : a * b * c = a * c * b := by rw [Nat.mul_assoc, Nat.mul_comm b c, Nat.mul_assoc]
theorem cross_lt {a1 a2 b1 b2 c1 c2 : Nat} (ha : a1 ≠ 0) (hc : c1 ≠ 0) (h1 : a2 * b1 < b2 * a1) (h2 : b2 * c1 < c2 * b1) : a2 * c1 < c2 * a1 := by
  have e1 : a2 * b1 * c1 < b2 * a1 * c1 := Nat.mul_lt_mul_of_pos_right h1 (Nat.pos_of_ne_zero hc)
  have e2 : b2 * c1 * a1 < c2 * b1 * a1 := Nat.mul_lt_mul_of_pos_right h2 (Nat.pos_of_ne_zero ha)
  rw [mul3 b2 c1 a1] at e2
  have e3 : a2 * c1 * b1 < c2 * a1 * b1 := by rw [mul3 a2 c1 b1, mul3 c2 a1 b1]; omega
  exact Nat.lt_of_mul_lt_mul_right e3
theorem cross_le {a1 a2 b1 b2 c1 c2 : Nat} (hb : b1 ≠ 0) (h1 : b2 * a1 ≤ a2 * b1) (h2 : c2 * b1 ≤ b2 * c1) : c2 * a1 ≤ a2 * c1 := by
  have e1 : b2 * a1 * c1 ≤ a2 * b1 * c1 := Nat.mul_le_mul_right _ h1
  have e2 : c2 * b1 * a1 ≤ b2 * c1 * a1 := Nat.mul_le_mul_right _ h2
  rw [mul3 b2 c1 a1] at e2
  have e3 : c2 * a1 * b1 ≤ a2 * c1 * b1 := by rw [mul3 c2 a1 b1, mul3 a2 c1 b1]; omega
  exact Nat.le_of_mul_le_mul_right e3 (Nat.pos_of_ne_zero hb)
theorem swoK : SWO (ltOf cfK) where
  irrefl x := by rw [ltK]; simp
  trans x y z h1 h2 := by
    rw [ltK] at *
    simp only [decide_eq_true_eq] at *
    exact cross_lt x.2.1 z.2.1 h1 h2
  ntrans x y z h1 h2 := by
    rw [ltK] at *
    simp only [decide_eq_false_iff_not, Nat.not_lt] at *
    exact cross_le y.2.1 h1 h2
theorem mul_bound {a b : Nat} (ha : a ≤ 64) (hb : b ≤ 10000) : a * b ≤ 640000 := Nat.mul_le_mul ha hb
set_option maxHeartbeats 1000000 in
theorem full_any (x y : Kd) (W : World) : Calls Tryz.prog 58 #[.agg #[.int .i64 (x.1.1 : Int), .int .i64 (x.1.2 : Int)], .agg #[.int .i64 (y.1.1 : Int), .int .i64 (y.1.2 : Int)]] W fun e w' => e = .returned (.int .i64 (cfK x y)) ∧ ∃ q os', w' = grow (W.drewN q) os' := by
  obtain ⟨⟨a1, a2⟩, ha⟩ := x
  obtain ⟨⟨b1, b2⟩, hb⟩ := y
  have e1 : ((a2 * b1 : Nat) : Int) = (a2 : Int) * (b1 : Int) := Int.natCast_mul a2 b1
  have e2 : ((b2 * a1 : Nat) : Int) = (b2 : Int) * (a1 : Int) := Int.natCast_mul b2 a1
  have m1 := mul_bound ha.2.2 hb.2.1
  have m2 := mul_bound hb.2.2 ha.2.1
  have p1 : (a2 : Int) * (b1 : Int) ≤ 640000 := by rw [← e1]; exact Int.ofNat_le.2 m1
  have p2 : (b2 : Int) * (a1 : Int) ≤ 640000 := by rw [← e2]; exact Int.ofNat_le.2 m2
  have q1 : 0 ≤ (a2 : Int) * (b1 : Int) := by rw [← e1]; exact Int.natCast_nonneg _
  have q2 : 0 ≤ (b2 : Int) * (a1 : Int) := by rw [← e2]; exact Int.natCast_nonneg _
  have H := fun W' => Lib.hid (Compare_int (a2 * b1) (b2 * a1) W')
  rw [e1, e2] at H
  unfold cfK
  generalize cmpZ (a2 * b1) (b2 * a1) = r at H ⊢
  dsimp only
  clear e1 e2 m1 m2 ha hb
  go_enter Tryz.func58, Tryz.ntmps58
  go_wp2_with fail
  refine (H _).out.mono ?_
  rintro e w' ⟨rfl, rfl⟩
  go_wp2_with fail
  go_ret
  exact ⟨rfl, 0, _, by rw [alloc_eq_grow, alloc_eq_grow, grow_grow]; rfl⟩
theorem cmpLaysK (blk off size : Nat) (w : World) : CmpLays Tryz.prog 58 #[] encK 2 cfK blk off size w := fun _ _ _ _ x y => full_any x y _
/-- children, each with what it may be. -/
def kds (ks : List Kid) (h : ∀ k ∈ ks, okKid k) : List Kd := ks.attach.map fun k => ⟨k.1, h k.1 k.2⟩
theorem kds_val (ks : List Kid) (h : ∀ k ∈ ks, okKid k) : (kds ks h).map (·.1) = ks := by
  unfold kds
  rw [List.map_map]
  exact List.attach_map_subtype_val ks
theorem kds_len (ks : List Kid) (h : ∀ k ∈ ks, okKid k) : (kds ks h).length = ks.length := by simp [kds]
theorem val_getD (d : Array Kd) (j : Nat) (h : j < d.size) : (d.toList.map (·.1)).getD j (0, 0) = d[j]!.1 := by
  have h' : j < d.toList.length := by simpa using h
  simp [List.getD_eq_getElem?_getD, h]
theorem holds_of_kb {w : World} {B : Nat} (d : Array Kd) (h : KB w B (d.toList.map (·.1))) : HoldsK encK 2 w B 0 d := by
  intro t ht
  rw [size_flatK] at ht
  rw [get_flatK encK 2 d t ht]
  have h2 : t % 2 < 2 := Nat.mod_lt _ (by omega)
  have h3 : t / 2 < d.size := by omega
  have h1 := h.2 (t / 2) (by simpa using h3)
  rw [val_getD d _ h3] at h1
  have e : t = t / 2 * 2 + t % 2 := by omega
  rw [Nat.zero_add]
  generalize t / 2 = j at *
  generalize t % 2 = r at *
  subst e
  match r, h2 with
  | 0, _ => exact h1.1
  | 1, _ => exact h1.2
theorem kb_of_holds {w : World} {B : Nat} (d : Array Kd) (hB : B < w.heap.size) (h : HoldsK encK 2 w B 0 d) : KB w B (d.toList.map (·.1)) := by
  refine ⟨hB, fun j hj => ?_⟩
  have hj' : j < d.size := by simpa using hj
  rw [val_getD d _ hj']
  have h0 := h.cell (c := 0) hj' (by omega)
  have h1 := h.cell (c := 1) hj' (by omega)
  simp only [Nat.zero_add, Nat.add_zero] at h0 h1
  exact ⟨h0, h1⟩
theorem grown_sort {w : World} {g n : Nat} {os : Array Obj} (d : Array Kd) : w.grownBy (sortWorldK encK 2 w g 0 n d os) (some g) := by
  refine ⟨rfl, rfl, rfl, size_sortWorldK_c encK 2 w g 0 n d os, fun k hk hne => ?_⟩
  have hkg : g ≠ k := fun e => hne (by rw [e])
  unfold sortWorldK
  rw [heap_grow_old _ _ (by rw [size_putRowK]; exact hk)]
  show ((Sort.ahead w n).heap.modify g _)[k]? = _
  rw [Array.getElem?_modify, if_neg hkg]
  rfl
theorem sort_any (B : Nat) (ks : List Kid) (w : World) (h : KB w B ks) (hk : ∀ k ∈ ks, okKid k) (hl : ks.length ≤ 100) :
    Calls Tryz.prog 57 #[.slice (some ⟨B, 0, none⟩) ks.length ks.length, .func (.func 58) #[] #[]] w fun e w' => ∃ ks' : List Kid, e = .returned (.tuple #[]) ∧ ks'.Perm ks ∧ ks'.Pairwise Le ∧ KB w' B ks' ∧ w.grownBy w' (some B) := by
  have eg : ∀ args w, (callFunc 58 args).run Tryz.prog w = .ok (.enter 58 args) w := enters_of Tryz.func58 (by kernel_rfl) rfl
  obtain ⟨d, hd⟩ : ∃ d : Array Kd, d.toList.map (·.1) = ks := ⟨(kds ks hk).toArray, by simpa using kds_val ks hk⟩
  have hs : d.size = ks.length := by rw [← hd]; simp
  rw [← hd] at h
  have hH := holds_of_kb d h
  have hc := AnyQ.slices_SortFunc Tryz.sortC 2 Tryz.isAgg62 Tryz.sizeOf62 encK (fun _ => rfl) (fun x v hv => by simp [encK] at hv; rcases hv with rfl | rfl <;> rfl) cfK swoK 58 #[] B 0 d.size d w eg (cmpLaysK B 0 d.size w) hH h.1 (by omega)
  rw [hs] at hc
  refine Calls.mono hc ?_
  rintro e w' ⟨rfl, d', n, os, hp, hsd, rfl⟩
  refine ⟨d'.toList.map (·.1), rfl, ?_, ?_, ?_, grown_sort d'⟩
  · have h1 := hp.2.2
    rw [← hs] at h1
    have e1 : d'.extract 0 d.size = d' := by rw [← hp.1, Array.extract_size]
    rw [e1, Array.extract_size] at h1
    rw [← hd]
    exact h1.map _
  · rw [List.pairwise_map, List.pairwise_iff_getElem]
    intro i j hi hj hij
    have h2 := hsd i j (Nat.zero_le _) hij (by rw [← hs, ← hp.1]; simpa using hj)
    rw [ltK] at h2
    simp only [decide_eq_false_iff_not, Nat.not_lt] at h2
    have e1 : d'[i]! = d'.toList[i] := by simp at hi ⊢; simp [hi]
    have e2 : d'[j]! = d'.toList[j] := by simp at hj ⊢; simp [hj]
    rw [e1, e2] at h2
    exact h2
  · exact kb_of_holds d' (Nat.lt_of_lt_of_le h.1 (size_sortWorldK_c encK 2 w B 0 n d' os)) (holdsK_sortWorldK_c encK 2 w B 0 d d' n os hH h.1 hp.1)
end Go.Proofs.YtphllajedkpcbaaGreatDoor
