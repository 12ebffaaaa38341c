/-
  Arrays of 64 bools compared; and the walk of the statement MaskPairs. Condition: the table of math/bits lies as its initialiser lays it.
-/
import Derived.Test.YtbeklkgoiigccaaWg
import Derived.Test.YtbeklkgoiigccaaWe
namespace Go.Proofs.Ytbeklkgoiigccaa
open Go.RowKit

theorem run_part30 (f : Nat → Bool) {i : Nat} (hi : i < 64) (w : World) : (part 4 (arrB f) i).run Try.prog w = .ok (.bool (f i)) w := by
  have hs : (isAgg 4).run Try.prog w = .ok false w := by kernel_rfl
  unfold part
  simp only [Sem.run_bind, hs, Result.andThen_ok, Bool.false_eq_true, if_false, arrB_get f hi, Sem.run_pure]
theorem run_eqLoop (d : Nat) (f g : Nat → Bool) (w : World) : ∀ (l : List Nat), (∀ i ∈ l, i < 64) →
    Sem.run Try.prog (forIn l ((none, ()) : Option Bool × Unit) fun i (_ : Option Bool × Unit) => do
            let x ← part 4 (arrB f) i
            let y ← part 4 (arrB g) i
            let b ← Op.equalIn (d + 1) 4 x y
            if (!b) = true then pure (ForInStep.done (some false, ())) else pure (ForInStep.yield (none, ()))) w = .ok (if l.all fun i => f i == g i then (none, ()) else (some false, ())) w
  | [], _ => by simp
  | i :: l, h => by
    have hi := h i (by simp)
    have ih := run_eqLoop d f g w l (fun j hj => h j (by simp [hj]))
    simp only [List.forIn_cons, Sem.run_bind, run_part30 f hi, run_part30 g hi, Result.andThen_ok, run_equalIn_bool' w d 4 (f i) (g i) Try.underlying4, List.all_cons]
    by_cases hb : (f i == g i) = true
    · rw [if_neg (by rw [hb]; decide)]
      simp only [Sem.run_pure, Result.andThen_ok, hb, Bool.true_and]
      exact ih
    · have hb' : (f i == g i) = false := by simpa using hb
      rw [if_pos (by rw [hb']; rfl)]
      simp only [Sem.run_pure, Result.andThen_ok, hb', Bool.false_and, Bool.false_eq_true, if_false]
theorem run_equalIn30 (d : Nat) (f g : Nat → Bool) (w : World) : (Op.equalIn (d + 2) 27 (.agg (arrB f)) (.agg (arrB g))).run Try.prog w = .ok ((List.range 64).all fun i => f i == g i) w := by
  have hs : (sizeOf 4).run Try.prog w = .ok 1 w := by kernel_rfl
  unfold Op.equalIn
  simp only [Sem.run_bind, run_underlying Try.underlying27, Result.andThen_ok, hs, Nat.mul_one]
  rw [Std.Legacy.Range.forIn_eq_forIn_range']
  have h := run_eqLoop d f g w (List.range 64) (fun i hi => by simpa using hi)
  have e : List.range' [:64].start [:64].size [:64].step = List.range 64 := by decide
  rw [e, h, Result.andThen_ok]
  cases (List.range 64).all fun i => f i == g i <;> rfl

/-- are 64 answers the same? -/
def eqB (f g : Nat → Bool) : Bool := (List.range 64).all fun i => f i == g i
theorem eqB_true {f g : Nat → Bool} : eqB f g = true ↔ ∀ i, i < 64 → f i = g i := by
  unfold eqB
  rw [List.all_eq_true]
  constructor
  · intro h i hi; simpa using h i (by simpa using hi)
  · intro h i hi; simpa using h i (by simpa using hi)
section
variable {o : Oper} {a : Act} (x y : Operand) (ty : TypeId) (f g : Nat → Bool)
theorem exec_eql30 (ho : o.op = .binOp .eql 27 x y ty) (hx : a.eval x = .agg (arrB f)) (hy : a.eval y = .agg (arrB g)) (w : World) : (execOp a.eval o).run Try.prog w = .ok (.value (.bool (eqB f g))) w := by
  have hm : Try.prog.eqGuardType Try.prog.depth 27 = false := by kernel_rfl
  unfold execOp
  rw [ho]
  simp only [hx, hy, Sem.run_bind, run_eqGuard_agg w .eql 27 x y _ _ hm, Result.andThen_ok, run_eql_struct, run_equalIn30 9998 f g w, Sem.run_pure]
  rfl
theorem exec_neq30 (ho : o.op = .binOp .neq 27 x y ty) (hx : a.eval x = .agg (arrB f)) (hy : a.eval y = .agg (arrB g)) (w : World) : (execOp a.eval o).run Try.prog w = .ok (.value (.bool (!eqB f g))) w := by
  have hm : Try.prog.eqGuardType Try.prog.depth 27 = false := by kernel_rfl
  unfold execOp
  rw [ho]
  simp only [hx, hy, Sem.run_bind, run_eqGuard_agg w .neq 27 x y _ _ hm, Result.andThen_ok, run_neq_struct, run_equalIn30 9998 f g w, Sem.run_pure]
  rfl
theorem exec_load30 (b : Nat) (ho : o.op = .load 27 x) (hx : a.eval x = .pointer (some ⟨b, 0, none⟩)) (w : World) (hw : IsArr w b f) : (execOp a.eval o).run Try.prog w = .ok (.value (.agg (arrB f))) w := by
  unfold execOp
  simp only [ho, hx, Instr.loadAt, Instr.sureAddr, Sem.run_bind, Sem.run_pure, Result.andThen_ok, run_loadVar_row w b 27 27 _ (0, 0) _ hw Try.underlying27 rfl (size30 f)]
theorem exec_build30 (ho : o.op = .build 27 #[]) (w : World) : (execOp a.eval o).run Try.prog w = .ok (.value (.agg (arrB fun _ => false))) w := by
  unfold execOp
  simp only [ho, Array.map_empty, run_build30, Sem.run_bind, Sem.run_pure, Result.andThen_ok]
end

theorem eq_in (A B : Nat) (hA : A < 18446744073709551616) (hB : B < 18446744073709551616) : eqB (A &&& B).testBit A.testBit = inB A B := by
  rw [Bool.eq_iff_iff, eqB_true]
  constructor
  · intro h
    apply inB_bits hB
    intro j hj
    have hj64 : j < 64 := by
      apply Nat.lt_of_not_le; intro hle; rw [bit_far hA hle] at hj; cases hj
    have h1 := h j hj64
    rw [Nat.testBit_and, hj] at h1
    simpa using h1
  · intro h i _
    unfold inB at h
    rw [beq_iff_eq] at h
    have h1 : (A &&& (18446744073709551615 - B)).testBit i = false := by rw [h, Nat.zero_testBit]
    rw [Nat.testBit_and, show 18446744073709551615 - B = 2 ^ 64 - (B + 1) by omega, Nat.testBit_two_pow_sub_succ (by omega)] at h1
    rw [Nat.testBit_and]
    cases ha : A.testBit i
    · rfl
    · rw [ha] at h1
      have hi64 : i < 64 := by
        apply Nat.lt_of_not_le; intro hle; rw [bit_far hA hle] at ha; cases ha
      simp [hi64] at h1
      rw [h1]; rfl
theorem eq_meets (A B : Nat) (hA : A < 18446744073709551616) : (!eqB (A &&& B).testBit (fun _ => false)) = meetsB A B := by
  unfold meetsB
  have hlt : A &&& B < 18446744073709551616 := Nat.lt_of_le_of_lt Nat.and_le_left hA
  generalize A &&& B = C at *
  rw [Bool.eq_iff_iff, bne_iff_ne]
  constructor
  · intro h he
    subst he
    have : eqB (0 : Nat).testBit (fun _ => false) = true := eqB_true.2 fun i _ => Nat.zero_testBit i
    rw [this] at h
    cases h
  · intro h
    cases he : eqB C.testBit (fun _ => false)
    · rfl
    · exfalso
      apply h
      apply Nat.eq_of_testBit_eq
      intro i
      rw [Nat.zero_testBit]
      by_cases hi : i < 64
      · exact eqB_true.1 he i hi
      · exact bit_far hlt (by omega)

end Go.Proofs.Ytbeklkgoiigccaa
