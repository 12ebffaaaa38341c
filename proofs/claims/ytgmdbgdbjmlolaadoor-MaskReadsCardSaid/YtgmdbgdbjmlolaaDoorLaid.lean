/-
  What the rows' listed variables give the walks: the table of math/bits lies in its variable; and the worlds that the program's own start-up leaves meet the rows' conditions. No condition.
-/
import Derived.Test.YtgmdbgdbjmlolaaDoorWb
import Derived.ProofKit
import Derived.LaidMore
import Derived.OpenShut
import Derived.Stop.Joined
import Derived.Stop.LaidErr
import Derived.Lib.LaidTab
namespace Go.Proofs.YtgmdbgdbjmlolaaDoor
open Go.ChangeShapes Go.WideShapes Go.ChangeAt Go.RowKit

theorem own : ownKnob Tryd.prog.godebug = none := by kernel_rfl
theorem gTab : Tryd.prog.globalNamed "math/bits.deBruijn64tab" = some 0 := by kernel_rfl
theorem tTab : (Tryd.prog.globals[0]?).map (·.type) = some 67 := by kernel_rfl
theorem c5 : Tryd.prog.cellsOf 5 = 1 := by kernel_rfl
theorem c67 : Tryd.prog.cellsOf 67 = 64 := by kernel_rfl

/-- the three tables that most rows list. -/
abbrev laid3 : List (String × DataW Unit) := [("math/bits.deBruijn32tab", Rows.laid_math_bits_deBruijn32tab), ("math/bits.deBruijn64tab", Rows.laid_math_bits_deBruijn64tab), ("internal/strconv.uint64pow10", Rows.laid_internal_strconv_uint64pow10)]

theorem door_met3 (os : Os) (args : Array Value) : laidMetH Tryd.prog laid3 ((World.doorLaid Tryd.prog 62 os).forCall (fun _ _ => 0) ⟨#[], args, []⟩).memory :=
  laidMetH_of_parts3 (fuel := 8) (laidMet_of_run' 8 (by kernel_rfl) (by kernel_rfl)) (by kernel_rfl) (by kernel_rfl)

theorem tab_of_tail {W : World} {rest : List (String × DataW Unit)} (h : laidMet Tryd.prog (("math/bits.deBruijn64tab", Rows.laid_math_bits_deBruijn64tab) :: rest) W) : Tab W ∧ 0 < W.heap.size := by
  have e : (Rows.laid_math_bits_deBruijn64tab : DataW Unit) = Lib.tabData .u8 (Lib.deBruijn64tab.map (fun (n : Nat) => (n : Int))) := by kernel_rfl
  rw [e] at h
  have hT := Lib.tabIs_of_head gTab tTab Tryd.underlying67 Tryd.underlying5 c5 c67 h
  have hc : ∀ j, j < Lib.deBruijn64tab.length → W.cell? ⟨0, j, none⟩ = some (.int .u8 (Lib.deBruijn64tab.getD j 0)) := fun j hj => by
    have h1 := hT.cell gTab j (by rw [List.length_map]; exact hj)
    rw [h1]
    have h2 : (Lib.deBruijn64tab.map (fun (n : Nat) => (n : Int))).getD j 0 = ((Lib.deBruijn64tab.getD j 0 : Nat) : Int) := by
      simp [List.getD, hj]
    rw [h2]
  refine ⟨hc, ?_⟩
  have h0 := hc 0 (by decide)
  apply Nat.lt_of_not_le
  intro hle
  unfold World.cell? at h0
  rw [Array.getElem?_eq_none hle] at h0
  cases h0

/-- WHAT THE CONDITION GIVES THE WALKS. -/
theorem of_laid3 {W : World} (h : laidMetH Tryd.prog laid3 W) : Tab W ∧ 0 < W.heap.size := by
  rw [MakeChecks.laidMetH_plain _ _ _ (by kernel_rfl)] at h
  exact tab_of_tail h.tail
theorem u64_nat {a : Int} (h : (Lit.int .u64 a).wf = true) : ∃ n : Nat, a = (n : Int) ∧ n < 18446744073709551616 := by
  have hb := bounds_u64 h
  exact ⟨a.toNat, by omega, by omega⟩

end Go.Proofs.YtgmdbgdbjmlolaaDoor
