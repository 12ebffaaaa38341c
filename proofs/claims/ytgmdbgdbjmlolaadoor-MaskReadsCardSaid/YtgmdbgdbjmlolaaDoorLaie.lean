/-
  What the five listed variables give the walks that read texts: the tables, strconv's two errors, and (by the world's shape) internal/bytealg.MaxLen. No condition.
-/
import Derived.Test.YtgmdbgdbjmlolaaDoorLaid
import Derived.Test.YtgmdbgdbjmlolaaDoorWn
namespace Go.Proofs.YtgmdbgdbjmlolaaDoor
open Go.ChangeShapes Go.WideShapes Go.ChangeAt Go.RowKit

/-- the five variables that two rows list. -/
abbrev laid5 : List (String × DataW Unit) := [("math/bits.deBruijn32tab", Rows.laid_math_bits_deBruijn32tab), ("math/bits.deBruijn64tab", Rows.laid_math_bits_deBruijn64tab), ("internal/strconv.uint64pow10", Rows.laid_internal_strconv_uint64pow10), ("strconv.ErrRange", Rows.laid_strconv_ErrRange), ("strconv.ErrSyntax", Rows.laid_strconv_ErrSyntax)]

theorem gRange : Tryd.prog.globalNamed "strconv.ErrRange" = some 4 := by kernel_rfl
theorem gSyntax : Tryd.prog.globalNamed "strconv.ErrSyntax" = some 3 := by kernel_rfl
theorem tRange : (Tryd.prog.globals[4]?).map (·.type) = some 74 := by kernel_rfl
theorem tSyntax : (Tryd.prog.globals[3]?).map (·.type) = some 74 := by kernel_rfl
theorem c119 : Tryd.prog.cellsOf 119 = 1 := by kernel_rfl
theorem c9 : Tryd.prog.cellsOf 9 = 1 := by kernel_rfl
theorem star : "*" ++ "errors.errorString" = "*errors.errorString" := by decide
theorem row117 (u : TypeId) (h : Tryd.prog.typeName? 3 u = some "*errors.errorString") : u = 117 :=
  typeName_ptr_named (nm := "errors.errorString") (by rw [star]; kernel_rfl) (by kernel_rfl) (by decide) u (by rw [star]; exact h)

theorem door_met5 (os : Os) (args : Array Value) : laidMetH Tryd.prog laid5 ((World.doorLaid Tryd.prog 62 os).forCall (fun _ _ => 0) ⟨#[], args, []⟩).memory :=
  laidMetH_of_parts3 (fuel := 8) (laidMet_of_run' 8 (by kernel_rfl) (by kernel_rfl)) (by kernel_rfl) (by kernel_rfl)

theorem of_laid5 {W : World} (hs : W.ShapedOpen Tryd.prog) (h : laidMetH Tryd.prog laid5 W) : Rw W := by
  rw [MakeChecks.laidMetH_plain _ _ _ (by kernel_rfl)] at h
  have hT := tab_of_tail h.tail
  obtain ⟨a4, s4, v4, _, _, _⟩ := laid_sentinel h.tail.tail.tail gRange tRange Tryd.underlying74 row117 Tryd.underlying117 Tryd.underlying119 rfl rfl Tryd.underlying9 c119 c9
  obtain ⟨a3, s3, v3, _, _, _⟩ := laid_sentinel h.tail.tail.tail.tail gSyntax tSyntax Tryd.underlying74 row117 Tryd.underlying117 Tryd.underlying119 rfl rfl Tryd.underlying9 c119 c9
  have h4 : W.cell? ⟨4, 0, none⟩ = some (.iface 117 (.pointer (some a4))) := by simpa using World.var?_cell gRange v4 0
  have h3 : W.cell? ⟨3, 0, none⟩ = some (.iface 117 (.pointer (some a3))) := by simpa using World.var?_cell gSyntax v3 0
  exact ⟨hT.1, Tryd.maxLen_shaped W hs, ⟨_, h3, .inr ⟨_, _, rfl⟩⟩, ⟨_, h4, .inr ⟨_, _, rfl⟩⟩, World.block_lt_of_cell? _ _ h4⟩
end Go.Proofs.YtgmdbgdbjmlolaaDoor
