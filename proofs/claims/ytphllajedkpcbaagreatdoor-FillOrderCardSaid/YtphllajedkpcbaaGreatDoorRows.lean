/-
  NARROWER THAN 'FOR EVERY INPUT', by the rows' own cells (each row's printed sentence says how): FillShares: laid · FillCaps: laid · FillMore: laid · FillOrder: laid · FillScales: laid.
  DERIVED. THE GIVEN ROWS OF THIS SEAT. 5 by the template 'for every input the law returns true; each argument reads behind the call as it read before'; 0 by the template 'total and deterministic' (their statements: YtphllajedkpcbaaGreatDoorTotals.lean).
  GIVEN WITH THE SEED: the statements are not yours to turn. If you find one false, say at which input.
  Laid BY PROGRAM, IN A SANDBOX (cutbox-rows.mjs): the forced cells as the released guide's own fill.sh prints them over the translation 0392d2d194fe6f1b… (all of the seat's roots in one cut). By AI agents, Wed Nov 11 2026. No macro, syntax, notation, axiom, sorry.
-/
import Derived.Test.YtphllajedkpcbaaGreatDoorChecked
import GoSem.PinnedTables
import GoSem.Claim
import GoSem.ClaimJoined
import GoSem.ClaimMapViews
import Derived.JoinedTies
import Derived.KernelRfl
namespace Go.Proofs.YtphllajedkpcbaaGreatDoor
/- THE CELL 'sum', in the pinned program and in every row, IS THE sha256 OF THE DUMP (.gsa) THAT YtphllajedkpcbaaGreatDoorProg.lean LOADS. Nothing in Lean hashes anything: it is a label: what it is worth is what the hold of that sum in a sandbox is worth. -/
noncomputable def Tryz.pinned : Pinned := { name := "ytphllajedkpcbaagreatdoor", sum := "0392d2d194fe6f1ba2b9ebebc6816e5703fb90a9c84dd92fbb1279d4003ebd83", checked := Tryz.checked }
namespace Rows
def none {H : Type} : Left H := { results := [], args := [] }

/- WHAT THE LISTED PACKAGE-LEVEL VARIABLES READ AS WHEN THE CALL BEGINS. Each datum BY PROGRAM (the guide's laid-datum.mjs) off the statement by which the dump's own 'gosem.cut.vars' lays the variable. In a bare row this is a premise. The card (YtphllajedkpcbaaGreatDoorCards.lean) ties it to the program's text. -/
def laid_unicode_utf8_acceptRanges {H : Type} : DataW H := .agg [.agg [.lit (.int .u8 128), .lit (.int .u8 191)], .agg [.lit (.int .u8 160), .lit (.int .u8 191)], .agg [.lit (.int .u8 128), .lit (.int .u8 159)], .agg [.lit (.int .u8 144), .lit (.int .u8 191)], .agg [.lit (.int .u8 128), .lit (.int .u8 143)], .agg [.lit (.int .u8 0), .lit (.int .u8 0)], .agg [.lit (.int .u8 0), .lit (.int .u8 0)], .agg [.lit (.int .u8 0), .lit (.int .u8 0)], .agg [.lit (.int .u8 0), .lit (.int .u8 0)], .agg [.lit (.int .u8 0), .lit (.int .u8 0)], .agg [.lit (.int .u8 0), .lit (.int .u8 0)], .agg [.lit (.int .u8 0), .lit (.int .u8 0)], .agg [.lit (.int .u8 0), .lit (.int .u8 0)], .agg [.lit (.int .u8 0), .lit (.int .u8 0)], .agg [.lit (.int .u8 0), .lit (.int .u8 0)], .agg [.lit (.int .u8 0), .lit (.int .u8 0)]]
/-- One of Go's own tables, pinned by name: the form's constant. -/
def laid_unicode_utf8_first : DataW Unit := Go.Pinned.utf8First

/-- 'roundellaw04.FillShares': WHATEVER THE INPUT: true; the input reads as it did. -/
def fillSharesSpec : ChangeSpec := { name := "fillShares", fn := fun _ => fun
  | [d1, d2, d3] => { results := [.lit (.bool true)], args := [d1, d2, d3] }
  | _ => none }
def fillSharesRow : OpenClaim := { program := "ytphllajedkpcbaagreatdoor", sum := "0392d2d194fe6f1ba2b9ebebc6816e5703fb90a9c84dd92fbb1279d4003ebd83", func := "roundel/roundellaw04.FillShares", spec := "fillShares", inPlace := ["math/bits.Add64", "math/bits.Sub64", "internal/bytealg.IndexByteString", "internal/bytealg.IndexString"], unfollowed := true, recurses := true, named := ["math/bits.divideError", "math/bits.overflowError", "unicode/utf8.first", "unicode/utf8.acceptRanges", "internal/bytealg.MaxLen"], apart := false, laid := [("unicode/utf8.acceptRanges", laid_unicode_utf8_acceptRanges), ("unicode/utf8.first", laid_unicode_utf8_first)] }
def FillSharesSaid : Prop := fillSharesRow.holds Tryz.pinned (OpenSpec.ofChange fillSharesSpec)

/-- ITS FALSE NEIGHBOUR: 'it returns false'. Refute it at one input. -/
def fillSharesWrong : ChangeSpec := { name := "fillShares", fn := fun _ => fun
  | [d1, d2, d3] => { results := [.lit (.bool false)], args := [d1, d2, d3] }
  | _ => none }
def FillSharesWrongFalsely : Prop := fillSharesRow.holds Tryz.pinned (OpenSpec.ofChange fillSharesWrong)

/-- 'roundellaw04.FillCaps': WHATEVER THE INPUT: true; the input reads as it did. -/
def fillCapsSpec : ChangeSpec := { name := "fillCaps", fn := fun _ => fun
  | [d1, d2, d3] => { results := [.lit (.bool true)], args := [d1, d2, d3] }
  | _ => none }
def fillCapsRow : OpenClaim := { program := "ytphllajedkpcbaagreatdoor", sum := "0392d2d194fe6f1ba2b9ebebc6816e5703fb90a9c84dd92fbb1279d4003ebd83", func := "roundel/roundellaw04.FillCaps", spec := "fillCaps", inPlace := ["math/bits.Add64", "math/bits.Sub64", "internal/bytealg.IndexByteString", "internal/bytealg.IndexString"], unfollowed := true, recurses := true, named := ["math/bits.divideError", "math/bits.overflowError", "unicode/utf8.first", "unicode/utf8.acceptRanges", "internal/bytealg.MaxLen"], apart := false, laid := [("unicode/utf8.acceptRanges", laid_unicode_utf8_acceptRanges), ("unicode/utf8.first", laid_unicode_utf8_first)] }
def FillCapsSaid : Prop := fillCapsRow.holds Tryz.pinned (OpenSpec.ofChange fillCapsSpec)

/-- ITS FALSE NEIGHBOUR: 'it returns false'. Refute it at one input. -/
def fillCapsWrong : ChangeSpec := { name := "fillCaps", fn := fun _ => fun
  | [d1, d2, d3] => { results := [.lit (.bool false)], args := [d1, d2, d3] }
  | _ => none }
def FillCapsWrongFalsely : Prop := fillCapsRow.holds Tryz.pinned (OpenSpec.ofChange fillCapsWrong)

/-- 'roundellaw04.FillMore': WHATEVER THE INPUT: true; the input reads as it did. -/
def fillMoreSpec : ChangeSpec := { name := "fillMore", fn := fun _ => fun
  | [d1, d2, d3] => { results := [.lit (.bool true)], args := [d1, d2, d3] }
  | _ => none }
def fillMoreRow : OpenClaim := { program := "ytphllajedkpcbaagreatdoor", sum := "0392d2d194fe6f1ba2b9ebebc6816e5703fb90a9c84dd92fbb1279d4003ebd83", func := "roundel/roundellaw04.FillMore", spec := "fillMore", inPlace := ["math/bits.Add64", "math/bits.Sub64", "internal/bytealg.IndexByteString", "internal/bytealg.IndexString"], unfollowed := true, recurses := true, named := ["math/bits.divideError", "math/bits.overflowError", "unicode/utf8.first", "unicode/utf8.acceptRanges", "internal/bytealg.MaxLen"], apart := false, laid := [("unicode/utf8.acceptRanges", laid_unicode_utf8_acceptRanges), ("unicode/utf8.first", laid_unicode_utf8_first)] }
def FillMoreSaid : Prop := fillMoreRow.holds Tryz.pinned (OpenSpec.ofChange fillMoreSpec)

/-- ITS FALSE NEIGHBOUR: 'it returns false'. Refute it at one input. -/
def fillMoreWrong : ChangeSpec := { name := "fillMore", fn := fun _ => fun
  | [d1, d2, d3] => { results := [.lit (.bool false)], args := [d1, d2, d3] }
  | _ => none }
def FillMoreWrongFalsely : Prop := fillMoreRow.holds Tryz.pinned (OpenSpec.ofChange fillMoreWrong)

/-- 'roundellaw04.FillOrder': WHATEVER THE INPUT: true; the input reads as it did. -/
def fillOrderSpec : ChangeSpec := { name := "fillOrder", fn := fun _ => fun
  | [d1, d2, d3] => { results := [.lit (.bool true)], args := [d1, d2, d3] }
  | _ => none }
def fillOrderRow : OpenClaim := { program := "ytphllajedkpcbaagreatdoor", sum := "0392d2d194fe6f1ba2b9ebebc6816e5703fb90a9c84dd92fbb1279d4003ebd83", func := "roundel/roundellaw04.FillOrder", spec := "fillOrder", inPlace := ["math/bits.Add64", "math/bits.Sub64", "internal/bytealg.IndexByteString", "internal/bytealg.IndexString"], unfollowed := true, recurses := true, named := ["math/bits.divideError", "math/bits.overflowError", "unicode/utf8.first", "unicode/utf8.acceptRanges", "internal/bytealg.MaxLen"], apart := false, laid := [("unicode/utf8.acceptRanges", laid_unicode_utf8_acceptRanges), ("unicode/utf8.first", laid_unicode_utf8_first)] }
def FillOrderSaid : Prop := fillOrderRow.holds Tryz.pinned (OpenSpec.ofChange fillOrderSpec)

/-- ITS FALSE NEIGHBOUR: 'it returns false'. Refute it at one input. -/
def fillOrderWrong : ChangeSpec := { name := "fillOrder", fn := fun _ => fun
  | [d1, d2, d3] => { results := [.lit (.bool false)], args := [d1, d2, d3] }
  | _ => none }
def FillOrderWrongFalsely : Prop := fillOrderRow.holds Tryz.pinned (OpenSpec.ofChange fillOrderWrong)

/-- 'roundellaw04.FillScales': WHATEVER THE INPUT: true; the input reads as it did. -/
def fillScalesSpec : ChangeSpec := { name := "fillScales", fn := fun _ => fun
  | [d1, d2, d3] => { results := [.lit (.bool true)], args := [d1, d2, d3] }
  | _ => none }
def fillScalesRow : OpenClaim := { program := "ytphllajedkpcbaagreatdoor", sum := "0392d2d194fe6f1ba2b9ebebc6816e5703fb90a9c84dd92fbb1279d4003ebd83", func := "roundel/roundellaw04.FillScales", spec := "fillScales", inPlace := ["math/bits.Add64", "math/bits.Sub64", "internal/bytealg.IndexByteString", "internal/bytealg.IndexString"], unfollowed := true, recurses := true, named := ["math/bits.divideError", "math/bits.overflowError", "unicode/utf8.first", "unicode/utf8.acceptRanges", "internal/bytealg.MaxLen"], apart := false, laid := [("unicode/utf8.acceptRanges", laid_unicode_utf8_acceptRanges), ("unicode/utf8.first", laid_unicode_utf8_first)] }
def FillScalesSaid : Prop := fillScalesRow.holds Tryz.pinned (OpenSpec.ofChange fillScalesSpec)

/-- ITS FALSE NEIGHBOUR: 'it returns false'. Refute it at one input. -/
def fillScalesWrong : ChangeSpec := { name := "fillScales", fn := fun _ => fun
  | [d1, d2, d3] => { results := [.lit (.bool false)], args := [d1, d2, d3] }
  | _ => none }
def FillScalesWrongFalsely : Prop := fillScalesRow.holds Tryz.pinned (OpenSpec.ofChange fillScalesWrong)

/- THE SECOND FORM. 'bulk': how many values and letters a reading holds, each counted each time it is reached (what is shared counts as often as it is met; a slice's spare places count too). A statement '..UptoSaid' is the law's where the arguments, and the package variables that the reading takes, are together of bulk at most 1048576: NARROWER than '..Said'. Prove '..Said' where nothing that the law and all that it calls make is longer than what came in: it says more and counts as full. Else prove '..UptoSaid'. A law counts once. -/
mutual
def uptoBulk {H : Type} : DataW H → Nat
  | .lit (.string bytes) => bytes.length + 1
  | .lit _ => 1
  | .nil => 1
  | .ptr d => uptoBulk d + 1
  | .slice elems spare => uptoBulkAll elems + uptoBulkAll spare + 1
  | .agg parts => uptoBulkAll parts + 1
  | .iface _ d => uptoBulk d + 1
  | .map entries => uptoBulkEntries entries + 1
  | .held _ => 1
def uptoBulkAll {H : Type} : List (DataW H) → Nat
  | [] => 0
  | d :: r => uptoBulk d + uptoBulkAll r
def uptoBulkEntries {H : Type} : List (Lit × DataW H) → Nat
  | [] => 0
  | x :: r => uptoBulkEntry x + uptoBulkEntries r
def uptoBulkEntry {H : Type} : Lit × DataW H → Nat
  | (.string bytes, d) => bytes.length + uptoBulk d + 1
  | (_, d) => uptoBulk d + 1
 end
def uptoSmall : (H : Type) → List (DataW H) → Bool := fun _ ds => decide (uptoBulkAll ds ≤ 1048576)
def OpenSpec.upto (s : _root_.Go.ChangeSpec) : _root_.Go.OpenSpec := { _root_.Go.OpenSpec.ofChange s with cond := some uptoSmall }

/-- 'roundellaw04.FillShares', WHERE WHAT IT READS IS OF BULK AT MOST 1048576: true; the input reads as it did. -/
def fillSharesUptoRow : OpenClaim := { program := "ytphllajedkpcbaagreatdoor", sum := "0392d2d194fe6f1ba2b9ebebc6816e5703fb90a9c84dd92fbb1279d4003ebd83", func := "roundel/roundellaw04.FillShares", spec := "fillShares", inPlace := ["math/bits.Add64", "math/bits.Sub64", "internal/bytealg.IndexByteString", "internal/bytealg.IndexString"], unfollowed := true, recurses := true, named := ["math/bits.divideError", "math/bits.overflowError", "unicode/utf8.first", "unicode/utf8.acceptRanges", "internal/bytealg.MaxLen"], apart := false, laid := [("unicode/utf8.acceptRanges", laid_unicode_utf8_acceptRanges), ("unicode/utf8.first", laid_unicode_utf8_first)], narrowed := true }
def FillSharesUptoSaid : Prop := fillSharesUptoRow.holds Tryz.pinned (OpenSpec.upto fillSharesSpec)

/-- 'roundellaw04.FillCaps', WHERE WHAT IT READS IS OF BULK AT MOST 1048576: true; the input reads as it did. -/
def fillCapsUptoRow : OpenClaim := { program := "ytphllajedkpcbaagreatdoor", sum := "0392d2d194fe6f1ba2b9ebebc6816e5703fb90a9c84dd92fbb1279d4003ebd83", func := "roundel/roundellaw04.FillCaps", spec := "fillCaps", inPlace := ["math/bits.Add64", "math/bits.Sub64", "internal/bytealg.IndexByteString", "internal/bytealg.IndexString"], unfollowed := true, recurses := true, named := ["math/bits.divideError", "math/bits.overflowError", "unicode/utf8.first", "unicode/utf8.acceptRanges", "internal/bytealg.MaxLen"], apart := false, laid := [("unicode/utf8.acceptRanges", laid_unicode_utf8_acceptRanges), ("unicode/utf8.first", laid_unicode_utf8_first)], narrowed := true }
def FillCapsUptoSaid : Prop := fillCapsUptoRow.holds Tryz.pinned (OpenSpec.upto fillCapsSpec)

/-- 'roundellaw04.FillMore', WHERE WHAT IT READS IS OF BULK AT MOST 1048576: true; the input reads as it did. -/
def fillMoreUptoRow : OpenClaim := { program := "ytphllajedkpcbaagreatdoor", sum := "0392d2d194fe6f1ba2b9ebebc6816e5703fb90a9c84dd92fbb1279d4003ebd83", func := "roundel/roundellaw04.FillMore", spec := "fillMore", inPlace := ["math/bits.Add64", "math/bits.Sub64", "internal/bytealg.IndexByteString", "internal/bytealg.IndexString"], unfollowed := true, recurses := true, named := ["math/bits.divideError", "math/bits.overflowError", "unicode/utf8.first", "unicode/utf8.acceptRanges", "internal/bytealg.MaxLen"], apart := false, laid := [("unicode/utf8.acceptRanges", laid_unicode_utf8_acceptRanges), ("unicode/utf8.first", laid_unicode_utf8_first)], narrowed := true }
def FillMoreUptoSaid : Prop := fillMoreUptoRow.holds Tryz.pinned (OpenSpec.upto fillMoreSpec)

/-- 'roundellaw04.FillOrder', WHERE WHAT IT READS IS OF BULK AT MOST 1048576: true; the input reads as it did. -/
def fillOrderUptoRow : OpenClaim := { program := "ytphllajedkpcbaagreatdoor", sum := "0392d2d194fe6f1ba2b9ebebc6816e5703fb90a9c84dd92fbb1279d4003ebd83", func := "roundel/roundellaw04.FillOrder", spec := "fillOrder", inPlace := ["math/bits.Add64", "math/bits.Sub64", "internal/bytealg.IndexByteString", "internal/bytealg.IndexString"], unfollowed := true, recurses := true, named := ["math/bits.divideError", "math/bits.overflowError", "unicode/utf8.first", "unicode/utf8.acceptRanges", "internal/bytealg.MaxLen"], apart := false, laid := [("unicode/utf8.acceptRanges", laid_unicode_utf8_acceptRanges), ("unicode/utf8.first", laid_unicode_utf8_first)], narrowed := true }
def FillOrderUptoSaid : Prop := fillOrderUptoRow.holds Tryz.pinned (OpenSpec.upto fillOrderSpec)

/-- 'roundellaw04.FillScales', WHERE WHAT IT READS IS OF BULK AT MOST 1048576: true; the input reads as it did. -/
def fillScalesUptoRow : OpenClaim := { program := "ytphllajedkpcbaagreatdoor", sum := "0392d2d194fe6f1ba2b9ebebc6816e5703fb90a9c84dd92fbb1279d4003ebd83", func := "roundel/roundellaw04.FillScales", spec := "fillScales", inPlace := ["math/bits.Add64", "math/bits.Sub64", "internal/bytealg.IndexByteString", "internal/bytealg.IndexString"], unfollowed := true, recurses := true, named := ["math/bits.divideError", "math/bits.overflowError", "unicode/utf8.first", "unicode/utf8.acceptRanges", "internal/bytealg.MaxLen"], apart := false, laid := [("unicode/utf8.acceptRanges", laid_unicode_utf8_acceptRanges), ("unicode/utf8.first", laid_unicode_utf8_first)], narrowed := true }
def FillScalesUptoSaid : Prop := fillScalesUptoRow.holds Tryz.pinned (OpenSpec.upto fillScalesSpec)

end Rows
end Go.Proofs.YtphllajedkpcbaaGreatDoor
