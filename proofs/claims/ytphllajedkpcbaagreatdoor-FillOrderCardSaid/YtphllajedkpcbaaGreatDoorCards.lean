/-
  DERIVED. GIVEN WITH THE SEED: THE CARDS: each row of YtphllajedkpcbaaGreatDoorRows.lean that lists a variable, with what it lists TIED to the program's text (the seventh form; the later family's looks); each row that meets fmt, with fmt's text TOLD by the authors' own Lean function (tested against real Go, not proved from fmt's source: count such statements apart). THE CARD IS WHAT COUNTS. Prove the row's statement (the work); the ties are given (YtphllajedkpcbaaGreatDoorTie.lean); close each card by the builder's one call (the guide's Derived/Test/ToyasCard.lean, 'card_holds'). Laid BY PROGRAM, IN A SANDBOX (cutbox-door.mjs). By AI agents, Wed Nov 11 2026. No macro, syntax, notation, axiom, sorry.
-/
import Derived.Test.YtphllajedkpcbaaGreatDoorRows
import GoSem.ClaimSeven
namespace Go.Proofs.YtphllajedkpcbaaGreatDoor
namespace Rows

/-- THE TIED CARD OF 'roundellaw04.FillShares'. -/
def fillSharesCard : Claim7 := { stood := { row := fillSharesRow, standIns := [], harness := (true, "f5e2a238351cd1628b0b6940efecb52ea10d27695cca6f16eac0bed071c8f840"), looks := false }, kinds := [], alts := [], laidByText := true, laidKinds := [.data, .pinned], laidTests := true, laidLooks := .later }
def FillSharesCardSaid : Prop := Claim7.holds Tryz.pinned (.plain (OpenSpec.ofChange fillSharesSpec)) fillSharesCard

/-- THE TIED CARD OF 'roundellaw04.FillCaps'. -/
def fillCapsCard : Claim7 := { stood := { row := fillCapsRow, standIns := [], harness := (true, "f5e2a238351cd1628b0b6940efecb52ea10d27695cca6f16eac0bed071c8f840"), looks := false }, kinds := [], alts := [], laidByText := true, laidKinds := [.data, .pinned], laidTests := true, laidLooks := .later }
def FillCapsCardSaid : Prop := Claim7.holds Tryz.pinned (.plain (OpenSpec.ofChange fillCapsSpec)) fillCapsCard

/-- THE TIED CARD OF 'roundellaw04.FillMore'. -/
def fillMoreCard : Claim7 := { stood := { row := fillMoreRow, standIns := [], harness := (true, "f5e2a238351cd1628b0b6940efecb52ea10d27695cca6f16eac0bed071c8f840"), looks := false }, kinds := [], alts := [], laidByText := true, laidKinds := [.data, .pinned], laidTests := true, laidLooks := .later }
def FillMoreCardSaid : Prop := Claim7.holds Tryz.pinned (.plain (OpenSpec.ofChange fillMoreSpec)) fillMoreCard

/-- THE TIED CARD OF 'roundellaw04.FillOrder'. -/
def fillOrderCard : Claim7 := { stood := { row := fillOrderRow, standIns := [], harness := (true, "f5e2a238351cd1628b0b6940efecb52ea10d27695cca6f16eac0bed071c8f840"), looks := false }, kinds := [], alts := [], laidByText := true, laidKinds := [.data, .pinned], laidTests := true, laidLooks := .later }
def FillOrderCardSaid : Prop := Claim7.holds Tryz.pinned (.plain (OpenSpec.ofChange fillOrderSpec)) fillOrderCard

/-- THE TIED CARD OF 'roundellaw04.FillScales'. -/
def fillScalesCard : Claim7 := { stood := { row := fillScalesRow, standIns := [], harness := (true, "f5e2a238351cd1628b0b6940efecb52ea10d27695cca6f16eac0bed071c8f840"), looks := false }, kinds := [], alts := [], laidByText := true, laidKinds := [.data, .pinned], laidTests := true, laidLooks := .later }
def FillScalesCardSaid : Prop := Claim7.holds Tryz.pinned (.plain (OpenSpec.ofChange fillScalesSpec)) fillScalesCard

/-- THE SECOND FORM's CARD OF 'roundellaw04.FillShares'. -/
def fillSharesUptoCard : Claim7 := { stood := { row := fillSharesUptoRow, standIns := [], harness := (true, "f5e2a238351cd1628b0b6940efecb52ea10d27695cca6f16eac0bed071c8f840"), looks := false }, kinds := [], alts := [], laidByText := true, laidKinds := [.data, .pinned], laidTests := true, laidLooks := .later }
def FillSharesUptoCardSaid : Prop := Claim7.holds Tryz.pinned (.plain (OpenSpec.upto fillSharesSpec)) fillSharesUptoCard

/-- THE SECOND FORM's CARD OF 'roundellaw04.FillCaps'. -/
def fillCapsUptoCard : Claim7 := { stood := { row := fillCapsUptoRow, standIns := [], harness := (true, "f5e2a238351cd1628b0b6940efecb52ea10d27695cca6f16eac0bed071c8f840"), looks := false }, kinds := [], alts := [], laidByText := true, laidKinds := [.data, .pinned], laidTests := true, laidLooks := .later }
def FillCapsUptoCardSaid : Prop := Claim7.holds Tryz.pinned (.plain (OpenSpec.upto fillCapsSpec)) fillCapsUptoCard

/-- THE SECOND FORM's CARD OF 'roundellaw04.FillMore'. -/
def fillMoreUptoCard : Claim7 := { stood := { row := fillMoreUptoRow, standIns := [], harness := (true, "f5e2a238351cd1628b0b6940efecb52ea10d27695cca6f16eac0bed071c8f840"), looks := false }, kinds := [], alts := [], laidByText := true, laidKinds := [.data, .pinned], laidTests := true, laidLooks := .later }
def FillMoreUptoCardSaid : Prop := Claim7.holds Tryz.pinned (.plain (OpenSpec.upto fillMoreSpec)) fillMoreUptoCard

/-- THE SECOND FORM's CARD OF 'roundellaw04.FillOrder'. -/
def fillOrderUptoCard : Claim7 := { stood := { row := fillOrderUptoRow, standIns := [], harness := (true, "f5e2a238351cd1628b0b6940efecb52ea10d27695cca6f16eac0bed071c8f840"), looks := false }, kinds := [], alts := [], laidByText := true, laidKinds := [.data, .pinned], laidTests := true, laidLooks := .later }
def FillOrderUptoCardSaid : Prop := Claim7.holds Tryz.pinned (.plain (OpenSpec.upto fillOrderSpec)) fillOrderUptoCard

/-- THE SECOND FORM's CARD OF 'roundellaw04.FillScales'. -/
def fillScalesUptoCard : Claim7 := { stood := { row := fillScalesUptoRow, standIns := [], harness := (true, "f5e2a238351cd1628b0b6940efecb52ea10d27695cca6f16eac0bed071c8f840"), looks := false }, kinds := [], alts := [], laidByText := true, laidKinds := [.data, .pinned], laidTests := true, laidLooks := .later }
def FillScalesUptoCardSaid : Prop := Claim7.holds Tryz.pinned (.plain (OpenSpec.upto fillScalesSpec)) fillScalesUptoCard
end Rows
end Go.Proofs.YtphllajedkpcbaaGreatDoor
