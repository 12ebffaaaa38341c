/-
  DERIVED. GIVEN WITH THE SEED: THE CARDS: each row of YtohifgjeebhijaaGreatDoorRows.lean that lists a variable, with what it lists TIED to the program's text (the seventh form; the later family's looks); each row that meets fmt, with fmt's text TOLD by the authors' own Lean function (tested against real Go, not proved from fmt's source: count such statements apart). THE CARD IS WHAT COUNTS. Prove the row's statement (the work); the ties are given (YtohifgjeebhijaaGreatDoorTie.lean); close each card by the builder's one call (the guide's Derived/Test/ToyasCard.lean, 'card_holds'). Laid BY PROGRAM, IN A SANDBOX (cutbox-door.mjs). By AI agents, Wed Nov 11 2026. No macro, syntax, notation, axiom, sorry.
-/
import Derived.Test.YtohifgjeebhijaaGreatDoorRows
import GoSem.ClaimSeven
namespace Go.Proofs.YtohifgjeebhijaaGreatDoor
namespace Rows

/-- THE TIED CARD OF 'roundellaw09.ShareRates'. -/
def shareRatesCard : Claim7 := { stood := { row := shareRatesRow, standIns := [], harness := (true, "3db946573246875e08a9d0d0453211a3bd1929700d920e6da6340c8e724ff7a9"), looks := false }, kinds := [], alts := [], laidByText := true, laidKinds := [.data, .pinned], laidTests := true, laidLooks := .later }
def ShareRatesCardSaid : Prop := Claim7.holds Tryz.pinned (.plain (OpenSpec.ofChange shareRatesSpec)) shareRatesCard

/-- THE TIED CARD OF 'roundellaw09.ShareSums'. -/
def shareSumsCard : Claim7 := { stood := { row := shareSumsRow, standIns := [], harness := (true, "3db946573246875e08a9d0d0453211a3bd1929700d920e6da6340c8e724ff7a9"), looks := false }, kinds := [], alts := [], laidByText := true, laidKinds := [.data, .pinned], laidTests := true, laidLooks := .later }
def ShareSumsCardSaid : Prop := Claim7.holds Tryz.pinned (.plain (OpenSpec.ofChange shareSumsSpec)) shareSumsCard

/-- THE TIED CARD OF 'roundellaw09.ShareAlike'. -/
def shareAlikeCard : Claim7 := { stood := { row := shareAlikeRow, standIns := [], harness := (true, "3db946573246875e08a9d0d0453211a3bd1929700d920e6da6340c8e724ff7a9"), looks := false }, kinds := [], alts := [], laidByText := true, laidKinds := [.data, .pinned], laidTests := true, laidLooks := .later }
def ShareAlikeCardSaid : Prop := Claim7.holds Tryz.pinned (.plain (OpenSpec.ofChange shareAlikeSpec)) shareAlikeCard

/-- THE TIED CARD OF 'roundellaw09.ShareMore'. -/
def shareMoreCard : Claim7 := { stood := { row := shareMoreRow, standIns := [], harness := (true, "3db946573246875e08a9d0d0453211a3bd1929700d920e6da6340c8e724ff7a9"), looks := false }, kinds := [], alts := [], laidByText := true, laidKinds := [.data, .pinned], laidTests := true, laidLooks := .later }
def ShareMoreCardSaid : Prop := Claim7.holds Tryz.pinned (.plain (OpenSpec.ofChange shareMoreSpec)) shareMoreCard

/-- THE TIED CARD OF 'roundellaw09.ShareGroups'. -/
def shareGroupsCard : Claim7 := { stood := { row := shareGroupsRow, standIns := [], harness := (true, "3db946573246875e08a9d0d0453211a3bd1929700d920e6da6340c8e724ff7a9"), looks := false }, kinds := [], alts := [], laidByText := true, laidKinds := [.data, .pinned], laidTests := true, laidLooks := .later }
def ShareGroupsCardSaid : Prop := Claim7.holds Tryz.pinned (.plain (OpenSpec.ofChange shareGroupsSpec)) shareGroupsCard

/-- THE TIED CARD OF 'roundellaw09.ShareFew'. -/
def shareFewCard : Claim7 := { stood := { row := shareFewRow, standIns := [], harness := (true, "3db946573246875e08a9d0d0453211a3bd1929700d920e6da6340c8e724ff7a9"), looks := false }, kinds := [], alts := [], laidByText := true, laidKinds := [.data, .pinned], laidTests := true, laidLooks := .later }
def ShareFewCardSaid : Prop := Claim7.holds Tryz.pinned (.plain (OpenSpec.ofChange shareFewSpec)) shareFewCard

/-- THE SECOND FORM's CARD OF 'roundellaw09.ShareRates'. -/
def shareRatesUptoCard : Claim7 := { stood := { row := shareRatesUptoRow, standIns := [], harness := (true, "3db946573246875e08a9d0d0453211a3bd1929700d920e6da6340c8e724ff7a9"), looks := false }, kinds := [], alts := [], laidByText := true, laidKinds := [.data, .pinned], laidTests := true, laidLooks := .later }
def ShareRatesUptoCardSaid : Prop := Claim7.holds Tryz.pinned (.plain (OpenSpec.upto shareRatesSpec)) shareRatesUptoCard

/-- THE SECOND FORM's CARD OF 'roundellaw09.ShareSums'. -/
def shareSumsUptoCard : Claim7 := { stood := { row := shareSumsUptoRow, standIns := [], harness := (true, "3db946573246875e08a9d0d0453211a3bd1929700d920e6da6340c8e724ff7a9"), looks := false }, kinds := [], alts := [], laidByText := true, laidKinds := [.data, .pinned], laidTests := true, laidLooks := .later }
def ShareSumsUptoCardSaid : Prop := Claim7.holds Tryz.pinned (.plain (OpenSpec.upto shareSumsSpec)) shareSumsUptoCard

/-- THE SECOND FORM's CARD OF 'roundellaw09.ShareAlike'. -/
def shareAlikeUptoCard : Claim7 := { stood := { row := shareAlikeUptoRow, standIns := [], harness := (true, "3db946573246875e08a9d0d0453211a3bd1929700d920e6da6340c8e724ff7a9"), looks := false }, kinds := [], alts := [], laidByText := true, laidKinds := [.data, .pinned], laidTests := true, laidLooks := .later }
def ShareAlikeUptoCardSaid : Prop := Claim7.holds Tryz.pinned (.plain (OpenSpec.upto shareAlikeSpec)) shareAlikeUptoCard

/-- THE SECOND FORM's CARD OF 'roundellaw09.ShareMore'. -/
def shareMoreUptoCard : Claim7 := { stood := { row := shareMoreUptoRow, standIns := [], harness := (true, "3db946573246875e08a9d0d0453211a3bd1929700d920e6da6340c8e724ff7a9"), looks := false }, kinds := [], alts := [], laidByText := true, laidKinds := [.data, .pinned], laidTests := true, laidLooks := .later }
def ShareMoreUptoCardSaid : Prop := Claim7.holds Tryz.pinned (.plain (OpenSpec.upto shareMoreSpec)) shareMoreUptoCard

/-- THE SECOND FORM's CARD OF 'roundellaw09.ShareGroups'. -/
def shareGroupsUptoCard : Claim7 := { stood := { row := shareGroupsUptoRow, standIns := [], harness := (true, "3db946573246875e08a9d0d0453211a3bd1929700d920e6da6340c8e724ff7a9"), looks := false }, kinds := [], alts := [], laidByText := true, laidKinds := [.data, .pinned], laidTests := true, laidLooks := .later }
def ShareGroupsUptoCardSaid : Prop := Claim7.holds Tryz.pinned (.plain (OpenSpec.upto shareGroupsSpec)) shareGroupsUptoCard

/-- THE SECOND FORM's CARD OF 'roundellaw09.ShareFew'. -/
def shareFewUptoCard : Claim7 := { stood := { row := shareFewUptoRow, standIns := [], harness := (true, "3db946573246875e08a9d0d0453211a3bd1929700d920e6da6340c8e724ff7a9"), looks := false }, kinds := [], alts := [], laidByText := true, laidKinds := [.data, .pinned], laidTests := true, laidLooks := .later }
def ShareFewUptoCardSaid : Prop := Claim7.holds Tryz.pinned (.plain (OpenSpec.upto shareFewSpec)) shareFewUptoCard
end Rows
end Go.Proofs.YtohifgjeebhijaaGreatDoor
