/-
  DERIVED. GIVEN WITH THE SEED: THE CARDS: each row of YtgoaepjjegblnaaGreatDoorRows.lean that lists a variable, with what it lists TIED to the program's text (the seventh form; the later family's looks); each row that meets fmt, with fmt's text TOLD by the authors' own Lean function (tested against real Go, not proved from fmt's source: count such statements apart). THE CARD IS WHAT COUNTS. Prove the row's statement (the work); the ties are given (YtgoaepjjegblnaaGreatDoorTie.lean); close each card by the builder's one call (the guide's Derived/Test/ToyasCard.lean, 'card_holds'). Laid BY PROGRAM, IN A SANDBOX (cutbox-door.mjs). By AI agents, Wed Nov 11 2026. No macro, syntax, notation, axiom, sorry.
-/
import Derived.Test.YtgoaepjjegblnaaGreatDoorRows
import GoSem.ClaimSeven
namespace Go.Proofs.YtgoaepjjegblnaaGreatDoor
namespace Rows

/-- THE TIED CARD OF 'squelchlaw20.LinkCalm'. -/
def linkCalmCard : Claim7 := { stood := { row := linkCalmRow, standIns := [], harness := (true, "40ec77e4eaf53f31bac6ccf5c7f0d2eb04297e8b1fa6b25974a349214fce3a6e"), looks := false }, kinds := [], alts := [], laidByText := true, laidKinds := [.data, .data, .pinned], laidTests := true, laidLooks := .later }
def LinkCalmCardSaid : Prop := Claim7.holds Tryz.pinned (.plain (OpenSpec.ofChange linkCalmSpec)) linkCalmCard

/-- THE TIED CARD OF 'squelchlaw20.LinkStates'. -/
def linkStatesCard : Claim7 := { stood := { row := linkStatesRow, standIns := [], harness := (true, "40ec77e4eaf53f31bac6ccf5c7f0d2eb04297e8b1fa6b25974a349214fce3a6e"), looks := false }, kinds := [], alts := [], laidByText := true, laidKinds := [.data, .data, .pinned], laidTests := true, laidLooks := .later }
def LinkStatesCardSaid : Prop := Claim7.holds Tryz.pinned (.plain (OpenSpec.ofChange linkStatesSpec)) linkStatesCard

/-- THE TIED CARD OF 'squelchlaw20.LinkFails'. -/
def linkFailsCard : Claim7 := { stood := { row := linkFailsRow, standIns := [], harness := (true, "40ec77e4eaf53f31bac6ccf5c7f0d2eb04297e8b1fa6b25974a349214fce3a6e"), looks := false }, kinds := [], alts := [], laidByText := true, laidKinds := [.data, .data, .pinned], laidTests := true, laidLooks := .later }
def LinkFailsCardSaid : Prop := Claim7.holds Tryz.pinned (.plain (OpenSpec.ofChange linkFailsSpec)) linkFailsCard

/-- THE TIED CARD OF 'squelchlaw20.LinkCounts'. -/
def linkCountsCard : Claim7 := { stood := { row := linkCountsRow, standIns := [], harness := (true, "40ec77e4eaf53f31bac6ccf5c7f0d2eb04297e8b1fa6b25974a349214fce3a6e"), looks := false }, kinds := [], alts := [], laidByText := true, laidKinds := [.data, .data, .pinned], laidTests := true, laidLooks := .later }
def LinkCountsCardSaid : Prop := Claim7.holds Tryz.pinned (.plain (OpenSpec.ofChange linkCountsSpec)) linkCountsCard

/-- THE TIED CARD OF 'squelchlaw20.LinkHeld'. -/
def linkHeldCard : Claim7 := { stood := { row := linkHeldRow, standIns := [], harness := (true, "40ec77e4eaf53f31bac6ccf5c7f0d2eb04297e8b1fa6b25974a349214fce3a6e"), looks := false }, kinds := [], alts := [], laidByText := true, laidKinds := [.data, .data, .pinned], laidTests := true, laidLooks := .later }
def LinkHeldCardSaid : Prop := Claim7.holds Tryz.pinned (.plain (OpenSpec.ofChange linkHeldSpec)) linkHeldCard

/-- THE TIED CARD OF 'squelchlaw20.LinkCloses'. -/
def linkClosesCard : Claim7 := { stood := { row := linkClosesRow, standIns := [], harness := (true, "40ec77e4eaf53f31bac6ccf5c7f0d2eb04297e8b1fa6b25974a349214fce3a6e"), looks := false }, kinds := [], alts := [], laidByText := true, laidKinds := [.data, .data, .pinned], laidTests := true, laidLooks := .later }
def LinkClosesCardSaid : Prop := Claim7.holds Tryz.pinned (.plain (OpenSpec.ofChange linkClosesSpec)) linkClosesCard

/-- THE TIED CARD OF 'squelchlaw20.LinkReports'. -/
def linkReportsCard : Claim7 := { stood := { row := linkReportsRow, standIns := [], harness := (true, "40ec77e4eaf53f31bac6ccf5c7f0d2eb04297e8b1fa6b25974a349214fce3a6e"), looks := false }, kinds := [], alts := [], laidByText := true, laidKinds := [.data, .data, .pinned], laidTests := true, laidLooks := .later }
def LinkReportsCardSaid : Prop := Claim7.holds Tryz.pinned (.plain (OpenSpec.ofChange linkReportsSpec)) linkReportsCard

/-- THE TIED CARD OF 'squelchlaw21.LinksErrors'. -/
def linksErrorsCard : Claim7 := { stood := { row := linksErrorsRow, standIns := [], harness := (true, "40ec77e4eaf53f31bac6ccf5c7f0d2eb04297e8b1fa6b25974a349214fce3a6e"), looks := false }, kinds := [], alts := [], laidByText := true, laidKinds := [.data, .data, .pinned], laidTests := true, laidLooks := .later }
def LinksErrorsCardSaid : Prop := Claim7.holds Tryz.pinned (.plain (OpenSpec.ofChange linksErrorsSpec)) linksErrorsCard

/-- THE TIED CARD OF 'squelchlaw21.LinksTalk'. -/
def linksTalkCard : Claim7 := { stood := { row := linksTalkRow, standIns := [], harness := (true, "40ec77e4eaf53f31bac6ccf5c7f0d2eb04297e8b1fa6b25974a349214fce3a6e"), looks := false }, kinds := [], alts := [], laidByText := true, laidKinds := [.data, .data, .pinned], laidTests := true, laidLooks := .later }
def LinksTalkCardSaid : Prop := Claim7.holds Tryz.pinned (.plain (OpenSpec.ofChange linksTalkSpec)) linksTalkCard

/-- THE SECOND FORM's CARD OF 'squelchlaw20.LinkCalm'. -/
def linkCalmUptoCard : Claim7 := { stood := { row := linkCalmUptoRow, standIns := [], harness := (true, "40ec77e4eaf53f31bac6ccf5c7f0d2eb04297e8b1fa6b25974a349214fce3a6e"), looks := false }, kinds := [], alts := [], laidByText := true, laidKinds := [.data, .data, .pinned], laidTests := true, laidLooks := .later }
def LinkCalmUptoCardSaid : Prop := Claim7.holds Tryz.pinned (.plain (OpenSpec.upto linkCalmSpec)) linkCalmUptoCard

/-- THE SECOND FORM's CARD OF 'squelchlaw20.LinkStates'. -/
def linkStatesUptoCard : Claim7 := { stood := { row := linkStatesUptoRow, standIns := [], harness := (true, "40ec77e4eaf53f31bac6ccf5c7f0d2eb04297e8b1fa6b25974a349214fce3a6e"), looks := false }, kinds := [], alts := [], laidByText := true, laidKinds := [.data, .data, .pinned], laidTests := true, laidLooks := .later }
def LinkStatesUptoCardSaid : Prop := Claim7.holds Tryz.pinned (.plain (OpenSpec.upto linkStatesSpec)) linkStatesUptoCard

/-- THE SECOND FORM's CARD OF 'squelchlaw20.LinkFails'. -/
def linkFailsUptoCard : Claim7 := { stood := { row := linkFailsUptoRow, standIns := [], harness := (true, "40ec77e4eaf53f31bac6ccf5c7f0d2eb04297e8b1fa6b25974a349214fce3a6e"), looks := false }, kinds := [], alts := [], laidByText := true, laidKinds := [.data, .data, .pinned], laidTests := true, laidLooks := .later }
def LinkFailsUptoCardSaid : Prop := Claim7.holds Tryz.pinned (.plain (OpenSpec.upto linkFailsSpec)) linkFailsUptoCard

/-- THE SECOND FORM's CARD OF 'squelchlaw20.LinkCounts'. -/
def linkCountsUptoCard : Claim7 := { stood := { row := linkCountsUptoRow, standIns := [], harness := (true, "40ec77e4eaf53f31bac6ccf5c7f0d2eb04297e8b1fa6b25974a349214fce3a6e"), looks := false }, kinds := [], alts := [], laidByText := true, laidKinds := [.data, .data, .pinned], laidTests := true, laidLooks := .later }
def LinkCountsUptoCardSaid : Prop := Claim7.holds Tryz.pinned (.plain (OpenSpec.upto linkCountsSpec)) linkCountsUptoCard

/-- THE SECOND FORM's CARD OF 'squelchlaw20.LinkHeld'. -/
def linkHeldUptoCard : Claim7 := { stood := { row := linkHeldUptoRow, standIns := [], harness := (true, "40ec77e4eaf53f31bac6ccf5c7f0d2eb04297e8b1fa6b25974a349214fce3a6e"), looks := false }, kinds := [], alts := [], laidByText := true, laidKinds := [.data, .data, .pinned], laidTests := true, laidLooks := .later }
def LinkHeldUptoCardSaid : Prop := Claim7.holds Tryz.pinned (.plain (OpenSpec.upto linkHeldSpec)) linkHeldUptoCard

/-- THE SECOND FORM's CARD OF 'squelchlaw20.LinkCloses'. -/
def linkClosesUptoCard : Claim7 := { stood := { row := linkClosesUptoRow, standIns := [], harness := (true, "40ec77e4eaf53f31bac6ccf5c7f0d2eb04297e8b1fa6b25974a349214fce3a6e"), looks := false }, kinds := [], alts := [], laidByText := true, laidKinds := [.data, .data, .pinned], laidTests := true, laidLooks := .later }
def LinkClosesUptoCardSaid : Prop := Claim7.holds Tryz.pinned (.plain (OpenSpec.upto linkClosesSpec)) linkClosesUptoCard

/-- THE SECOND FORM's CARD OF 'squelchlaw20.LinkReports'. -/
def linkReportsUptoCard : Claim7 := { stood := { row := linkReportsUptoRow, standIns := [], harness := (true, "40ec77e4eaf53f31bac6ccf5c7f0d2eb04297e8b1fa6b25974a349214fce3a6e"), looks := false }, kinds := [], alts := [], laidByText := true, laidKinds := [.data, .data, .pinned], laidTests := true, laidLooks := .later }
def LinkReportsUptoCardSaid : Prop := Claim7.holds Tryz.pinned (.plain (OpenSpec.upto linkReportsSpec)) linkReportsUptoCard

/-- THE SECOND FORM's CARD OF 'squelchlaw21.LinksErrors'. -/
def linksErrorsUptoCard : Claim7 := { stood := { row := linksErrorsUptoRow, standIns := [], harness := (true, "40ec77e4eaf53f31bac6ccf5c7f0d2eb04297e8b1fa6b25974a349214fce3a6e"), looks := false }, kinds := [], alts := [], laidByText := true, laidKinds := [.data, .data, .pinned], laidTests := true, laidLooks := .later }
def LinksErrorsUptoCardSaid : Prop := Claim7.holds Tryz.pinned (.plain (OpenSpec.upto linksErrorsSpec)) linksErrorsUptoCard

/-- THE SECOND FORM's CARD OF 'squelchlaw21.LinksTalk'. -/
def linksTalkUptoCard : Claim7 := { stood := { row := linksTalkUptoRow, standIns := [], harness := (true, "40ec77e4eaf53f31bac6ccf5c7f0d2eb04297e8b1fa6b25974a349214fce3a6e"), looks := false }, kinds := [], alts := [], laidByText := true, laidKinds := [.data, .data, .pinned], laidTests := true, laidLooks := .later }
def LinksTalkUptoCardSaid : Prop := Claim7.holds Tryz.pinned (.plain (OpenSpec.upto linksTalkSpec)) linksTalkUptoCard
end Rows
end Go.Proofs.YtgoaepjjegblnaaGreatDoor
