/-
  DERIVED. GIVEN WITH THE SEED: THE CARDS: each row of YtadhiknmkiogjaaDoorRows.lean that lists a variable, with what it lists TIED to the program's text (the seventh form; the later family's looks); each row that meets fmt, with fmt's text TOLD by the authors' own Lean function (tested against real Go, not proved from fmt's source: count such statements apart). THE CARD IS WHAT COUNTS. Prove the row's statement (the work); the ties are given (YtadhiknmkiogjaaDoorTie.lean); close each card by the builder's one call (the guide's Derived/Test/ToyasCard.lean, 'card_holds'). Laid BY PROGRAM, IN A SANDBOX (cutbox-door.mjs). By AI agents, Wed Nov 11 2026. No macro, syntax, notation, axiom, sorry.
-/
import Derived.Test.YtadhiknmkiogjaaDoorRows
import GoSem.ClaimSeven
namespace Go.Proofs.YtadhiknmkiogjaaDoor
namespace Rows

/-- THE TIED CARD OF 'squelchlaw22.UiPuts'. -/
def uiPutsCard : Claim7 := { stood := { row := uiPutsRow, standIns := [], harness := (true, "c29b0bd37bbaa7268286862b599fb9c666b6c134d306491cceb6f4e1d8d83430"), looks := false }, kinds := [], alts := [], laidByText := true, laidKinds := [.data, .data, .pinned], laidTests := true, laidLooks := .later }
def UiPutsCardSaid : Prop := Claim7.holds Tryd.pinned (.plain (OpenSpec.ofChange uiPutsSpec)) uiPutsCard

/-- THE TIED CARD OF 'squelchlaw22.UiBeacons'. -/
def uiBeaconsCard : Claim7 := { stood := { row := uiBeaconsRow, standIns := [], harness := (true, "c29b0bd37bbaa7268286862b599fb9c666b6c134d306491cceb6f4e1d8d83430"), looks := false }, kinds := [], alts := [], laidByText := true, laidKinds := [.data, .data, .pinned], laidTests := true, laidLooks := .later }
def UiBeaconsCardSaid : Prop := Claim7.holds Tryd.pinned (.plain (OpenSpec.ofChange uiBeaconsSpec)) uiBeaconsCard

/-- THE TIED CARD OF 'squelchlaw22.UiNone'. -/
def uiNoneCard : Claim7 := { stood := { row := uiNoneRow, standIns := [], harness := (true, "c29b0bd37bbaa7268286862b599fb9c666b6c134d306491cceb6f4e1d8d83430"), looks := false }, kinds := [], alts := [], laidByText := true, laidKinds := [.data, .data, .pinned], laidTests := true, laidLooks := .later }
def UiNoneCardSaid : Prop := Claim7.holds Tryd.pinned (.plain (OpenSpec.ofChange uiNoneSpec)) uiNoneCard

/-- THE SECOND FORM's CARD OF 'squelchlaw22.UiPuts'. -/
def uiPutsUptoCard : Claim7 := { stood := { row := uiPutsUptoRow, standIns := [], harness := (true, "c29b0bd37bbaa7268286862b599fb9c666b6c134d306491cceb6f4e1d8d83430"), looks := false }, kinds := [], alts := [], laidByText := true, laidKinds := [.data, .data, .pinned], laidTests := true, laidLooks := .later }
def UiPutsUptoCardSaid : Prop := Claim7.holds Tryd.pinned (.plain (OpenSpec.upto uiPutsSpec)) uiPutsUptoCard

/-- THE SECOND FORM's CARD OF 'squelchlaw22.UiBeacons'. -/
def uiBeaconsUptoCard : Claim7 := { stood := { row := uiBeaconsUptoRow, standIns := [], harness := (true, "c29b0bd37bbaa7268286862b599fb9c666b6c134d306491cceb6f4e1d8d83430"), looks := false }, kinds := [], alts := [], laidByText := true, laidKinds := [.data, .data, .pinned], laidTests := true, laidLooks := .later }
def UiBeaconsUptoCardSaid : Prop := Claim7.holds Tryd.pinned (.plain (OpenSpec.upto uiBeaconsSpec)) uiBeaconsUptoCard

/-- THE SECOND FORM's CARD OF 'squelchlaw22.UiNone'. -/
def uiNoneUptoCard : Claim7 := { stood := { row := uiNoneUptoRow, standIns := [], harness := (true, "c29b0bd37bbaa7268286862b599fb9c666b6c134d306491cceb6f4e1d8d83430"), looks := false }, kinds := [], alts := [], laidByText := true, laidKinds := [.data, .data, .pinned], laidTests := true, laidLooks := .later }
def UiNoneUptoCardSaid : Prop := Claim7.holds Tryd.pinned (.plain (OpenSpec.upto uiNoneSpec)) uiNoneUptoCard
end Rows
end Go.Proofs.YtadhiknmkiogjaaDoor
