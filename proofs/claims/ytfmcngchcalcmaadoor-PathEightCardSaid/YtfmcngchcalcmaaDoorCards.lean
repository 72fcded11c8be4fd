/-
  DERIVED. GIVEN WITH THE SEED: THE CARDS: each row of YtfmcngchcalcmaaDoorRows.lean that lists a variable, with what it lists TIED to the program's text (the seventh form; the later family's looks); each row that meets fmt, with fmt's text TOLD by the authors' own Lean function (tested against real Go, not proved from fmt's source: count such statements apart). THE CARD IS WHAT COUNTS. Prove the row's statement (the work); the ties are given (YtfmcngchcalcmaaDoorTie.lean); close each card by the builder's one call (the guide's Derived/Test/ToyasCard.lean, 'card_holds'). Laid BY PROGRAM, IN A SANDBOX (cutbox-door.mjs). By AI agents, Wed Nov 11 2026. No macro, syntax, notation, axiom, sorry.
-/
import Derived.Test.YtfmcngchcalcmaaDoorRows
import GoSem.ClaimSeven
namespace Go.Proofs.YtfmcngchcalcmaaDoor
namespace Rows

/-- THE TIED CARD OF 'squelchlaw05.PathBytes'. -/
def pathBytesCard : Claim7 := { stood := { row := pathBytesRow, standIns := [], harness := (true, "de01a5084a8e35784653fe692f8202fd18d91c1c33317f8f50b76c907e1b20e7"), looks := true }, kinds := [], alts := [], laidByText := true, laidKinds := [.data, .data, .data, .data, .pinned], laidTests := true, laidLooks := .later }
def PathBytesCardSaid : Prop := Claim7.holds Tryd.pinned (.plain (OpenSpec.ofChange pathBytesSpec)) pathBytesCard

/-- THE TIED CARD OF 'squelchlaw05.PathReads'. -/
def pathReadsCard : Claim7 := { stood := { row := pathReadsRow, standIns := [], harness := (true, "de01a5084a8e35784653fe692f8202fd18d91c1c33317f8f50b76c907e1b20e7"), looks := true }, kinds := [], alts := [], laidByText := true, laidKinds := [.data, .data, .data, .data, .pinned], laidTests := true, laidLooks := .later }
def PathReadsCardSaid : Prop := Claim7.holds Tryd.pinned (.plain (OpenSpec.ofChange pathReadsSpec)) pathReadsCard

/-- THE TIED CARD OF 'squelchlaw05.PathGoes'. -/
def pathGoesCard : Claim7 := { stood := { row := pathGoesRow, standIns := [], harness := (true, "de01a5084a8e35784653fe692f8202fd18d91c1c33317f8f50b76c907e1b20e7"), looks := true }, kinds := [], alts := [], laidByText := true, laidKinds := [.data, .data, .data], laidTests := true, laidLooks := .later }
def PathGoesCardSaid : Prop := Claim7.holds Tryd.pinned (.plain (OpenSpec.ofChange pathGoesSpec)) pathGoesCard

/-- THE TIED CARD OF 'squelchlaw05.PathEight'. -/
def pathEightCard : Claim7 := { stood := { row := pathEightRow, standIns := [], harness := (true, "de01a5084a8e35784653fe692f8202fd18d91c1c33317f8f50b76c907e1b20e7"), looks := true }, kinds := [], alts := [], laidByText := true, laidKinds := [.data, .data, .data], laidTests := true, laidLooks := .later }
def PathEightCardSaid : Prop := Claim7.holds Tryd.pinned (.plain (OpenSpec.ofChange pathEightSpec)) pathEightCard

/-- THE TIED CARD OF 'squelchlaw05.PathParses'. -/
def pathParsesCard : Claim7 := { stood := { row := pathParsesRow, standIns := [], harness := (true, "de01a5084a8e35784653fe692f8202fd18d91c1c33317f8f50b76c907e1b20e7"), looks := true }, kinds := [], alts := [], laidByText := true, laidKinds := [.data, .data, .data, .sentinel, .sentinel], laidTests := true, laidLooks := .later }
def PathParsesCardSaid : Prop := Claim7.holds Tryd.pinned (.plain (OpenSpec.ofChange pathParsesSpec)) pathParsesCard

/-- THE TIED CARD OF 'squelchlaw05.PathTexts'. -/
def pathTextsCard : Claim7 := { stood := { row := pathTextsRow, standIns := [], harness := (true, "de01a5084a8e35784653fe692f8202fd18d91c1c33317f8f50b76c907e1b20e7"), looks := true }, kinds := [], alts := [], laidByText := true, laidKinds := [.data, .data, .data, .sentinel, .sentinel], laidTests := true, laidLooks := .later }
def PathTextsCardSaid : Prop := Claim7.holds Tryd.pinned (.plain (OpenSpec.ofChange pathTextsSpec)) pathTextsCard

/-- THE TIED CARD OF 'squelchlaw06.CtlPuts'. -/
def ctlPutsCard : Claim7 := { stood := { row := ctlPutsRow, standIns := [], harness := (true, "de01a5084a8e35784653fe692f8202fd18d91c1c33317f8f50b76c907e1b20e7"), looks := true }, kinds := [], alts := [], laidByText := true, laidKinds := [.data], laidTests := true, laidLooks := .later }
def CtlPutsCardSaid : Prop := Claim7.holds Tryd.pinned (.plain (OpenSpec.ofChange ctlPutsSpec)) ctlPutsCard

/-- THE TIED CARD OF 'squelchlaw06.CtlKinds'. -/
def ctlKindsCard : Claim7 := { stood := { row := ctlKindsRow, standIns := [], harness := (true, "de01a5084a8e35784653fe692f8202fd18d91c1c33317f8f50b76c907e1b20e7"), looks := true }, kinds := [], alts := [], laidByText := true, laidKinds := [.data, .data], laidTests := true, laidLooks := .later }
def CtlKindsCardSaid : Prop := Claim7.holds Tryd.pinned (.plain (OpenSpec.ofChange ctlKindsSpec)) ctlKindsCard

/-- THE TIED CARD OF 'squelchlaw06.CtlUnlike'. -/
def ctlUnlikeCard : Claim7 := { stood := { row := ctlUnlikeRow, standIns := [], harness := (true, "de01a5084a8e35784653fe692f8202fd18d91c1c33317f8f50b76c907e1b20e7"), looks := true }, kinds := [], alts := [], laidByText := true, laidKinds := [.data], laidTests := true, laidLooks := .later }
def CtlUnlikeCardSaid : Prop := Claim7.holds Tryd.pinned (.plain (OpenSpec.ofChange ctlUnlikeSpec)) ctlUnlikeCard

/-- THE TIED CARD OF 'squelchlaw06.CtlModes'. -/
def ctlModesCard : Claim7 := { stood := { row := ctlModesRow, standIns := [], harness := (true, "de01a5084a8e35784653fe692f8202fd18d91c1c33317f8f50b76c907e1b20e7"), looks := true }, kinds := [], alts := [], laidByText := true, laidKinds := [.data], laidTests := true, laidLooks := .later }
def CtlModesCardSaid : Prop := Claim7.holds Tryd.pinned (.plain (OpenSpec.ofChange ctlModesSpec)) ctlModesCard

/-- THE SECOND FORM's CARD OF 'squelchlaw05.PathBytes'. -/
def pathBytesUptoCard : Claim7 := { stood := { row := pathBytesUptoRow, standIns := [], harness := (true, "de01a5084a8e35784653fe692f8202fd18d91c1c33317f8f50b76c907e1b20e7"), looks := true }, kinds := [], alts := [], laidByText := true, laidKinds := [.data, .data, .data, .data, .pinned], laidTests := true, laidLooks := .later }
def PathBytesUptoCardSaid : Prop := Claim7.holds Tryd.pinned (.plain (OpenSpec.upto pathBytesSpec)) pathBytesUptoCard

/-- THE SECOND FORM's CARD OF 'squelchlaw05.PathReads'. -/
def pathReadsUptoCard : Claim7 := { stood := { row := pathReadsUptoRow, standIns := [], harness := (true, "de01a5084a8e35784653fe692f8202fd18d91c1c33317f8f50b76c907e1b20e7"), looks := true }, kinds := [], alts := [], laidByText := true, laidKinds := [.data, .data, .data, .data, .pinned], laidTests := true, laidLooks := .later }
def PathReadsUptoCardSaid : Prop := Claim7.holds Tryd.pinned (.plain (OpenSpec.upto pathReadsSpec)) pathReadsUptoCard

/-- THE SECOND FORM's CARD OF 'squelchlaw05.PathGoes'. -/
def pathGoesUptoCard : Claim7 := { stood := { row := pathGoesUptoRow, standIns := [], harness := (true, "de01a5084a8e35784653fe692f8202fd18d91c1c33317f8f50b76c907e1b20e7"), looks := true }, kinds := [], alts := [], laidByText := true, laidKinds := [.data, .data, .data], laidTests := true, laidLooks := .later }
def PathGoesUptoCardSaid : Prop := Claim7.holds Tryd.pinned (.plain (OpenSpec.upto pathGoesSpec)) pathGoesUptoCard

/-- THE SECOND FORM's CARD OF 'squelchlaw05.PathEight'. -/
def pathEightUptoCard : Claim7 := { stood := { row := pathEightUptoRow, standIns := [], harness := (true, "de01a5084a8e35784653fe692f8202fd18d91c1c33317f8f50b76c907e1b20e7"), looks := true }, kinds := [], alts := [], laidByText := true, laidKinds := [.data, .data, .data], laidTests := true, laidLooks := .later }
def PathEightUptoCardSaid : Prop := Claim7.holds Tryd.pinned (.plain (OpenSpec.upto pathEightSpec)) pathEightUptoCard

/-- THE SECOND FORM's CARD OF 'squelchlaw05.PathParses'. -/
def pathParsesUptoCard : Claim7 := { stood := { row := pathParsesUptoRow, standIns := [], harness := (true, "de01a5084a8e35784653fe692f8202fd18d91c1c33317f8f50b76c907e1b20e7"), looks := true }, kinds := [], alts := [], laidByText := true, laidKinds := [.data, .data, .data, .sentinel, .sentinel], laidTests := true, laidLooks := .later }
def PathParsesUptoCardSaid : Prop := Claim7.holds Tryd.pinned (.plain (OpenSpec.upto pathParsesSpec)) pathParsesUptoCard

/-- THE SECOND FORM's CARD OF 'squelchlaw05.PathTexts'. -/
def pathTextsUptoCard : Claim7 := { stood := { row := pathTextsUptoRow, standIns := [], harness := (true, "de01a5084a8e35784653fe692f8202fd18d91c1c33317f8f50b76c907e1b20e7"), looks := true }, kinds := [], alts := [], laidByText := true, laidKinds := [.data, .data, .data, .sentinel, .sentinel], laidTests := true, laidLooks := .later }
def PathTextsUptoCardSaid : Prop := Claim7.holds Tryd.pinned (.plain (OpenSpec.upto pathTextsSpec)) pathTextsUptoCard

/-- THE SECOND FORM's CARD OF 'squelchlaw06.CtlPuts'. -/
def ctlPutsUptoCard : Claim7 := { stood := { row := ctlPutsUptoRow, standIns := [], harness := (true, "de01a5084a8e35784653fe692f8202fd18d91c1c33317f8f50b76c907e1b20e7"), looks := true }, kinds := [], alts := [], laidByText := true, laidKinds := [.data], laidTests := true, laidLooks := .later }
def CtlPutsUptoCardSaid : Prop := Claim7.holds Tryd.pinned (.plain (OpenSpec.upto ctlPutsSpec)) ctlPutsUptoCard

/-- THE SECOND FORM's CARD OF 'squelchlaw06.CtlKinds'. -/
def ctlKindsUptoCard : Claim7 := { stood := { row := ctlKindsUptoRow, standIns := [], harness := (true, "de01a5084a8e35784653fe692f8202fd18d91c1c33317f8f50b76c907e1b20e7"), looks := true }, kinds := [], alts := [], laidByText := true, laidKinds := [.data, .data], laidTests := true, laidLooks := .later }
def CtlKindsUptoCardSaid : Prop := Claim7.holds Tryd.pinned (.plain (OpenSpec.upto ctlKindsSpec)) ctlKindsUptoCard

/-- THE SECOND FORM's CARD OF 'squelchlaw06.CtlUnlike'. -/
def ctlUnlikeUptoCard : Claim7 := { stood := { row := ctlUnlikeUptoRow, standIns := [], harness := (true, "de01a5084a8e35784653fe692f8202fd18d91c1c33317f8f50b76c907e1b20e7"), looks := true }, kinds := [], alts := [], laidByText := true, laidKinds := [.data], laidTests := true, laidLooks := .later }
def CtlUnlikeUptoCardSaid : Prop := Claim7.holds Tryd.pinned (.plain (OpenSpec.upto ctlUnlikeSpec)) ctlUnlikeUptoCard

/-- THE SECOND FORM's CARD OF 'squelchlaw06.CtlModes'. -/
def ctlModesUptoCard : Claim7 := { stood := { row := ctlModesUptoRow, standIns := [], harness := (true, "de01a5084a8e35784653fe692f8202fd18d91c1c33317f8f50b76c907e1b20e7"), looks := true }, kinds := [], alts := [], laidByText := true, laidKinds := [.data], laidTests := true, laidLooks := .later }
def CtlModesUptoCardSaid : Prop := Claim7.holds Tryd.pinned (.plain (OpenSpec.upto ctlModesSpec)) ctlModesUptoCard
end Rows
end Go.Proofs.YtfmcngchcalcmaaDoor
