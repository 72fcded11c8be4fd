/-
  DERIVED. GIVEN WITH THE SEED: THE CARDS: each row of YtmbjhhpnckfppaaDoorRows.lean that lists a variable, with what it lists TIED to the program's text (the seventh form; the later family's looks); each row that meets fmt, with fmt's text TOLD by the authors' own Lean function (tested against real Go, not proved from fmt's source: count such statements apart). THE CARD IS WHAT COUNTS. Prove the row's statement (the work); the ties are given (YtmbjhhpnckfppaaDoorTie.lean); close each card by the builder's one call (the guide's Derived/Test/ToyasCard.lean, 'card_holds'). Laid BY PROGRAM, IN A SANDBOX (cutbox-door.mjs). By AI agents, Wed Nov 11 2026. No macro, syntax, notation, axiom, sorry.
-/
import Derived.Test.YtmbjhhpnckfppaaDoorRows
import GoSem.ClaimSeven
namespace Go.Proofs.YtmbjhhpnckfppaaDoor
namespace Rows

/-- THE TIED CARD OF 'squelchlaw08.XidTexts'. -/
def xidTextsCard : Claim7 := { stood := { row := xidTextsRow, standIns := [], harness := (true, "620c8a15fc7f83811276ff23534ddba508ba8d57fe5457a3f16b5d90c56e2641"), looks := true }, kinds := [], alts := [], laidByText := true, laidKinds := [.data, .data, .data, .sentinel, .sentinel], laidTests := true, laidLooks := .later }
def XidTextsCardSaid : Prop := Claim7.holds Tryd.pinned (.plain (OpenSpec.ofChange xidTextsSpec)) xidTextsCard

/-- THE TIED CARD OF 'squelchlaw08.XidParses'. -/
def xidParsesCard : Claim7 := { stood := { row := xidParsesRow, standIns := [], harness := (true, "620c8a15fc7f83811276ff23534ddba508ba8d57fe5457a3f16b5d90c56e2641"), looks := true }, kinds := [], alts := [], laidByText := true, laidKinds := [.data, .data, .data, .sentinel, .sentinel], laidTests := true, laidLooks := .later }
def XidParsesCardSaid : Prop := Claim7.holds Tryd.pinned (.plain (OpenSpec.ofChange xidParsesSpec)) xidParsesCard

/-- THE SECOND FORM's CARD OF 'squelchlaw08.XidTexts'. -/
def xidTextsUptoCard : Claim7 := { stood := { row := xidTextsUptoRow, standIns := [], harness := (true, "620c8a15fc7f83811276ff23534ddba508ba8d57fe5457a3f16b5d90c56e2641"), looks := true }, kinds := [], alts := [], laidByText := true, laidKinds := [.data, .data, .data, .sentinel, .sentinel], laidTests := true, laidLooks := .later }
def XidTextsUptoCardSaid : Prop := Claim7.holds Tryd.pinned (.plain (OpenSpec.upto xidTextsSpec)) xidTextsUptoCard

/-- THE SECOND FORM's CARD OF 'squelchlaw08.XidParses'. -/
def xidParsesUptoCard : Claim7 := { stood := { row := xidParsesUptoRow, standIns := [], harness := (true, "620c8a15fc7f83811276ff23534ddba508ba8d57fe5457a3f16b5d90c56e2641"), looks := true }, kinds := [], alts := [], laidByText := true, laidKinds := [.data, .data, .data, .sentinel, .sentinel], laidTests := true, laidLooks := .later }
def XidParsesUptoCardSaid : Prop := Claim7.holds Tryd.pinned (.plain (OpenSpec.upto xidParsesSpec)) xidParsesUptoCard
end Rows
end Go.Proofs.YtmbjhhpnckfppaaDoor
