/-
  DERIVED. GIVEN WITH THE SEED: THE CARDS: each row of YtikabflmgckdnaaDoorRows.lean that lists a variable, with what it lists TIED to the program's text (the seventh form; the later family's looks); each row that meets fmt, with fmt's text TOLD by the authors' own Lean function (tested against real Go, not proved from fmt's source: count such statements apart). THE CARD IS WHAT COUNTS. Prove the row's statement (the work); the ties are given (YtikabflmgckdnaaDoorTie.lean); close each card by the builder's one call (the guide's Derived/Test/ToyasCard.lean, 'card_holds'). Laid BY PROGRAM, IN A SANDBOX (cutbox-door.mjs). By AI agents, Wed Nov 11 2026. No macro, syntax, notation, axiom, sorry.
-/
import Derived.Test.YtikabflmgckdnaaDoorRows
import GoSem.ClaimSeven
namespace Go.Proofs.YtikabflmgckdnaaDoor
namespace Rows

/-- THE TIED CARD OF 'squelchlaw18.DigiSends'. -/
def digiSendsCard : Claim7 := { stood := { row := digiSendsRow, standIns := [], harness := (true, "a690c11646df4d3beb38dc4bfeea8974dc3a385e2cdc2f7d20835369818b8d38"), looks := false }, kinds := [], alts := [], laidByText := true, laidKinds := [.data, .data, .pinned], laidTests := true, laidLooks := .later }
def DigiSendsCardSaid : Prop := Claim7.holds Tryd.pinned (.plain (OpenSpec.ofChange digiSendsSpec)) digiSendsCard

/-- THE TIED CARD OF 'squelchlaw18.DigiOnce'. -/
def digiOnceCard : Claim7 := { stood := { row := digiOnceRow, standIns := [], harness := (true, "a690c11646df4d3beb38dc4bfeea8974dc3a385e2cdc2f7d20835369818b8d38"), looks := false }, kinds := [], alts := [], laidByText := true, laidKinds := [.data, .data, .pinned], laidTests := true, laidLooks := .later }
def DigiOnceCardSaid : Prop := Claim7.holds Tryd.pinned (.plain (OpenSpec.ofChange digiOnceSpec)) digiOnceCard

/-- THE TIED CARD OF 'squelchlaw18.DigiNone'. -/
def digiNoneCard : Claim7 := { stood := { row := digiNoneRow, standIns := [], harness := (true, "a690c11646df4d3beb38dc4bfeea8974dc3a385e2cdc2f7d20835369818b8d38"), looks := false }, kinds := [], alts := [], laidByText := true, laidKinds := [.data, .data, .pinned], laidTests := true, laidLooks := .later }
def DigiNoneCardSaid : Prop := Claim7.holds Tryd.pinned (.plain (OpenSpec.ofChange digiNoneSpec)) digiNoneCard

/-- THE SECOND FORM's CARD OF 'squelchlaw18.DigiSends'. -/
def digiSendsUptoCard : Claim7 := { stood := { row := digiSendsUptoRow, standIns := [], harness := (true, "a690c11646df4d3beb38dc4bfeea8974dc3a385e2cdc2f7d20835369818b8d38"), looks := false }, kinds := [], alts := [], laidByText := true, laidKinds := [.data, .data, .pinned], laidTests := true, laidLooks := .later }
def DigiSendsUptoCardSaid : Prop := Claim7.holds Tryd.pinned (.plain (OpenSpec.upto digiSendsSpec)) digiSendsUptoCard

/-- THE SECOND FORM's CARD OF 'squelchlaw18.DigiOnce'. -/
def digiOnceUptoCard : Claim7 := { stood := { row := digiOnceUptoRow, standIns := [], harness := (true, "a690c11646df4d3beb38dc4bfeea8974dc3a385e2cdc2f7d20835369818b8d38"), looks := false }, kinds := [], alts := [], laidByText := true, laidKinds := [.data, .data, .pinned], laidTests := true, laidLooks := .later }
def DigiOnceUptoCardSaid : Prop := Claim7.holds Tryd.pinned (.plain (OpenSpec.upto digiOnceSpec)) digiOnceUptoCard

/-- THE SECOND FORM's CARD OF 'squelchlaw18.DigiNone'. -/
def digiNoneUptoCard : Claim7 := { stood := { row := digiNoneUptoRow, standIns := [], harness := (true, "a690c11646df4d3beb38dc4bfeea8974dc3a385e2cdc2f7d20835369818b8d38"), looks := false }, kinds := [], alts := [], laidByText := true, laidKinds := [.data, .data, .pinned], laidTests := true, laidLooks := .later }
def DigiNoneUptoCardSaid : Prop := Claim7.holds Tryd.pinned (.plain (OpenSpec.upto digiNoneSpec)) digiNoneUptoCard
end Rows
end Go.Proofs.YtikabflmgckdnaaDoor
