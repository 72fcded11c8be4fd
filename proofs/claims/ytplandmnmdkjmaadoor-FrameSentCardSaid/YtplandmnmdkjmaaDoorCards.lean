/-
  DERIVED. GIVEN WITH THE SEED: THE CARDS: each row of YtplandmnmdkjmaaDoorRows.lean that lists a variable, with what it lists TIED to the program's text (the seventh form; the later family's looks); each row that meets fmt, with fmt's text TOLD by the authors' own Lean function (tested against real Go, not proved from fmt's source: count such statements apart). THE CARD IS WHAT COUNTS. Prove the row's statement (the work); the ties are given (YtplandmnmdkjmaaDoorTie.lean); close each card by the builder's one call (the guide's Derived/Test/ToyasCard.lean, 'card_holds'). Laid BY PROGRAM, IN A SANDBOX (cutbox-door.mjs). By AI agents, Wed Nov 11 2026. No macro, syntax, notation, axiom, sorry.
-/
import Derived.Test.YtplandmnmdkjmaaDoorRows
import GoSem.ClaimSeven
namespace Go.Proofs.YtplandmnmdkjmaaDoor
namespace Rows

/-- THE TIED CARD OF 'squelchlaw07.FrameEncodes'. -/
def frameEncodesCard : Claim7 := { stood := { row := frameEncodesRow, standIns := [], harness := (true, "c160ade12fdac1fc5a154c3203b117196fcfde24145a0f46aa1dd3e557938ea4"), looks := false }, kinds := [], alts := [], laidByText := true, laidKinds := [.data, .data, .data, .data, .data, .data, .pinned], laidTests := true, laidLooks := .later }
def FrameEncodesCardSaid : Prop := Claim7.holds Tryd.pinned (.plain (OpenSpec.ofChange frameEncodesSpec)) frameEncodesCard

/-- THE TIED CARD OF 'squelchlaw07.FrameKinds'. -/
def frameKindsCard : Claim7 := { stood := { row := frameKindsRow, standIns := [], harness := (true, "c160ade12fdac1fc5a154c3203b117196fcfde24145a0f46aa1dd3e557938ea4"), looks := false }, kinds := [], alts := [], laidByText := true, laidKinds := [.data, .data, .data, .data, .data, .data, .pinned], laidTests := true, laidLooks := .later }
def FrameKindsCardSaid : Prop := Claim7.holds Tryd.pinned (.plain (OpenSpec.ofChange frameKindsSpec)) frameKindsCard

/-- THE TIED CARD OF 'squelchlaw07.FrameSent'. -/
def frameSentCard : Claim7 := { stood := { row := frameSentRow, standIns := [], harness := (true, "c160ade12fdac1fc5a154c3203b117196fcfde24145a0f46aa1dd3e557938ea4"), looks := false }, kinds := [], alts := [], laidByText := true, laidKinds := [.data, .data, .data, .data, .data, .data, .pinned], laidTests := true, laidLooks := .later }
def FrameSentCardSaid : Prop := Claim7.holds Tryd.pinned (.plain (OpenSpec.ofChange frameSentSpec)) frameSentCard

/-- THE SECOND FORM's CARD OF 'squelchlaw07.FrameEncodes'. -/
def frameEncodesUptoCard : Claim7 := { stood := { row := frameEncodesUptoRow, standIns := [], harness := (true, "c160ade12fdac1fc5a154c3203b117196fcfde24145a0f46aa1dd3e557938ea4"), looks := false }, kinds := [], alts := [], laidByText := true, laidKinds := [.data, .data, .data, .data, .data, .data, .pinned], laidTests := true, laidLooks := .later }
def FrameEncodesUptoCardSaid : Prop := Claim7.holds Tryd.pinned (.plain (OpenSpec.upto frameEncodesSpec)) frameEncodesUptoCard

/-- THE SECOND FORM's CARD OF 'squelchlaw07.FrameKinds'. -/
def frameKindsUptoCard : Claim7 := { stood := { row := frameKindsUptoRow, standIns := [], harness := (true, "c160ade12fdac1fc5a154c3203b117196fcfde24145a0f46aa1dd3e557938ea4"), looks := false }, kinds := [], alts := [], laidByText := true, laidKinds := [.data, .data, .data, .data, .data, .data, .pinned], laidTests := true, laidLooks := .later }
def FrameKindsUptoCardSaid : Prop := Claim7.holds Tryd.pinned (.plain (OpenSpec.upto frameKindsSpec)) frameKindsUptoCard

/-- THE SECOND FORM's CARD OF 'squelchlaw07.FrameSent'. -/
def frameSentUptoCard : Claim7 := { stood := { row := frameSentUptoRow, standIns := [], harness := (true, "c160ade12fdac1fc5a154c3203b117196fcfde24145a0f46aa1dd3e557938ea4"), looks := false }, kinds := [], alts := [], laidByText := true, laidKinds := [.data, .data, .data, .data, .data, .data, .pinned], laidTests := true, laidLooks := .later }
def FrameSentUptoCardSaid : Prop := Claim7.holds Tryd.pinned (.plain (OpenSpec.upto frameSentSpec)) frameSentUptoCard
end Rows
end Go.Proofs.YtplandmnmdkjmaaDoor
