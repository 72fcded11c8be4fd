/-
  DERIVED. GIVEN WITH THE SEED: THE CARDS: each row of YtaaeppembjkelaaDoorRows.lean that lists a variable, with what it lists TIED to the program's text (the seventh form; the later family's looks); each row that meets fmt, with fmt's text TOLD by the authors' own Lean function (tested against real Go, not proved from fmt's source: count such statements apart). THE CARD IS WHAT COUNTS. Prove the row's statement (the work); the ties are given (YtaaeppembjkelaaDoorTie.lean); close each card by the builder's one call (the guide's Derived/Test/ToyasCard.lean, 'card_holds'). Laid BY PROGRAM, IN A SANDBOX (cutbox-door.mjs). By AI agents, Wed Nov 11 2026. No macro, syntax, notation, axiom, sorry.
-/
import Derived.Test.YtaaeppembjkelaaDoorRows
import GoSem.ClaimSeven
namespace Go.Proofs.YtaaeppembjkelaaDoor
namespace Rows

/-- THE TIED CARD OF 'squelchlaw04.CallWords'. -/
def callWordsCard : Claim7 := { stood := { row := callWordsRow, standIns := [], harness := (true, "e97ea5350e6374a0af4d1e2274cb326b4123a0a616b4536ae0fbfc79a3c00f37"), looks := true }, kinds := [], alts := [], laidByText := true, laidKinds := [.data, .data, .data, .sentinel, .sentinel], laidTests := true, laidLooks := .later }
def CallWordsCardSaid : Prop := Claim7.holds Tryd.pinned (.plain (OpenSpec.ofChange callWordsSpec)) callWordsCard

/-- THE TIED CARD OF 'squelchlaw04.CallBytes'. -/
def callBytesCard : Claim7 := { stood := { row := callBytesRow, standIns := [], harness := (true, "e97ea5350e6374a0af4d1e2274cb326b4123a0a616b4536ae0fbfc79a3c00f37"), looks := true }, kinds := [], alts := [], laidByText := true, laidKinds := [.data, .data, .data, .data, .sentinel, .sentinel, .pinned], laidTests := true, laidLooks := .later }
def CallBytesCardSaid : Prop := Claim7.holds Tryd.pinned (.plain (OpenSpec.ofChange callBytesSpec)) callBytesCard

/-- THE TIED CARD OF 'squelchlaw04.CallOrder'. -/
def callOrderCard : Claim7 := { stood := { row := callOrderRow, standIns := [], harness := (true, "e97ea5350e6374a0af4d1e2274cb326b4123a0a616b4536ae0fbfc79a3c00f37"), looks := true }, kinds := [], alts := [], laidByText := true, laidKinds := [.data, .data, .data, .sentinel, .sentinel], laidTests := true, laidLooks := .later }
def CallOrderCardSaid : Prop := Claim7.holds Tryd.pinned (.plain (OpenSpec.ofChange callOrderSpec)) callOrderCard

/-- THE TIED CARD OF 'squelchlaw04.CallDistinct'. -/
def callDistinctCard : Claim7 := { stood := { row := callDistinctRow, standIns := [], harness := (true, "e97ea5350e6374a0af4d1e2274cb326b4123a0a616b4536ae0fbfc79a3c00f37"), looks := true }, kinds := [], alts := [], laidByText := true, laidKinds := [.data, .data, .data, .sentinel, .sentinel], laidTests := true, laidLooks := .later }
def CallDistinctCardSaid : Prop := Claim7.holds Tryd.pinned (.plain (OpenSpec.ofChange callDistinctSpec)) callDistinctCard

/-- THE SECOND FORM's CARD OF 'squelchlaw04.CallWords'. -/
def callWordsUptoCard : Claim7 := { stood := { row := callWordsUptoRow, standIns := [], harness := (true, "e97ea5350e6374a0af4d1e2274cb326b4123a0a616b4536ae0fbfc79a3c00f37"), looks := true }, kinds := [], alts := [], laidByText := true, laidKinds := [.data, .data, .data, .sentinel, .sentinel], laidTests := true, laidLooks := .later }
def CallWordsUptoCardSaid : Prop := Claim7.holds Tryd.pinned (.plain (OpenSpec.upto callWordsSpec)) callWordsUptoCard

/-- THE SECOND FORM's CARD OF 'squelchlaw04.CallBytes'. -/
def callBytesUptoCard : Claim7 := { stood := { row := callBytesUptoRow, standIns := [], harness := (true, "e97ea5350e6374a0af4d1e2274cb326b4123a0a616b4536ae0fbfc79a3c00f37"), looks := true }, kinds := [], alts := [], laidByText := true, laidKinds := [.data, .data, .data, .data, .sentinel, .sentinel, .pinned], laidTests := true, laidLooks := .later }
def CallBytesUptoCardSaid : Prop := Claim7.holds Tryd.pinned (.plain (OpenSpec.upto callBytesSpec)) callBytesUptoCard

/-- THE SECOND FORM's CARD OF 'squelchlaw04.CallOrder'. -/
def callOrderUptoCard : Claim7 := { stood := { row := callOrderUptoRow, standIns := [], harness := (true, "e97ea5350e6374a0af4d1e2274cb326b4123a0a616b4536ae0fbfc79a3c00f37"), looks := true }, kinds := [], alts := [], laidByText := true, laidKinds := [.data, .data, .data, .sentinel, .sentinel], laidTests := true, laidLooks := .later }
def CallOrderUptoCardSaid : Prop := Claim7.holds Tryd.pinned (.plain (OpenSpec.upto callOrderSpec)) callOrderUptoCard

/-- THE SECOND FORM's CARD OF 'squelchlaw04.CallDistinct'. -/
def callDistinctUptoCard : Claim7 := { stood := { row := callDistinctUptoRow, standIns := [], harness := (true, "e97ea5350e6374a0af4d1e2274cb326b4123a0a616b4536ae0fbfc79a3c00f37"), looks := true }, kinds := [], alts := [], laidByText := true, laidKinds := [.data, .data, .data, .sentinel, .sentinel], laidTests := true, laidLooks := .later }
def CallDistinctUptoCardSaid : Prop := Claim7.holds Tryd.pinned (.plain (OpenSpec.upto callDistinctSpec)) callDistinctUptoCard
end Rows
end Go.Proofs.YtaaeppembjkelaaDoor
