/-
  No cell of these rows narrows 'for every input' (looked for: loops, veiled, ifaces, maps, wideKeys, modest, calm, conditions, laid).
  DERIVED. THE GIVEN ROWS OF THIS SEAT. 3 by the template 'for every input the law returns true; each argument reads behind the call as it read before'; 0 by the template 'total and deterministic' (their statements: YteglaenjmeocmaaTotals.lean).
  GIVEN WITH THE SEED: the statements are not yours to turn. If you find one false, say at which input.
  Laid BY PROGRAM, IN A SANDBOX (cutbox-rows.mjs): the forced cells as the released guide's own fill.sh prints them over the translation 067e28324688da5e… (all of the seat's roots in one cut). By AI agents, Wed Nov 11 2026. No macro, syntax, notation, axiom, sorry.
-/
import Derived.Test.YteglaenjmeocmaaChecked
import GoSem.Claim
import GoSem.ClaimJoined
import GoSem.ClaimMapViews
import Derived.JoinedTies
import Derived.KernelRfl
namespace Go.Proofs.Yteglaenjmeocmaa
/- THE CELL 'sum', in the pinned program and in every row, IS THE sha256 OF THE DUMP (.gsa) THAT YteglaenjmeocmaaProg.lean LOADS. Nothing in Lean hashes anything: it is a label: what it is worth is what the hold of that sum in a sandbox is worth. -/
noncomputable def Try.pinned : Pinned := { name := "yteglaenjmeocmaa", sum := "067e28324688da5e3c504fb1472e461bd17943bb2c3adb5917228610f0c8228a", checked := Try.checked }
namespace Rows
def none {H : Type} : Left H := { results := [], args := [] }

/-- 'squelchlaw03.TncApplies': WHATEVER THE INPUT: true; the input reads as it did. -/
def tncAppliesSpec : ChangeSpec := { name := "tncApplies", fn := fun _ => fun
  | [d1, d2] => { results := [.lit (.bool true)], args := [d1, d2] }
  | _ => none }
def tncAppliesRow : OpenClaim := { program := "yteglaenjmeocmaa", sum := "067e28324688da5e3c504fb1472e461bd17943bb2c3adb5917228610f0c8228a", func := "squelch/squelchlaw03.TncApplies", spec := "tncApplies", apart := false }
def TncAppliesSaid : Prop := tncAppliesRow.holds Try.pinned (OpenSpec.ofChange tncAppliesSpec)

/-- ITS FALSE NEIGHBOUR: 'it returns false'. Refute it at one input. -/
def tncAppliesWrong : ChangeSpec := { name := "tncApplies", fn := fun _ => fun
  | [d1, d2] => { results := [.lit (.bool false)], args := [d1, d2] }
  | _ => none }
def TncAppliesWrongFalsely : Prop := tncAppliesRow.holds Try.pinned (OpenSpec.ofChange tncAppliesWrong)

/-- 'squelchlaw03.TncFrames': WHATEVER THE INPUT: true; the input reads as it did. -/
def tncFramesSpec : ChangeSpec := { name := "tncFrames", fn := fun _ => fun
  | [d1, d2, d3] => { results := [.lit (.bool true)], args := [d1, d2, d3] }
  | _ => none }
def tncFramesRow : OpenClaim := { program := "yteglaenjmeocmaa", sum := "067e28324688da5e3c504fb1472e461bd17943bb2c3adb5917228610f0c8228a", func := "squelch/squelchlaw03.TncFrames", spec := "tncFrames", inPlace := ["internal/bytealg.IndexByteString"], apart := false }
def TncFramesSaid : Prop := tncFramesRow.holds Try.pinned (OpenSpec.ofChange tncFramesSpec)

/-- ITS FALSE NEIGHBOUR: 'it returns false'. Refute it at one input. -/
def tncFramesWrong : ChangeSpec := { name := "tncFrames", fn := fun _ => fun
  | [d1, d2, d3] => { results := [.lit (.bool false)], args := [d1, d2, d3] }
  | _ => none }
def TncFramesWrongFalsely : Prop := tncFramesRow.holds Try.pinned (OpenSpec.ofChange tncFramesWrong)

/-- 'squelchlaw03.TncWins': WHATEVER THE INPUT: true; the input reads as it did. -/
def tncWinsSpec : ChangeSpec := { name := "tncWins", fn := fun _ => fun
  | [d1, d2] => { results := [.lit (.bool true)], args := [d1, d2] }
  | _ => none }
def tncWinsRow : OpenClaim := { program := "yteglaenjmeocmaa", sum := "067e28324688da5e3c504fb1472e461bd17943bb2c3adb5917228610f0c8228a", func := "squelch/squelchlaw03.TncWins", spec := "tncWins", apart := false }
def TncWinsSaid : Prop := tncWinsRow.holds Try.pinned (OpenSpec.ofChange tncWinsSpec)

/-- ITS FALSE NEIGHBOUR: 'it returns false'. Refute it at one input. -/
def tncWinsWrong : ChangeSpec := { name := "tncWins", fn := fun _ => fun
  | [d1, d2] => { results := [.lit (.bool false)], args := [d1, d2] }
  | _ => none }
def TncWinsWrongFalsely : Prop := tncWinsRow.holds Try.pinned (OpenSpec.ofChange tncWinsWrong)

/- THE SECOND FORM. 'bulk': how many values and letters a reading holds, each counted each time it is reached (what is shared counts as often as it is met; a slice's spare places count too). A statement '..UptoSaid' is the law's where the arguments, and the package variables that the reading takes, are together of bulk at most 1048576: NARROWER than '..Said'. Prove '..Said' where nothing that the law and all that it calls make is longer than what came in: it says more and counts as full. Else prove '..UptoSaid'. A law counts once. -/
mutual
def uptoBulk {H : Type} : DataW H → Nat
  | .lit (.string bytes) => bytes.length + 1
  | .lit _ => 1
  | .nil => 1
  | .ptr d => uptoBulk d + 1
  | .slice elems spare => uptoBulkAll elems + uptoBulkAll spare + 1
  | .agg parts => uptoBulkAll parts + 1
  | .iface _ d => uptoBulk d + 1
  | .map entries => uptoBulkEntries entries + 1
  | .held _ => 1
def uptoBulkAll {H : Type} : List (DataW H) → Nat
  | [] => 0
  | d :: r => uptoBulk d + uptoBulkAll r
def uptoBulkEntries {H : Type} : List (Lit × DataW H) → Nat
  | [] => 0
  | x :: r => uptoBulkEntry x + uptoBulkEntries r
def uptoBulkEntry {H : Type} : Lit × DataW H → Nat
  | (.string bytes, d) => bytes.length + uptoBulk d + 1
  | (_, d) => uptoBulk d + 1
 end
def uptoSmall : (H : Type) → List (DataW H) → Bool := fun _ ds => decide (uptoBulkAll ds ≤ 1048576)
def OpenSpec.upto (s : _root_.Go.ChangeSpec) : _root_.Go.OpenSpec := { _root_.Go.OpenSpec.ofChange s with cond := some uptoSmall }

/-- 'squelchlaw03.TncApplies', WHERE WHAT IT READS IS OF BULK AT MOST 1048576: true; the input reads as it did. -/
def tncAppliesUptoRow : OpenClaim := { program := "yteglaenjmeocmaa", sum := "067e28324688da5e3c504fb1472e461bd17943bb2c3adb5917228610f0c8228a", func := "squelch/squelchlaw03.TncApplies", spec := "tncApplies", apart := false, narrowed := true }
def TncAppliesUptoSaid : Prop := tncAppliesUptoRow.holds Try.pinned (OpenSpec.upto tncAppliesSpec)

/-- 'squelchlaw03.TncFrames', WHERE WHAT IT READS IS OF BULK AT MOST 1048576: true; the input reads as it did. -/
def tncFramesUptoRow : OpenClaim := { program := "yteglaenjmeocmaa", sum := "067e28324688da5e3c504fb1472e461bd17943bb2c3adb5917228610f0c8228a", func := "squelch/squelchlaw03.TncFrames", spec := "tncFrames", inPlace := ["internal/bytealg.IndexByteString"], apart := false, narrowed := true }
def TncFramesUptoSaid : Prop := tncFramesUptoRow.holds Try.pinned (OpenSpec.upto tncFramesSpec)

/-- 'squelchlaw03.TncWins', WHERE WHAT IT READS IS OF BULK AT MOST 1048576: true; the input reads as it did. -/
def tncWinsUptoRow : OpenClaim := { program := "yteglaenjmeocmaa", sum := "067e28324688da5e3c504fb1472e461bd17943bb2c3adb5917228610f0c8228a", func := "squelch/squelchlaw03.TncWins", spec := "tncWins", apart := false, narrowed := true }
def TncWinsUptoSaid : Prop := tncWinsUptoRow.holds Try.pinned (OpenSpec.upto tncWinsSpec)

end Rows
end Go.Proofs.Yteglaenjmeocmaa
