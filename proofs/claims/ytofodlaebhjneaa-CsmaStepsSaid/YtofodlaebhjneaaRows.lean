/-
  No cell of these rows narrows 'for every input' (looked for: loops, veiled, ifaces, maps, wideKeys, modest, calm, conditions, laid).
  DERIVED. THE GIVEN ROWS OF THIS SEAT. 3 by the template 'for every input the law returns true; each argument reads behind the call as it read before'; 0 by the template 'total and deterministic' (their statements: YtofodlaebhjneaaTotals.lean).
  GIVEN WITH THE SEED: the statements are not yours to turn. If you find one false, say at which input.
  Laid BY PROGRAM, IN A SANDBOX (cutbox-rows.mjs): the forced cells as the released guide's own fill.sh prints them over the translation bb68ddc4cbda08e8… (all of the seat's roots in one cut). By AI agents, Wed Nov 11 2026. No macro, syntax, notation, axiom, sorry.
-/
import Derived.Test.YtofodlaebhjneaaChecked
import GoSem.Claim
import GoSem.ClaimJoined
import GoSem.ClaimMapViews
import Derived.JoinedTies
import Derived.KernelRfl
namespace Go.Proofs.Ytofodlaebhjneaa
/- THE CELL 'sum', in the pinned program and in every row, IS THE sha256 OF THE DUMP (.gsa) THAT YtofodlaebhjneaaProg.lean LOADS. Nothing in Lean hashes anything: it is a label: what it is worth is what the hold of that sum in a sandbox is worth. -/
noncomputable def Try.pinned : Pinned := { name := "ytofodlaebhjneaa", sum := "bb68ddc4cbda08e8b1a1a96fe816815f6bba6d234e476d5285f057e26698a5c0", checked := Try.checked }
namespace Rows
def none {H : Type} : Left H := { results := [], args := [] }

/-- 'squelchlaw17.CsmaSteps': WHATEVER THE INPUT: true; the input reads as it did. -/
def csmaStepsSpec : ChangeSpec := { name := "csmaSteps", fn := fun _ => fun
  | [d] => { results := [.lit (.bool true)], args := [d] }
  | _ => none }
def csmaStepsRow : OpenClaim := { program := "ytofodlaebhjneaa", sum := "bb68ddc4cbda08e8b1a1a96fe816815f6bba6d234e476d5285f057e26698a5c0", func := "squelch/squelchlaw17.CsmaSteps", spec := "csmaSteps", apart := false }
def CsmaStepsSaid : Prop := csmaStepsRow.holds Try.pinned (OpenSpec.ofChange csmaStepsSpec)

/-- ITS FALSE NEIGHBOUR: 'it returns false'. Refute it at one input. -/
def csmaStepsWrong : ChangeSpec := { name := "csmaSteps", fn := fun _ => fun
  | [d] => { results := [.lit (.bool false)], args := [d] }
  | _ => none }
def CsmaStepsWrongFalsely : Prop := csmaStepsRow.holds Try.pinned (OpenSpec.ofChange csmaStepsWrong)

/-- 'squelchlaw17.CsmaWins': WHATEVER THE INPUT: true; the input reads as it did. -/
def csmaWinsSpec : ChangeSpec := { name := "csmaWins", fn := fun _ => fun
  | [d1, d2] => { results := [.lit (.bool true)], args := [d1, d2] }
  | _ => none }
def csmaWinsRow : OpenClaim := { program := "ytofodlaebhjneaa", sum := "bb68ddc4cbda08e8b1a1a96fe816815f6bba6d234e476d5285f057e26698a5c0", func := "squelch/squelchlaw17.CsmaWins", spec := "csmaWins", apart := false }
def CsmaWinsSaid : Prop := csmaWinsRow.holds Try.pinned (OpenSpec.ofChange csmaWinsSpec)

/-- ITS FALSE NEIGHBOUR: 'it returns false'. Refute it at one input. -/
def csmaWinsWrong : ChangeSpec := { name := "csmaWins", fn := fun _ => fun
  | [d1, d2] => { results := [.lit (.bool false)], args := [d1, d2] }
  | _ => none }
def CsmaWinsWrongFalsely : Prop := csmaWinsRow.holds Try.pinned (OpenSpec.ofChange csmaWinsWrong)

/-- 'squelchlaw17.CsmaNone': WHATEVER THE INPUT: true; the input reads as it did. -/
def csmaNoneSpec : ChangeSpec := { name := "csmaNone", fn := fun _ => fun
  | [d] => { results := [.lit (.bool true)], args := [d] }
  | _ => none }
def csmaNoneRow : OpenClaim := { program := "ytofodlaebhjneaa", sum := "bb68ddc4cbda08e8b1a1a96fe816815f6bba6d234e476d5285f057e26698a5c0", func := "squelch/squelchlaw17.CsmaNone", spec := "csmaNone", apart := false }
def CsmaNoneSaid : Prop := csmaNoneRow.holds Try.pinned (OpenSpec.ofChange csmaNoneSpec)

/-- ITS FALSE NEIGHBOUR: 'it returns false'. Refute it at one input. -/
def csmaNoneWrong : ChangeSpec := { name := "csmaNone", fn := fun _ => fun
  | [d] => { results := [.lit (.bool false)], args := [d] }
  | _ => none }
def CsmaNoneWrongFalsely : Prop := csmaNoneRow.holds Try.pinned (OpenSpec.ofChange csmaNoneWrong)

/- THE SECOND FORM. 'bulk': how many values and letters a reading holds, each counted each time it is reached (what is shared counts as often as it is met; a slice's spare places count too). A statement '..UptoSaid' is the law's where the arguments, and the package variables that the reading takes, are together of bulk at most 1048576: NARROWER than '..Said'. Prove '..Said' where nothing that the law and all that it calls make is longer than what came in: it says more and counts as full. Else prove '..UptoSaid'. A law counts once. -/
mutual
def uptoBulk {H : Type} : DataW H → Nat
  | .lit (.string bytes) => bytes.length + 1
  | .lit _ => 1
  | .nil => 1
  | .ptr d => uptoBulk d + 1
  | .slice elems spare => uptoBulkAll elems + uptoBulkAll spare + 1
  | .agg parts => uptoBulkAll parts + 1
  | .iface _ d => uptoBulk d + 1
  | .map entries => uptoBulkEntries entries + 1
  | .held _ => 1
def uptoBulkAll {H : Type} : List (DataW H) → Nat
  | [] => 0
  | d :: r => uptoBulk d + uptoBulkAll r
def uptoBulkEntries {H : Type} : List (Lit × DataW H) → Nat
  | [] => 0
  | x :: r => uptoBulkEntry x + uptoBulkEntries r
def uptoBulkEntry {H : Type} : Lit × DataW H → Nat
  | (.string bytes, d) => bytes.length + uptoBulk d + 1
  | (_, d) => uptoBulk d + 1
 end
def uptoSmall : (H : Type) → List (DataW H) → Bool := fun _ ds => decide (uptoBulkAll ds ≤ 1048576)
def OpenSpec.upto (s : _root_.Go.ChangeSpec) : _root_.Go.OpenSpec := { _root_.Go.OpenSpec.ofChange s with cond := some uptoSmall }

/-- 'squelchlaw17.CsmaSteps', WHERE WHAT IT READS IS OF BULK AT MOST 1048576: true; the input reads as it did. -/
def csmaStepsUptoRow : OpenClaim := { program := "ytofodlaebhjneaa", sum := "bb68ddc4cbda08e8b1a1a96fe816815f6bba6d234e476d5285f057e26698a5c0", func := "squelch/squelchlaw17.CsmaSteps", spec := "csmaSteps", apart := false, narrowed := true }
def CsmaStepsUptoSaid : Prop := csmaStepsUptoRow.holds Try.pinned (OpenSpec.upto csmaStepsSpec)

/-- 'squelchlaw17.CsmaWins', WHERE WHAT IT READS IS OF BULK AT MOST 1048576: true; the input reads as it did. -/
def csmaWinsUptoRow : OpenClaim := { program := "ytofodlaebhjneaa", sum := "bb68ddc4cbda08e8b1a1a96fe816815f6bba6d234e476d5285f057e26698a5c0", func := "squelch/squelchlaw17.CsmaWins", spec := "csmaWins", apart := false, narrowed := true }
def CsmaWinsUptoSaid : Prop := csmaWinsUptoRow.holds Try.pinned (OpenSpec.upto csmaWinsSpec)

/-- 'squelchlaw17.CsmaNone', WHERE WHAT IT READS IS OF BULK AT MOST 1048576: true; the input reads as it did. -/
def csmaNoneUptoRow : OpenClaim := { program := "ytofodlaebhjneaa", sum := "bb68ddc4cbda08e8b1a1a96fe816815f6bba6d234e476d5285f057e26698a5c0", func := "squelch/squelchlaw17.CsmaNone", spec := "csmaNone", apart := false, narrowed := true }
def CsmaNoneUptoSaid : Prop := csmaNoneUptoRow.holds Try.pinned (OpenSpec.upto csmaNoneSpec)

end Rows
end Go.Proofs.Ytofodlaebhjneaa
