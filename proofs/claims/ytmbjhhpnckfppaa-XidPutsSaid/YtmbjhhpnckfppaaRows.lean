/-
  No cell of these rows narrows 'for every input' (looked for: loops, veiled, ifaces, maps, wideKeys, modest, calm, conditions, laid).
  DERIVED. THE GIVEN ROWS OF THIS SEAT. 2 by the template 'for every input the law returns true; each argument reads behind the call as it read before'; 0 by the template 'total and deterministic' (their statements: YtmbjhhpnckfppaaTotals.lean).
  GIVEN WITH THE SEED: the statements are not yours to turn. If you find one false, say at which input.
  Laid BY PROGRAM, IN A SANDBOX (cutbox-rows.mjs): the forced cells as the released guide's own fill.sh prints them over the translation 6bbaf20f3c7eaec2… (all of the seat's roots in one cut). By AI agents, Wed Nov 11 2026. No macro, syntax, notation, axiom, sorry.
-/
import Derived.Test.YtmbjhhpnckfppaaChecked
import GoSem.Claim
import GoSem.ClaimJoined
import GoSem.ClaimMapViews
import Derived.JoinedTies
import Derived.KernelRfl
namespace Go.Proofs.Ytmbjhhpnckfppaa
/- THE CELL 'sum', in the pinned program and in every row, IS THE sha256 OF THE DUMP (.gsa) THAT YtmbjhhpnckfppaaProg.lean LOADS. Nothing in Lean hashes anything: it is a label: what it is worth is what the hold of that sum in a sandbox is worth. -/
noncomputable def Try.pinned : Pinned := { name := "ytmbjhhpnckfppaa", sum := "6bbaf20f3c7eaec26c5143c0e635b1b007a9229b11d8a24e152093ca057414fb", checked := Try.checked }
namespace Rows
def none {H : Type} : Left H := { results := [], args := [] }

/-- 'squelchlaw08.XidPuts': WHATEVER THE INPUT: true; the input reads as it did. -/
def xidPutsSpec : ChangeSpec := { name := "xidPuts", fn := fun _ => fun
  | [d] => { results := [.lit (.bool true)], args := [d] }
  | _ => none }
def xidPutsRow : OpenClaim := { program := "ytmbjhhpnckfppaa", sum := "6bbaf20f3c7eaec26c5143c0e635b1b007a9229b11d8a24e152093ca057414fb", func := "squelch/squelchlaw08.XidPuts", spec := "xidPuts", apart := false }
def XidPutsSaid : Prop := xidPutsRow.holds Try.pinned (OpenSpec.ofChange xidPutsSpec)

/-- ITS FALSE NEIGHBOUR: 'it returns false'. Refute it at one input. -/
def xidPutsWrong : ChangeSpec := { name := "xidPuts", fn := fun _ => fun
  | [d] => { results := [.lit (.bool false)], args := [d] }
  | _ => none }
def XidPutsWrongFalsely : Prop := xidPutsRow.holds Try.pinned (OpenSpec.ofChange xidPutsWrong)

/-- 'squelchlaw08.XidAgrees': WHATEVER THE INPUT: true; the input reads as it did. -/
def xidAgreesSpec : ChangeSpec := { name := "xidAgrees", fn := fun _ => fun
  | [d1, d2] => { results := [.lit (.bool true)], args := [d1, d2] }
  | _ => none }
def xidAgreesRow : OpenClaim := { program := "ytmbjhhpnckfppaa", sum := "6bbaf20f3c7eaec26c5143c0e635b1b007a9229b11d8a24e152093ca057414fb", func := "squelch/squelchlaw08.XidAgrees", spec := "xidAgrees", apart := false }
def XidAgreesSaid : Prop := xidAgreesRow.holds Try.pinned (OpenSpec.ofChange xidAgreesSpec)

/-- ITS FALSE NEIGHBOUR: 'it returns false'. Refute it at one input. -/
def xidAgreesWrong : ChangeSpec := { name := "xidAgrees", fn := fun _ => fun
  | [d1, d2] => { results := [.lit (.bool false)], args := [d1, d2] }
  | _ => none }
def XidAgreesWrongFalsely : Prop := xidAgreesRow.holds Try.pinned (OpenSpec.ofChange xidAgreesWrong)

/- THE SECOND FORM. 'bulk': how many values and letters a reading holds, each counted each time it is reached (what is shared counts as often as it is met; a slice's spare places count too). A statement '..UptoSaid' is the law's where the arguments, and the package variables that the reading takes, are together of bulk at most 1048576: NARROWER than '..Said'. Prove '..Said' where nothing that the law and all that it calls make is longer than what came in: it says more and counts as full. Else prove '..UptoSaid'. A law counts once. -/
mutual
def uptoBulk {H : Type} : DataW H → Nat
  | .lit (.string bytes) => bytes.length + 1
  | .lit _ => 1
  | .nil => 1
  | .ptr d => uptoBulk d + 1
  | .slice elems spare => uptoBulkAll elems + uptoBulkAll spare + 1
  | .agg parts => uptoBulkAll parts + 1
  | .iface _ d => uptoBulk d + 1
  | .map entries => uptoBulkEntries entries + 1
  | .held _ => 1
def uptoBulkAll {H : Type} : List (DataW H) → Nat
  | [] => 0
  | d :: r => uptoBulk d + uptoBulkAll r
def uptoBulkEntries {H : Type} : List (Lit × DataW H) → Nat
  | [] => 0
  | x :: r => uptoBulkEntry x + uptoBulkEntries r
def uptoBulkEntry {H : Type} : Lit × DataW H → Nat
  | (.string bytes, d) => bytes.length + uptoBulk d + 1
  | (_, d) => uptoBulk d + 1
 end
def uptoSmall : (H : Type) → List (DataW H) → Bool := fun _ ds => decide (uptoBulkAll ds ≤ 1048576)
def OpenSpec.upto (s : _root_.Go.ChangeSpec) : _root_.Go.OpenSpec := { _root_.Go.OpenSpec.ofChange s with cond := some uptoSmall }

/-- 'squelchlaw08.XidPuts', WHERE WHAT IT READS IS OF BULK AT MOST 1048576: true; the input reads as it did. -/
def xidPutsUptoRow : OpenClaim := { program := "ytmbjhhpnckfppaa", sum := "6bbaf20f3c7eaec26c5143c0e635b1b007a9229b11d8a24e152093ca057414fb", func := "squelch/squelchlaw08.XidPuts", spec := "xidPuts", apart := false, narrowed := true }
def XidPutsUptoSaid : Prop := xidPutsUptoRow.holds Try.pinned (OpenSpec.upto xidPutsSpec)

/-- 'squelchlaw08.XidAgrees', WHERE WHAT IT READS IS OF BULK AT MOST 1048576: true; the input reads as it did. -/
def xidAgreesUptoRow : OpenClaim := { program := "ytmbjhhpnckfppaa", sum := "6bbaf20f3c7eaec26c5143c0e635b1b007a9229b11d8a24e152093ca057414fb", func := "squelch/squelchlaw08.XidAgrees", spec := "xidAgrees", apart := false, narrowed := true }
def XidAgreesUptoSaid : Prop := xidAgreesUptoRow.holds Try.pinned (OpenSpec.upto xidAgreesSpec)

end Rows
end Go.Proofs.Ytmbjhhpnckfppaa
