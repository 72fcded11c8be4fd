/-
  No cell of these rows narrows 'for every input' (looked for: loops, veiled, ifaces, maps, wideKeys, modest, calm, conditions, laid).
  DERIVED. THE GIVEN ROWS OF THIS SEAT. 4 by the template 'for every input the law returns true; each argument reads behind the call as it read before'; 0 by the template 'total and deterministic' (their statements: YtljmdpkbedmkmaaTotals.lean).
  GIVEN WITH THE SEED: the statements are not yours to turn. If you find one false, say at which input.
  Laid BY PROGRAM, IN A SANDBOX (cutbox-rows.mjs): the forced cells as the released guide's own fill.sh prints them over the translation c864d470162b65ac… (all of the seat's roots in one cut). By AI agents, Wed Nov 11 2026. No macro, syntax, notation, axiom, sorry.
-/
import Derived.Test.YtljmdpkbedmkmaaChecked
import GoSem.Claim
import GoSem.ClaimJoined
import GoSem.ClaimMapViews
import Derived.JoinedTies
import Derived.KernelRfl
namespace Go.Proofs.Ytljmdpkbedmkmaa
/- THE CELL 'sum', in the pinned program and in every row, IS THE sha256 OF THE DUMP (.gsa) THAT YtljmdpkbedmkmaaProg.lean LOADS. Nothing in Lean hashes anything: it is a label: what it is worth is what the hold of that sum in a sandbox is worth. -/
noncomputable def Try.pinned : Pinned := { name := "ytljmdpkbedmkmaa", sum := "c864d470162b65acb9865229c5e39826f790685def15875b8dcb1901528c7106", checked := Try.checked }
namespace Rows
def none {H : Type} : Left H := { results := [], args := [] }

/-- 'squelchlaw12.SmoothTakes': WHATEVER THE INPUT: true; the input reads as it did. -/
def smoothTakesSpec : ChangeSpec := { name := "smoothTakes", fn := fun _ => fun
  | [d1, d2] => { results := [.lit (.bool true)], args := [d1, d2] }
  | _ => none }
def smoothTakesRow : OpenClaim := { program := "ytljmdpkbedmkmaa", sum := "c864d470162b65acb9865229c5e39826f790685def15875b8dcb1901528c7106", func := "squelch/squelchlaw12.SmoothTakes", spec := "smoothTakes", apart := false }
def SmoothTakesSaid : Prop := smoothTakesRow.holds Try.pinned (OpenSpec.ofChange smoothTakesSpec)

/-- ITS FALSE NEIGHBOUR: 'it returns false'. Refute it at one input. -/
def smoothTakesWrong : ChangeSpec := { name := "smoothTakes", fn := fun _ => fun
  | [d1, d2] => { results := [.lit (.bool false)], args := [d1, d2] }
  | _ => none }
def SmoothTakesWrongFalsely : Prop := smoothTakesRow.holds Try.pinned (OpenSpec.ofChange smoothTakesWrong)

/-- 'squelchlaw12.SmoothComes': WHATEVER THE INPUT: true; the input reads as it did. -/
def smoothComesSpec : ChangeSpec := { name := "smoothComes", fn := fun _ => fun
  | [d1, d2, d3] => { results := [.lit (.bool true)], args := [d1, d2, d3] }
  | _ => none }
def smoothComesRow : OpenClaim := { program := "ytljmdpkbedmkmaa", sum := "c864d470162b65acb9865229c5e39826f790685def15875b8dcb1901528c7106", func := "squelch/squelchlaw12.SmoothComes", spec := "smoothComes", apart := false }
def SmoothComesSaid : Prop := smoothComesRow.holds Try.pinned (OpenSpec.ofChange smoothComesSpec)

/-- ITS FALSE NEIGHBOUR: 'it returns false'. Refute it at one input. -/
def smoothComesWrong : ChangeSpec := { name := "smoothComes", fn := fun _ => fun
  | [d1, d2, d3] => { results := [.lit (.bool false)], args := [d1, d2, d3] }
  | _ => none }
def SmoothComesWrongFalsely : Prop := smoothComesRow.holds Try.pinned (OpenSpec.ofChange smoothComesWrong)

/-- 'squelchlaw12.SmoothSums': WHATEVER THE INPUT: true; the input reads as it did. -/
def smoothSumsSpec : ChangeSpec := { name := "smoothSums", fn := fun _ => fun
  | [d1, d2] => { results := [.lit (.bool true)], args := [d1, d2] }
  | _ => none }
def smoothSumsRow : OpenClaim := { program := "ytljmdpkbedmkmaa", sum := "c864d470162b65acb9865229c5e39826f790685def15875b8dcb1901528c7106", func := "squelch/squelchlaw12.SmoothSums", spec := "smoothSums", apart := false }
def SmoothSumsSaid : Prop := smoothSumsRow.holds Try.pinned (OpenSpec.ofChange smoothSumsSpec)

/-- ITS FALSE NEIGHBOUR: 'it returns false'. Refute it at one input. -/
def smoothSumsWrong : ChangeSpec := { name := "smoothSums", fn := fun _ => fun
  | [d1, d2] => { results := [.lit (.bool false)], args := [d1, d2] }
  | _ => none }
def SmoothSumsWrongFalsely : Prop := smoothSumsRow.holds Try.pinned (OpenSpec.ofChange smoothSumsWrong)

/-- 'squelchlaw12.SmoothOrder': WHATEVER THE INPUT: true; the input reads as it did. -/
def smoothOrderSpec : ChangeSpec := { name := "smoothOrder", fn := fun _ => fun
  | [d1, d2, d3] => { results := [.lit (.bool true)], args := [d1, d2, d3] }
  | _ => none }
def smoothOrderRow : OpenClaim := { program := "ytljmdpkbedmkmaa", sum := "c864d470162b65acb9865229c5e39826f790685def15875b8dcb1901528c7106", func := "squelch/squelchlaw12.SmoothOrder", spec := "smoothOrder", apart := false }
def SmoothOrderSaid : Prop := smoothOrderRow.holds Try.pinned (OpenSpec.ofChange smoothOrderSpec)

/-- ITS FALSE NEIGHBOUR: 'it returns false'. Refute it at one input. -/
def smoothOrderWrong : ChangeSpec := { name := "smoothOrder", fn := fun _ => fun
  | [d1, d2, d3] => { results := [.lit (.bool false)], args := [d1, d2, d3] }
  | _ => none }
def SmoothOrderWrongFalsely : Prop := smoothOrderRow.holds Try.pinned (OpenSpec.ofChange smoothOrderWrong)

/- THE SECOND FORM. 'bulk': how many values and letters a reading holds, each counted each time it is reached (what is shared counts as often as it is met; a slice's spare places count too). A statement '..UptoSaid' is the law's where the arguments, and the package variables that the reading takes, are together of bulk at most 1048576: NARROWER than '..Said'. Prove '..Said' where nothing that the law and all that it calls make is longer than what came in: it says more and counts as full. Else prove '..UptoSaid'. A law counts once. -/
mutual
def uptoBulk {H : Type} : DataW H → Nat
  | .lit (.string bytes) => bytes.length + 1
  | .lit _ => 1
  | .nil => 1
  | .ptr d => uptoBulk d + 1
  | .slice elems spare => uptoBulkAll elems + uptoBulkAll spare + 1
  | .agg parts => uptoBulkAll parts + 1
  | .iface _ d => uptoBulk d + 1
  | .map entries => uptoBulkEntries entries + 1
  | .held _ => 1
def uptoBulkAll {H : Type} : List (DataW H) → Nat
  | [] => 0
  | d :: r => uptoBulk d + uptoBulkAll r
def uptoBulkEntries {H : Type} : List (Lit × DataW H) → Nat
  | [] => 0
  | x :: r => uptoBulkEntry x + uptoBulkEntries r
def uptoBulkEntry {H : Type} : Lit × DataW H → Nat
  | (.string bytes, d) => bytes.length + uptoBulk d + 1
  | (_, d) => uptoBulk d + 1
 end
def uptoSmall : (H : Type) → List (DataW H) → Bool := fun _ ds => decide (uptoBulkAll ds ≤ 1048576)
def OpenSpec.upto (s : _root_.Go.ChangeSpec) : _root_.Go.OpenSpec := { _root_.Go.OpenSpec.ofChange s with cond := some uptoSmall }

/-- 'squelchlaw12.SmoothTakes', WHERE WHAT IT READS IS OF BULK AT MOST 1048576: true; the input reads as it did. -/
def smoothTakesUptoRow : OpenClaim := { program := "ytljmdpkbedmkmaa", sum := "c864d470162b65acb9865229c5e39826f790685def15875b8dcb1901528c7106", func := "squelch/squelchlaw12.SmoothTakes", spec := "smoothTakes", apart := false, narrowed := true }
def SmoothTakesUptoSaid : Prop := smoothTakesUptoRow.holds Try.pinned (OpenSpec.upto smoothTakesSpec)

/-- 'squelchlaw12.SmoothComes', WHERE WHAT IT READS IS OF BULK AT MOST 1048576: true; the input reads as it did. -/
def smoothComesUptoRow : OpenClaim := { program := "ytljmdpkbedmkmaa", sum := "c864d470162b65acb9865229c5e39826f790685def15875b8dcb1901528c7106", func := "squelch/squelchlaw12.SmoothComes", spec := "smoothComes", apart := false, narrowed := true }
def SmoothComesUptoSaid : Prop := smoothComesUptoRow.holds Try.pinned (OpenSpec.upto smoothComesSpec)

/-- 'squelchlaw12.SmoothSums', WHERE WHAT IT READS IS OF BULK AT MOST 1048576: true; the input reads as it did. -/
def smoothSumsUptoRow : OpenClaim := { program := "ytljmdpkbedmkmaa", sum := "c864d470162b65acb9865229c5e39826f790685def15875b8dcb1901528c7106", func := "squelch/squelchlaw12.SmoothSums", spec := "smoothSums", apart := false, narrowed := true }
def SmoothSumsUptoSaid : Prop := smoothSumsUptoRow.holds Try.pinned (OpenSpec.upto smoothSumsSpec)

/-- 'squelchlaw12.SmoothOrder', WHERE WHAT IT READS IS OF BULK AT MOST 1048576: true; the input reads as it did. -/
def smoothOrderUptoRow : OpenClaim := { program := "ytljmdpkbedmkmaa", sum := "c864d470162b65acb9865229c5e39826f790685def15875b8dcb1901528c7106", func := "squelch/squelchlaw12.SmoothOrder", spec := "smoothOrder", apart := false, narrowed := true }
def SmoothOrderUptoSaid : Prop := smoothOrderUptoRow.holds Try.pinned (OpenSpec.upto smoothOrderSpec)

end Rows
end Go.Proofs.Ytljmdpkbedmkmaa
