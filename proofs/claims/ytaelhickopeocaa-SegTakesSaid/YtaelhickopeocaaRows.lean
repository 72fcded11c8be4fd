/-
  No cell of these rows narrows 'for every input' (looked for: loops, veiled, ifaces, maps, wideKeys, modest, calm, conditions, laid).
  DERIVED. THE GIVEN ROWS OF THIS SEAT. 4 by the template 'for every input the law returns true; each argument reads behind the call as it read before'; 0 by the template 'total and deterministic' (their statements: YtaelhickopeocaaTotals.lean).
  GIVEN WITH THE SEED: the statements are not yours to turn. If you find one false, say at which input.
  Laid BY PROGRAM, IN A SANDBOX (cutbox-rows.mjs): the forced cells as the released guide's own fill.sh prints them over the translation da238863b39396a8… (all of the seat's roots in one cut). By AI agents, Wed Nov 11 2026. No macro, syntax, notation, axiom, sorry.
-/
import Derived.Test.YtaelhickopeocaaChecked
import GoSem.Claim
import GoSem.ClaimJoined
import GoSem.ClaimMapViews
import Derived.JoinedTies
import Derived.KernelRfl
namespace Go.Proofs.Ytaelhickopeocaa
/- THE CELL 'sum', in the pinned program and in every row, IS THE sha256 OF THE DUMP (.gsa) THAT YtaelhickopeocaaProg.lean LOADS. Nothing in Lean hashes anything: it is a label: what it is worth is what the hold of that sum in a sandbox is worth. -/
noncomputable def Try.pinned : Pinned := { name := "ytaelhickopeocaa", sum := "da238863b39396a85300c6e07f5fb6d1a7d9d88caf4251e38b6b7528da3e7db5", checked := Try.checked }
namespace Rows
def none {H : Type} : Left H := { results := [], args := [] }

/-- 'squelchlaw10.SegSplits': WHATEVER THE INPUT: true; the input reads as it did. -/
def segSplitsSpec : ChangeSpec := { name := "segSplits", fn := fun _ => fun
  | [d1, d2, d3] => { results := [.lit (.bool true)], args := [d1, d2, d3] }
  | _ => none }
def segSplitsRow : OpenClaim := { program := "ytaelhickopeocaa", sum := "da238863b39396a85300c6e07f5fb6d1a7d9d88caf4251e38b6b7528da3e7db5", func := "squelch/squelchlaw10.SegSplits", spec := "segSplits", inPlace := ["internal/abi.NoEscape", "internal/bytealg.MakeNoZero"], unfollowed := true, recurses := true, apart := false }
def SegSplitsSaid : Prop := segSplitsRow.holds Try.pinned (OpenSpec.ofChange segSplitsSpec)

/-- ITS FALSE NEIGHBOUR: 'it returns false'. Refute it at one input. -/
def segSplitsWrong : ChangeSpec := { name := "segSplits", fn := fun _ => fun
  | [d1, d2, d3] => { results := [.lit (.bool false)], args := [d1, d2, d3] }
  | _ => none }
def SegSplitsWrongFalsely : Prop := segSplitsRow.holds Try.pinned (OpenSpec.ofChange segSplitsWrong)

/-- 'squelchlaw10.SegTakes': WHATEVER THE INPUT: true; the input reads as it did. -/
def segTakesSpec : ChangeSpec := { name := "segTakes", fn := fun _ => fun
  | [d] => { results := [.lit (.bool true)], args := [d] }
  | _ => none }
def segTakesRow : OpenClaim := { program := "ytaelhickopeocaa", sum := "da238863b39396a85300c6e07f5fb6d1a7d9d88caf4251e38b6b7528da3e7db5", func := "squelch/squelchlaw10.SegTakes", spec := "segTakes", inPlace := ["internal/abi.NoEscape", "internal/bytealg.MakeNoZero"], unfollowed := true, recurses := true, apart := false }
def SegTakesSaid : Prop := segTakesRow.holds Try.pinned (OpenSpec.ofChange segTakesSpec)

/-- ITS FALSE NEIGHBOUR: 'it returns false'. Refute it at one input. -/
def segTakesWrong : ChangeSpec := { name := "segTakes", fn := fun _ => fun
  | [d] => { results := [.lit (.bool false)], args := [d] }
  | _ => none }
def SegTakesWrongFalsely : Prop := segTakesRow.holds Try.pinned (OpenSpec.ofChange segTakesWrong)

/-- 'squelchlaw10.SegThrough': WHATEVER THE INPUT: true; the input reads as it did. -/
def segThroughSpec : ChangeSpec := { name := "segThrough", fn := fun _ => fun
  | [d1, d2, d3] => { results := [.lit (.bool true)], args := [d1, d2, d3] }
  | _ => none }
def segThroughRow : OpenClaim := { program := "ytaelhickopeocaa", sum := "da238863b39396a85300c6e07f5fb6d1a7d9d88caf4251e38b6b7528da3e7db5", func := "squelch/squelchlaw10.SegThrough", spec := "segThrough", inPlace := ["internal/abi.NoEscape", "internal/bytealg.MakeNoZero"], unfollowed := true, recurses := true, apart := false }
def SegThroughSaid : Prop := segThroughRow.holds Try.pinned (OpenSpec.ofChange segThroughSpec)

/-- ITS FALSE NEIGHBOUR: 'it returns false'. Refute it at one input. -/
def segThroughWrong : ChangeSpec := { name := "segThrough", fn := fun _ => fun
  | [d1, d2, d3] => { results := [.lit (.bool false)], args := [d1, d2, d3] }
  | _ => none }
def SegThroughWrongFalsely : Prop := segThroughRow.holds Try.pinned (OpenSpec.ofChange segThroughWrong)

/-- 'squelchlaw10.SegMissing': WHATEVER THE INPUT: true; the input reads as it did. -/
def segMissingSpec : ChangeSpec := { name := "segMissing", fn := fun _ => fun
  | [d1, d2, d3] => { results := [.lit (.bool true)], args := [d1, d2, d3] }
  | _ => none }
def segMissingRow : OpenClaim := { program := "ytaelhickopeocaa", sum := "da238863b39396a85300c6e07f5fb6d1a7d9d88caf4251e38b6b7528da3e7db5", func := "squelch/squelchlaw10.SegMissing", spec := "segMissing", inPlace := ["internal/abi.NoEscape", "internal/bytealg.MakeNoZero"], unfollowed := true, recurses := true, apart := false }
def SegMissingSaid : Prop := segMissingRow.holds Try.pinned (OpenSpec.ofChange segMissingSpec)

/-- ITS FALSE NEIGHBOUR: 'it returns false'. Refute it at one input. -/
def segMissingWrong : ChangeSpec := { name := "segMissing", fn := fun _ => fun
  | [d1, d2, d3] => { results := [.lit (.bool false)], args := [d1, d2, d3] }
  | _ => none }
def SegMissingWrongFalsely : Prop := segMissingRow.holds Try.pinned (OpenSpec.ofChange segMissingWrong)

/- THE SECOND FORM. 'bulk': how many values and letters a reading holds, each counted each time it is reached (what is shared counts as often as it is met; a slice's spare places count too). A statement '..UptoSaid' is the law's where the arguments, and the package variables that the reading takes, are together of bulk at most 1048576: NARROWER than '..Said'. Prove '..Said' where nothing that the law and all that it calls make is longer than what came in: it says more and counts as full. Else prove '..UptoSaid'. A law counts once. -/
mutual
def uptoBulk {H : Type} : DataW H → Nat
  | .lit (.string bytes) => bytes.length + 1
  | .lit _ => 1
  | .nil => 1
  | .ptr d => uptoBulk d + 1
  | .slice elems spare => uptoBulkAll elems + uptoBulkAll spare + 1
  | .agg parts => uptoBulkAll parts + 1
  | .iface _ d => uptoBulk d + 1
  | .map entries => uptoBulkEntries entries + 1
  | .held _ => 1
def uptoBulkAll {H : Type} : List (DataW H) → Nat
  | [] => 0
  | d :: r => uptoBulk d + uptoBulkAll r
def uptoBulkEntries {H : Type} : List (Lit × DataW H) → Nat
  | [] => 0
  | x :: r => uptoBulkEntry x + uptoBulkEntries r
def uptoBulkEntry {H : Type} : Lit × DataW H → Nat
  | (.string bytes, d) => bytes.length + uptoBulk d + 1
  | (_, d) => uptoBulk d + 1
 end
def uptoSmall : (H : Type) → List (DataW H) → Bool := fun _ ds => decide (uptoBulkAll ds ≤ 1048576)
def OpenSpec.upto (s : _root_.Go.ChangeSpec) : _root_.Go.OpenSpec := { _root_.Go.OpenSpec.ofChange s with cond := some uptoSmall }

/-- 'squelchlaw10.SegSplits', WHERE WHAT IT READS IS OF BULK AT MOST 1048576: true; the input reads as it did. -/
def segSplitsUptoRow : OpenClaim := { program := "ytaelhickopeocaa", sum := "da238863b39396a85300c6e07f5fb6d1a7d9d88caf4251e38b6b7528da3e7db5", func := "squelch/squelchlaw10.SegSplits", spec := "segSplits", inPlace := ["internal/abi.NoEscape", "internal/bytealg.MakeNoZero"], unfollowed := true, recurses := true, apart := false, narrowed := true }
def SegSplitsUptoSaid : Prop := segSplitsUptoRow.holds Try.pinned (OpenSpec.upto segSplitsSpec)

/-- 'squelchlaw10.SegTakes', WHERE WHAT IT READS IS OF BULK AT MOST 1048576: true; the input reads as it did. -/
def segTakesUptoRow : OpenClaim := { program := "ytaelhickopeocaa", sum := "da238863b39396a85300c6e07f5fb6d1a7d9d88caf4251e38b6b7528da3e7db5", func := "squelch/squelchlaw10.SegTakes", spec := "segTakes", inPlace := ["internal/abi.NoEscape", "internal/bytealg.MakeNoZero"], unfollowed := true, recurses := true, apart := false, narrowed := true }
def SegTakesUptoSaid : Prop := segTakesUptoRow.holds Try.pinned (OpenSpec.upto segTakesSpec)

/-- 'squelchlaw10.SegThrough', WHERE WHAT IT READS IS OF BULK AT MOST 1048576: true; the input reads as it did. -/
def segThroughUptoRow : OpenClaim := { program := "ytaelhickopeocaa", sum := "da238863b39396a85300c6e07f5fb6d1a7d9d88caf4251e38b6b7528da3e7db5", func := "squelch/squelchlaw10.SegThrough", spec := "segThrough", inPlace := ["internal/abi.NoEscape", "internal/bytealg.MakeNoZero"], unfollowed := true, recurses := true, apart := false, narrowed := true }
def SegThroughUptoSaid : Prop := segThroughUptoRow.holds Try.pinned (OpenSpec.upto segThroughSpec)

/-- 'squelchlaw10.SegMissing', WHERE WHAT IT READS IS OF BULK AT MOST 1048576: true; the input reads as it did. -/
def segMissingUptoRow : OpenClaim := { program := "ytaelhickopeocaa", sum := "da238863b39396a85300c6e07f5fb6d1a7d9d88caf4251e38b6b7528da3e7db5", func := "squelch/squelchlaw10.SegMissing", spec := "segMissing", inPlace := ["internal/abi.NoEscape", "internal/bytealg.MakeNoZero"], unfollowed := true, recurses := true, apart := false, narrowed := true }
def SegMissingUptoSaid : Prop := segMissingUptoRow.holds Try.pinned (OpenSpec.upto segMissingSpec)

end Rows
end Go.Proofs.Ytaelhickopeocaa
