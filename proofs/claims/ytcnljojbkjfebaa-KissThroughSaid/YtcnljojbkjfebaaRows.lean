/-
  No cell of these rows narrows 'for every input' (looked for: loops, veiled, ifaces, maps, wideKeys, modest, calm, conditions, laid).
  DERIVED. THE GIVEN ROWS OF THIS SEAT. 5 by the template 'for every input the law returns true; each argument reads behind the call as it read before'; 0 by the template 'total and deterministic' (their statements: YtcnljojbkjfebaaTotals.lean).
  GIVEN WITH THE SEED: the statements are not yours to turn. If you find one false, say at which input.
  Laid BY PROGRAM, IN A SANDBOX (cutbox-rows.mjs): the forced cells as the released guide's own fill.sh prints them over the translation d65c45e69f07f425… (all of the seat's roots in one cut). By AI agents, Wed Nov 11 2026. No macro, syntax, notation, axiom, sorry.
-/
import Derived.Test.YtcnljojbkjfebaaChecked
import GoSem.Claim
import GoSem.ClaimJoined
import GoSem.ClaimMapViews
import Derived.JoinedTies
import Derived.KernelRfl
namespace Go.Proofs.Ytcnljojbkjfebaa
/- THE CELL 'sum', in the pinned program and in every row, IS THE sha256 OF THE DUMP (.gsa) THAT YtcnljojbkjfebaaProg.lean LOADS. Nothing in Lean hashes anything: it is a label: what it is worth is what the hold of that sum in a sandbox is worth. -/
noncomputable def Try.pinned : Pinned := { name := "ytcnljojbkjfebaa", sum := "d65c45e69f07f425eecdcb5bc16229425bab47b3cca5bbd96f6c2820a74762ef", checked := Try.checked }
namespace Rows
def none {H : Type} : Left H := { results := [], args := [] }

/-- 'squelchlaw02.KissEncodes': WHATEVER THE INPUT: true; the input reads as it did. -/
def kissEncodesSpec : ChangeSpec := { name := "kissEncodes", fn := fun _ => fun
  | [d] => { results := [.lit (.bool true)], args := [d] }
  | _ => none }
def kissEncodesRow : OpenClaim := { program := "ytcnljojbkjfebaa", sum := "d65c45e69f07f425eecdcb5bc16229425bab47b3cca5bbd96f6c2820a74762ef", func := "squelch/squelchlaw02.KissEncodes", spec := "kissEncodes", inPlace := ["internal/bytealg.IndexByteString"], apart := false }
def KissEncodesSaid : Prop := kissEncodesRow.holds Try.pinned (OpenSpec.ofChange kissEncodesSpec)

/-- ITS FALSE NEIGHBOUR: 'it returns false'. Refute it at one input. -/
def kissEncodesWrong : ChangeSpec := { name := "kissEncodes", fn := fun _ => fun
  | [d] => { results := [.lit (.bool false)], args := [d] }
  | _ => none }
def KissEncodesWrongFalsely : Prop := kissEncodesRow.holds Try.pinned (OpenSpec.ofChange kissEncodesWrong)

/-- 'squelchlaw02.KissFeeds': WHATEVER THE INPUT: true; the input reads as it did. -/
def kissFeedsSpec : ChangeSpec := { name := "kissFeeds", fn := fun _ => fun
  | [d1, d2, d3] => { results := [.lit (.bool true)], args := [d1, d2, d3] }
  | _ => none }
def kissFeedsRow : OpenClaim := { program := "ytcnljojbkjfebaa", sum := "d65c45e69f07f425eecdcb5bc16229425bab47b3cca5bbd96f6c2820a74762ef", func := "squelch/squelchlaw02.KissFeeds", spec := "kissFeeds", inPlace := ["internal/bytealg.IndexByteString"], apart := false }
def KissFeedsSaid : Prop := kissFeedsRow.holds Try.pinned (OpenSpec.ofChange kissFeedsSpec)

/-- ITS FALSE NEIGHBOUR: 'it returns false'. Refute it at one input. -/
def kissFeedsWrong : ChangeSpec := { name := "kissFeeds", fn := fun _ => fun
  | [d1, d2, d3] => { results := [.lit (.bool false)], args := [d1, d2, d3] }
  | _ => none }
def KissFeedsWrongFalsely : Prop := kissFeedsRow.holds Try.pinned (OpenSpec.ofChange kissFeedsWrong)

/-- 'squelchlaw02.KissThrough': WHATEVER THE INPUT: true; the input reads as it did. -/
def kissThroughSpec : ChangeSpec := { name := "kissThrough", fn := fun _ => fun
  | [d1, d2, d3] => { results := [.lit (.bool true)], args := [d1, d2, d3] }
  | _ => none }
def kissThroughRow : OpenClaim := { program := "ytcnljojbkjfebaa", sum := "d65c45e69f07f425eecdcb5bc16229425bab47b3cca5bbd96f6c2820a74762ef", func := "squelch/squelchlaw02.KissThrough", spec := "kissThrough", inPlace := ["internal/bytealg.IndexByteString"], apart := false }
def KissThroughSaid : Prop := kissThroughRow.holds Try.pinned (OpenSpec.ofChange kissThroughSpec)

/-- ITS FALSE NEIGHBOUR: 'it returns false'. Refute it at one input. -/
def kissThroughWrong : ChangeSpec := { name := "kissThrough", fn := fun _ => fun
  | [d1, d2, d3] => { results := [.lit (.bool false)], args := [d1, d2, d3] }
  | _ => none }
def KissThroughWrongFalsely : Prop := kissThroughRow.holds Try.pinned (OpenSpec.ofChange kissThroughWrong)

/-- 'squelchlaw02.KissCuts': WHATEVER THE INPUT: true; the input reads as it did. -/
def kissCutsSpec : ChangeSpec := { name := "kissCuts", fn := fun _ => fun
  | [d1, d2] => { results := [.lit (.bool true)], args := [d1, d2] }
  | _ => none }
def kissCutsRow : OpenClaim := { program := "ytcnljojbkjfebaa", sum := "d65c45e69f07f425eecdcb5bc16229425bab47b3cca5bbd96f6c2820a74762ef", func := "squelch/squelchlaw02.KissCuts", spec := "kissCuts", inPlace := ["internal/bytealg.IndexByteString"], apart := false }
def KissCutsSaid : Prop := kissCutsRow.holds Try.pinned (OpenSpec.ofChange kissCutsSpec)

/-- ITS FALSE NEIGHBOUR: 'it returns false'. Refute it at one input. -/
def kissCutsWrong : ChangeSpec := { name := "kissCuts", fn := fun _ => fun
  | [d1, d2] => { results := [.lit (.bool false)], args := [d1, d2] }
  | _ => none }
def KissCutsWrongFalsely : Prop := kissCutsRow.holds Try.pinned (OpenSpec.ofChange kissCutsWrong)

/-- 'squelchlaw02.KissEnds': WHATEVER THE INPUT: true; the input reads as it did. -/
def kissEndsSpec : ChangeSpec := { name := "kissEnds", fn := fun _ => fun
  | [d] => { results := [.lit (.bool true)], args := [d] }
  | _ => none }
def kissEndsRow : OpenClaim := { program := "ytcnljojbkjfebaa", sum := "d65c45e69f07f425eecdcb5bc16229425bab47b3cca5bbd96f6c2820a74762ef", func := "squelch/squelchlaw02.KissEnds", spec := "kissEnds", inPlace := ["internal/bytealg.IndexByteString"], apart := false }
def KissEndsSaid : Prop := kissEndsRow.holds Try.pinned (OpenSpec.ofChange kissEndsSpec)

/-- ITS FALSE NEIGHBOUR: 'it returns false'. Refute it at one input. -/
def kissEndsWrong : ChangeSpec := { name := "kissEnds", fn := fun _ => fun
  | [d] => { results := [.lit (.bool false)], args := [d] }
  | _ => none }
def KissEndsWrongFalsely : Prop := kissEndsRow.holds Try.pinned (OpenSpec.ofChange kissEndsWrong)

/- THE SECOND FORM. 'bulk': how many values and letters a reading holds, each counted each time it is reached (what is shared counts as often as it is met; a slice's spare places count too). A statement '..UptoSaid' is the law's where the arguments, and the package variables that the reading takes, are together of bulk at most 1048576: NARROWER than '..Said'. Prove '..Said' where nothing that the law and all that it calls make is longer than what came in: it says more and counts as full. Else prove '..UptoSaid'. A law counts once. -/
mutual
def uptoBulk {H : Type} : DataW H → Nat
  | .lit (.string bytes) => bytes.length + 1
  | .lit _ => 1
  | .nil => 1
  | .ptr d => uptoBulk d + 1
  | .slice elems spare => uptoBulkAll elems + uptoBulkAll spare + 1
  | .agg parts => uptoBulkAll parts + 1
  | .iface _ d => uptoBulk d + 1
  | .map entries => uptoBulkEntries entries + 1
  | .held _ => 1
def uptoBulkAll {H : Type} : List (DataW H) → Nat
  | [] => 0
  | d :: r => uptoBulk d + uptoBulkAll r
def uptoBulkEntries {H : Type} : List (Lit × DataW H) → Nat
  | [] => 0
  | x :: r => uptoBulkEntry x + uptoBulkEntries r
def uptoBulkEntry {H : Type} : Lit × DataW H → Nat
  | (.string bytes, d) => bytes.length + uptoBulk d + 1
  | (_, d) => uptoBulk d + 1
 end
def uptoSmall : (H : Type) → List (DataW H) → Bool := fun _ ds => decide (uptoBulkAll ds ≤ 1048576)
def OpenSpec.upto (s : _root_.Go.ChangeSpec) : _root_.Go.OpenSpec := { _root_.Go.OpenSpec.ofChange s with cond := some uptoSmall }

/-- 'squelchlaw02.KissEncodes', WHERE WHAT IT READS IS OF BULK AT MOST 1048576: true; the input reads as it did. -/
def kissEncodesUptoRow : OpenClaim := { program := "ytcnljojbkjfebaa", sum := "d65c45e69f07f425eecdcb5bc16229425bab47b3cca5bbd96f6c2820a74762ef", func := "squelch/squelchlaw02.KissEncodes", spec := "kissEncodes", inPlace := ["internal/bytealg.IndexByteString"], apart := false, narrowed := true }
def KissEncodesUptoSaid : Prop := kissEncodesUptoRow.holds Try.pinned (OpenSpec.upto kissEncodesSpec)

/-- 'squelchlaw02.KissFeeds', WHERE WHAT IT READS IS OF BULK AT MOST 1048576: true; the input reads as it did. -/
def kissFeedsUptoRow : OpenClaim := { program := "ytcnljojbkjfebaa", sum := "d65c45e69f07f425eecdcb5bc16229425bab47b3cca5bbd96f6c2820a74762ef", func := "squelch/squelchlaw02.KissFeeds", spec := "kissFeeds", inPlace := ["internal/bytealg.IndexByteString"], apart := false, narrowed := true }
def KissFeedsUptoSaid : Prop := kissFeedsUptoRow.holds Try.pinned (OpenSpec.upto kissFeedsSpec)

/-- 'squelchlaw02.KissThrough', WHERE WHAT IT READS IS OF BULK AT MOST 1048576: true; the input reads as it did. -/
def kissThroughUptoRow : OpenClaim := { program := "ytcnljojbkjfebaa", sum := "d65c45e69f07f425eecdcb5bc16229425bab47b3cca5bbd96f6c2820a74762ef", func := "squelch/squelchlaw02.KissThrough", spec := "kissThrough", inPlace := ["internal/bytealg.IndexByteString"], apart := false, narrowed := true }
def KissThroughUptoSaid : Prop := kissThroughUptoRow.holds Try.pinned (OpenSpec.upto kissThroughSpec)

/-- 'squelchlaw02.KissCuts', WHERE WHAT IT READS IS OF BULK AT MOST 1048576: true; the input reads as it did. -/
def kissCutsUptoRow : OpenClaim := { program := "ytcnljojbkjfebaa", sum := "d65c45e69f07f425eecdcb5bc16229425bab47b3cca5bbd96f6c2820a74762ef", func := "squelch/squelchlaw02.KissCuts", spec := "kissCuts", inPlace := ["internal/bytealg.IndexByteString"], apart := false, narrowed := true }
def KissCutsUptoSaid : Prop := kissCutsUptoRow.holds Try.pinned (OpenSpec.upto kissCutsSpec)

/-- 'squelchlaw02.KissEnds', WHERE WHAT IT READS IS OF BULK AT MOST 1048576: true; the input reads as it did. -/
def kissEndsUptoRow : OpenClaim := { program := "ytcnljojbkjfebaa", sum := "d65c45e69f07f425eecdcb5bc16229425bab47b3cca5bbd96f6c2820a74762ef", func := "squelch/squelchlaw02.KissEnds", spec := "kissEnds", inPlace := ["internal/bytealg.IndexByteString"], apart := false, narrowed := true }
def KissEndsUptoSaid : Prop := kissEndsUptoRow.holds Try.pinned (OpenSpec.upto kissEndsSpec)

end Rows
end Go.Proofs.Ytcnljojbkjfebaa
