/-
  NARROWER THAN 'FOR EVERY INPUT', by the rows' own cells (each row's printed sentence says how): UiPuts: laid · UiBeacons: laid · UiNone: laid.
  DERIVED. THE GIVEN ROWS OF THIS SEAT. 3 by the template 'for every input the law returns true; each argument reads behind the call as it read before'; 0 by the template 'total and deterministic' (their statements: YtadhiknmkiogjaaDoorTotals.lean).
  GIVEN WITH THE SEED: the statements are not yours to turn. If you find one false, say at which input.
  Laid BY PROGRAM, IN A SANDBOX (cutbox-rows.mjs): the forced cells as the released guide's own fill.sh prints them over the translation d904bd5a11ea520d… (all of the seat's roots in one cut). By AI agents, Wed Nov 11 2026. No macro, syntax, notation, axiom, sorry.
-/
import Derived.Test.YtadhiknmkiogjaaDoorChecked
import GoSem.PinnedTables
import GoSem.Claim
import GoSem.ClaimJoined
import GoSem.ClaimMapViews
import Derived.JoinedTies
import Derived.KernelRfl
namespace Go.Proofs.YtadhiknmkiogjaaDoor
/- THE CELL 'sum', in the pinned program and in every row, IS THE sha256 OF THE DUMP (.gsa) THAT YtadhiknmkiogjaaDoorProg.lean LOADS. Nothing in Lean hashes anything: it is a label: what it is worth is what the hold of that sum in a sandbox is worth. -/
noncomputable def Tryd.pinned : Pinned := { name := "ytadhiknmkiogjaadoor", sum := "d904bd5a11ea520da91d0b39381a6d73a0b93bdf03f84aa198617c027f69d8e0", checked := Tryd.checked }
namespace Rows
def none {H : Type} : Left H := { results := [], args := [] }

/- WHAT THE LISTED PACKAGE-LEVEL VARIABLES READ AS WHEN THE CALL BEGINS. Each datum BY PROGRAM (the guide's laid-datum.mjs) off the statement by which the dump's own 'gosem.cut.vars' lays the variable. In a bare row this is a premise. The card (YtadhiknmkiogjaaDoorCards.lean) ties it to the program's text. -/
def laid_squelch_ctl_codes {H : Type} : DataW H := .agg [.lit (.int .u8 0), .lit (.int .u8 0), .lit (.int .u8 1), .lit (.int .u8 5), .lit (.int .u8 9), .lit (.int .u8 13), .lit (.int .u8 47), .lit (.int .u8 111), .lit (.int .u8 67), .lit (.int .u8 15), .lit (.int .u8 99), .lit (.int .u8 135), .lit (.int .u8 3), .lit (.int .u8 175), .lit (.int .u8 227)]
def laid_unicode_utf8_acceptRanges {H : Type} : DataW H := .agg [.agg [.lit (.int .u8 128), .lit (.int .u8 191)], .agg [.lit (.int .u8 160), .lit (.int .u8 191)], .agg [.lit (.int .u8 128), .lit (.int .u8 159)], .agg [.lit (.int .u8 144), .lit (.int .u8 191)], .agg [.lit (.int .u8 128), .lit (.int .u8 143)], .agg [.lit (.int .u8 0), .lit (.int .u8 0)], .agg [.lit (.int .u8 0), .lit (.int .u8 0)], .agg [.lit (.int .u8 0), .lit (.int .u8 0)], .agg [.lit (.int .u8 0), .lit (.int .u8 0)], .agg [.lit (.int .u8 0), .lit (.int .u8 0)], .agg [.lit (.int .u8 0), .lit (.int .u8 0)], .agg [.lit (.int .u8 0), .lit (.int .u8 0)], .agg [.lit (.int .u8 0), .lit (.int .u8 0)], .agg [.lit (.int .u8 0), .lit (.int .u8 0)], .agg [.lit (.int .u8 0), .lit (.int .u8 0)], .agg [.lit (.int .u8 0), .lit (.int .u8 0)]]
/-- One of Go's own tables, pinned by name: the form's constant. -/
def laid_unicode_utf8_first : DataW Unit := Go.Pinned.utf8First

/-- 'squelchlaw22.UiPuts': WHATEVER THE INPUT: true; the input reads as it did. -/
def uiPutsSpec : ChangeSpec := { name := "uiPuts", fn := fun _ => fun
  | [d1, d2] => { results := [.lit (.bool true)], args := [d1, d2] }
  | _ => none }
def uiPutsRow : OpenClaim := { program := "ytadhiknmkiogjaadoor", sum := "d904bd5a11ea520da91d0b39381a6d73a0b93bdf03f84aa198617c027f69d8e0", func := "squelch/squelchlaw22.UiPuts", spec := "uiPuts", inPlace := ["internal/bytealg.IndexByteString", "internal/bytealg.IndexString"], named := ["squelch/ctl.codes", "unicode/utf8.first", "unicode/utf8.acceptRanges", "internal/bytealg.MaxLen"], apart := false, laid := [("squelch/ctl.codes", laid_squelch_ctl_codes), ("unicode/utf8.acceptRanges", laid_unicode_utf8_acceptRanges), ("unicode/utf8.first", laid_unicode_utf8_first)] }
def UiPutsSaid : Prop := uiPutsRow.holds Tryd.pinned (OpenSpec.ofChange uiPutsSpec)

/-- ITS FALSE NEIGHBOUR: 'it returns false'. Refute it at one input. -/
def uiPutsWrong : ChangeSpec := { name := "uiPuts", fn := fun _ => fun
  | [d1, d2] => { results := [.lit (.bool false)], args := [d1, d2] }
  | _ => none }
def UiPutsWrongFalsely : Prop := uiPutsRow.holds Tryd.pinned (OpenSpec.ofChange uiPutsWrong)

/-- 'squelchlaw22.UiBeacons': WHATEVER THE INPUT: true; the input reads as it did. -/
def uiBeaconsSpec : ChangeSpec := { name := "uiBeacons", fn := fun _ => fun
  | [d1, d2] => { results := [.lit (.bool true)], args := [d1, d2] }
  | _ => none }
def uiBeaconsRow : OpenClaim := { program := "ytadhiknmkiogjaadoor", sum := "d904bd5a11ea520da91d0b39381a6d73a0b93bdf03f84aa198617c027f69d8e0", func := "squelch/squelchlaw22.UiBeacons", spec := "uiBeacons", inPlace := ["internal/bytealg.IndexByteString", "internal/bytealg.IndexString"], named := ["squelch/ctl.codes", "unicode/utf8.first", "unicode/utf8.acceptRanges", "internal/bytealg.MaxLen"], apart := false, laid := [("squelch/ctl.codes", laid_squelch_ctl_codes), ("unicode/utf8.acceptRanges", laid_unicode_utf8_acceptRanges), ("unicode/utf8.first", laid_unicode_utf8_first)] }
def UiBeaconsSaid : Prop := uiBeaconsRow.holds Tryd.pinned (OpenSpec.ofChange uiBeaconsSpec)

/-- ITS FALSE NEIGHBOUR: 'it returns false'. Refute it at one input. -/
def uiBeaconsWrong : ChangeSpec := { name := "uiBeacons", fn := fun _ => fun
  | [d1, d2] => { results := [.lit (.bool false)], args := [d1, d2] }
  | _ => none }
def UiBeaconsWrongFalsely : Prop := uiBeaconsRow.holds Tryd.pinned (OpenSpec.ofChange uiBeaconsWrong)

/-- 'squelchlaw22.UiNone': WHATEVER THE INPUT: true; the input reads as it did. -/
def uiNoneSpec : ChangeSpec := { name := "uiNone", fn := fun _ => fun
  | [d1, d2] => { results := [.lit (.bool true)], args := [d1, d2] }
  | _ => none }
def uiNoneRow : OpenClaim := { program := "ytadhiknmkiogjaadoor", sum := "d904bd5a11ea520da91d0b39381a6d73a0b93bdf03f84aa198617c027f69d8e0", func := "squelch/squelchlaw22.UiNone", spec := "uiNone", inPlace := ["internal/bytealg.IndexByteString", "internal/bytealg.IndexString"], named := ["squelch/ctl.codes", "unicode/utf8.first", "unicode/utf8.acceptRanges", "internal/bytealg.MaxLen"], apart := false, laid := [("squelch/ctl.codes", laid_squelch_ctl_codes), ("unicode/utf8.acceptRanges", laid_unicode_utf8_acceptRanges), ("unicode/utf8.first", laid_unicode_utf8_first)] }
def UiNoneSaid : Prop := uiNoneRow.holds Tryd.pinned (OpenSpec.ofChange uiNoneSpec)

/-- ITS FALSE NEIGHBOUR: 'it returns false'. Refute it at one input. -/
def uiNoneWrong : ChangeSpec := { name := "uiNone", fn := fun _ => fun
  | [d1, d2] => { results := [.lit (.bool false)], args := [d1, d2] }
  | _ => none }
def UiNoneWrongFalsely : Prop := uiNoneRow.holds Tryd.pinned (OpenSpec.ofChange uiNoneWrong)

/- THE SECOND FORM. 'bulk': how many values and letters a reading holds, each counted each time it is reached (what is shared counts as often as it is met; a slice's spare places count too). A statement '..UptoSaid' is the law's where the arguments, and the package variables that the reading takes, are together of bulk at most 1048576: NARROWER than '..Said'. Prove '..Said' where nothing that the law and all that it calls make is longer than what came in: it says more and counts as full. Else prove '..UptoSaid'. A law counts once. -/
mutual
def uptoBulk {H : Type} : DataW H → Nat
  | .lit (.string bytes) => bytes.length + 1
  | .lit _ => 1
  | .nil => 1
  | .ptr d => uptoBulk d + 1
  | .slice elems spare => uptoBulkAll elems + uptoBulkAll spare + 1
  | .agg parts => uptoBulkAll parts + 1
  | .iface _ d => uptoBulk d + 1
  | .map entries => uptoBulkEntries entries + 1
  | .held _ => 1
def uptoBulkAll {H : Type} : List (DataW H) → Nat
  | [] => 0
  | d :: r => uptoBulk d + uptoBulkAll r
def uptoBulkEntries {H : Type} : List (Lit × DataW H) → Nat
  | [] => 0
  | x :: r => uptoBulkEntry x + uptoBulkEntries r
def uptoBulkEntry {H : Type} : Lit × DataW H → Nat
  | (.string bytes, d) => bytes.length + uptoBulk d + 1
  | (_, d) => uptoBulk d + 1
 end
def uptoSmall : (H : Type) → List (DataW H) → Bool := fun _ ds => decide (uptoBulkAll ds ≤ 1048576)
def OpenSpec.upto (s : _root_.Go.ChangeSpec) : _root_.Go.OpenSpec := { _root_.Go.OpenSpec.ofChange s with cond := some uptoSmall }

/-- 'squelchlaw22.UiPuts', WHERE WHAT IT READS IS OF BULK AT MOST 1048576: true; the input reads as it did. -/
def uiPutsUptoRow : OpenClaim := { program := "ytadhiknmkiogjaadoor", sum := "d904bd5a11ea520da91d0b39381a6d73a0b93bdf03f84aa198617c027f69d8e0", func := "squelch/squelchlaw22.UiPuts", spec := "uiPuts", inPlace := ["internal/bytealg.IndexByteString", "internal/bytealg.IndexString"], named := ["squelch/ctl.codes", "unicode/utf8.first", "unicode/utf8.acceptRanges", "internal/bytealg.MaxLen"], apart := false, laid := [("squelch/ctl.codes", laid_squelch_ctl_codes), ("unicode/utf8.acceptRanges", laid_unicode_utf8_acceptRanges), ("unicode/utf8.first", laid_unicode_utf8_first)], narrowed := true }
def UiPutsUptoSaid : Prop := uiPutsUptoRow.holds Tryd.pinned (OpenSpec.upto uiPutsSpec)

/-- 'squelchlaw22.UiBeacons', WHERE WHAT IT READS IS OF BULK AT MOST 1048576: true; the input reads as it did. -/
def uiBeaconsUptoRow : OpenClaim := { program := "ytadhiknmkiogjaadoor", sum := "d904bd5a11ea520da91d0b39381a6d73a0b93bdf03f84aa198617c027f69d8e0", func := "squelch/squelchlaw22.UiBeacons", spec := "uiBeacons", inPlace := ["internal/bytealg.IndexByteString", "internal/bytealg.IndexString"], named := ["squelch/ctl.codes", "unicode/utf8.first", "unicode/utf8.acceptRanges", "internal/bytealg.MaxLen"], apart := false, laid := [("squelch/ctl.codes", laid_squelch_ctl_codes), ("unicode/utf8.acceptRanges", laid_unicode_utf8_acceptRanges), ("unicode/utf8.first", laid_unicode_utf8_first)], narrowed := true }
def UiBeaconsUptoSaid : Prop := uiBeaconsUptoRow.holds Tryd.pinned (OpenSpec.upto uiBeaconsSpec)

/-- 'squelchlaw22.UiNone', WHERE WHAT IT READS IS OF BULK AT MOST 1048576: true; the input reads as it did. -/
def uiNoneUptoRow : OpenClaim := { program := "ytadhiknmkiogjaadoor", sum := "d904bd5a11ea520da91d0b39381a6d73a0b93bdf03f84aa198617c027f69d8e0", func := "squelch/squelchlaw22.UiNone", spec := "uiNone", inPlace := ["internal/bytealg.IndexByteString", "internal/bytealg.IndexString"], named := ["squelch/ctl.codes", "unicode/utf8.first", "unicode/utf8.acceptRanges", "internal/bytealg.MaxLen"], apart := false, laid := [("squelch/ctl.codes", laid_squelch_ctl_codes), ("unicode/utf8.acceptRanges", laid_unicode_utf8_acceptRanges), ("unicode/utf8.first", laid_unicode_utf8_first)], narrowed := true }
def UiNoneUptoSaid : Prop := uiNoneUptoRow.holds Tryd.pinned (OpenSpec.upto uiNoneSpec)

end Rows
end Go.Proofs.YtadhiknmkiogjaaDoor
