/-
  NARROWER THAN 'FOR EVERY INPUT', by the rows' own cells (each row's printed sentence says how): LinkCalm: laid · LinkStates: laid · LinkFails: laid · LinkCounts: laid · LinkHeld: laid · LinkCloses: laid · LinkReports: laid · LinksErrors: laid · LinksTalk: laid.
  DERIVED. THE GIVEN ROWS OF THIS SEAT. 9 by the template 'for every input the law returns true; each argument reads behind the call as it read before'; 0 by the template 'total and deterministic' (their statements: YtgoaepjjegblnaaGreatDoorTotals.lean).
  GIVEN WITH THE SEED: the statements are not yours to turn. If you find one false, say at which input.
  Laid BY PROGRAM, IN A SANDBOX (cutbox-rows.mjs): the forced cells as the released guide's own fill.sh prints them over the translation 5455d308a9d54214… (all of the seat's roots in one cut). By AI agents, Wed Nov 11 2026. No macro, syntax, notation, axiom, sorry.
-/
import Derived.Test.YtgoaepjjegblnaaGreatDoorChecked
import GoSem.PinnedTables
import GoSem.Claim
import GoSem.ClaimJoined
import GoSem.ClaimMapViews
import Derived.JoinedTies
import Derived.KernelRfl
namespace Go.Proofs.YtgoaepjjegblnaaGreatDoor
/- THE CELL 'sum', in the pinned program and in every row, IS THE sha256 OF THE DUMP (.gsa) THAT YtgoaepjjegblnaaGreatDoorProg.lean LOADS. Nothing in Lean hashes anything: it is a label: what it is worth is what the hold of that sum in a sandbox is worth. -/
noncomputable def Tryz.pinned : Pinned := { name := "ytgoaepjjegblnaagreatdoor", sum := "5455d308a9d54214ec284856c00de5b8eee838f38377387c6cf84c1ff977c8db", checked := Tryz.checked }
namespace Rows
def none {H : Type} : Left H := { results := [], args := [] }

/- WHAT THE LISTED PACKAGE-LEVEL VARIABLES READ AS WHEN THE CALL BEGINS. Each datum BY PROGRAM (the guide's laid-datum.mjs) off the statement by which the dump's own 'gosem.cut.vars' lays the variable. In a bare row this is a premise. The card (YtgoaepjjegblnaaGreatDoorCards.lean) ties it to the program's text. -/
def laid_squelch_ctl_codes {H : Type} : DataW H := .agg [.lit (.int .u8 0), .lit (.int .u8 0), .lit (.int .u8 1), .lit (.int .u8 5), .lit (.int .u8 9), .lit (.int .u8 13), .lit (.int .u8 47), .lit (.int .u8 111), .lit (.int .u8 67), .lit (.int .u8 15), .lit (.int .u8 99), .lit (.int .u8 135), .lit (.int .u8 3), .lit (.int .u8 175), .lit (.int .u8 227)]
def laid_unicode_utf8_acceptRanges {H : Type} : DataW H := .agg [.agg [.lit (.int .u8 128), .lit (.int .u8 191)], .agg [.lit (.int .u8 160), .lit (.int .u8 191)], .agg [.lit (.int .u8 128), .lit (.int .u8 159)], .agg [.lit (.int .u8 144), .lit (.int .u8 191)], .agg [.lit (.int .u8 128), .lit (.int .u8 143)], .agg [.lit (.int .u8 0), .lit (.int .u8 0)], .agg [.lit (.int .u8 0), .lit (.int .u8 0)], .agg [.lit (.int .u8 0), .lit (.int .u8 0)], .agg [.lit (.int .u8 0), .lit (.int .u8 0)], .agg [.lit (.int .u8 0), .lit (.int .u8 0)], .agg [.lit (.int .u8 0), .lit (.int .u8 0)], .agg [.lit (.int .u8 0), .lit (.int .u8 0)], .agg [.lit (.int .u8 0), .lit (.int .u8 0)], .agg [.lit (.int .u8 0), .lit (.int .u8 0)], .agg [.lit (.int .u8 0), .lit (.int .u8 0)], .agg [.lit (.int .u8 0), .lit (.int .u8 0)]]
/-- One of Go's own tables, pinned by name: the form's constant. -/
def laid_unicode_utf8_first : DataW Unit := Go.Pinned.utf8First

/-- 'squelchlaw20.LinkCalm': WHATEVER THE INPUT: true; the input reads as it did. -/
def linkCalmSpec : ChangeSpec := { name := "linkCalm", fn := fun _ => fun
  | [d1, d2, d3] => { results := [.lit (.bool true)], args := [d1, d2, d3] }
  | _ => none }
def linkCalmRow : OpenClaim := { program := "ytgoaepjjegblnaagreatdoor", sum := "5455d308a9d54214ec284856c00de5b8eee838f38377387c6cf84c1ff977c8db", func := "squelch/squelchlaw20.LinkCalm", spec := "linkCalm", inPlace := ["internal/bytealg.IndexByteString", "internal/bytealg.IndexString"], unfollowed := true, recurses := true, named := ["squelch/ctl.codes", "unicode/utf8.first", "unicode/utf8.acceptRanges", "internal/bytealg.MaxLen"], apart := false, laid := [("squelch/ctl.codes", laid_squelch_ctl_codes), ("unicode/utf8.acceptRanges", laid_unicode_utf8_acceptRanges), ("unicode/utf8.first", laid_unicode_utf8_first)] }
def LinkCalmSaid : Prop := linkCalmRow.holds Tryz.pinned (OpenSpec.ofChange linkCalmSpec)

/-- ITS FALSE NEIGHBOUR: 'it returns false'. Refute it at one input. -/
def linkCalmWrong : ChangeSpec := { name := "linkCalm", fn := fun _ => fun
  | [d1, d2, d3] => { results := [.lit (.bool false)], args := [d1, d2, d3] }
  | _ => none }
def LinkCalmWrongFalsely : Prop := linkCalmRow.holds Tryz.pinned (OpenSpec.ofChange linkCalmWrong)

/-- 'squelchlaw20.LinkStates': WHATEVER THE INPUT: true; the input reads as it did. -/
def linkStatesSpec : ChangeSpec := { name := "linkStates", fn := fun _ => fun
  | [d1, d2, d3] => { results := [.lit (.bool true)], args := [d1, d2, d3] }
  | _ => none }
def linkStatesRow : OpenClaim := { program := "ytgoaepjjegblnaagreatdoor", sum := "5455d308a9d54214ec284856c00de5b8eee838f38377387c6cf84c1ff977c8db", func := "squelch/squelchlaw20.LinkStates", spec := "linkStates", inPlace := ["internal/bytealg.IndexByteString", "internal/bytealg.IndexString"], unfollowed := true, recurses := true, named := ["squelch/ctl.codes", "unicode/utf8.first", "unicode/utf8.acceptRanges", "internal/bytealg.MaxLen"], apart := false, laid := [("squelch/ctl.codes", laid_squelch_ctl_codes), ("unicode/utf8.acceptRanges", laid_unicode_utf8_acceptRanges), ("unicode/utf8.first", laid_unicode_utf8_first)] }
def LinkStatesSaid : Prop := linkStatesRow.holds Tryz.pinned (OpenSpec.ofChange linkStatesSpec)

/-- ITS FALSE NEIGHBOUR: 'it returns false'. Refute it at one input. -/
def linkStatesWrong : ChangeSpec := { name := "linkStates", fn := fun _ => fun
  | [d1, d2, d3] => { results := [.lit (.bool false)], args := [d1, d2, d3] }
  | _ => none }
def LinkStatesWrongFalsely : Prop := linkStatesRow.holds Tryz.pinned (OpenSpec.ofChange linkStatesWrong)

/-- 'squelchlaw20.LinkFails': WHATEVER THE INPUT: true; the input reads as it did. -/
def linkFailsSpec : ChangeSpec := { name := "linkFails", fn := fun _ => fun
  | [d1, d2] => { results := [.lit (.bool true)], args := [d1, d2] }
  | _ => none }
def linkFailsRow : OpenClaim := { program := "ytgoaepjjegblnaagreatdoor", sum := "5455d308a9d54214ec284856c00de5b8eee838f38377387c6cf84c1ff977c8db", func := "squelch/squelchlaw20.LinkFails", spec := "linkFails", inPlace := ["internal/bytealg.IndexByteString", "internal/bytealg.IndexString"], unfollowed := true, recurses := true, named := ["squelch/ctl.codes", "unicode/utf8.first", "unicode/utf8.acceptRanges", "internal/bytealg.MaxLen"], apart := false, laid := [("squelch/ctl.codes", laid_squelch_ctl_codes), ("unicode/utf8.acceptRanges", laid_unicode_utf8_acceptRanges), ("unicode/utf8.first", laid_unicode_utf8_first)] }
def LinkFailsSaid : Prop := linkFailsRow.holds Tryz.pinned (OpenSpec.ofChange linkFailsSpec)

/-- ITS FALSE NEIGHBOUR: 'it returns false'. Refute it at one input. -/
def linkFailsWrong : ChangeSpec := { name := "linkFails", fn := fun _ => fun
  | [d1, d2] => { results := [.lit (.bool false)], args := [d1, d2] }
  | _ => none }
def LinkFailsWrongFalsely : Prop := linkFailsRow.holds Tryz.pinned (OpenSpec.ofChange linkFailsWrong)

/-- 'squelchlaw20.LinkCounts': WHATEVER THE INPUT: true; the input reads as it did. -/
def linkCountsSpec : ChangeSpec := { name := "linkCounts", fn := fun _ => fun
  | [d1, d2] => { results := [.lit (.bool true)], args := [d1, d2] }
  | _ => none }
def linkCountsRow : OpenClaim := { program := "ytgoaepjjegblnaagreatdoor", sum := "5455d308a9d54214ec284856c00de5b8eee838f38377387c6cf84c1ff977c8db", func := "squelch/squelchlaw20.LinkCounts", spec := "linkCounts", inPlace := ["internal/bytealg.IndexByteString", "internal/bytealg.IndexString"], unfollowed := true, recurses := true, named := ["squelch/ctl.codes", "unicode/utf8.first", "unicode/utf8.acceptRanges", "internal/bytealg.MaxLen"], apart := false, laid := [("squelch/ctl.codes", laid_squelch_ctl_codes), ("unicode/utf8.acceptRanges", laid_unicode_utf8_acceptRanges), ("unicode/utf8.first", laid_unicode_utf8_first)] }
def LinkCountsSaid : Prop := linkCountsRow.holds Tryz.pinned (OpenSpec.ofChange linkCountsSpec)

/-- ITS FALSE NEIGHBOUR: 'it returns false'. Refute it at one input. -/
def linkCountsWrong : ChangeSpec := { name := "linkCounts", fn := fun _ => fun
  | [d1, d2] => { results := [.lit (.bool false)], args := [d1, d2] }
  | _ => none }
def LinkCountsWrongFalsely : Prop := linkCountsRow.holds Tryz.pinned (OpenSpec.ofChange linkCountsWrong)

/-- 'squelchlaw20.LinkHeld': WHATEVER THE INPUT: true; the input reads as it did. -/
def linkHeldSpec : ChangeSpec := { name := "linkHeld", fn := fun _ => fun
  | [d1, d2] => { results := [.lit (.bool true)], args := [d1, d2] }
  | _ => none }
def linkHeldRow : OpenClaim := { program := "ytgoaepjjegblnaagreatdoor", sum := "5455d308a9d54214ec284856c00de5b8eee838f38377387c6cf84c1ff977c8db", func := "squelch/squelchlaw20.LinkHeld", spec := "linkHeld", inPlace := ["internal/bytealg.IndexByteString", "internal/bytealg.IndexString"], unfollowed := true, recurses := true, named := ["squelch/ctl.codes", "unicode/utf8.first", "unicode/utf8.acceptRanges", "internal/bytealg.MaxLen"], apart := false, laid := [("squelch/ctl.codes", laid_squelch_ctl_codes), ("unicode/utf8.acceptRanges", laid_unicode_utf8_acceptRanges), ("unicode/utf8.first", laid_unicode_utf8_first)] }
def LinkHeldSaid : Prop := linkHeldRow.holds Tryz.pinned (OpenSpec.ofChange linkHeldSpec)

/-- ITS FALSE NEIGHBOUR: 'it returns false'. Refute it at one input. -/
def linkHeldWrong : ChangeSpec := { name := "linkHeld", fn := fun _ => fun
  | [d1, d2] => { results := [.lit (.bool false)], args := [d1, d2] }
  | _ => none }
def LinkHeldWrongFalsely : Prop := linkHeldRow.holds Tryz.pinned (OpenSpec.ofChange linkHeldWrong)

/-- 'squelchlaw20.LinkCloses': WHATEVER THE INPUT: true; the input reads as it did. -/
def linkClosesSpec : ChangeSpec := { name := "linkCloses", fn := fun _ => fun
  | [d1, d2, d3] => { results := [.lit (.bool true)], args := [d1, d2, d3] }
  | _ => none }
def linkClosesRow : OpenClaim := { program := "ytgoaepjjegblnaagreatdoor", sum := "5455d308a9d54214ec284856c00de5b8eee838f38377387c6cf84c1ff977c8db", func := "squelch/squelchlaw20.LinkCloses", spec := "linkCloses", inPlace := ["internal/bytealg.IndexByteString", "internal/bytealg.IndexString"], unfollowed := true, recurses := true, named := ["squelch/ctl.codes", "unicode/utf8.first", "unicode/utf8.acceptRanges", "internal/bytealg.MaxLen"], apart := false, laid := [("squelch/ctl.codes", laid_squelch_ctl_codes), ("unicode/utf8.acceptRanges", laid_unicode_utf8_acceptRanges), ("unicode/utf8.first", laid_unicode_utf8_first)] }
def LinkClosesSaid : Prop := linkClosesRow.holds Tryz.pinned (OpenSpec.ofChange linkClosesSpec)

/-- ITS FALSE NEIGHBOUR: 'it returns false'. Refute it at one input. -/
def linkClosesWrong : ChangeSpec := { name := "linkCloses", fn := fun _ => fun
  | [d1, d2, d3] => { results := [.lit (.bool false)], args := [d1, d2, d3] }
  | _ => none }
def LinkClosesWrongFalsely : Prop := linkClosesRow.holds Tryz.pinned (OpenSpec.ofChange linkClosesWrong)

/-- 'squelchlaw20.LinkReports': WHATEVER THE INPUT: true; the input reads as it did. -/
def linkReportsSpec : ChangeSpec := { name := "linkReports", fn := fun _ => fun
  | [d1, d2] => { results := [.lit (.bool true)], args := [d1, d2] }
  | _ => none }
def linkReportsRow : OpenClaim := { program := "ytgoaepjjegblnaagreatdoor", sum := "5455d308a9d54214ec284856c00de5b8eee838f38377387c6cf84c1ff977c8db", func := "squelch/squelchlaw20.LinkReports", spec := "linkReports", inPlace := ["internal/bytealg.IndexByteString", "internal/bytealg.IndexString"], unfollowed := true, recurses := true, named := ["squelch/ctl.codes", "unicode/utf8.first", "unicode/utf8.acceptRanges", "internal/bytealg.MaxLen"], apart := false, laid := [("squelch/ctl.codes", laid_squelch_ctl_codes), ("unicode/utf8.acceptRanges", laid_unicode_utf8_acceptRanges), ("unicode/utf8.first", laid_unicode_utf8_first)] }
def LinkReportsSaid : Prop := linkReportsRow.holds Tryz.pinned (OpenSpec.ofChange linkReportsSpec)

/-- ITS FALSE NEIGHBOUR: 'it returns false'. Refute it at one input. -/
def linkReportsWrong : ChangeSpec := { name := "linkReports", fn := fun _ => fun
  | [d1, d2] => { results := [.lit (.bool false)], args := [d1, d2] }
  | _ => none }
def LinkReportsWrongFalsely : Prop := linkReportsRow.holds Tryz.pinned (OpenSpec.ofChange linkReportsWrong)

/-- 'squelchlaw21.LinksErrors': WHATEVER THE INPUT: true; the input reads as it did. -/
def linksErrorsSpec : ChangeSpec := { name := "linksErrors", fn := fun _ => fun
  | [d1, d2, d3] => { results := [.lit (.bool true)], args := [d1, d2, d3] }
  | _ => none }
def linksErrorsRow : OpenClaim := { program := "ytgoaepjjegblnaagreatdoor", sum := "5455d308a9d54214ec284856c00de5b8eee838f38377387c6cf84c1ff977c8db", func := "squelch/squelchlaw21.LinksErrors", spec := "linksErrors", inPlace := ["internal/bytealg.IndexByteString", "internal/bytealg.IndexString"], unfollowed := true, recurses := true, named := ["squelch/ctl.codes", "unicode/utf8.first", "unicode/utf8.acceptRanges", "internal/bytealg.MaxLen"], apart := false, laid := [("squelch/ctl.codes", laid_squelch_ctl_codes), ("unicode/utf8.acceptRanges", laid_unicode_utf8_acceptRanges), ("unicode/utf8.first", laid_unicode_utf8_first)] }
def LinksErrorsSaid : Prop := linksErrorsRow.holds Tryz.pinned (OpenSpec.ofChange linksErrorsSpec)

/-- ITS FALSE NEIGHBOUR: 'it returns false'. Refute it at one input. -/
def linksErrorsWrong : ChangeSpec := { name := "linksErrors", fn := fun _ => fun
  | [d1, d2, d3] => { results := [.lit (.bool false)], args := [d1, d2, d3] }
  | _ => none }
def LinksErrorsWrongFalsely : Prop := linksErrorsRow.holds Tryz.pinned (OpenSpec.ofChange linksErrorsWrong)

/-- 'squelchlaw21.LinksTalk': WHATEVER THE INPUT: true; the input reads as it did. -/
def linksTalkSpec : ChangeSpec := { name := "linksTalk", fn := fun _ => fun
  | [d1, d2, d3] => { results := [.lit (.bool true)], args := [d1, d2, d3] }
  | _ => none }
def linksTalkRow : OpenClaim := { program := "ytgoaepjjegblnaagreatdoor", sum := "5455d308a9d54214ec284856c00de5b8eee838f38377387c6cf84c1ff977c8db", func := "squelch/squelchlaw21.LinksTalk", spec := "linksTalk", inPlace := ["internal/bytealg.IndexByteString", "internal/bytealg.IndexString"], unfollowed := true, recurses := true, named := ["squelch/ctl.codes", "unicode/utf8.first", "unicode/utf8.acceptRanges", "internal/bytealg.MaxLen"], apart := false, laid := [("squelch/ctl.codes", laid_squelch_ctl_codes), ("unicode/utf8.acceptRanges", laid_unicode_utf8_acceptRanges), ("unicode/utf8.first", laid_unicode_utf8_first)] }
def LinksTalkSaid : Prop := linksTalkRow.holds Tryz.pinned (OpenSpec.ofChange linksTalkSpec)

/-- ITS FALSE NEIGHBOUR: 'it returns false'. Refute it at one input. -/
def linksTalkWrong : ChangeSpec := { name := "linksTalk", fn := fun _ => fun
  | [d1, d2, d3] => { results := [.lit (.bool false)], args := [d1, d2, d3] }
  | _ => none }
def LinksTalkWrongFalsely : Prop := linksTalkRow.holds Tryz.pinned (OpenSpec.ofChange linksTalkWrong)

/- THE SECOND FORM. 'bulk': how many values and letters a reading holds, each counted each time it is reached (what is shared counts as often as it is met; a slice's spare places count too). A statement '..UptoSaid' is the law's where the arguments, and the package variables that the reading takes, are together of bulk at most 1048576: NARROWER than '..Said'. Prove '..Said' where nothing that the law and all that it calls make is longer than what came in: it says more and counts as full. Else prove '..UptoSaid'. A law counts once. -/
mutual
def uptoBulk {H : Type} : DataW H → Nat
  | .lit (.string bytes) => bytes.length + 1
  | .lit _ => 1
  | .nil => 1
  | .ptr d => uptoBulk d + 1
  | .slice elems spare => uptoBulkAll elems + uptoBulkAll spare + 1
  | .agg parts => uptoBulkAll parts + 1
  | .iface _ d => uptoBulk d + 1
  | .map entries => uptoBulkEntries entries + 1
  | .held _ => 1
def uptoBulkAll {H : Type} : List (DataW H) → Nat
  | [] => 0
  | d :: r => uptoBulk d + uptoBulkAll r
def uptoBulkEntries {H : Type} : List (Lit × DataW H) → Nat
  | [] => 0
  | x :: r => uptoBulkEntry x + uptoBulkEntries r
def uptoBulkEntry {H : Type} : Lit × DataW H → Nat
  | (.string bytes, d) => bytes.length + uptoBulk d + 1
  | (_, d) => uptoBulk d + 1
 end
def uptoSmall : (H : Type) → List (DataW H) → Bool := fun _ ds => decide (uptoBulkAll ds ≤ 1048576)
def OpenSpec.upto (s : _root_.Go.ChangeSpec) : _root_.Go.OpenSpec := { _root_.Go.OpenSpec.ofChange s with cond := some uptoSmall }

/-- 'squelchlaw20.LinkCalm', WHERE WHAT IT READS IS OF BULK AT MOST 1048576: true; the input reads as it did. -/
def linkCalmUptoRow : OpenClaim := { program := "ytgoaepjjegblnaagreatdoor", sum := "5455d308a9d54214ec284856c00de5b8eee838f38377387c6cf84c1ff977c8db", func := "squelch/squelchlaw20.LinkCalm", spec := "linkCalm", inPlace := ["internal/bytealg.IndexByteString", "internal/bytealg.IndexString"], unfollowed := true, recurses := true, named := ["squelch/ctl.codes", "unicode/utf8.first", "unicode/utf8.acceptRanges", "internal/bytealg.MaxLen"], apart := false, laid := [("squelch/ctl.codes", laid_squelch_ctl_codes), ("unicode/utf8.acceptRanges", laid_unicode_utf8_acceptRanges), ("unicode/utf8.first", laid_unicode_utf8_first)], narrowed := true }
def LinkCalmUptoSaid : Prop := linkCalmUptoRow.holds Tryz.pinned (OpenSpec.upto linkCalmSpec)

/-- 'squelchlaw20.LinkStates', WHERE WHAT IT READS IS OF BULK AT MOST 1048576: true; the input reads as it did. -/
def linkStatesUptoRow : OpenClaim := { program := "ytgoaepjjegblnaagreatdoor", sum := "5455d308a9d54214ec284856c00de5b8eee838f38377387c6cf84c1ff977c8db", func := "squelch/squelchlaw20.LinkStates", spec := "linkStates", inPlace := ["internal/bytealg.IndexByteString", "internal/bytealg.IndexString"], unfollowed := true, recurses := true, named := ["squelch/ctl.codes", "unicode/utf8.first", "unicode/utf8.acceptRanges", "internal/bytealg.MaxLen"], apart := false, laid := [("squelch/ctl.codes", laid_squelch_ctl_codes), ("unicode/utf8.acceptRanges", laid_unicode_utf8_acceptRanges), ("unicode/utf8.first", laid_unicode_utf8_first)], narrowed := true }
def LinkStatesUptoSaid : Prop := linkStatesUptoRow.holds Tryz.pinned (OpenSpec.upto linkStatesSpec)

/-- 'squelchlaw20.LinkFails', WHERE WHAT IT READS IS OF BULK AT MOST 1048576: true; the input reads as it did. -/
def linkFailsUptoRow : OpenClaim := { program := "ytgoaepjjegblnaagreatdoor", sum := "5455d308a9d54214ec284856c00de5b8eee838f38377387c6cf84c1ff977c8db", func := "squelch/squelchlaw20.LinkFails", spec := "linkFails", inPlace := ["internal/bytealg.IndexByteString", "internal/bytealg.IndexString"], unfollowed := true, recurses := true, named := ["squelch/ctl.codes", "unicode/utf8.first", "unicode/utf8.acceptRanges", "internal/bytealg.MaxLen"], apart := false, laid := [("squelch/ctl.codes", laid_squelch_ctl_codes), ("unicode/utf8.acceptRanges", laid_unicode_utf8_acceptRanges), ("unicode/utf8.first", laid_unicode_utf8_first)], narrowed := true }
def LinkFailsUptoSaid : Prop := linkFailsUptoRow.holds Tryz.pinned (OpenSpec.upto linkFailsSpec)

/-- 'squelchlaw20.LinkCounts', WHERE WHAT IT READS IS OF BULK AT MOST 1048576: true; the input reads as it did. -/
def linkCountsUptoRow : OpenClaim := { program := "ytgoaepjjegblnaagreatdoor", sum := "5455d308a9d54214ec284856c00de5b8eee838f38377387c6cf84c1ff977c8db", func := "squelch/squelchlaw20.LinkCounts", spec := "linkCounts", inPlace := ["internal/bytealg.IndexByteString", "internal/bytealg.IndexString"], unfollowed := true, recurses := true, named := ["squelch/ctl.codes", "unicode/utf8.first", "unicode/utf8.acceptRanges", "internal/bytealg.MaxLen"], apart := false, laid := [("squelch/ctl.codes", laid_squelch_ctl_codes), ("unicode/utf8.acceptRanges", laid_unicode_utf8_acceptRanges), ("unicode/utf8.first", laid_unicode_utf8_first)], narrowed := true }
def LinkCountsUptoSaid : Prop := linkCountsUptoRow.holds Tryz.pinned (OpenSpec.upto linkCountsSpec)

/-- 'squelchlaw20.LinkHeld', WHERE WHAT IT READS IS OF BULK AT MOST 1048576: true; the input reads as it did. -/
def linkHeldUptoRow : OpenClaim := { program := "ytgoaepjjegblnaagreatdoor", sum := "5455d308a9d54214ec284856c00de5b8eee838f38377387c6cf84c1ff977c8db", func := "squelch/squelchlaw20.LinkHeld", spec := "linkHeld", inPlace := ["internal/bytealg.IndexByteString", "internal/bytealg.IndexString"], unfollowed := true, recurses := true, named := ["squelch/ctl.codes", "unicode/utf8.first", "unicode/utf8.acceptRanges", "internal/bytealg.MaxLen"], apart := false, laid := [("squelch/ctl.codes", laid_squelch_ctl_codes), ("unicode/utf8.acceptRanges", laid_unicode_utf8_acceptRanges), ("unicode/utf8.first", laid_unicode_utf8_first)], narrowed := true }
def LinkHeldUptoSaid : Prop := linkHeldUptoRow.holds Tryz.pinned (OpenSpec.upto linkHeldSpec)

/-- 'squelchlaw20.LinkCloses', WHERE WHAT IT READS IS OF BULK AT MOST 1048576: true; the input reads as it did. -/
def linkClosesUptoRow : OpenClaim := { program := "ytgoaepjjegblnaagreatdoor", sum := "5455d308a9d54214ec284856c00de5b8eee838f38377387c6cf84c1ff977c8db", func := "squelch/squelchlaw20.LinkCloses", spec := "linkCloses", inPlace := ["internal/bytealg.IndexByteString", "internal/bytealg.IndexString"], unfollowed := true, recurses := true, named := ["squelch/ctl.codes", "unicode/utf8.first", "unicode/utf8.acceptRanges", "internal/bytealg.MaxLen"], apart := false, laid := [("squelch/ctl.codes", laid_squelch_ctl_codes), ("unicode/utf8.acceptRanges", laid_unicode_utf8_acceptRanges), ("unicode/utf8.first", laid_unicode_utf8_first)], narrowed := true }
def LinkClosesUptoSaid : Prop := linkClosesUptoRow.holds Tryz.pinned (OpenSpec.upto linkClosesSpec)

/-- 'squelchlaw20.LinkReports', WHERE WHAT IT READS IS OF BULK AT MOST 1048576: true; the input reads as it did. -/
def linkReportsUptoRow : OpenClaim := { program := "ytgoaepjjegblnaagreatdoor", sum := "5455d308a9d54214ec284856c00de5b8eee838f38377387c6cf84c1ff977c8db", func := "squelch/squelchlaw20.LinkReports", spec := "linkReports", inPlace := ["internal/bytealg.IndexByteString", "internal/bytealg.IndexString"], unfollowed := true, recurses := true, named := ["squelch/ctl.codes", "unicode/utf8.first", "unicode/utf8.acceptRanges", "internal/bytealg.MaxLen"], apart := false, laid := [("squelch/ctl.codes", laid_squelch_ctl_codes), ("unicode/utf8.acceptRanges", laid_unicode_utf8_acceptRanges), ("unicode/utf8.first", laid_unicode_utf8_first)], narrowed := true }
def LinkReportsUptoSaid : Prop := linkReportsUptoRow.holds Tryz.pinned (OpenSpec.upto linkReportsSpec)

/-- 'squelchlaw21.LinksErrors', WHERE WHAT IT READS IS OF BULK AT MOST 1048576: true; the input reads as it did. -/
def linksErrorsUptoRow : OpenClaim := { program := "ytgoaepjjegblnaagreatdoor", sum := "5455d308a9d54214ec284856c00de5b8eee838f38377387c6cf84c1ff977c8db", func := "squelch/squelchlaw21.LinksErrors", spec := "linksErrors", inPlace := ["internal/bytealg.IndexByteString", "internal/bytealg.IndexString"], unfollowed := true, recurses := true, named := ["squelch/ctl.codes", "unicode/utf8.first", "unicode/utf8.acceptRanges", "internal/bytealg.MaxLen"], apart := false, laid := [("squelch/ctl.codes", laid_squelch_ctl_codes), ("unicode/utf8.acceptRanges", laid_unicode_utf8_acceptRanges), ("unicode/utf8.first", laid_unicode_utf8_first)], narrowed := true }
def LinksErrorsUptoSaid : Prop := linksErrorsUptoRow.holds Tryz.pinned (OpenSpec.upto linksErrorsSpec)

/-- 'squelchlaw21.LinksTalk', WHERE WHAT IT READS IS OF BULK AT MOST 1048576: true; the input reads as it did. -/
def linksTalkUptoRow : OpenClaim := { program := "ytgoaepjjegblnaagreatdoor", sum := "5455d308a9d54214ec284856c00de5b8eee838f38377387c6cf84c1ff977c8db", func := "squelch/squelchlaw21.LinksTalk", spec := "linksTalk", inPlace := ["internal/bytealg.IndexByteString", "internal/bytealg.IndexString"], unfollowed := true, recurses := true, named := ["squelch/ctl.codes", "unicode/utf8.first", "unicode/utf8.acceptRanges", "internal/bytealg.MaxLen"], apart := false, laid := [("squelch/ctl.codes", laid_squelch_ctl_codes), ("unicode/utf8.acceptRanges", laid_unicode_utf8_acceptRanges), ("unicode/utf8.first", laid_unicode_utf8_first)], narrowed := true }
def LinksTalkUptoSaid : Prop := linksTalkUptoRow.holds Tryz.pinned (OpenSpec.upto linksTalkSpec)

end Rows
end Go.Proofs.YtgoaepjjegblnaaGreatDoor
