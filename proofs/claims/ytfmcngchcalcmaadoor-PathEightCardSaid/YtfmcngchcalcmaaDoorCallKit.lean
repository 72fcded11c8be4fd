/-
What the code's own calls of call are to answer, as contracts.
-/
import Derived.Test.YtfmcngchcalcmaaDoorCallParse
import Derived.Test.YtfmcngchcalcmaaDoorCallGet
import Derived.Test.YtfmcngchcalcmaaDoorCallVars
namespace Go.Proofs.YtfmcngchcalcmaaDoor
open Go.RowKit Go.Sort
/-- what Parse answers -/
def readE (x : Bool × List UInt8 × Nat) : Value := .tuple #[.agg #[.string ⟨x.2.1.toArray⟩, .int .i64 (x.2.2 : Int)], .int .i64 (if x.1 then 0 else 12)]
/-- what Put answers -/
def putE (b : ByteArray) (n : Int) (mk la : Bool) : Value := if rightD b n then .tuple #[.string ⟨(putD b.data.toList n.toNat mk la).toArray⟩, .int .i64 0] else .tuple #[.string ⟨#[]⟩, .int .i64 12]
/-- what Get answers -/
def getE (s : List UInt8) : Value := .tuple #[.agg #[.string ⟨(getD7 s).2.1.toArray⟩, .int .i64 ((getD7 s).2.2.1 : Int)], .bool (getD7 s).2.2.2.1, .bool (getD7 s).2.2.2.2, .int .i64 (if (getD7 s).1 then 0 else if s.length < 7 then 4 else if 7 < s.length then 5 else 2)]
/-- a call's word -/
def textD (b : List UInt8) (n : Int) : List UInt8 := if n = 0 then b else b ++ 45 :: digD n.toNat
def CRightOk : Prop := ∀ (b : ByteArray) (n : Int) w, b.size ≤ 300 → Calls Tryd.prog 52 #[.agg #[.string b, .int .i64 n]] w fun e w' => e = .returned (.bool (rightD b n)) ∧ Below w.heap.size w w'
def CTextOk : Prop := ∀ (b : ByteArray) (n : Int) w, b.size ≤ 300 → Calls Tryd.prog 53 #[.agg #[.string b, .int .i64 n]] w fun e w' => e = .returned (.string (if rightD b n then ⟨(textD b.data.toList n).toArray⟩ else ⟨#[]⟩)) ∧ Below w.heap.size w w'
def CParseOk : Prop := ∀ (s : ByteArray) w, VarsOk w → s.size ≤ 300 → Calls Tryd.prog 64 #[.string s] w fun e w' => e = .returned (readE (readD s.data.toList)) ∧ Below w.heap.size w w'
def CPutOk : Prop := ∀ (b : ByteArray) (n : Int) mk la w, b.size ≤ 300 → Calls Tryd.prog 50 #[.agg #[.string b, .int .i64 n], .bool mk, .bool la] w fun e w' => e = .returned (putE b n mk la) ∧ Below w.heap.size w w'
def CGetOk : Prop := ∀ (s : ByteArray) w, s.size ≤ 300 → Calls Tryd.prog 55 #[.string s] w fun e w' => e = .returned (getE s.data.toList) ∧ Below w.heap.size w w'
end Go.Proofs.YtfmcngchcalcmaaDoor
