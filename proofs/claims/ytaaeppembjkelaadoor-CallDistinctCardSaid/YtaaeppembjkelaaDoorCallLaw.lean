/-
The statements of call, walked over what the code's own calls are to answer.
-/
import Derived.Test.YtaaeppembjkelaaDoorCallParse
import Derived.Test.YtaaeppembjkelaaDoorCallLess
import Derived.Test.YtaaeppembjkelaaDoorCallGet
import Derived.Test.YtaaeppembjkelaaDoorCallVars
namespace Go.Proofs.YtaaeppembjkelaaDoor
open Go.RowKit Go.Sort
/-- what Parse answers -/
def readE (x : Bool × List UInt8 × Nat) : Value := .tuple #[.agg #[.string ⟨x.2.1.toArray⟩, .int .i64 (x.2.2 : Int)], .int .i64 (if x.1 then 0 else 12)]
/-- what Put answers -/
def putE (b : ByteArray) (n : Int) (mk la : Bool) : Value := if rightD b n then .tuple #[.string ⟨(putD b.data.toList n.toNat mk la).toArray⟩, .int .i64 0] else .tuple #[.string ⟨#[]⟩, .int .i64 12]
/-- what Get answers -/
def getE (s : List UInt8) : Value := .tuple #[.agg #[.string ⟨(getD7 s).2.1.toArray⟩, .int .i64 ((getD7 s).2.2.1 : Int)], .bool (getD7 s).2.2.2.1, .bool (getD7 s).2.2.2.2, .int .i64 (if (getD7 s).1 then 0 else if s.length < 7 then 4 else if 7 < s.length then 5 else 2)]
/-- a call's word -/
def textD (b : List UInt8) (n : Int) : List UInt8 := if n = 0 then b else b ++ 45 :: digD n.toNat
def CRightOk : Prop := ∀ (b : ByteArray) (n : Int) w, b.size ≤ 300 → Calls Tryd.prog 9 #[.agg #[.string b, .int .i64 n]] w fun e w' => e = .returned (.bool (rightD b n)) ∧ Below w.heap.size w w'
def CTextOk : Prop := ∀ (b : ByteArray) (n : Int) w, b.size ≤ 300 → Calls Tryd.prog 10 #[.agg #[.string b, .int .i64 n]] w fun e w' => e = .returned (.string (if rightD b n then ⟨(textD b.data.toList n).toArray⟩ else ⟨#[]⟩)) ∧ Below w.heap.size w w'
def CParseOk : Prop := ∀ (s : ByteArray) w, VarsOk w → s.size ≤ 300 → Calls Tryd.prog 11 #[.string s] w fun e w' => e = .returned (readE (readD s.data.toList)) ∧ Below w.heap.size w w'
def CPutOk : Prop := ∀ (b : ByteArray) (n : Int) mk la w, b.size ≤ 300 → Calls Tryd.prog 14 #[.agg #[.string b, .int .i64 n], .bool mk, .bool la] w fun e w' => e = .returned (putE b n mk la) ∧ Below w.heap.size w w'
def CGetOk : Prop := ∀ (s : ByteArray) w, s.size ≤ 300 → Calls Tryd.prog 16 #[.string s] w fun e w' => e = .returned (getE s.data.toList) ∧ Below w.heap.size w w'
def CLessOk : Prop := ∀ (a b : ByteArray) (n m : Int) w, a.size ≤ 300 → b.size ≤ 300 → Calls Tryd.prog 18 #[.agg #[.string a, .int .i64 n], .agg #[.string b, .int .i64 m]] w fun e w' => e = .returned (.bool (lessD a.data.toList n b.data.toList m)) ∧ Below w.heap.size w w'
theorem read_ex : readD [110, 48, 99, 97, 108, 108, 45, 55] = (true, [78, 48, 67, 65, 76, 76], 7) := by decide +kernel
theorem put_ex : putE ⟨#[78, 48, 67, 65, 76, 76]⟩ 7 false false = .tuple #[.string ⟨#[156, 96, 134, 130, 152, 152, 110]⟩, .int .i64 0] := by rfl
set_option maxHeartbeats 1000000 in
theorem cawake_any (hP : CParseOk) (hU : CPutOk) (w : World) (hV : VarsOk w) :
    Calls Tryd.prog 7 #[] w fun e w' => e = .returned (.bool true) ∧ Below w.heap.size w w' := by
  have HP := Lib.hid (fun W (hW : VarsOk W) => (show Calls Tryd.prog 11 #[.string ⟨#[110, 48, 99, 97, 108, 108, 45, 55]⟩] W (fun e w' => e = .returned (.tuple #[.agg #[.string ⟨#[78, 48, 67, 65, 76, 76]⟩, .int .i64 7], .int .i64 0]) ∧ Below W.heap.size W w') from by
    have h := hP ⟨#[110, 48, 99, 97, 108, 108, 45, 55]⟩ W hW (by decide)
    rw [show ((⟨#[110, 48, 99, 97, 108, 108, 45, 55]⟩ : ByteArray).data.toList) = [110, 48, 99, 97, 108, 108, 45, 55] from rfl, read_ex] at h
    exact h))
  have HU := Lib.hid (fun W => (show Calls Tryd.prog 14 #[.agg #[.string ⟨#[78, 48, 67, 65, 76, 76]⟩, .int .i64 7], .bool false, .bool false] W (fun e w' => e = .returned (.tuple #[.string ⟨#[156, 96, 134, 130, 152, 152, 110]⟩, .int .i64 0]) ∧ Below W.heap.size W w') from by
    have h := hU ⟨#[78, 48, 67, 65, 76, 76]⟩ 7 false false W (by decide)
    rw [put_ex] at h
    exact h))
  clear hP hU
  have HB := Lib.hid (Below.refl w.heap.size w)
  go_enter Tryd.func7, Tryd.ntmps7
  go_wp2_with (first
    | (go_at_call 11; go_loud (refine (HP.out _ hV).mono ?_; rintro e w1 ⟨rfl, hb⟩; replace HB := Lib.hid (HB.out.trans (hb.mono HB.out.size)); clear hb))
    | (go_at_call 14; go_loud (refine (HU.out _).mono ?_; rintro e w2 ⟨rfl, hb⟩; have k0 : w2.cell? ⟨w1.heap.size, 0, none⟩ = some (.string ⟨#[78, 48, 67, 65, 76, 76]⟩) := (hb.cell (p := ⟨w1.heap.size, 0, none⟩) (by simp)).trans (by rw [World.cell?_alloc_new]; rfl); have k1 : w2.cell? ⟨w1.heap.size, 1, none⟩ = some (.int .i64 7) := (hb.cell (p := ⟨w1.heap.size, 1, none⟩) (by simp)).trans (by rw [World.cell?_alloc_new]; rfl); replace HB := Lib.hid ((HB.out.alloc HB.out.size _).trans (hb.mono (by have := HB.out.size; simp; omega))); clear hb)))
  go_ret
  exact ⟨rfl, HB.out⟩
end Go.Proofs.YtaaeppembjkelaaDoor
