/-
Contracts of the library's functions as seg calls them.
-/
import Derived.Test.YtchjljmcgjlkiaaSegCells
import Derived.Test.YtchjljmcgjlkiaaShelf
namespace Go.Proofs.Ytchjljmcgjlkiaa
open Go.RowKit
theorem clone_any (s : ByteArray) (w : World) (h : s.size ≤ 281474976710656) : Calls Try.prog 39 #[.string s] w fun e w' => e = .returned (.string s) ∧ Below w.heap.size w w' := by
  have HC := Lib.hid (fun W => Try.stringslite_Clone s W h)
  go_enter Try.func39, Try.ntmps39
  go_wp2_with (go_at_call 46; (with_reducible refine (HC.out _).mono ?_); rintro e w1 ⟨rfl, hb⟩)
  go_ret
  exact ⟨rfl, hb⟩
/-- the document's example has a message of forty letters -/
theorem repeat_x (w : World) : Calls Try.prog 22 #[.string ⟨#[120]⟩, .int .i64 40] w fun e w' => e = .returned (.string ⟨(List.replicate 40 120).toArray⟩) ∧ Below w.heap.size w w' := by
  have := Try.strings_Repeat ⟨#[120]⟩ 40 w (by decide) (by decide)
  exact this
end Go.Proofs.Ytchjljmcgjlkiaa
