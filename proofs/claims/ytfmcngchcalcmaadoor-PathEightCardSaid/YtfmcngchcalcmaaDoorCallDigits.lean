/-
The document's own Digits and Text.
-/
import Derived.Test.YtfmcngchcalcmaaDoorCallRight
import Derived.BigQuiet
import Derived.Deep.QuietTactic
namespace Go.Proofs.YtfmcngchcalcmaaDoor
open Go.RowKit
/-- a number's digits -/
def digD (n : Nat) : List UInt8 := if n < 10 then [UInt8.ofNat (48 + n)] else [UInt8.ofNat (48 + n / 10), UInt8.ofNat (48 + n % 10)]
set_option maxHeartbeats 1000000 in
theorem digits_lit (n : Nat) (w : World) (h : n ≤ 15) :
    Calls Tryd.prog 79 #[.int .i64 (n : Int)] w fun e w' => e = .returned (.string ⟨(digD n).toArray⟩) ∧ Below w.heap.size w w' := by
  obtain rfl | rfl | rfl | rfl | rfl | rfl | rfl | rfl | rfl | rfl | rfl | rfl | rfl | rfl | rfl | rfl : n = 0 ∨ n = 1 ∨ n = 2 ∨ n = 3 ∨ n = 4 ∨ n = 5 ∨ n = 6 ∨ n = 7 ∨ n = 8 ∨ n = 9 ∨ n = 10 ∨ n = 11 ∨ n = 12 ∨ n = 13 ∨ n = 14 ∨ n = 15 := by omega
  all_goals
    go_enter Tryd.func79, Tryd.ntmps79
    go_wp2
    (try (go_quiet (fail)))
    (try go_wp2)
    go_ret
    exact ⟨rfl, by first | exact Below.refl _ _ | exact ⟨rfl, rfl, rfl, Nat.le_refl _, fun _ _ => rfl⟩⟩
end Go.Proofs.YtfmcngchcalcmaaDoor
