/-
Walk of the statement FcsNone.
-/
import Derived.Test.YtgahmaaoieofhaaFcsLong
namespace Go.Proofs.Ytgahmaaoieofhaa
open Go.RowKit
set_option maxHeartbeats 400000 in
theorem seal_none (a : Value) (w : World) :
    Calls Try.prog 16 #[.pointer none, a] w fun e w' => e = .returned (.string ⟨#[]⟩) ∧ w = w' := by
  go_enter Try.func16, Try.ntmps16
  go_wp2
  go_ret
  exact ⟨rfl, rfl⟩
set_option maxHeartbeats 400000 in
theorem open_none (a : Value) (w : World) :
    Calls Try.prog 18 #[.pointer none, a] w fun e w' => e = .returned (.tuple #[.string ⟨#[]⟩, .int .i64 1]) ∧ w = w' := by
  go_enter Try.func18, Try.ntmps18
  go_wp2
  go_ret2
  exact ⟨rfl, rfl⟩
set_option maxHeartbeats 400000 in
theorem none_nil (a : Option Addr) (cap : Nat) (w : World) :
    Calls Try.prog 7 #[.slice a 0 cap] w fun e w' => e = .returned (.bool true) ∧ Below w.heap.size w w' := by
  go_enter Try.func7, Try.ntmps7
  go_wp2_with (first
    | (go_at_call 10; refine (awake_any _).mono ?_; rintro e w1 ⟨rfl, hb⟩)
    | (go_at_call 11; refine (long_nil _ _ _).mono ?_; rintro e w2 ⟨rfl, rfl⟩)
    | (go_at_call 18; refine (open_none _ _).mono ?_; rintro e w2 ⟨rfl, rfl⟩)
    | (go_at_call 14; refine (sum_none _ _).mono ?_; rintro e w2 ⟨rfl, rfl⟩)
    | (go_at_call 16; refine (seal_none _ _).mono ?_; rintro e w2 ⟨rfl, rfl⟩))
  go_ret
  exact ⟨rfl, hb⟩
set_option maxHeartbeats 400000 in
theorem none_some (lb off cap : Nat) (ss : List ByteArray) (w : World) (hl : ss.length ≤ 9223372036854775807)
    (hm : ∀ s ∈ ss, s.size ≤ 140737488351232) (hlb : lb < w.heap.size)
    (hc : ∀ j, j < ss.length → w.cell? ⟨lb, off + j, none⟩ = some (.string (ss.getD j ByteArray.empty))) :
    Calls Try.prog 7 #[.slice (some ⟨lb, off, none⟩) ss.length cap] w fun e w' => e = .returned (.bool true) ∧ Below w.heap.size w w' := by
  have HC := Lib.hid hc
  have HM := Lib.hid hm
  clear hc hm
  cases hL : longB ss
  · have HL := Lib.hid hL
    clear hL
    go_enter Try.func7, Try.ntmps7
    go_wp2_with (first
      | (go_at_call 10; refine (awake_any _).mono ?_; rintro e w1 ⟨rfl, hb⟩)
      | (go_at_call 11; refine (long_some _ _ _ _ _ hl HM.out (fun j hj => (hb.cell (p := ⟨lb, off + j, none⟩) hlb).trans (HC.out j hj))).mono ?_; rw [HL.out]; rintro e w2 ⟨rfl, rfl⟩)
      | (go_at_call 18; refine (open_none _ _).mono ?_; rintro e w2 ⟨rfl, rfl⟩)
      | (go_at_call 14; refine (sum_none _ _).mono ?_; rintro e w2 ⟨rfl, rfl⟩)
      | (go_at_call 16; refine (seal_none _ _).mono ?_; rintro e w2 ⟨rfl, rfl⟩))
    go_ret
    exact ⟨rfl, hb⟩
  · have HL := Lib.hid hL
    clear hL
    go_enter Try.func7, Try.ntmps7
    go_wp2_with (first
      | (go_at_call 10; refine (awake_any _).mono ?_; rintro e w1 ⟨rfl, hb⟩)
      | (go_at_call 11; refine (long_some _ _ _ _ _ hl HM.out (fun j hj => (hb.cell (p := ⟨lb, off + j, none⟩) hlb).trans (HC.out j hj))).mono ?_; rw [HL.out]; rintro e w2 ⟨rfl, rfl⟩))
    go_ret
    exact ⟨rfl, hb⟩
end Go.Proofs.Ytgahmaaoieofhaa
