/-
Walk of the document's own Joined: texts, one behind the other.
-/
import Derived.Test.YtgahmaaoieofhaaFcsRef
namespace Go.Proofs.Ytgahmaaoieofhaa
open Go.RowKit
theorem val_string {a b : ByteArray} (h : a = b) : Value.string a = Value.string b := by rw [h]
theorem joined_nil (a : Option Addr) (cap : Nat) (w : World) :
    Calls Try.prog 13 #[.slice a 0 cap] w fun e w' => e = .returned (.string ⟨(flat []).toArray⟩) ∧ w = w' := by
  go_enter Try.func13, Try.ntmps13
  go_wp2
  refine wp_loop_rounds 1 ?_
  rw [rounds_succ]
  go_wp2
  go_ret
  exact ⟨rfl, rfl⟩
set_option maxHeartbeats 400000 in
theorem joined_some (lb off cap : Nat) (ss : List ByteArray) (w : World) (hl : ss.length ≤ 9223372036854775807) (hs : (flat ss).length ≤ 140737488355328)
    (hc : ∀ j, j < ss.length → w.cell? ⟨lb, off + j, none⟩ = some (.string (ss.getD j ByteArray.empty))) :
    Calls Try.prog 13 #[.slice (some ⟨lb, off, none⟩) ss.length cap] w fun e w' => e = .returned (.string ⟨(flat ss).toArray⟩) ∧ w = w' := by
  have HS := Lib.hid hs
  clear hs
  go_enter Try.func13, Try.ntmps13
  go_wp2
  go_loop [3, 4] (fun s i => ∃ k : Nat, k ≤ ss.length ∧ i = .int .i64 k ∧ s = .string ⟨(flat (ss.take k)).toArray⟩) (fun _ i => ss.length - (intOf i).toNat)
  case atStart => exact ⟨0, Nat.zero_le _, rfl, rfl⟩
  case round =>
    obtain ⟨k, hk, rfl, rfl⟩ := hrel
    obtain ⟨s, hs⟩ : ∃ s, s = ss.getD k ByteArray.empty := ⟨_, rfl⟩
    by_cases hlt : k < ss.length
    · have hcx : w.cell? ⟨lb, off + k, none⟩ = some (.string s) := by rw [hs]; exact hc k hlt
      have hf := flat_take ss k hlt
      have hbd : (flat (ss.take k)).length + s.size ≤ 140737488355328 := by
        have h1 := flat_take_le ss (k + 1)
        have h2 := HS.out
        rw [hf, List.length_append, ← hs] at h1
        simp at h1; omega
      rw [← hs] at hf
      have HF := Lib.hid hf
      clear hf hs hc
      obtain ⟨L, hL⟩ : ∃ L, L = flat (ss.take k) := ⟨_, rfl⟩
      rw [← hL] at hbd HF ⊢
      have HL := Lib.hid hL
      clear hL
      go_wp2
      go_round
      case rel => exact ⟨k + 1, by omega, by go_num, val_string (bytes_ext (by rw [HF.out]; simp))⟩
      case measure => simp [intOf]; omega
    · obtain rfl : k = ss.length := by omega
      go_wp2
      go_ret
      exact ⟨rfl, rfl⟩
end Go.Proofs.Ytgahmaaoieofhaa
