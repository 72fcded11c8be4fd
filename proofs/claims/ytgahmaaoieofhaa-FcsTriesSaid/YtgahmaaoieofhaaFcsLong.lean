/-
Walk of Long: more than 60 texts, or more than 3000 bytes.
-/
import Derived.Test.YtgahmaaoieofhaaFcsAwake
namespace Go.Proofs.Ytgahmaaoieofhaa
open Go.RowKit
def longB (ss : List ByteArray) : Bool := decide (60 < ss.length) || decide (3000 < (flat ss).length)
theorem flat_take_len (ss : List ByteArray) (k : Nat) (h : k < ss.length) : (flat (ss.take (k + 1))).length = (flat (ss.take k)).length + (ss.getD k ByteArray.empty).size := by
  rw [flat_take ss k h, List.length_append]; simp
theorem flat_take_le (ss : List ByteArray) (k : Nat) : (flat (ss.take k)).length ≤ (flat ss).length := by
  have h : flat ss = flat (ss.take k) ++ flat (ss.drop k) := by
    rw [flat, flat, flat, ← List.flatMap_append, List.take_append_drop]
  rw [h, List.length_append]; omega
theorem longB_yes1 (ss : List ByteArray) (h : 60 < ss.length) : longB ss = true := by simp [longB, h]
theorem longB_yes2 (ss : List ByteArray) (k : Nat) (h : 3000 < (flat (ss.take k)).length) : longB ss = true := by
  have := flat_take_le ss k
  simp [longB]; omega
theorem longB_no (ss : List ByteArray) (h : ¬ 60 < ss.length) (h2 : (flat ss).length ≤ 3000) : longB ss = false := by
  simp [longB]; omega
set_option maxHeartbeats 400000 in
theorem long_nil (a : Option Addr) (cap : Nat) (w : World) :
    Calls Try.prog 11 #[.slice a 0 cap] w fun e w' => e = .returned (.bool false) ∧ w = w' := by
  go_enter Try.func11, Try.ntmps11
  go_wp2
  refine wp_loop_rounds 1 ?_
  rw [rounds_succ]
  go_wp2
  go_ret
  exact ⟨rfl, rfl⟩
set_option maxHeartbeats 400000 in
theorem long_some (lb off cap : Nat) (ss : List ByteArray) (w : World) (hl : ss.length ≤ 9223372036854775807)
    (hm : ∀ s ∈ ss, s.size ≤ 140737488351232)
    (hc : ∀ j, j < ss.length → w.cell? ⟨lb, off + j, none⟩ = some (.string (ss.getD j ByteArray.empty))) :
    Calls Try.prog 11 #[.slice (some ⟨lb, off, none⟩) ss.length cap] w fun e w' => e = .returned (.bool (longB ss)) ∧ w = w' := by
  by_cases h60 : 60 < ss.length
  · have HL := Lib.hid (longB_yes1 ss h60)
    go_enter Try.func11, Try.ntmps11
    go_wp2
    go_ret
    exact ⟨by rw [HL.out]; rfl, rfl⟩
  go_enter Try.func11, Try.ntmps11
  go_wp2
  go_loop [3, 11] (fun n i => ∃ k : Nat, k ≤ ss.length ∧ i = .int .i64 k ∧ n = .int .i64 (flat (ss.take k)).length ∧ (flat (ss.take k)).length ≤ 3000) (fun _ i => ss.length - (intOf i).toNat)
  case atStart => exact ⟨0, Nat.zero_le _, rfl, rfl, by simp [flat]⟩
  case round =>
    obtain ⟨k, hk, rfl, rfl, hn⟩ := hrel
    obtain ⟨s, hs⟩ : ∃ s, s = ss.getD k ByteArray.empty := ⟨_, rfl⟩
    by_cases hlt : k < ss.length
    · have hcx : w.cell? ⟨lb, off + k, none⟩ = some (.string s) := by rw [hs]; exact hc k hlt
      have hsm : s.size ≤ 140737488351232 := by
        apply hm; rw [hs, List.getD_eq_getElem?_getD, List.getElem?_eq_getElem hlt]; exact List.getElem_mem hlt
      have HF := Lib.hid (flat_take_len ss k hlt)
      rw [← hs] at HF
      have HS := Lib.hid hs
      clear hs hc hm
      have HY := Lib.hid (longB_yes2 ss (k + 1))
      obtain ⟨n, hnn⟩ : ∃ n, n = (flat (ss.take k)).length := ⟨_, rfl⟩
      rw [← hnn] at hn HF ⊢
      have HN := Lib.hid hnn
      clear hnn
      by_cases hbig : 3000 < n + s.size
      · go_wp2
        go_ret
        exact ⟨by rw [HY.out (by rw [HF.out]; exact hbig)]; rfl, rfl⟩
      · go_wp2
        go_round
        case rel => exact ⟨k + 1, by omega, by go_num, by rw [HF.out]; go_num, by rw [HF.out]; omega⟩
        case measure => simp [intOf]; omega
    · obtain rfl : k = ss.length := by omega
      rw [List.take_length] at hn
      have HL := Lib.hid (longB_no ss h60 hn)
      clear hs
      go_wp2
      go_ret
      exact ⟨by rw [HL.out]; rfl, rfl⟩
end Go.Proofs.Ytgahmaaoieofhaa
