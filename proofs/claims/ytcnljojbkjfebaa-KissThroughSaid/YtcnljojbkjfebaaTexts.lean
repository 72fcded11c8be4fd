/-
Lists of texts: all their bytes; the document's own Long and Joined, walked.
-/
import Derived.Test.YtcnljojbkjfebaaOwnBytes
import Derived.LoopTactic
namespace Go.Proofs.Ytcnljojbkjfebaa
open Go.RowKit
/-- all bytes of texts, one behind the other -/
def flat (ss : List ByteArray) : List UInt8 := ss.flatMap fun s => s.data.toList
theorem flat_take (ss : List ByteArray) (k : Nat) (h : k < ss.length) : flat (ss.take (k + 1)) = flat (ss.take k) ++ (ss.getD k ByteArray.empty).data.toList := by
  have e : ss.getD k ByteArray.empty = ss[k] := by rw [List.getD_eq_getElem?_getD, List.getElem?_eq_getElem h]; rfl
  rw [List.take_succ_eq_append_getElem h, flat, List.flatMap_append, e]
  simp [flat]
def longB (ss : List ByteArray) : Bool := decide (60 < ss.length) || decide (3000 < (flat ss).length)
theorem flat_take_len (ss : List ByteArray) (k : Nat) (h : k < ss.length) : (flat (ss.take (k + 1))).length = (flat (ss.take k)).length + (ss.getD k ByteArray.empty).size := by
  rw [flat_take ss k h, List.length_append]; simp
theorem flat_take_le (ss : List ByteArray) (k : Nat) : (flat (ss.take k)).length ≤ (flat ss).length := by
  have h : flat ss = flat (ss.take k) ++ flat (ss.drop k) := by
    rw [flat, flat, flat, ← List.flatMap_append, List.take_append_drop]
  rw [h, List.length_append]; omega
theorem longB_yes1 (ss : List ByteArray) (h : 60 < ss.length) : longB ss = true := by simp [longB, h]
theorem longB_yes2 (ss : List ByteArray) (k : Nat) (h : 3000 < (flat (ss.take k)).length) : longB ss = true := by
  have := flat_take_le ss k
  simp [longB]; omega
theorem longB_no (ss : List ByteArray) (h : ¬ 60 < ss.length) (h2 : (flat ss).length ≤ 3000) : longB ss = false := by
  simp [longB]; omega
set_option maxHeartbeats 400000 in
theorem long_nil (a : Option Addr) (cap : Nat) (w : World) :
    Calls Try.prog 11 #[.slice a 0 cap] w fun e w' => e = .returned (.bool false) ∧ w = w' := by
  go_enter Try.func11, Try.ntmps11
  go_wp2
  refine wp_loop_rounds 1 ?_
  rw [rounds_succ]
  go_wp2
  go_ret
  exact ⟨rfl, rfl⟩
set_option maxHeartbeats 400000 in
theorem long_some (lb off cap : Nat) (ss : List ByteArray) (w : World) (hl : ss.length ≤ 9223372036854775807)
    (hm : ∀ s ∈ ss, s.size ≤ 140737488351232)
    (hc : ∀ j, j < ss.length → w.cell? ⟨lb, off + j, none⟩ = some (.string (ss.getD j ByteArray.empty))) :
    Calls Try.prog 11 #[.slice (some ⟨lb, off, none⟩) ss.length cap] w fun e w' => e = .returned (.bool (longB ss)) ∧ w = w' := by
  by_cases h60 : 60 < ss.length
  · have HL := Lib.hid (longB_yes1 ss h60)
    go_enter Try.func11, Try.ntmps11
    go_wp2
    go_ret
    exact ⟨by rw [HL.out]; rfl, rfl⟩
  go_enter Try.func11, Try.ntmps11
  go_wp2
  go_loop [3, 11] (fun n i => ∃ k : Nat, k ≤ ss.length ∧ i = .int .i64 k ∧ n = .int .i64 (flat (ss.take k)).length ∧ (flat (ss.take k)).length ≤ 3000) (fun _ i => ss.length - (intOf i).toNat)
  case atStart => exact ⟨0, Nat.zero_le _, rfl, rfl, by simp [flat]⟩
  case round =>
    obtain ⟨k, hk, rfl, rfl, hn⟩ := hrel
    obtain ⟨s, hs⟩ : ∃ s, s = ss.getD k ByteArray.empty := ⟨_, rfl⟩
    by_cases hlt : k < ss.length
    · have hcx : w.cell? ⟨lb, off + k, none⟩ = some (.string s) := by rw [hs]; exact hc k hlt
      have hsm : s.size ≤ 140737488351232 := by
        apply hm; rw [hs, List.getD_eq_getElem?_getD, List.getElem?_eq_getElem hlt]; exact List.getElem_mem hlt
      have HF := Lib.hid (flat_take_len ss k hlt)
      rw [← hs] at HF
      have HS := Lib.hid hs
      clear hs hc hm
      have HY := Lib.hid (longB_yes2 ss (k + 1))
      obtain ⟨n, hnn⟩ : ∃ n, n = (flat (ss.take k)).length := ⟨_, rfl⟩
      rw [← hnn] at hn HF ⊢
      have HN := Lib.hid hnn
      clear hnn
      by_cases hbig : 3000 < n + s.size
      · go_wp2
        go_ret
        exact ⟨by rw [HY.out (by rw [HF.out]; exact hbig)]; rfl, rfl⟩
      · go_wp2
        go_round
        case rel => exact ⟨k + 1, by omega, by go_num, by rw [HF.out]; go_num, by rw [HF.out]; omega⟩
        case measure => simp [intOf]; omega
    · obtain rfl : k = ss.length := by omega
      rw [List.take_length] at hn
      have HL := Lib.hid (longB_no ss h60 hn)
      clear hs
      go_wp2
      go_ret
      exact ⟨by rw [HL.out]; rfl, rfl⟩
theorem val_string {a b : ByteArray} (h : a = b) : Value.string a = Value.string b := by rw [h]
theorem joined_nil (a : Option Addr) (cap : Nat) (w : World) :
    Calls Try.prog 21 #[.slice a 0 cap] w fun e w' => e = .returned (.string ⟨(flat []).toArray⟩) ∧ w = w' := by
  go_enter Try.func21, Try.ntmps21
  go_wp2
  refine wp_loop_rounds 1 ?_
  rw [rounds_succ]
  go_wp2
  go_ret
  exact ⟨rfl, rfl⟩
set_option maxHeartbeats 400000 in
theorem joined_some (lb off cap : Nat) (ss : List ByteArray) (w : World) (hl : ss.length ≤ 9223372036854775807) (hs : (flat ss).length ≤ 140737488355328)
    (hc : ∀ j, j < ss.length → w.cell? ⟨lb, off + j, none⟩ = some (.string (ss.getD j ByteArray.empty))) :
    Calls Try.prog 21 #[.slice (some ⟨lb, off, none⟩) ss.length cap] w fun e w' => e = .returned (.string ⟨(flat ss).toArray⟩) ∧ w = w' := by
  have HS := Lib.hid hs
  clear hs
  go_enter Try.func21, Try.ntmps21
  go_wp2
  go_loop [3, 4] (fun s i => ∃ k : Nat, k ≤ ss.length ∧ i = .int .i64 k ∧ s = .string ⟨(flat (ss.take k)).toArray⟩) (fun _ i => ss.length - (intOf i).toNat)
  case atStart => exact ⟨0, Nat.zero_le _, rfl, rfl⟩
  case round =>
    obtain ⟨k, hk, rfl, rfl⟩ := hrel
    obtain ⟨s, hs⟩ : ∃ s, s = ss.getD k ByteArray.empty := ⟨_, rfl⟩
    by_cases hlt : k < ss.length
    · have hcx : w.cell? ⟨lb, off + k, none⟩ = some (.string s) := by rw [hs]; exact hc k hlt
      have hf := flat_take ss k hlt
      have hbd : (flat (ss.take k)).length + s.size ≤ 140737488355328 := by
        have h1 := flat_take_le ss (k + 1)
        have h2 := HS.out
        rw [hf, List.length_append, ← hs] at h1
        simp at h1; omega
      rw [← hs] at hf
      have HF := Lib.hid hf
      clear hf hs hc
      obtain ⟨L, hL⟩ : ∃ L, L = flat (ss.take k) := ⟨_, rfl⟩
      rw [← hL] at hbd HF ⊢
      have HL := Lib.hid hL
      clear hL
      go_wp2
      go_round
      case rel => exact ⟨k + 1, by omega, by go_num, val_string (bytes_ext' (by rw [HF.out]; simp))⟩
      case measure => simp [intOf]; omega
    · obtain rfl : k = ss.length := by omega
      go_wp2
      go_ret
      exact ⟨rfl, rfl⟩
end Go.Proofs.Ytcnljojbkjfebaa
