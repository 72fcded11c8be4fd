/-
KissCuts, whole: every list of texts.
-/
import Derived.Test.YtcnljojbkjfebaaKissCutsW
namespace Go.Proofs.Ytcnljojbkjfebaa
open Go.RowKit
theorem cuts_nil (n : Int) (a : Option Addr) (cap : Nat) (w : World) :
    Calls Try.prog 6 #[.int .i64 n, .slice a 0 cap] w fun e w' => e = .returned (.bool true) ∧ Below w.heap.size w w' :=
  cuts_core _ n [] w (by simp) (fun w1 _ => long_nil a cap w1) (fun w1 _ => joined_nil a cap w1) (fun b w1 _ _ hD => feed_nil b (capD n) (0, 0, []) _ a cap w1 hD)
set_option maxHeartbeats 400000 in
theorem cuts_some (n : Int) (lb off cap : Nat) (ss : List ByteArray) (w : World) (hl : ss.length ≤ 9223372036854775807)
    (hm : ∀ s ∈ ss, s.size ≤ 140737488351232) (hlb : lb < w.heap.size)
    (hc : ∀ j, j < ss.length → w.cell? ⟨lb, off + j, none⟩ = some (.string (ss.getD j ByteArray.empty))) :
    Calls Try.prog 6 #[.int .i64 n, .slice (some ⟨lb, off, none⟩) ss.length cap] w fun e w' => e = .returned (.bool true) ∧ Below w.heap.size w w' := by
  have HC := Lib.hid (fun (w1 : World) (hb : Below w.heap.size w w1) j hj => (hb.cell (p := ⟨lb, off + j, none⟩) hlb).trans (hc j hj))
  have HM := Lib.hid hm
  clear hc hm
  cases hL : longB ss
  · have h60 : ss.length ≤ 60 ∧ (flat ss).length ≤ 3000 := by simp [longB] at hL; omega
    obtain ⟨h60, hfl⟩ := h60
    have HL := Lib.hid hL
    clear hL
    refine cuts_core _ n (flat ss) w hfl (fun w1 hb => ?_) (fun w1 hb => joined_some _ _ _ _ _ hl (by omega) (HC.out _ hb)) (fun b w1 hb hwb hD => feed_some b (capD n) (0, 0, []) _ lb off cap ss w1 hl (capD_bd n).2 (by simp [InvD]) (by simp) (by omega) (Nat.lt_of_lt_of_le hlb hb.size) (by omega) (fun h => by cases h) hD (HC.out _ hb))
    have h := long_some lb off cap ss w1 hl HM.out (HC.out _ hb)
    rw [HL.out] at h
    exact h
  · have HL := Lib.hid hL
    clear hL
    go_enter Try.func6, Try.ntmps6
    go_wp2_with (first
      | (go_at_call 8; refine (awake_any _).mono ?_; rintro e w1 ⟨rfl, hb⟩)
      | (go_at_call 11; refine (long_some _ _ _ _ _ hl HM.out (HC.out _ hb)).mono ?_; rw [HL.out]; rintro e w2 ⟨rfl, rfl⟩))
    go_ret
    exact ⟨rfl, hb⟩
end Go.Proofs.Ytcnljojbkjfebaa
