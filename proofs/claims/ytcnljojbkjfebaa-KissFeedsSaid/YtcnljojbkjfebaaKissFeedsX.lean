/-
KissFeeds, whole: every list of texts.
-/
import Derived.Test.YtcnljojbkjfebaaKissFeedsW
namespace Go.Proofs.Ytcnljojbkjfebaa
open Go.RowKit
set_option maxHeartbeats 400000 in
theorem feeds_nil (n : Int) (a : Option Addr) (cap : Nat) (u : Value) (w : World) :
    Calls Try.prog 4 #[.int .i64 n, .slice a 0 cap, u] w fun e w' => e = .returned (.bool true) ∧ Below w.heap.size w w' := by
  go_enter Try.func4, Try.ntmps4
  go_wp2_with (first
    | (go_at_call 8; refine (awake_any _).mono ?_; rintro e w1 ⟨rfl, hb1⟩; have HB := Lib.hid hb1; clear hb1)
    | (go_at_call 11; refine (long_nil a cap _).mono ?_; rintro e w2 ⟨rfl, rfl⟩)
    | (go_at_call 12; refine (cnew_any n _).mono ?_; rintro e w2 ⟨rfl, _, hB1, _⟩; have HB1 := Lib.hid hB1; clear hB1)
    | (go_at_call 13; refine (rnew_any n _).mono ?_; rintro e w3 ⟨rfl, _, hB2, _⟩; have HB2 := Lib.hid hB2; clear hB2))
  refine wp_loop_rounds 1 ?_
  rw [rounds_succ]
  go_wp2
  go_ret
  have hs0 := HB.out.size
  exact ⟨rfl, (HB.out.trans (HB1.out.mono hs0)).trans (HB2.out.mono (Nat.le_trans hs0 HB1.out.size))⟩
set_option maxHeartbeats 400000 in
theorem feeds_some (n : Int) (lb off cap : Nat) (ss : List ByteArray) (ra : Option Addr) (rcap : Nat) (rs : List Bool) (w : World) (hl : ss.length ≤ 9223372036854775807)
    (hm : ∀ s ∈ ss, s.size ≤ 140737488351232) (hlb : lb < w.heap.size)
    (hc : ∀ j, j < ss.length → w.cell? ⟨lb, off + j, none⟩ = some (.string (ss.getD j ByteArray.empty)))
    (hr : ∀ k, k < rs.length → ∃ rb roff, ra = some ⟨rb, roff, none⟩ ∧ rb < w.heap.size ∧ w.cell? ⟨rb, roff + k, none⟩ = some (.bool (rs.getD k false))) :
    Calls Try.prog 4 #[.int .i64 n, .slice (some ⟨lb, off, none⟩) ss.length cap, .slice ra rs.length rcap] w fun e w' => e = .returned (.bool true) ∧ Below w.heap.size w w' := by
  have HC := Lib.hid (fun (w1 : World) (hb : Below w.heap.size w w1) j hj => (hb.cell (p := ⟨lb, off + j, none⟩) hlb).trans (hc j hj))
  have HM := Lib.hid hm
  clear hc hm
  cases hL : longB ss
  · have h60 : ss.length ≤ 60 ∧ (flat ss).length ≤ 3000 := by simp [longB] at hL; omega
    obtain ⟨h60, hfl⟩ := h60
    have HL := Lib.hid hL
    clear hL
    refine feeds_core n lb off cap ss ra rcap rs w h60 hfl (fun w1 hb => ?_) (fun w1 hb => HC.out _ hb) (fun k hk => ?_)
    · have h := long_some lb off cap ss w1 hl HM.out (HC.out _ hb)
      rw [HL.out] at h
      exact h
    · obtain ⟨rb, roff, h1, h2, h3⟩ := hr k hk
      exact ⟨rb, roff, h1, fun w1 hb => (hb.cell (p := ⟨rb, roff + k, none⟩) h2).trans h3⟩
  · have HL := Lib.hid hL
    clear hL hr
    go_enter Try.func4, Try.ntmps4
    go_wp2_with (first
      | (go_at_call 8; refine (awake_any _).mono ?_; rintro e w1 ⟨rfl, hb⟩)
      | (go_at_call 11; refine (long_some _ _ _ _ _ hl HM.out (HC.out _ hb)).mono ?_; rw [HL.out]; rintro e w2 ⟨rfl, rfl⟩))
    go_ret
    exact ⟨rfl, hb⟩
end Go.Proofs.Ytcnljojbkjfebaa
