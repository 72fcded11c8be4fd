/-
Walk of the statement FcsSums.
-/
import Derived.Test.YtgahmaaoieofhaaFcsJoined
namespace Go.Proofs.Ytgahmaaoieofhaa
open Go.RowKit
theorem rsum_list (L : List UInt8) (w : World) (hs : L.length ≤ 140737488355328) :
    Calls Try.prog 15 #[.string ⟨L.toArray⟩] w fun e w' => e = .returned (.int .i64 (sumOf L : Nat)) ∧ w = w' :=
  rsum_any ⟨L.toArray⟩ w (show L.toArray.size ≤ _ by simp; omega)
theorem rseal_list (L : List UInt8) (w : World) (hs : L.length ≤ 140737488355328) :
    Calls Try.prog 17 #[.string ⟨L.toArray⟩] w fun e w' => e = .returned (.string ⟨(sealL L).toArray⟩) ∧ Below w.heap.size w w' :=
  rseal_any ⟨L.toArray⟩ w (show L.toArray.size ≤ _ by simpa using hs)
/-- what FcsSums does, its callees by their contracts -/
theorem sums_core (v : Value) (L : List UInt8) (w : World) (hfl : L.length ≤ 3000)
    (hlong : ∀ w1, Below w.heap.size w w1 → Calls Try.prog 11 #[v] w1 fun e w' => e = .returned (.bool false) ∧ w1 = w')
    (hjoin : ∀ w1, Below w.heap.size w w1 → Calls Try.prog 13 #[v] w1 fun e w' => e = .returned (.string ⟨L.toArray⟩) ∧ w1 = w')
    (hsum : ∀ b w1, Below w.heap.size w w1 → IsTab w1 b → Calls Try.prog 14 #[.pointer (some ⟨b, 0, none⟩), v] w1 fun e w' => e = .returned (.int .u16 (sumOf L : Nat)) ∧ w1 = w')
    (hseal : ∀ b w1, Below w.heap.size w w1 → IsTab w1 b → Calls Try.prog 16 #[.pointer (some ⟨b, 0, none⟩), v] w1 fun e w' => e = .returned (.string ⟨(sealL L).toArray⟩) ∧ Below w1.heap.size w1 w') :
    Calls Try.prog 3 #[v] w fun e w' => e = .returned (.bool true) ∧ Below w.heap.size w w' := by
  have hrs := fun w1 => rsum_list L w1 (by omega)
  have hse := fun w1 => rseal_list L w1 (by omega)
  have hbd := sumOf_lt L
  generalize sumOf L = sm at *
  generalize (⟨(sealL L).toArray⟩ : ByteArray) = F at *
  generalize (⟨L.toArray⟩ : ByteArray) = J at *
  have H1 := Lib.hid hlong
  have H2 := Lib.hid hjoin
  have H3 := Lib.hid hsum
  have H4 := Lib.hid hseal
  have H5 := Lib.hid hrs
  have H6 := Lib.hid hse
  clear hlong hjoin hsum hseal hrs hse hfl
  go_enter Try.func3, Try.ntmps3
  go_wp2_with (first
    | (go_at_call 10; refine (awake_any _).mono ?_; rintro e w1 ⟨rfl, hb⟩)
    | (go_at_call 11; refine (H1.out _ hb).mono ?_; rintro e w2 ⟨rfl, rfl⟩)
    | (go_at_call 12; refine (new_tab _).mono ?_; rintro e w2 ⟨rfl, hs2, ht2, hb2⟩; have HT2 := Lib.hid ht2; have HB2 := Lib.hid (hb.trans (hb2.mono hb.size)); clear hs2 hb2 ht2)
    | (go_at_call 13; refine (H2.out _ HB2.out).mono ?_; rintro e w3 ⟨rfl, rfl⟩)
    | (go_at_call 14; refine (H3.out _ _ HB2.out HT2.out).mono ?_; rintro e w3 ⟨rfl, rfl⟩)
    | (go_at_call 15; refine (H5.out _).mono ?_; rintro e w3 ⟨rfl, rfl⟩)
    | (go_at_call 16; refine (H4.out _ _ HB2.out HT2.out).mono ?_; rintro e w3 ⟨rfl, hb3⟩)
    | (go_at_call 17; refine (H6.out _).mono ?_; rintro e w4 ⟨rfl, hb4⟩))
  go_ret
  have h2 := HB2.out
  exact ⟨rfl, h2.trans ((hb3.mono h2.size).trans (hb4.mono (Nat.le_trans h2.size hb3.size)))⟩
theorem sums_nil (a : Option Addr) (cap : Nat) (w : World) :
    Calls Try.prog 3 #[.slice a 0 cap] w fun e w' => e = .returned (.bool true) ∧ Below w.heap.size w w' :=
  sums_core _ [] w (by simp) (fun w1 _ => long_nil a cap w1) (fun w1 _ => joined_nil a cap w1) (fun b w1 _ _ => by rw [seal0]; exact sum_nil b cap a w1) (fun b w1 _ _ => seal_nil b cap a w1)
set_option maxHeartbeats 400000 in
theorem sums_some (lb off cap : Nat) (ss : List ByteArray) (w : World) (hl : ss.length ≤ 9223372036854775807) (hcap : ss.length ≤ cap)
    (hm : ∀ s ∈ ss, s.size ≤ 140737488351232) (hlb : lb < w.heap.size)
    (hc : ∀ j, j < ss.length → w.cell? ⟨lb, off + j, none⟩ = some (.string (ss.getD j ByteArray.empty))) :
    Calls Try.prog 3 #[.slice (some ⟨lb, off, none⟩) ss.length cap] w fun e w' => e = .returned (.bool true) ∧ Below w.heap.size w w' := by
  have HC := Lib.hid (fun (w1 : World) (hb : Below w.heap.size w w1) j hj => (hb.cell (p := ⟨lb, off + j, none⟩) hlb).trans (hc j hj))
  have HM := Lib.hid hm
  clear hc hm
  cases hL : longB ss
  · have h60 : ss.length ≤ 60 ∧ (flat ss).length ≤ 3000 := by simp [longB] at hL; omega
    obtain ⟨h60, hfl⟩ := h60
    have HL := Lib.hid hL
    clear hL
    refine sums_core _ (flat ss) w hfl (fun w1 hb => ?_) (fun w1 hb => joined_some _ _ _ _ _ hl (by omega) (HC.out _ hb)) (fun b w1 hb ht => sum_some b lb off cap ss w1 ht hl (fun s hs => by have := HM.out s hs; omega) (HC.out _ hb)) (fun b w1 hb ht => seal_some b lb off cap ss w1 ht (by omega) hcap (by omega) (fun s hs => by have := HM.out s hs; omega) (Nat.lt_of_lt_of_le hlb hb.size) (HC.out _ hb))
    have h := long_some lb off cap ss w1 hl HM.out (HC.out _ hb)
    rw [HL.out] at h
    exact h
  · have HL := Lib.hid hL
    clear hL
    go_enter Try.func3, Try.ntmps3
    go_wp2_with (first
      | (go_at_call 10; refine (awake_any _).mono ?_; rintro e w1 ⟨rfl, hb⟩)
      | (go_at_call 11; refine (long_some _ _ _ _ _ hl HM.out (HC.out _ hb)).mono ?_; rw [HL.out]; rintro e w2 ⟨rfl, rfl⟩))
    go_ret
    exact ⟨rfl, hb⟩
end Go.Proofs.Ytgahmaaoieofhaa
