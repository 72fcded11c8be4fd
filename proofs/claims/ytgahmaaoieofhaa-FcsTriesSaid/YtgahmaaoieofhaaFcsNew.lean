/-
Walk of New: the table lies in one new block.
-/
import Derived.Test.YtgahmaaoieofhaaFcsStep
namespace Go.Proofs.Ytgahmaaoieofhaa
open Go.RowKit
theorem zeroTab (w : World) : (zeroValue 43).run Try.prog w = .ok (.agg (tabCells 0)) w := by kernel_rfl
set_option maxRecDepth 100000 in
set_option maxHeartbeats 400000 in
theorem new_any (w : World) :
    Calls Try.prog 12 #[] w fun e w' => e = .returned (.pointer (some ⟨w.heap.size, 0, none⟩)) ∧ w' = w.alloc (.cells (tabCells 256) 43) := by
  have hz := zeroTab
  go_enter Try.func12, Try.ntmps12
  go_wp2
  go_loopw [3] (fun i wr => ∃ k : Nat, k ≤ 256 ∧ i = .int .i64 k ∧ wr = w.alloc (.cells (tabCells k) 43)) (fun i _ => 256 - (intOf i).toNat)
  case atStart => exact ⟨0, Nat.zero_le _, rfl, rfl⟩
  case round =>
    obtain ⟨k, hk, rfl, rfl⟩ := hrel
    clear hz
    by_cases hlt : k < 256
    · have hg := tabCells_get k k hlt
      rw [if_neg (by omega)] at hg
      have hs := tabCells_size k
      go_wp2_with (go_at_call 21; refine (eight_any _ _ (by omega)).mono ?_; rintro e w' ⟨rfl, rfl⟩)
      go_roundw
      case rel => exact ⟨k + 1, by omega, by go_num, by rw [tabCells_next k hlt]⟩
      case measure => simp [intOf]; omega
    · go_wp2
      go_ret
      obtain rfl : k = 256 := by omega
      exact ⟨rfl, rfl⟩
theorem tab_new (w : World) (t : TypeId) : IsTab (w.alloc (.cells (tabCells 256) t)) w.heap.size := fun i hi => by
  rw [World.cell?_alloc_new, tabCells_get _ _ hi, if_pos hi]
theorem IsTab.below {w w' : World} {b B : Nat} (h : IsTab w b) (hb : b < B) (hB : Below B w w') : IsTab w' b := fun i hi => by
  rw [hB.cell (p := ⟨b, i, none⟩) hb]; exact h i hi
/-- New, as its callers want it -/
theorem new_tab (w : World) :
    Calls Try.prog 12 #[] w fun e w' => e = .returned (.pointer (some ⟨w.heap.size, 0, none⟩)) ∧ w'.heap.size = w.heap.size + 1 ∧ IsTab w' w.heap.size ∧ Below w.heap.size w w' :=
  (new_any w).mono fun e w' ⟨he, hw⟩ => by
    subst hw
    exact ⟨he, by simp, tab_new w _, (Below.refl _ _).alloc (Nat.le_refl _) _⟩
end Go.Proofs.Ytgahmaaoieofhaa
