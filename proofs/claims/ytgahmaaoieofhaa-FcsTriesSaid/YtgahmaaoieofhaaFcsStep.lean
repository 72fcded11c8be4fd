/-
Walks of eightSteps and step: a byte's eight steps of the register.
-/
import Derived.Test.YtgahmaaoieofhaaRows
import Derived.Test.YtgahmaaoieofhaaFcsMath
import Derived.WalkKit
import Derived.WalkSpells
import Derived.WalkLawsBesides
import Derived.Laws.BitsAllLaws
import Derived.Laws.ShiftsVarLaws
namespace Go.Proofs.Ytgahmaaoieofhaa
open Go.RowKit
theorem and1 (x : Nat) (hx : x < 65536) : bits .and .u16 (x : Int) 1 = ((x % 2 : Nat) : Int) := by
  have := u16_and_nat x 1 hx (by omega)
  rw [Nat.and_one_is_mod] at this
  exact this
theorem step_odd (x : Nat) (hx : x < 65536) (h : (bits .and .u16 (x : Int) 1 == 1) = true) : bits .xor .u16 ((x : Int) / 2) 33800 = ((s1 x : Nat) : Int) := by
  rw [and1 x hx] at h
  have h1 : x % 2 = 1 := by have h2 := eq_of_beq h; omega
  rw [s1_odd h1, show ((x : Int) / 2) = ((x / 2 : Nat) : Int) from by omega]
  exact u16_xor_nat _ 33800 (by omega) (by omega)
theorem step_even (x : Nat) (hx : x < 65536) (h : (bits .and .u16 (x : Int) 1 == 1) = false) : (x : Int) / 2 = ((s1 x : Nat) : Int) := by
  rw [and1 x hx] at h
  have h1 : ¬ (x % 2 = 1) := fun h2 => by rw [h2] at h; exact absurd h (by decide)
  rw [s1_even' (by omega)]
  omega
theorem val_u16 {a b : Int} (h : a = b) : Value.int .u16 a = Value.int .u16 b := by rw [h]
theorem ret_u16 {a b : Int} (h : a = b) : Ending.returned (.int .u16 a) = .returned (.int .u16 b) := by rw [h]
set_option maxHeartbeats 400000 in
theorem eight_any (r : Nat) (w : World) (hr : r < 65536) :
    Calls Try.prog 21 #[.int .u16 r] w fun e w' => e = .returned (.int .u16 (s8 r : Nat)) ∧ w = w' := by
  go_enter Try.func21, Try.ntmps21
  go_wp2
  go_loop [0, 4] (fun t i => ∃ k : Nat, k ≤ 8 ∧ i = .int .i64 k ∧ t = .int .u16 (sn k r : Nat)) (fun _ i => 8 - (intOf i).toNat)
  case atStart => exact ⟨0, Nat.zero_le _, rfl, rfl⟩
  case round =>
    obtain ⟨k, hk, rfl, rfl⟩ := hrel
    have hb := sn_lt k r hr
    by_cases hlt : k < 8
    · go_wp2
      all_goals
        go_round
        case rel => exact ⟨k + 1, by omega, by go_num, by rw [sn_succ]; first | exact val_u16 (step_odd _ hb ‹_›) | exact val_u16 (step_even _ hb ‹_›)⟩
        case measure => simp [intOf]; omega
    · go_wp2
      go_ret
      obtain rfl : k = 8 := by omega
      exact ⟨rfl, rfl⟩
theorem step_mix (r : Nat) (hr : r < 65536) : bits .xor .u16 ((r : Int) / 256) ((s8 (r % 256) : Nat) : Int) = ((s8 r : Nat) : Int) := by
  rw [s8_split r, show ((r : Int) / 256) = ((r / 256 : Nat) : Int) from by omega]
  exact u16_xor_nat _ _ (by omega) (sn_lt 8 _ (by omega))
/-- the table's cells: what New lays -/
def tabCells (n : Nat) : Array Value := ((List.range 256).map fun i => Value.int .u16 (if i < n then (s8 i : Nat) else (0 : Nat))).toArray
theorem tabCells_size (n : Nat) : (tabCells n).size = 256 := by simp [tabCells]
theorem tabCells_get (n i : Nat) (h : i < 256) : (tabCells n)[i]? = some (Value.int .u16 (if i < n then (s8 i : Nat) else (0 : Nat))) := by
  simp [tabCells, h]
theorem tabCells_next (n : Nat) (h : n < 256) : (tabCells n).setIfInBounds n (.int .u16 (s8 n : Nat)) = tabCells (n + 1) := by
  apply Array.ext_getElem?
  intro i
  by_cases hi : i < 256
  · by_cases hn : n = i
    · subst hn
      rw [Array.getElem?_setIfInBounds_self_of_lt (by rw [tabCells_size]; exact h), tabCells_get _ _ h, if_pos (by omega)]
    · rw [Array.getElem?_setIfInBounds_ne hn, tabCells_get _ _ hi, tabCells_get _ _ hi]
      by_cases h1 : i < n
      · rw [if_pos h1, if_pos (by omega)]
      · rw [if_neg h1, if_neg (by omega)]
  · rw [Array.getElem?_eq_none (by simp [tabCells_size]; omega), Array.getElem?_eq_none (by simp [tabCells_size]; omega)]
/-- the table lies in block b -/
def IsTab (w : World) (b : Nat) : Prop := ∀ i, i < 256 → w.cell? ⟨b, i, none⟩ = some (.int .u16 (s8 i : Nat))
set_option maxHeartbeats 400000 in
theorem step_any (r b : Nat) (w : World) (hr : r < 65536) (ht : IsTab w b) :
    Calls Try.prog 22 #[.pointer (some ⟨b, 0, none⟩), .int .u16 r] w fun e w' => e = .returned (.int .u16 (s8 r : Nat)) ∧ w = w' := by
  have hc := ht (r % 256) (by omega)
  go_enter Try.func22, Try.ntmps22
  go_wp2
  go_ret
  exact ⟨ret_u16 (step_mix r hr), rfl⟩
end Go.Proofs.Ytgahmaaoieofhaa
