/-
The landed code's Name, and the walk of the statement CtlKinds.
-/
import Derived.Test.YtplandmnmdkjmaaDoorCtlBase
import Derived.BigRegion
import Derived.IntWalk
import Derived.WalkKit
import Derived.WalkSpells
import Derived.WalkLawsBesides
import Derived.Laws.BitsAllLaws
import Derived.Laws.ShiftsVarLaws
import Derived.Lib.Hide
import Derived.BigQuiet
import Derived.Deep.QuietTactic
import Derived.Lib.LaidTab
namespace Go.Proofs.YtplandmnmdkjmaaDoor
open Go.RowKit
set_option maxRecDepth 20000
def nameL : List (List UInt8) := [[], [73], [82, 82], [82, 78, 82], [82, 69, 74], [83, 82, 69, 74], [83, 65, 66, 77], [83, 65, 66, 77, 69], [68, 73, 83, 67], [68, 77], [85, 65], [70, 82, 77, 82], [85, 73], [88, 73, 68], [84, 69, 83, 84]]
def nameD (k : Nat) : List UInt8 := nameL.getD k []
/-- the table of the kinds' names -/
structure NamesOk (w : World) : Prop where
  at_ : ∀ k, k < 15 → w.cell? ⟨1, k, none⟩ = some (.string ⟨(nameD k).toArray⟩)
theorem NamesOk.below {w W : World} (h : NamesOk w) (hb : Below w.heap.size w W) : NamesOk W :=
  ⟨fun k hk => (hb.cell (p := ⟨1, k, none⟩) (World.block_lt_of_cell? w ⟨1, k, none⟩ (h.at_ k hk))).trans (h.at_ k hk)⟩
def nameC (k : Int) : List UInt8 := if kindD k then nameD k.toNat else []
theorem name_any (k : Int) (w : World) (hN : NamesOk w) : Calls Tryd.prog 48 #[.int .i64 k] w fun e w' => e = .returned (.string ⟨(nameC k).toArray⟩) ∧ w' = w := by
  have hK := fun W => isKind_any k W
  unfold nameC
  cases h : kindD k
  · rw [h] at hK
    have HK := Lib.hid hK
    clear hK
    go_enter Tryd.func48, Tryd.ntmps48
    go_wp2_with (go_at_call 68; (with_reducible refine (HK.out _).mono ?_); rintro e w1 ⟨rfl, rfl⟩)
    go_ret
    exact ⟨rfl, rfl⟩
  · rw [h] at hK
    have HK := Lib.hid hK
    simp only [kindD, Bool.and_eq_true, decide_eq_true_eq] at h
    obtain ⟨K, rfl⟩ : ∃ K : Nat, k = K := ⟨k.toNat, by omega⟩
    have hc := hN.at_ K (by omega)
    have hi : (K : Int) < 15 := by omega
    rw [if_pos rfl, Int.toNat_natCast]
    generalize (⟨(nameD K).toArray⟩ : ByteArray) = S at *
    clear hK
    go_enter Tryd.func48, Tryd.ntmps48
    go_wp2_with (go_at_call 68; (with_reducible refine (HK.out _).mono ?_); rintro e w1 ⟨rfl, rfl⟩)
    go_ret
    exact ⟨rfl, rfl⟩
theorem names_apart : ∀ k j : Fin 15, 1 ≤ k.1 → k.1 ≠ j.1 → nameD k.1 ≠ nameD j.1 := by decide +kernel
theorem nameC_apart (k j : Int) (h : 1 ≤ k) (h2 : k ≤ 14) (hne : k ≠ j) : nameC k ≠ nameC j := by
  have hk : kindD k = true := by simp [kindD]; omega
  unfold nameC
  rw [if_pos hk]
  split
  · rename_i hj
    simp only [kindD, Bool.and_eq_true, decide_eq_true_eq] at hj
    exact names_apart ⟨k.toNat, by omega⟩ ⟨j.toNat, by omega⟩ (by show 1 ≤ k.toNat; omega) (by show k.toNat ≠ j.toNat; omega)
  · have := names_apart ⟨k.toNat, by omega⟩ ⟨0, by omega⟩ (by show 1 ≤ k.toNat; omega) (by show k.toNat ≠ 0; omega)
    exact this
end Go.Proofs.YtplandmnmdkjmaaDoor
