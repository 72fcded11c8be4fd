/-
The landed code's sizes: a map of five; what it reads as.
-/
import Derived.Test.YtmbjhhpnckfppaaXidSet
import Derived.Maps.OwnSet
import Derived.MapViews
namespace Go.Proofs.Ytmbjhhpnckfppaa
open Go.RowKit Go.Maps Go.WideMaps
set_option maxRecDepth 20000
theorem keyedByte : Keyed Try.prog 5 := int_keyed Try.underlying5
theorem key_byte (x : Int) (h : 0 ≤ x ∧ x ≤ 255) : keyOf Try.prog 5 (.int .u8 x) = some (.int .u8 x) := keyOf_int_mk Try.underlying5 (WalkArith.wf_u8 h)
theorem elem_int (x : Int) (h : 0 ≤ x ∧ x ≤ 255) : plainElem (H := Unit) Try.prog 3 (.int .i64 x) = some (.lit (.int .i64 x), []) := plainElem_int Try.underlying3 (WalkArith.wf_i64 (by omega))
/-- what the sizes read as -/
def sizesD : DataW Unit := (((((DataW.map []).put (.int .u8 3) (.lit (.int .i64 2))).put (.int .u8 6) (.lit (.int .i64 2))).put (.int .u8 8) (.lit (.int .i64 1))).put (.int .u8 9) (.lit (.int .i64 1))).put (.int .u8 10) (.lit (.int .i64 1))
theorem sizes_any (w : World) : Calls Try.prog 23 #[] w fun e w' => e = .returned (.map (some w.heap.size)) ∧ w'.ownsMap Try.prog 5 (plainElem Try.prog 3) w.heap.size 5 sizesD ∧ Below w.heap.size w w' := by
  have hmm := @run_makeMap Try.prog
  obtain ⟨w1, r1, o1, g1⟩ := (World.ownsMap_made (H := Unit) w Try.prog 5 (plainElem Try.prog 3)).update (t := 50) keyedByte Try.underlying50 (by unfold maxLen; omega) (key_byte 3 (by omega)) (elem_int 2 (by omega))
  obtain ⟨w2, r2, o2, g2⟩ := o1.update (t := 50) keyedByte Try.underlying50 (by unfold maxLen; omega) (key_byte 6 (by omega)) (elem_int 2 (by omega))
  obtain ⟨w3, r3, o3, g3⟩ := o2.update (t := 50) keyedByte Try.underlying50 (by unfold maxLen; omega) (key_byte 8 (by omega)) (elem_int 1 (by omega))
  obtain ⟨w4, r4, o4, g4⟩ := o3.update (t := 50) keyedByte Try.underlying50 (by unfold maxLen; omega) (key_byte 9 (by omega)) (elem_int 1 (by omega))
  obtain ⟨w5, r5, o5, g5⟩ := o4.update (t := 50) keyedByte Try.underlying50 (by unfold maxLen; omega) (key_byte 10 (by omega)) (elem_int 1 (by omega))
  have HO := Lib.hid (show w5.ownsMap Try.prog 5 (plainElem Try.prog 3) w.heap.size 5 sizesD from o5)
  have b0 := (Below.refl _ w).alloc (Nat.le_refl _) (.map #[] 0)
  have b1 := b0.grown g1 b0.size (fun j hj => by cases hj; exact Nat.le_refl _)
  have b2 := b1.grown g2 b1.size (fun j hj => by cases hj; exact Nat.le_refl _)
  have b3 := b2.grown g3 b2.size (fun j hj => by cases hj; exact Nat.le_refl _)
  have b4 := b3.grown g4 b3.size (fun j hj => by cases hj; exact Nat.le_refl _)
  have HG := Lib.hid (b4.grown g5 b4.size (fun j hj => by cases hj; exact Nat.le_refl _))
  clear b0 b1 b2 b3 b4 g1 g2 g3 g4 g5
  clear o1 o2 o3 o4 o5
  go_enter Try.func23, Try.ntmps23
  go_wp2_with fail
  go_ret
  exact ⟨rfl, HO.out, HG.out⟩
end Go.Proofs.Ytmbjhhpnckfppaa
