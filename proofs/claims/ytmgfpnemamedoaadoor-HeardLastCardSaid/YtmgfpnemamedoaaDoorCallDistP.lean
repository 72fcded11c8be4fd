/-
Calls in a row: are they right, and no two alike?
-/
import Derived.Test.YtmgfpnemamedoaaDoorMix01
namespace Go.Proofs.YtmgfpnemamedoaaDoor
set_option maxRecDepth 20000
open Go.RowKit Go.Sort
/-- calls that lie in a row -/
def SAt (W : World) (lb off : Nat) (C : List (ByteArray × Int)) : Prop := ∀ k (h : k < C.length), W.cell? ⟨lb, off + k * 2, none⟩ = some (.string C[k].1) ∧ W.cell? ⟨lb, off + k * 2 + 1, none⟩ = some (.int .i64 C[k].2)
theorem SAt.below {W W' : World} {lb off B : Nat} {C : List (ByteArray × Int)} (h : SAt W lb off C) (hl : lb < B) (hb : Below B W W') : SAt W' lb off C := fun k hk =>
  ⟨(hb.cell (p := ⟨lb, off + k * 2, none⟩) hl).trans (h k hk).1, (hb.cell (p := ⟨lb, off + k * 2 + 1, none⟩) hl).trans (h k hk).2⟩
/-- no one of the first j is c -/
def apartD (C : List (ByteArray × Int)) (c : ByteArray × Int) (j : Nat) : Bool := (C.take j).all fun d => decide (c ≠ d)
/-- the first k are right, and no two alike -/
def wantD (C : List (ByteArray × Int)) : Nat → Bool
  | 0 => true
  | k + 1 => wantD C k && (match C[k]? with | none => true | some c => rightD c.1 c.2 && apartD C c k)
theorem apartD_next (C : List (ByteArray × Int)) (c : ByteArray × Int) (j : Nat) (h : j < C.length) : apartD C c (j + 1) = (apartD C c j && decide (c ≠ C[j])) := by
  unfold apartD
  rw [List.take_succ_eq_append_getElem h, List.all_append]
  simp
theorem wantD_next (C : List (ByteArray × Int)) (k : Nat) (h : k < C.length) : wantD C (k + 1) = (wantD C k && (rightD C[k].1 C[k].2 && apartD C C[k] k)) := by
  show (wantD C k && _) = _
  rw [List.getElem?_eq_getElem h]
end Go.Proofs.YtmgfpnemamedoaaDoor
