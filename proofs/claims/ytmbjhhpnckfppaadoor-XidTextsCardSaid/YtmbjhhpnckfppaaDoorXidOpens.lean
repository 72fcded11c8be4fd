/-
What opening an argument that is a link's parameters gives.
-/
import Derived.Test.YtmbjhhpnckfppaaDoorXidBase
import Derived.Test.YtmbjhhpnckfppaaDoorRows
import Derived.ProofKit
import Derived.SizedLaws
import Derived.Lib.SmallJoins
namespace Go.Proofs.YtmbjhhpnckfppaaDoor
open Go.ChangeShapes Go.WideShapes Go.ChangeAt Go.RowKit Go.Joins Go.Deep
theorem Tryd.ownX : ownKnob Tryd.prog.godebug = none := by kernel_rfl
theorem Tryd.laidOutX : laidOutB Tryd.prog = true := by kernel_rfl
theorem Tryd.cellsXid : Tryd.prog.cellsOf 23 = 6 := by kernel_rfl
theorem six_cells {α : Type} {cs : Array α} (h : cs.size = 6) : ∃ c0 c1 c2 c3 c4 c5, cs = #[c0, c1, c2, c3, c4, c5] := by
  obtain ⟨l⟩ := cs
  match l, h with
  | [c0, c1, c2, c3, c4, c5], _ => exact ⟨c0, c1, c2, c3, c4, c5, rfl⟩
section
variable {H : Type} {enc : TypeId × Value → H} {P : Program} {w : World} {base : Nat} {spare : Nat → Bool} {held : Bool}
theorem trod_six {t : TypeId} {f0 f1 f2 f3 f4 f5 : Field} {fuel : Nat} {cs : List Value} {x : DataW H × List MemPlace} (ht : P.underlying t = some (.struct #[f0, f1, f2, f3, f4, f5])) (h : DataW.trod enc P w base spare held fuel t cs = some x) :
    ∃ y0 y1 y2 y3 y4 y5 n, x = (.agg [y0.1, y1.1, y2.1, y3.1, y4.1, y5.1], y0.2 ++ (y1.2 ++ (y2.2 ++ (y3.2 ++ (y4.2 ++ y5.2))))) ∧ DataW.trod enc P w base spare held n f0.type ((cs.drop f0.offset).take (P.cellsOf f0.type)) = some y0 ∧
      DataW.trod enc P w base spare held n f1.type ((cs.drop f1.offset).take (P.cellsOf f1.type)) = some y1 ∧ DataW.trod enc P w base spare held n f2.type ((cs.drop f2.offset).take (P.cellsOf f2.type)) = some y2 ∧
      DataW.trod enc P w base spare held n f3.type ((cs.drop f3.offset).take (P.cellsOf f3.type)) = some y3 ∧ DataW.trod enc P w base spare held n f4.type ((cs.drop f4.offset).take (P.cellsOf f4.type)) = some y4 ∧
      DataW.trod enc P w base spare held n f5.type ((cs.drop f5.offset).take (P.cellsOf f5.type)) = some y5 := by
  obtain ⟨xs, n, _, rfl, hl, hlen, hf⟩ := DataW.trod_struct ht h
  match xs, hlen with
  | [y0, y1, y2, y3, y4, y5], _ => exact ⟨y0, y1, y2, y3, y4, y5, n, by simp, by simpa using hf 0 f0 rfl, by simpa using hf 1 f1 rfl, by simpa using hf 2 f2 rfl, by simpa using hf 3 f3 rfl, by simpa using hf 4 f4 rfl, by simpa using hf 5 f5 rfl⟩
end
/-- parameters that came in -/
theorem open_xid {H : Type} {enc : TypeId × Value → H} {w : World} {base b0 : Nat} {spare : Nat → Bool} {held : Bool} {r : Reach} {v : Value} {d : DataW H} {ps : List MemPlace}
    (hv : Value.okWide Tryd.prog w r b0 23 v) (h : DataW.Trod enc Tryd.prog w base spare held 23 v d ps) : ps = [] ∧ ∃ (a b : Bool) (n k t q : Int), v = .agg #[.bool a, .bool b, .int .i64 n, .int .i64 k, .int .i64 t, .int .i64 q] := by
  obtain ⟨cs, rfl, hsz⟩ := okWide_struct Tryd.underlying23 hv
  obtain ⟨c0, c1, c2, c3, c4, c5, rfl⟩ := six_cells (hsz.trans Tryd.cellsXid)
  obtain ⟨fuel, hf⟩ := h
  obtain ⟨y0, y1, y2, y3, y4, y5, m, hx, h0, h1, h2, h3, h4, h5⟩ := trod_six Tryd.underlying23 hf
  simp only [Prod.mk.injEq] at hx
  have e1 : Tryd.prog.cellsOf 4 = 1 := by kernel_rfl
  have e2 : Tryd.prog.cellsOf 3 = 1 := by kernel_rfl
  simp only [Value.cells, e1, e2, List.drop_succ_cons, List.drop_zero, List.take_succ_cons, List.take_zero] at h0 h1 h2 h3 h4 h5
  obtain ⟨a, g0, rfl⟩ := DataW.trod_bool Tryd.underlying4 h0
  obtain ⟨b, g1, rfl⟩ := DataW.trod_bool Tryd.underlying4 h1
  obtain ⟨n, g2, rfl, _⟩ := DataW.trod_int Tryd.underlying3 h2
  obtain ⟨k, g3, rfl, _⟩ := DataW.trod_int Tryd.underlying3 h3
  obtain ⟨t, g4, rfl, _⟩ := DataW.trod_int Tryd.underlying3 h4
  obtain ⟨q, g5, rfl, _⟩ := DataW.trod_int Tryd.underlying3 h5
  simp at g0 g1 g2 g3 g4 g5
  subst g0 g1 g2 g3 g4 g5
  exact ⟨hx.2, a, b, n, k, t, q, rfl⟩
end Go.Proofs.YtmbjhhpnckfppaaDoor
