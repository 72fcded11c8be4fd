/-
What is handed in: an array of two short ints.
-/
import Derived.Test.YthfnooldjbalcaaOpenList
namespace Go.Proofs.Ythfnooldjbalcaa
open Go.ChangeShapes Go.WideShapes Go.ChangeAt Go.RowKit Go.Joins Go.Deep
/-- an int16 is as wide as one -/
theorem bounds_i16 {n : Int} (h : (Lit.int .i16 n).wf = true) : -32768 ≤ n ∧ n ≤ 32767 := by
  simp only [Lit.wf, Bool.and_eq_true, decide_eq_true_eq] at h
  exact h
end Go.Proofs.Ythfnooldjbalcaa
