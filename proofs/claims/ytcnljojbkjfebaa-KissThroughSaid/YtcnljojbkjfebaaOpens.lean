/-
What opening an argument that is a slice of strings gives, the reach of its strings among it.
-/
import Derived.Test.YtcnljojbkjfebaaRows
import Derived.ProofKit
import Derived.SizedLaws
import Derived.SliceStrings
namespace Go.Proofs.Ytcnljojbkjfebaa
open Go.ChangeShapes Go.WideShapes Go.ChangeAt Go.RowKit
theorem Try.own : ownKnob Try.prog.godebug = none := by kernel_rfl
theorem Try.laidOut : laidOutB Try.prog = true := by kernel_rfl
theorem Try.cellsFrame : Try.prog.cellsOf 23 = 3 := by kernel_rfl
theorem Try.cellsString : Try.prog.cellsOf 9 = 1 := by kernel_rfl
theorem strs_reach {H : Type} {P : Program} {e : TypeId} : ∀ (ss : List ByteArray) (s : ByteArray), s ∈ ss → s.size ∈ DataW.weightsAll P e (strs (H := H) ss)
  | [], _, h => by cases h
  | x :: r, s, h => by
    have e1 : strs (H := H) (x :: r) = .lit (.string x.data.toList) :: strs r := rfl
    rw [e1]
    simp only [DataW.weightsAll, DataW.weights, List.mem_append, List.mem_singleton]
    rcases List.mem_cons.1 h with h1 | h1
    · left; rw [h1]; simp
    · right; exact strs_reach r s h1
/-- each string of a slice of strings lies within the reach -/
theorem sized_strs {H : Type} {P : Program} {ts : List TypeId} {ds : List (DataW H)} (h : (DataW.weightsEach P ts ds).all (· ≤ reachBytes) = true) {j : Nat} {t e : TypeId} {ss rr : List ByteArray}
    (ht : ts[j]? = some t) (hd : ds[j]? = some (.slice (strs ss) (strs rr))) (hu : P.underlying t = some (.slice e)) : ∀ s ∈ ss, s.size ≤ 140737488351232 := by
  intro s hs
  have := List.all_eq_true.1 h _ (DataW.weights_mem_each ht hd s.size (by
    simp only [DataW.weights, hu, List.mem_cons, List.mem_append]
    exact Or.inr (Or.inl (strs_reach ss s hs))))
  have h2 : s.size ≤ reachBytes := of_decide_eq_true this
  exact h2
end Go.Proofs.Ytcnljojbkjfebaa
