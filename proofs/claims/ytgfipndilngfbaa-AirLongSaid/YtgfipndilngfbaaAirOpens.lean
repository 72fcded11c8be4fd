/-
What is handed in: a slice of texts.
-/
import Derived.Test.YtgfipndilngfbaaOpenList
namespace Go.Proofs.Ytgfipndilngfbaa
open Go.ChangeShapes Go.WideShapes Go.ChangeAt Go.RowKit Go.Joins Go.Deep
/-- an uint16 is as wide as one -/
theorem half_nat {n : Int} (h : (Lit.int .u16 n).wf = true) : ∃ b : Nat, n = (b : Int) ∧ b < 65536 := by
  simp only [Lit.wf, Bool.and_eq_true, decide_eq_true_eq] at h
  have h3 : 0 ≤ n ∧ n ≤ 65535 := h
  obtain ⟨b, hb⟩ := Int.eq_ofNat_of_zero_le h3.1
  exact ⟨b, hb, by omega⟩
theorem open_texts {H : Type} {enc : TypeId × Value → H} {w : World} {fuel : Nat} {a0 : Option Addr} {len cap : Nat} {x : DataW H × List MemPlace} (h : DataW.trod enc Try.prog w 0 (fun _ => true) true fuel 22 [.slice a0 len cap] = some x) :
    ∃ L : List ByteArray, L.length = len ∧ AtL encS w a0 L := by
  obtain ⟨L, h1, h2, -⟩ := open_list encS (fun _ => True) Try.underlying22 (by kernel_rfl) (fun _ _ _ _ ht => by
    obtain ⟨s, q, -, -⟩ := DataW.trod_string Try.underlying9 ht
    exact ⟨s, q, trivial⟩) h
  exact ⟨L, h1, h2⟩
end Go.Proofs.Ytgfipndilngfbaa
