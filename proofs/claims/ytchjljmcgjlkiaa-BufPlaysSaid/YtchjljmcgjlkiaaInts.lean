/-
Slices of ints.
-/
import Derived.Test.YtchjljmcgjlkiaaSlices
import Derived.Test.YtchjljmcgjlkiaaFactsUpto
import Derived.Deep.RegionHeld
import Derived.Deep.DeepCutAuto
namespace Go.Proofs.Ytchjljmcgjlkiaa
open Go.RowKit
/-- one of them -/
theorem int_at {w : World} {g o : Nat} {L : List Int} (h : AtL encI w (some ⟨g, o, none⟩) L) (k : Nat) (hk : k < L.length) : w.cell? ⟨g, o + k, none⟩ = some (.int .i64 L[k]) := by
  have := h.get k hk 0 (u := .int .i64 L[k]) rfl
  simpa [encI] using this
theorem infoI : (Try.prog.info? 3).map (fun i => (i.zero, i.size, i.bytes)) = some (some (.int .i64 0), 1, 8) := by kernel_rfl
/-- a list of an own slice, one longer -/
theorem OwnL.form' {α : Type} {E : Enc α} {T : TypeId} {w : World} {B : Nat} {v : Value} {L : List α} (h : OwnL E T w B v L) : ∃ a n c, v = .slice a n c := by
  rcases h.2 with ⟨h0, _⟩ | ⟨g', cap, cur, h0, _⟩
  · exact ⟨_, _, _, h0⟩
  · exact ⟨_, _, _, h0⟩
end Go.Proofs.Ytchjljmcgjlkiaa
