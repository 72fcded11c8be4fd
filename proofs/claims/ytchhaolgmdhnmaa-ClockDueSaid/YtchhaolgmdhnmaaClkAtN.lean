/-
The landed clock among other blocks: Stop of one name that has just been laid.
-/
import Derived.Test.YtchhaolgmdhnmaaClkAt
namespace Go.Proofs.Ytchhaolgmdhnmaa
open Go.RowKit
set_option maxRecDepth 20000
section
variable {w : World} {p : Nat} {L : List Tm} {O : List (Nat × List Value)} {W : World}
theorem CkO.stopN (h : CkO w p L O W) (hok : ClkOk L) (a : Nm) : Calls Try.prog 10 #[.pointer (some ⟨p, 0, none⟩), .slice (some ⟨W.heap.size, 0, none⟩) 1 1] (W.alloc (.cells #[.int .i64 a.k, .int .i64 a.n] 31)) fun e W' =>
    e = .returned (.int .i64 (cntT (isT a) L : Nat)) ∧ CkO w p (stopT a L) O W' := by
  have hb : Below W.heap.size W (W.alloc (.cells #[.int .i64 a.k, .int .i64 a.n] 31)) := (Below.refl _ W).alloc (Nat.le_refl _) _
  obtain ⟨F, h1, h2, h3⟩ := h.at_
  have hc := cstop13_any p L F (some ⟨W.heap.size, 0, none⟩) 1 1 [a] _ (h1.below hb) hok.len rfl (AtL.made encN _ W W.heap.size a _ rfl rfl) (by omega) (fun q e => by
    cases e
    intro hf
    have : W.heap.size < W.heap.size := h1.mem _ hf
    omega)
  rw [anyN_one a] at hc
  exact hc.mono fun e W' ⟨he, hc, ht⟩ => ⟨he, (h.below hb).step h2 h3 hc ht (Grew.refl F _)⟩
theorem CkO.forget {x : Nat × List Value} (h : CkO w p L (x :: O) W) : CkO w p L O W := by
  obtain ⟨F, h1, h2, h3⟩ := h.at_
  exact ⟨⟨F, h1, h2, fun m row hm => h3 m row (.tail _ hm)⟩, fun m row hm => h.oth m row (.tail _ hm), h.bel⟩
end
end Go.Proofs.Ytchhaolgmdhnmaa
