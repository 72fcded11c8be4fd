/-
The landed windows keep what is asked of them; the document's example.
-/
import Derived.Test.YtmokibjeanbabaaSeqCOut
import Derived.Test.YtmokibjeanbabaaSeqCIn
import Derived.Test.YtmokibjeanbabaaSeqLawO
namespace Go.Proofs.Ytmokibjeanbabaa
open Go.RowKit
/-- how the landed sender's window lies -/
def OutL : OutR := fun w p m k s F => RowAt w p (coV m k s) ∧ F = (fun x => x = p)
theorem outC : OutC OutL where
  mem := fun ⟨hR, hF⟩ x hx => by
    rw [hF] at hx
    rw [hx]
    exact (hR.get 0 rfl).lt
  stay := fun ⟨hR, hF⟩ hs => ⟨hR.block (hs.2 _ (by rw [hF])) hs.1, hF⟩
  new := fun m k w hm hk => (cnewout_yes m k w hm hk).mono fun e w' ⟨he, hw⟩ => ⟨_, _, he, ⟨by
    rw [hw]
    have := RowAt.new w w.heap.size rfl (coV m k ⟨0, 0⟩) 63
    have e0 : (0 : Int) % m = 0 := by rcases hm with e | e <;> subst e <;> rfl
    simp only [coV, e0] at this ⊢
    exact this, rfl⟩, fun b hb => by rw [hb]; exact Nat.le_refl _, by rw [hw]; exact (Below.refl _ _).alloc (Nat.le_refl _) _⟩
  next := fun p m k s F w ⟨hR, hF⟩ hok _ => (cnext_any p m k s w hR hok).mono fun e w' ⟨he, hr, ht⟩ => ⟨_, he, ⟨hr, rfl⟩, by rw [hF]; exact ht, by rw [hF]; exact Grew.refl _ _⟩
  acks := fun p m k s F nr w ⟨hR, hF⟩ hok => (cacks_any p m k s nr w hR hok).mono fun e w' ⟨he, hr, ht⟩ => ⟨_, he, ⟨hr, rfl⟩, by rw [hF]; exact ht, by rw [hF]; exact Grew.refl _ _⟩
  opn := fun p m k s F w ⟨hR, _⟩ hok => copen_any p m k s w hR hok
theorem cseqawake (w : World) : Calls Try.prog 8 #[] w fun e w' => e = .returned (.bool true) ∧ Below w.heap.size w w' := seqawake_of inC w
end Go.Proofs.Ytmokibjeanbabaa
