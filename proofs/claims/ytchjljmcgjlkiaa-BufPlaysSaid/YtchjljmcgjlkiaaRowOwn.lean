/-
A row of cells one of which is an own slice, amid a region in which an append turns that slice: what stays, and what the store at the end leaves.
-/
import Derived.Test.YtchjljmcgjlkiaaInPlace
import Derived.Test.YtchjljmcgjlkiaaTurn
namespace Go.Proofs.Ytchjljmcgjlkiaa
open Go.RowKit
section
variable {α : Type} {E : Enc α} {T : TypeId}
/-- the row, its slice, what was turned since w3 -/
structure SlAt (E : Enc α) (T : TypeId) (w3 : World) (p : Nat) (R : List Value) (tv : Value) (L : List α) (W : World) : Prop where
  row : RowAt W p R
  own : OwnL E T W 0 tv L
  turn : Turn (fun k => k = p ∨ tv.ownBlock = some k) w3 W
  pv : tv.ownBlock ≠ some p
  tw : ∀ k, tv.ownBlock = some k → k < w3.heap.size
def SlR (E : Enc α) (T : TypeId) (tv : Value) (M : List α) (W W' : World) : Prop := Turn (fun k => tv.ownBlock = some k) W W' ∧ ∀ X x, X <+: M → OwnL E T W 0 x X → OwnL E T W' 0 x X
theorem SlR.of_below {tv : Value} {M : List α} {W W' : World} (h : Below W.heap.size W W') : SlR E T tv M W W' := ⟨Turn.of_below h, fun _ _ _ k => k.below h⟩
theorem SlR.of_grown {tv : Value} {M : List α} {W W' : World} (h : W.grownBy W' tv.ownBlock) (k : ∀ X B' x, X <+: M → OwnL E T W B' x X → OwnL E T W' B' x X) : SlR E T tv M W W' :=
  ⟨⟨h.os, h.tape, h.output, h.size, fun b hb hF => h.block b hb (fun e => hF e.symm)⟩, fun X x => k X 0 x⟩
theorem SlAt.step {w3 : World} {p : Nat} {R : List Value} {tv : Value} {L M : List α} {W W' : World} (h : SlAt E T w3 p R tv L W) (hM : L <+: M) (hR : SlR E T tv M W W') : SlAt E T w3 p R tv L W' :=
  ⟨h.row.turn hR.1 h.pv, hR.2 L tv hM h.own, Turn.trans h.turn hR.1 (fun _ hk => Or.inl (Or.inr hk)), h.pv, h.tw⟩
theorem SlAt.start {w : World} {p : Nat} {R : List Value} {tv : Value} {L : List α} (hr : RowAt w p R) (ho : OwnL E T w 0 tv L) (hp : tv.ownBlock ≠ some p) : SlAt E T w p R tv L w := ⟨hr, ho, Turn.refl _ _, hp, fun _ e => (ho.ge e).2⟩
theorem SlAt.done {w3 : World} {p : Nat} {R : List Value} {tv v' : Value} {L M : List α} {W : World} (h : SlAt E T w3 p R tv L W) (ho : OwnL E T W 0 v' M) (hv : ∀ k, v'.ownBlock = some k → tv.ownBlock = some k ∨ w3.heap.size ≤ k) (hp : p < w3.heap.size) (i : Nat) (R' : List Value) (hR : R' = R.set i v') :
    RowAt (W.setCell ⟨p, i, none⟩ v') p R' ∧ OwnL E T (W.setCell ⟨p, i, none⟩ v') 0 v' M ∧ v'.ownBlock ≠ some p ∧ Turn (fun k => k = p ∨ tv.ownBlock = some k) w3 (W.setCell ⟨p, i, none⟩ v') ∧ Grew (fun k => k = p ∨ tv.ownBlock = some k) (fun k => k = p ∨ v'.ownBlock = some k) w3 := by
  have hne : v'.ownBlock ≠ some p := fun e => by
    rcases hv p e with q | q
    · exact h.pv q
    · omega
  refine ⟨h.row.put i v' _ hR, ho.same (fun g e => Below.heap_setCell _ _ _ _ (show g ≠ p from fun q => hne (q ▸ e))), hne, h.turn.set (p := ⟨p, i, none⟩) (Or.inl (Or.inl rfl)) _, fun k hk => ?_⟩
  rcases hk with rfl | e
  · exact Or.inl (Or.inl rfl)
  · exact (hv k e).imp Or.inr id
theorem own_or {v' tv : Value} {n m : Nat} (h : v'.ownBlock = tv.ownBlock ∨ v'.ownBlock = some n) (hm : m ≤ n) : ∀ k, v'.ownBlock = some k → tv.ownBlock = some k ∨ m ≤ k := by
  intro k e
  rcases h with q | q
  · exact Or.inl (q ▸ e)
  · rw [q] at e
    cases e
    exact Or.inr hm
end
end Go.Proofs.Ytchjljmcgjlkiaa
