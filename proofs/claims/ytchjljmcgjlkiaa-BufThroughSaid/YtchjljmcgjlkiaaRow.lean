/-
Any number of cells in a row, in a block of their own, as a list of what they hold.
-/
import Derived.Test.YtchjljmcgjlkiaaMemK
namespace Go.Proofs.Ytchjljmcgjlkiaa
open Go.RowKit
def RowAt (W : World) (m : Nat) (L : List Value) : Prop := ∀ i v, L[i]? = some v → KeepAt W m i v
theorem RowAt.new (w : World) (m : Nat) (hm : m = w.heap.size) (L : List Value) (T : TypeId) : RowAt (w.alloc (.cells L.toArray T)) m L := by
  subst hm
  intro i v h
  exact ⟨(World.cell?_alloc_at _ _ _ _ rfl).trans (by simpa using h), World.frozen?_alloc_at _ _ _ _ rfl, by simp⟩
theorem RowAt.get {W : World} {m : Nat} {L : List Value} (h : RowAt W m L) (i : Nat) {v : Value} (e : L[i]? = some v) : KeepAt W m i v := h i v e
theorem RowAt.cell {W : World} {m : Nat} {L : List Value} (h : RowAt W m L) (i : Nat) {v : Value} (e : L[i]? = some v) : W.cell? ⟨m, i, none⟩ = some v := (h i v e).cell
theorem RowAt.block {W W' : World} {m : Nat} {L : List Value} (h : RowAt W m L) (hb : W'.heap[m]? = W.heap[m]?) (hs : W.heap.size ≤ W'.heap.size) : RowAt W' m L := fun i v e => (h i v e).block hb hs
theorem RowAt.below {W W' : World} {m : Nat} {L : List Value} (h : RowAt W m L) (hb : Below W.heap.size W W') : RowAt W' m L := fun i v e => (h i v e).below hb
theorem RowAt.drew {W : World} {m : Nat} {L : List Value} (h : RowAt W m L) : RowAt W.drew m L := fun i v e => (h i v e).drew
theorem RowAt.alloc {W : World} {m : Nat} {L : List Value} (h : RowAt W m L) (x : Obj) : RowAt (W.alloc x) m L := fun i v e => (h i v e).alloc x
theorem RowAt.other {W : World} {m g p : Nat} {L : List Value} (h : RowAt W m L) (v : Value) (hg : g ≠ m) : RowAt (W.setCell ⟨g, p, none⟩ v) m L := fun i u e => (h i u e).other v hg
theorem RowAt.put {W : World} {m : Nat} {L : List Value} (h : RowAt W m L) (p : Nat) (v : Value) (L' : List Value) (e : L' = L.set p v) : RowAt (W.setCell ⟨m, p, none⟩ v) m L' := by
  subst e
  intro i u e
  rw [List.getElem?_set] at e
  by_cases hp : p = i
  · subst hp
    by_cases hl : p < L.length
    · rw [if_pos rfl, if_pos hl] at e
      obtain rfl := Option.some.inj e
      exact (h p L[p] (List.getElem?_eq_getElem hl)).put _
    · rw [if_pos rfl, if_neg hl] at e
      cases e
  · rw [if_neg hp] at e
    exact (h i u e).set v hp
end Go.Proofs.Ytchjljmcgjlkiaa
