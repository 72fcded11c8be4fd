/-
A text as a slice of bytes of the call's own, written, and back.
-/
import Derived.Test.YteiappicdnekoaaDoorHeap
import Derived.Laws.IdiomStrings
namespace Go.Proofs.YteiappicdnekoaaDoor
open Go.RowKit
/-- block g holds these bytes, and they may be written -/
def HoldsB (w : World) (g : Nat) (l : List UInt8) : Prop := ∀ i (h : i < l.length), w.cell? ⟨g, i, none⟩ = some (.int .u8 ((l[i].toNat : Nat) : Int)) ∧ w.frozen? ⟨g, i, none⟩ = false
theorem HoldsB.below {w w' : World} {g B : Nat} {l : List UInt8} (h : HoldsB w g l) (hg : g < B) (hB : Below B w w') : HoldsB w' g l := fun i hi => by
  rw [hB.cell (p := ⟨g, i, none⟩) hg, hB.frozen (p := ⟨g, i, none⟩) hg]; exact h i hi
theorem HoldsB.drew {w : World} {g : Nat} {l : List UInt8} (h : HoldsB w g l) : HoldsB w.drew g l := fun i hi => h i hi
theorem HoldsB.set {w : World} {g : Nat} {l : List UInt8} (h : HoldsB w g l) (k : Nat) (hk : k < l.length) (v : UInt8) : HoldsB (w.setCell ⟨g, k, none⟩ (.int .u8 ((v.toNat : Nat) : Int))) g (l.set k v) := fun i hi => by
  have hi' : i < l.length := by simpa using hi
  rw [World.frozen?_setCell]
  refine ⟨?_, (h i hi').2⟩
  by_cases e : k = i
  · subst e
    rw [World.cell?_setCell_same w _ _ (h k hk).1, List.getElem_set_self]
  · rw [World.cell?_setCell_other (w := w) (a := ⟨g, k, none⟩) (b := ⟨g, i, none⟩) (v := .int .u8 ((v.toNat : Nat) : Int)) (h := fun he => e (Addr.mk.inj he).2.1), (h i hi').1, List.getElem_set_ne e]
/-- back to a text -/
theorem HoldsB.text {w : World} {g : Nat} {l : List UInt8} (h : HoldsB w g l) (n cap : Nat) (hn : n = l.length) :
    (convert 95 9 (.slice (some ⟨g, 0, none⟩) n cap)).run Tryd.prog w = .ok (.string ⟨l.toArray⟩) w := by
  subst hn
  rw [run_convert_bytes_arg w 95 5 Tryd.underlying95 Tryd.underlying5 g 0 l.length cap (l.map fun b => ((b.toNat : Nat) : Int)) (by simp) (fun i hi => by
    rw [Nat.zero_add, (h i hi).1, List.getD_eq_getElem?_getD, List.getElem?_map, List.getElem?_eq_getElem hi]; rfl) 9 Tryd.underlying9]
  refine congrArg (fun z => Result.ok (Value.string z) w) ?_
  apply bytes_ext'
  rw [strOfNums_data, List.map_map]
  show List.map _ l = l
  conv => rhs; rw [← List.map_id l]
  apply List.map_congr_left
  intro x _
  simp
/-- '[]byte(s)' -/
theorem conv_bytes (X : ByteArray) (w : World) : ∃ cap W, (convert 9 95 (.string X)).run Tryd.prog w = .ok (.slice (some ⟨w.heap.size, 0, none⟩) X.size cap) W ∧ X.size ≤ cap ∧ W.heap.size = w.heap.size + 1 ∧
    HoldsB W w.heap.size X.data.toList ∧ Below w.heap.size w W := by
  refine ⟨_, _, run_bytes_of_string w 9 95 5 X Tryd.underlying9 Tryd.underlying95 Tryd.underlying5, grownCap_ge _ _ _ _, by simp, ?_, ((Below.refl _ w).drew).alloc (Nat.le_refl _) _⟩
  intro i hi
  have hi' : i < X.data.size := by simpa using hi
  have hs : i < (bytesRow X (grownCap w X.size 0 5)).size := by
    have h1 : X.data.size ≤ (bytesRow X (grownCap w X.size 0 5)).size := by rw [bytesRow, Array.size_append, Array.size_map]; omega
    omega
  constructor
  · have h := World.cell?_alloc_mark w.drew (bytesRow X (grownCap w X.size 0 5)) 5 ((bytesRow X (grownCap w X.size 0 5)).size, (bytesRow X (grownCap w X.size 0 5)).size + 1) i
    refine h.trans ?_
    rw [bytesRow, Array.getElem?_append_left (by simpa using hi')]
    rw [Array.getElem?_map, Array.getElem?_eq_getElem hi']; rfl
  · have h := World.frozen?_alloc_mark w.drew (bytesRow X (grownCap w X.size 0 5)) 5 (bytesRow X (grownCap w X.size 0 5)).size ((bytesRow X (grownCap w X.size 0 5)).size + 1) i
    refine h.trans ?_
    rw [decide_eq_false (by omega)]; rfl
end Go.Proofs.YteiappicdnekoaaDoor
