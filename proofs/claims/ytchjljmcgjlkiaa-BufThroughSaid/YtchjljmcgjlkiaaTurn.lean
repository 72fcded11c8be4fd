/-
What a call wrote: some blocks, and new ones. For a thing that keeps its state in blocks of its own.
-/
import Derived.Test.YtchjljmcgjlkiaaRow
namespace Go.Proofs.Ytchjljmcgjlkiaa
open Go.RowKit
/-- of the blocks that were there those of F alone were written -/
structure Turn (F : Nat → Prop) (w w' : World) : Prop where
  os : w'.os = w.os
  tape : w'.tape = w.tape
  output : w'.output = w.output
  size : w.heap.size ≤ w'.heap.size
  block : ∀ k, k < w.heap.size → ¬ F k → w'.heap[k]? = w.heap[k]?
/-- the blocks of a state behind a call: those of before, or new ones -/
def Grew (F F' : Nat → Prop) (w : World) : Prop := ∀ k, F' k → F k ∨ w.heap.size ≤ k
theorem Turn.refl (F : Nat → Prop) (w : World) : Turn F w w := ⟨rfl, rfl, rfl, Nat.le_refl _, fun _ _ _ => rfl⟩
theorem Turn.of_below {F : Nat → Prop} {w w' : World} (h : Below w.heap.size w w') : Turn F w w' := ⟨h.os, h.tape, h.output, h.size, fun k hk _ => h.block k hk⟩
theorem Turn.trans {F F' : Nat → Prop} {a b c : World} (h : Turn F a b) (k : Turn F' b c) (hg : Grew F F' a) : Turn F a c :=
  ⟨k.os.trans h.os, k.tape.trans h.tape, k.output.trans h.output, Nat.le_trans h.size k.size, fun i hi hF => (k.block i (Nat.lt_of_lt_of_le hi h.size) (fun hf => (hg i hf).elim hF (fun hge => by omega))).trans (h.block i hi hF)⟩
theorem Grew.refl (F : Nat → Prop) (w : World) : Grew F F w := fun _ h => Or.inl h
theorem Grew.trans {F F' F'' : Nat → Prop} {a b : World} (h : Grew F F' a) (k : Grew F' F'' b) (hs : a.heap.size ≤ b.heap.size) : Grew F F'' a := fun i hi => (k i hi).elim (h i) (fun hge => Or.inr (Nat.le_trans hs hge))
theorem Grew.other {F F' : Nat → Prop} {w : World} {k : Nat} (h : Grew F F' w) (hk : ¬ F k) (hw : k < w.heap.size) : ¬ F' k := fun hf => (h k hf).elim hk (fun hge => by omega)
theorem Grew.ge {F F' : Nat → Prop} {w : World} {B : Nat} (h : Grew F F' w) (hF : ∀ k, F k → B ≤ k) (hw : B ≤ w.heap.size) : ∀ k, F' k → B ≤ k := fun k hk => (h k hk).elim (hF k) (fun hge => Nat.le_trans hw hge)
/-- as 'below' -/
theorem Turn.below {F : Nat → Prop} {w w' : World} {B : Nat} (h : Turn F w w') (hB : B ≤ w.heap.size) (hF : ∀ k, F k → B ≤ k) : Below B w w' :=
  ⟨h.os, h.tape, h.output, h.size, fun k hk => h.block k (Nat.lt_of_lt_of_le hk hB) (fun hf => by have := hF k hf; omega)⟩
theorem Turn.cell {F : Nat → Prop} {w w' : World} {p : Addr} (h : Turn F w w') (hp : p.block < w.heap.size) (hF : ¬ F p.block) : w'.cell? p = w.cell? p := World.cell?_of_block (a := p) (h.block p.block hp hF)
theorem Turn.set {F : Nat → Prop} {a W : World} (h : Turn F a W) {p : Addr} (hp : F p.block ∨ a.heap.size ≤ p.block) (v : Value) : Turn F a (W.setCell p v) :=
  ⟨h.os, h.tape, h.output, by simpa [World.setCell] using h.size, fun k hk hF => (Below.heap_setCell _ _ _ _ (fun e => hp.elim (fun hf => hF (by rw [e]; exact hf)) (fun hge => by omega))).trans (h.block k hk hF)⟩
theorem Turn.then_ {F : Nat → Prop} {a W W' : World} (h : Turn F a W) (hb : Below W.heap.size W W') : Turn F a W' :=
  ⟨hb.os.trans h.os, hb.tape.trans h.tape, hb.output.trans h.output, Nat.le_trans h.size hb.size, fun k hk hF => (hb.block k (Nat.lt_of_lt_of_le hk h.size)).trans (h.block k hk hF)⟩
theorem Turn.alloc {F : Nat → Prop} {a W : World} (h : Turn F a W) (o : Obj) : Turn F a (W.alloc o) := h.then_ ((Below.refl _ W).alloc (Nat.le_refl _) o)
theorem Turn.drew {F : Nat → Prop} {a W : World} (h : Turn F a W) : Turn F a W.drew := ⟨h.os, h.tape, h.output, h.size, h.block⟩
theorem RowAt.turn {F : Nat → Prop} {w w' : World} {m : Nat} {L : List Value} (h : RowAt w m L) (ht : Turn F w w') (hF : ¬ F m) : RowAt w' m L := fun i v e => (h i v e).block (ht.block m (h i v e).lt hF) ht.size
theorem RowAt.lt {w : World} {m : Nat} {v : Value} {L : List Value} (h : RowAt w m (v :: L)) : m < w.heap.size := (h 0 v rfl).lt
/-- what is told of blocks stays, if they do -/
def SameOn (F : Nat → Prop) (w w' : World) : Prop := w.heap.size ≤ w'.heap.size ∧ ∀ k, F k → w'.heap[k]? = w.heap[k]?
theorem SameOn.of_below {F : Nat → Prop} {w w' : World} (h : Below w.heap.size w w') (hF : ∀ k, F k → k < w.heap.size) : SameOn F w w' := ⟨h.size, fun k hk => h.block k (hF k hk)⟩
theorem SameOn.of_set {F : Nat → Prop} {w : World} {p : Addr} (hF : ¬ F p.block) (v : Value) : SameOn F w (w.setCell p v) :=
  ⟨by simp [World.setCell], fun k hk => Below.heap_setCell _ _ _ _ (fun e => hF (e ▸ hk))⟩
theorem SameOn.trans {F : Nat → Prop} {a b c : World} (h : SameOn F a b) (k : SameOn F b c) : SameOn F a c := ⟨Nat.le_trans h.1 k.1, fun i hi => (k.2 i hi).trans (h.2 i hi)⟩
end Go.Proofs.Ytchjljmcgjlkiaa
