/-
How the landed box lies: a slice of messages, each a slice of pieces, each in a block of its own.
-/
import Derived.Test.YtchjljmcgjlkiaaBufLaw
import Derived.Test.YtchjljmcgjlkiaaBufCDel
namespace Go.Proofs.Ytchjljmcgjlkiaa
open Go.RowKit
set_option maxRecDepth 20000
abbrev OwnP19 (w : World) (B : Nat) (v : Value) (L : List Pc) : Prop := OwnL encP 36 w B v L
abbrev OwnM19 (w : World) (B : Nat) (v : Value) (Z : List Ms) : Prop := OwnL encM 49 w B v Z
abbrev footB (q : Nat) (v : Value) (Z : List Ms) (k : Nat) : Prop := k = q ∨ v.ownBlock = some k ∨ ∃ m ∈ Z, m.g = k
/-- laid open -/
structure BoAt (w : World) (q : Nat) (n1 cnt : Int) (v : Value) (Z : List Ms) : Prop where
  row : RowAt w q [.int .i64 n1, v, .int .i64 cnt]
  own : OwnM19 w 0 v Z
  each : ∀ m ∈ Z, OwnP19 w 0 m.v m.ps
  apart : (Z.map Ms.g).Nodup
  nq : v.ownBlock ≠ some q
  eq_ : ∀ m ∈ Z, m.g ≠ q
  nv : ∀ m ∈ Z, v.ownBlock ≠ some m.g
/-- closed -/
def BoL : BoP := fun w q n1 b F => ∃ v Z, BoAt w q n1 b.cnt v Z ∧ Z.map Ms.ps = b.M ∧ F = footB q v Z
section
variable {w w' : World} {q : Nat} {n1 cnt : Int} {v : Value} {Z : List Ms}
theorem BoAt.mem (h : BoAt w q n1 cnt v Z) : ∀ k, footB q v Z k → k < w.heap.size := by
  rintro k (rfl | e | ⟨m, hm, rfl⟩)
  · exact h.row.lt
  · exact (h.own.ge e).2
  · exact ((h.each m hm).ge rfl).2
theorem BoAt.stay (h : BoAt w q n1 cnt v Z) (hs : SameOn (footB q v Z) w w') : BoAt w' q n1 cnt v Z :=
  ⟨h.row.block (hs.2 q (Or.inl rfl)) hs.1, h.own.same fun g e => hs.2 g (Or.inr (Or.inl e)), fun m hm => (h.each m hm).same fun g e => hs.2 g (Or.inr (Or.inr ⟨m, hm, by cases e; rfl⟩)), h.apart, h.nq, h.eq_, h.nv⟩
theorem BoAt.below (h : BoAt w q n1 cnt v Z) (hb : Below w.heap.size w w') : BoAt w' q n1 cnt v Z := h.stay (SameOn.of_below hb h.mem)
theorem BoAt.lens {b : Bx} (hM : Z.map Ms.ps = b.M) : Z.length = b.M.length := by rw [← hM, List.length_map]
/-- the messages' slice anew, and what they are -/
theorem BoAt.put (h : BoAt w q n1 cnt v Z) (hs : ∀ m ∈ Z, w'.heap[m.g]? = w.heap[m.g]?) (hr : w'.heap[q]? = w.heap[q]?) (hz : w.heap.size ≤ w'.heap.size) {v' : Value} {Z' : List Ms} (ho : OwnM19 w' 0 v' Z') (he : ∀ m ∈ Z', m ∈ Z ∨ (OwnP19 w' 0 m.v m.ps ∧ m.g ≠ q)) (ha : (Z'.map Ms.g).Nodup) (hq : v'.ownBlock ≠ some q) :
    BoAt (w'.setCell ⟨q, 1, none⟩ v') q n1 cnt v' Z' := by
  have hone : ∀ m ∈ Z', OwnP19 w' 0 m.v m.ps ∧ m.g ≠ q := fun m hm => by
    rcases he m hm with h1 | h1
    · exact ⟨(h.each m h1).same fun g e => by cases e; exact hs m h1, h.eq_ m h1⟩
    · exact h1
  refine ⟨(h.row.block hr hz).put 1 v' _ rfl, ho.same fun g e => Below.heap_setCell _ _ _ _ (fun e2 => hq (by rw [e, e2])), fun m hm => (hone m hm).1.same fun g e => Below.heap_setCell _ _ _ _ (by cases e; exact (hone m hm).2), ha, hq, fun m hm => (hone m hm).2, fun m hm e => ?_⟩
  exact OwnL.apart ho (hone m hm).1 (by decide) e rfl
end
end Go.Proofs.Ytchjljmcgjlkiaa
