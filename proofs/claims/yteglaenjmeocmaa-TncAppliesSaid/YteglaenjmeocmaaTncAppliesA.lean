/-
Of the statement TncApplies: what lies where the document's answer is asked.
-/
import Derived.Test.YteglaenjmeocmaaTncLaw
import Derived.Deep.RegionHeld3
namespace Go.Proofs.Yteglaenjmeocmaa
open Go.RowKit Go.Sort
/-- what lies where the document's answer is asked -/
theorem cells_6 {w w1 w2 : World} {p q : Par} {port cmd : Int} {s : ByteArray} {T1 T2 T3 : TypeId}
    (hb1 : Below ((w.alloc (.cells #[.int .i64 p.a, .int .i64 p.b, .int .i64 p.c, .int .i64 p.d, .bool p.f] T1)).alloc (.cells #[.int .i64 port, .int .i64 cmd, .string s] T2)).heap.size ((w.alloc (.cells #[.int .i64 p.a, .int .i64 p.b, .int .i64 p.c, .int .i64 p.d, .bool p.f] T1)).alloc (.cells #[.int .i64 port, .int .i64 cmd, .string s] T2)) w1) (hb2 : Below w1.heap.size w1 w2) :
    Below w.heap.size w (w2.alloc (.cells #[.int .i64 q.a, .int .i64 q.b, .int .i64 q.c, .int .i64 q.d, .bool q.f] T3)) ∧ ParAt (w2.alloc (.cells #[.int .i64 q.a, .int .i64 q.b, .int .i64 q.c, .int .i64 q.d, .bool q.f] T3)) w.heap.size p ∧
    ((w2.alloc (.cells #[.int .i64 q.a, .int .i64 q.b, .int .i64 q.c, .int .i64 q.d, .bool q.f] T3)).cell? ⟨w.heap.size + 1, 0, none⟩ = some (.int .i64 port) ∧ (w2.alloc (.cells #[.int .i64 q.a, .int .i64 q.b, .int .i64 q.c, .int .i64 q.d, .bool q.f] T3)).cell? ⟨w.heap.size + 1, 1, none⟩ = some (.int .i64 cmd) ∧ (w2.alloc (.cells #[.int .i64 q.a, .int .i64 q.b, .int .i64 q.c, .int .i64 q.d, .bool q.f] T3)).cell? ⟨w.heap.size + 1, 2, none⟩ = some (.string s)) ∧
    ParAt (w2.alloc (.cells #[.int .i64 q.a, .int .i64 q.b, .int .i64 q.c, .int .i64 q.d, .bool q.f] T3)) w2.heap.size q ∧ w.heap.size + 1 < (w2.alloc (.cells #[.int .i64 q.a, .int .i64 q.b, .int .i64 q.c, .int .i64 q.d, .bool q.f] T3)).heap.size ∧ w2.heap.size < (w2.alloc (.cells #[.int .i64 q.a, .int .i64 q.b, .int .i64 q.c, .int .i64 q.d, .bool q.f] T3)).heap.size := by
  have hs1 := hb1.size
  have hs2 := hb2.size
  simp only [World.alloc, Array.size_push] at hs1
  have hb := (hb1.trans (hb2.mono hb1.size)).alloc (Nat.le_trans hb1.size hs2) (.cells #[.int .i64 q.a, .int .i64 q.b, .int .i64 q.c, .int .i64 q.d, .bool q.f] T3)
  have hp : ParAt ((w.alloc (.cells #[.int .i64 p.a, .int .i64 p.b, .int .i64 p.c, .int .i64 p.d, .bool p.f] T1)).alloc (.cells #[.int .i64 port, .int .i64 cmd, .string s] T2)) w.heap.size p := ParAt.below (par_cells p w T1) (by simp) ((Below.refl _ _).alloc (Nat.le_refl _) _)
  have hx : ∀ i, ((w.alloc (.cells #[.int .i64 p.a, .int .i64 p.b, .int .i64 p.c, .int .i64 p.d, .bool p.f] T1)).alloc (.cells #[.int .i64 port, .int .i64 cmd, .string s] T2)).cell? ⟨w.heap.size + 1, i, none⟩ = (#[.int .i64 port, .int .i64 cmd, .string s] : Array Value)[i]? := fun i => World.cell?_alloc_at _ _ _ _ (by simp)
  refine ⟨(((Below.refl _ w).alloc (Nat.le_refl _) _).alloc (by simp) _).trans (hb.mono (by simp; omega)), hp.below (by simp; omega) hb, ⟨?_, ?_, ?_⟩, par_cells q w2 T3, by simp; omega, by simp⟩
  · exact (hb.cell (p := ⟨w.heap.size + 1, 0, none⟩) (by simp)).trans (hx 0)
  · exact (hb.cell (p := ⟨w.heap.size + 1, 1, none⟩) (by simp)).trans (hx 1)
  · exact (hb.cell (p := ⟨w.heap.size + 1, 2, none⟩) (by simp)).trans (hx 2)
/-- thirteen cells that stay, and the blocks that they lie in -/
def Stay (w : World) (n nq : Nat) (p q : Par) (port cmd : Int) (s : ByteArray) : Prop :=
  (ParAt w n p ∧ (w.cell? ⟨n + 1, 0, none⟩ = some (.int .i64 port) ∧ w.cell? ⟨n + 1, 1, none⟩ = some (.int .i64 cmd) ∧ w.cell? ⟨n + 1, 2, none⟩ = some (.string s)) ∧ ParAt w nq q) ∧ n + 1 < w.heap.size ∧ nq < w.heap.size
theorem Stay.below {w w' : World} {n nq : Nat} {p q : Par} {port cmd : Int} {s : ByteArray} (h : Stay w n nq p q port cmd s) (hb : Below w.heap.size w w') : Stay w' n nq p q port cmd s := by
  obtain ⟨⟨h1, ⟨f0, f1, f2⟩, h2⟩, l1, l2⟩ := h
  exact ⟨⟨h1.below (by omega) hb, ⟨(hb.cell (p := ⟨n + 1, 0, none⟩) l1).trans f0, (hb.cell (p := ⟨n + 1, 1, none⟩) l1).trans f1, (hb.cell (p := ⟨n + 1, 2, none⟩) l1).trans f2⟩, h2.below l2 hb⟩, Nat.lt_of_lt_of_le l1 hb.size, Nat.lt_of_lt_of_le l2 hb.size⟩
theorem Stay.alloc {w : World} {n nq : Nat} {p q : Par} {port cmd : Int} {s : ByteArray} (h : Stay w n nq p q port cmd s) (o : Obj) : Stay (w.alloc o) n nq p q port cmd s := h.below ((Below.refl _ w).alloc (Nat.le_refl _) o)
theorem Stay.cells {w : World} {n nq : Nat} {p q : Par} {port cmd : Int} {s : ByteArray} (h : Stay w n nq p q port cmd s) : ((w.cell? ⟨n, 0, none⟩ = some (.int .i64 p.a) ∧ w.cell? ⟨n, 1, none⟩ = some (.int .i64 p.b) ∧ w.cell? ⟨n, 2, none⟩ = some (.int .i64 p.c) ∧ w.cell? ⟨n, 3, none⟩ = some (.int .i64 p.d) ∧ w.cell? ⟨n, 4, none⟩ = some (.bool p.f)) ∧
    (w.cell? ⟨n + 1, 0, none⟩ = some (.int .i64 port) ∧ w.cell? ⟨n + 1, 1, none⟩ = some (.int .i64 cmd) ∧ w.cell? ⟨n + 1, 2, none⟩ = some (.string s)) ∧
    (w.cell? ⟨nq, 0, none⟩ = some (.int .i64 q.a) ∧ w.cell? ⟨nq, 1, none⟩ = some (.int .i64 q.b) ∧ w.cell? ⟨nq, 2, none⟩ = some (.int .i64 q.c) ∧ w.cell? ⟨nq, 3, none⟩ = some (.int .i64 q.d) ∧ w.cell? ⟨nq, 4, none⟩ = some (.bool q.f))) ∧ n < w.heap.size ∧ n + 1 < w.heap.size ∧ nq < w.heap.size :=
  ⟨h.1, by have := h.2.1; omega, h.2.1, h.2.2⟩
end Go.Proofs.Yteglaenjmeocmaa
