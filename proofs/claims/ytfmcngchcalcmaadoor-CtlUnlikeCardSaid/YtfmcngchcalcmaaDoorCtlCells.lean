/-
A control's four cells.
-/
import Derived.Test.YtfmcngchcalcmaaDoorCtlPlain
import Derived.Test.YtfmcngchcalcmaaDoorHeap
namespace Go.Proofs.YtfmcngchcalcmaaDoor
open Go.RowKit
structure C4 (W : World) (m : Nat) (v0 v1 v2 v3 : Value) : Prop where
  c0 : W.cell? ⟨m, 0, none⟩ = some v0
  c1 : W.cell? ⟨m, 1, none⟩ = some v1
  c2 : W.cell? ⟨m, 2, none⟩ = some v2
  c3 : W.cell? ⟨m, 3, none⟩ = some v3
  f0 : W.frozen? ⟨m, 0, none⟩ = false
  f1 : W.frozen? ⟨m, 1, none⟩ = false
  f2 : W.frozen? ⟨m, 2, none⟩ = false
  f3 : W.frozen? ⟨m, 3, none⟩ = false
  lt : m < W.heap.size
theorem C4.new (w : World) (m : Nat) (hm : m = w.heap.size) (v0 v1 v2 v3 : Value) (T : TypeId) : C4 (w.alloc (.cells #[v0, v1, v2, v3] T)) m v0 v1 v2 v3 := by
  subst hm
  exact ⟨World.cell?_alloc_at _ _ _ _ rfl, World.cell?_alloc_at _ _ _ _ rfl, World.cell?_alloc_at _ _ _ _ rfl, World.cell?_alloc_at _ _ _ _ rfl, World.frozen?_alloc_at _ _ _ _ rfl, World.frozen?_alloc_at _ _ _ _ rfl, World.frozen?_alloc_at _ _ _ _ rfl, World.frozen?_alloc_at _ _ _ _ rfl, by simp⟩
theorem C4.below {W W' : World} {m : Nat} {v0 v1 v2 v3 : Value} (h : C4 W m v0 v1 v2 v3) (hb : Below W.heap.size W W') : C4 W' m v0 v1 v2 v3 := by
  obtain ⟨c0, c1, c2, c3, f0, f1, f2, f3, hl⟩ := h
  exact ⟨(hb.cell (p := ⟨m, 0, none⟩) hl).trans c0, (hb.cell (p := ⟨m, 1, none⟩) hl).trans c1, (hb.cell (p := ⟨m, 2, none⟩) hl).trans c2, (hb.cell (p := ⟨m, 3, none⟩) hl).trans c3,
    (hb.frozen (p := ⟨m, 0, none⟩) hl).trans f0, (hb.frozen (p := ⟨m, 1, none⟩) hl).trans f1, (hb.frozen (p := ⟨m, 2, none⟩) hl).trans f2, (hb.frozen (p := ⟨m, 3, none⟩) hl).trans f3, Nat.lt_of_lt_of_le hl hb.size⟩
theorem C4.alloc {W : World} {m : Nat} {v0 v1 v2 v3 : Value} (h : C4 W m v0 v1 v2 v3) (x : Obj) : C4 (W.alloc x) m v0 v1 v2 v3 := h.below ((Below.refl _ W).alloc (Nat.le_refl _) _)
theorem C4.drew {W : World} {m : Nat} {v0 v1 v2 v3 : Value} (h : C4 W m v0 v1 v2 v3) : C4 W.drew m v0 v1 v2 v3 := ⟨h.c0, h.c1, h.c2, h.c3, h.f0, h.f1, h.f2, h.f3, h.lt⟩
theorem C4.drewN {W : World} {m : Nat} {v0 v1 v2 v3 : Value} (h : C4 W m v0 v1 v2 v3) (n : Nat) : C4 (W.drewN n) m v0 v1 v2 v3 := ⟨h.c0, h.c1, h.c2, h.c3, h.f0, h.f1, h.f2, h.f3, h.lt⟩
theorem C4.other {W : World} {m g : Nat} {v0 v1 v2 v3 : Value} (h : C4 W m v0 v1 v2 v3) (p : Nat) (v : Value) (hg : g ≠ m) : C4 (W.setCell ⟨g, p, none⟩ v) m v0 v1 v2 v3 := by
  obtain ⟨c0, c1, c2, c3, f0, f1, f2, f3, hl⟩ := h
  exact ⟨(set_block _ _ _ _ _ _ hg).trans c0, (set_block _ _ _ _ _ _ hg).trans c1, (set_block _ _ _ _ _ _ hg).trans c2, (set_block _ _ _ _ _ _ hg).trans c3,
    by rw [World.frozen?_setCell]; exact f0, by rw [World.frozen?_setCell]; exact f1, by rw [World.frozen?_setCell]; exact f2, by rw [World.frozen?_setCell]; exact f3, by simpa [World.setCell] using hl⟩
theorem below_drewC {B : Nat} {a w : World} (h : Below B a w) (n : Nat) : Below B a (w.drewN n) := ⟨h.os, h.tape, h.output, h.size, h.block⟩
/-- its third cell is written anew -/
theorem C4.put2 {W : World} {m : Nat} {v0 v1 v2 v3 : Value} (h : C4 W m v0 v1 v2 v3) (v : Value) : C4 (W.setCell ⟨m, 2, none⟩ v) m v0 v1 v v3 := by
  obtain ⟨c0, c1, c2, c3, f0, f1, f2, f3, hl⟩ := h
  exact ⟨(set_off _ _ _ _ _ (by omega)).trans c0, (set_off _ _ _ _ _ (by omega)).trans c1, set_here c2, (set_off _ _ _ _ _ (by omega)).trans c3,
    by rw [World.frozen?_setCell]; exact f0, by rw [World.frozen?_setCell]; exact f1, by rw [World.frozen?_setCell]; exact f2, by rw [World.frozen?_setCell]; exact f3, by simpa [World.setCell] using hl⟩
/-- four cells written anew -/
theorem stored4 {W : World} {m : Nat} {x0 x1 x2 x3 : Value} (u0 u1 u2 u3 : Value) (h : C4 W m x0 x1 x2 x3) :
    C4 ((((W.setCell ⟨m, 0, none⟩ u0).setCell ⟨m, 1, none⟩ u1).setCell ⟨m, 2, none⟩ u2).setCell ⟨m, 3, none⟩ u3) m u0 u1 u2 u3 := by
  obtain ⟨c0, c1, c2, c3, f0, f1, f2, f3, hl⟩ := h
  have e0 : (W.setCell ⟨m, 0, none⟩ u0).cell? ⟨m, 0, none⟩ = some u0 := set_here c0
  have e1 : ((W.setCell ⟨m, 0, none⟩ u0).setCell ⟨m, 1, none⟩ u1).cell? ⟨m, 1, none⟩ = some u1 := set_here ((set_off _ _ _ _ _ (by omega)).trans c1)
  have e2 : (((W.setCell ⟨m, 0, none⟩ u0).setCell ⟨m, 1, none⟩ u1).setCell ⟨m, 2, none⟩ u2).cell? ⟨m, 2, none⟩ = some u2 := set_here ((set_off _ _ _ _ _ (by omega)).trans ((set_off _ _ _ _ _ (by omega)).trans c2))
  refine ⟨?_, ?_, ?_, ?_, ?_, ?_, ?_, ?_, ?_⟩
  · exact (set_off _ _ _ _ _ (by omega)).trans ((set_off _ _ _ _ _ (by omega)).trans ((set_off _ _ _ _ _ (by omega)).trans e0))
  · exact (set_off _ _ _ _ _ (by omega)).trans ((set_off _ _ _ _ _ (by omega)).trans e1)
  · exact (set_off _ _ _ _ _ (by omega)).trans e2
  · exact set_here ((set_off _ _ _ _ _ (by omega)).trans ((set_off _ _ _ _ _ (by omega)).trans ((set_off _ _ _ _ _ (by omega)).trans c3)))
  · simp only [World.frozen?_setCell]; exact f0
  · simp only [World.frozen?_setCell]; exact f1
  · simp only [World.frozen?_setCell]; exact f2
  · simp only [World.frozen?_setCell]; exact f3
  · simpa [World.setCell] using hl
theorem set4_below {B m : Nat} {a W : World} (h : Below B a W) (hm : B ≤ m) (u0 u1 u2 u3 : Value) :
    Below B a ((((W.setCell ⟨m, 0, none⟩ u0).setCell ⟨m, 1, none⟩ u1).setCell ⟨m, 2, none⟩ u2).setCell ⟨m, 3, none⟩ u3) :=
  (((h.setCell (p := ⟨m, 0, none⟩) hm u0).setCell (p := ⟨m, 1, none⟩) hm u1).setCell (p := ⟨m, 2, none⟩) hm u2).setCell (p := ⟨m, 3, none⟩) hm u3
end Go.Proofs.YtfmcngchcalcmaaDoor
