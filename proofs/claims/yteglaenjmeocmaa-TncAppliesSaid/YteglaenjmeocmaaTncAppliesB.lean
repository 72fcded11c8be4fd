/-
Of the statement TncApplies: what its second region and the stores behind its first one need.
-/
import Derived.Test.YteglaenjmeocmaaTncAppliesA
import Derived.Deep.RegionWith
import Derived.Lib.QuietBelow
import Derived.DeepKeys
namespace Go.Proofs.Yteglaenjmeocmaa
open Go.RowKit Go.Sort
/-- four numbers are themselves: what == on a [4]int answers when both sides are the same -/
theorem run_eq_four (a b c d : Int) (w : World) : (Op.equalIn 9999 30 (.agg #[.int .i64 a, .int .i64 b, .int .i64 c, .int .i64 d]) (.agg #[.int .i64 a, .int .i64 b, .int .i64 c, .int .i64 d])).run Try.prog w = .ok true w := by
  have p0 : ∀ (x y z u : Value) (w : World), (part 3 #[x, y, z, u] 0).run Try.prog w = .ok x w := fun x y z u w => run_part_plain w (by kernel_rfl) rfl
  have p1 : ∀ (x y z u : Value) (w : World), (part 3 #[x, y, z, u] 1).run Try.prog w = .ok y w := fun x y z u w => run_part_plain w (by kernel_rfl) rfl
  have p2 : ∀ (x y z u : Value) (w : World), (part 3 #[x, y, z, u] 2).run Try.prog w = .ok z w := fun x y z u w => run_part_plain w (by kernel_rfl) rfl
  have p3 : ∀ (x y z u : Value) (w : World), (part 3 #[x, y, z, u] 3).run Try.prog w = .ok u w := fun x y z u w => run_part_plain w (by kernel_rfl) rfl
  have hc : Try.prog.cellsOf 3 = 1 := by kernel_rfl
  obtain ⟨i0, hi⟩ : ∃ i, Try.prog.info? 3 = some i := ⟨_, rfl⟩
  rw [run_equalIn_array w 9998 _ _ Try.underlying30 hi, hc]
  have e : List.range 4 = [0, 1, 2, 3] := rfl
  simp only [e, Op.eqItems, Sem.run_bind, Nat.mul_one, p0, p1, p2, p3, Result.andThen_ok, run_equalIn_int w 9997 3 .i64 .i64 _ _ Try.underlying3, beq_self_eq_true, Bool.not_true, Bool.false_eq_true, if_false]
  rfl
/-- a block of five cells lies there -/
def Laid (w : World) (m : Nat) : Prop := (∃ x, w.cell? ⟨m, 0, none⟩ = some x) ∧ (∃ x, w.cell? ⟨m, 1, none⟩ = some x) ∧ (∃ x, w.cell? ⟨m, 2, none⟩ = some x) ∧ (∃ x, w.cell? ⟨m, 3, none⟩ = some x) ∧ (∃ x, w.cell? ⟨m, 4, none⟩ = some x)
/-- a block that was laid just now -/
theorem laid_new (w : World) (x0 x1 x2 x3 x4 : Value) (T : TypeId) : Laid (w.alloc (.cells #[x0, x1, x2, x3, x4] T)) w.heap.size := by
  refine ⟨⟨x0, ?_⟩, ⟨x1, ?_⟩, ⟨x2, ?_⟩, ⟨x3, ?_⟩, ⟨x4, ?_⟩⟩ <;> (rw [World.cell?_alloc_new]; rfl)
/-- a laid block stays laid -/
theorem Laid.below {w w' : World} {m : Nat} (h : Laid w m) (hb : Below w.heap.size w w') : Laid w' m := by
  obtain ⟨⟨x0, h0⟩, ⟨x1, h1⟩, ⟨x2, h2⟩, ⟨x3, h3⟩, ⟨x4, h4⟩⟩ := h
  have hm : m < w.heap.size := World.block_lt_of_cell? w ⟨m, 0, none⟩ h0
  exact ⟨⟨x0, (hb.cell (p := ⟨m, 0, none⟩) hm).trans h0⟩, ⟨x1, (hb.cell (p := ⟨m, 1, none⟩) hm).trans h1⟩, ⟨x2, (hb.cell (p := ⟨m, 2, none⟩) hm).trans h2⟩, ⟨x3, (hb.cell (p := ⟨m, 3, none⟩) hm).trans h3⟩, ⟨x4, (hb.cell (p := ⟨m, 4, none⟩) hm).trans h4⟩⟩
/-- from below one size on, once more -/
theorem below_next {W X w' : World} (h : Below W.heap.size W X) (hb : Below X.heap.size X w') : Below W.heap.size W w' := h.trans (hb.mono h.size)
/-- the five stores of the answer into its block -/
theorem close6 {W X : World} {m : Nat} (q : Par) (hX : Below W.heap.size W X) (hm : W.heap.size ≤ m) (hL : Laid X m) :
    ParAt (((((X.setCell ⟨m, 0, none⟩ (.int .i64 q.a)).setCell ⟨m, 1, none⟩ (.int .i64 q.b)).setCell ⟨m, 2, none⟩ (.int .i64 q.c)).setCell ⟨m, 3, none⟩ (.int .i64 q.d)).setCell ⟨m, 4, none⟩ (.bool q.f)) m q ∧
    Below W.heap.size W (((((X.setCell ⟨m, 0, none⟩ (.int .i64 q.a)).setCell ⟨m, 1, none⟩ (.int .i64 q.b)).setCell ⟨m, 2, none⟩ (.int .i64 q.c)).setCell ⟨m, 3, none⟩ (.int .i64 q.d)).setCell ⟨m, 4, none⟩ (.bool q.f)) := by
  obtain ⟨⟨x0, h0⟩, ⟨x1, h1⟩, ⟨x2, h2⟩, ⟨x3, h3⟩, ⟨x4, h4⟩⟩ := hL
  exact ⟨stored5 _ _ _ _ _ h0 h1 h2 h3 h4, set5_below hX hm _ _ _ _ _⟩
end Go.Proofs.Yteglaenjmeocmaa
