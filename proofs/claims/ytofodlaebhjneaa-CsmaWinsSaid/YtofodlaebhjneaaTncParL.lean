/-
What the code's own Usual, Right and Wins are to answer.
-/
import Derived.Test.YtofodlaebhjneaaTncPar
import Derived.Lib.QuietBelow
import Derived.IntWalk
import Derived.BigQuiet
import Derived.Deep.QuietTactic
namespace Go.Proofs.Ytofodlaebhjneaa
open Go.RowKit Go.Sort
/-- a draw wins -/
def winD (p : Par) (n : Int) : Bool := p.ok && decide (n % 256 ≤ p.b)
def usualP : Par := ⟨2, 63, 1, 1, false⟩
def UsualOk : Prop := ∀ w, Calls Try.prog 14 #[] w fun e w' => e = .returned usualP.v ∧ Below w.heap.size w w'
def RightOk : Prop := ∀ p w, Calls Try.prog 15 #[Par.v p] w fun e w' => e = .returned (.bool p.ok) ∧ Below w.heap.size w w'
def WinsOk : Prop := ∀ p n w, Calls Try.prog 16 #[Par.v p, .int .i64 n] w fun e w' => e = .returned (.bool (winD p n)) ∧ Below w.heap.size w w'
theorem par_cells (p : Par) (w : World) (T : TypeId) : (w.alloc (.cells #[.int .i64 p.a, .int .i64 p.b, .int .i64 p.c, .int .i64 p.d, .bool p.f] T)).cell? ⟨w.heap.size, 0, none⟩ = some (.int .i64 p.a) ∧ (w.alloc (.cells #[.int .i64 p.a, .int .i64 p.b, .int .i64 p.c, .int .i64 p.d, .bool p.f] T)).cell? ⟨w.heap.size, 1, none⟩ = some (.int .i64 p.b) ∧
    (w.alloc (.cells #[.int .i64 p.a, .int .i64 p.b, .int .i64 p.c, .int .i64 p.d, .bool p.f] T)).cell? ⟨w.heap.size, 2, none⟩ = some (.int .i64 p.c) ∧ (w.alloc (.cells #[.int .i64 p.a, .int .i64 p.b, .int .i64 p.c, .int .i64 p.d, .bool p.f] T)).cell? ⟨w.heap.size, 3, none⟩ = some (.int .i64 p.d) ∧
    (w.alloc (.cells #[.int .i64 p.a, .int .i64 p.b, .int .i64 p.c, .int .i64 p.d, .bool p.f] T)).cell? ⟨w.heap.size, 4, none⟩ = some (.bool p.f) := by
  refine ⟨?_, ?_, ?_, ?_, ?_⟩ <;> (rw [World.cell?_alloc_new]; rfl)
/-- the five cells of parameters -/
def ParAt (w : World) (n : Nat) (p : Par) : Prop := w.cell? ⟨n, 0, none⟩ = some (.int .i64 p.a) ∧ w.cell? ⟨n, 1, none⟩ = some (.int .i64 p.b) ∧ w.cell? ⟨n, 2, none⟩ = some (.int .i64 p.c) ∧ w.cell? ⟨n, 3, none⟩ = some (.int .i64 p.d) ∧ w.cell? ⟨n, 4, none⟩ = some (.bool p.f)
theorem ParAt.below {w w' : World} {n B : Nat} {p : Par} (h : ParAt w n p) (hn : n < B) (hb : Below B w w') : ParAt w' n p := by
  obtain ⟨a, b, c, d, e⟩ := h
  exact ⟨(hb.cell (p := ⟨n, 0, none⟩) hn).trans a, (hb.cell (p := ⟨n, 1, none⟩) hn).trans b, (hb.cell (p := ⟨n, 2, none⟩) hn).trans c, (hb.cell (p := ⟨n, 3, none⟩) hn).trans d, (hb.cell (p := ⟨n, 4, none⟩) hn).trans e⟩
theorem and_255 (n : Int) : bits BinOp.and IntKind.i64 n 255 = n % 256 := by
  have e : (BitVec.ofInt 64 255).toNat = 2 ^ 8 - 1 := by decide
  have h : bits BinOp.and IntKind.i64 n 255 = IntKind.i64.wrap (((BitVec.ofInt 64 n).toNat &&& (2 ^ 8 - 1) : Nat) : Int) := by
    rw [← e, ← BitVec.toNat_and]; rfl
  rw [h, Nat.and_two_pow_sub_one_eq_mod, BitVec.toNat_ofInt, IntKind.wrap_i64]
  omega
end Go.Proofs.Ytofodlaebhjneaa
