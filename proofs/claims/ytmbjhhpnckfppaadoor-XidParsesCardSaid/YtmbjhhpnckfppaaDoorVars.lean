/-
What the listed variables of Go's library hold while a word is read, and that they hold it still behind whatever leaves old blocks alone.
-/
import Derived.Test.YtmbjhhpnckfppaaDoorMem
import Derived.Lib.SmallJoins
import Derived.Lib.ItoaNum
namespace Go.Proofs.YtmbjhhpnckfppaaDoor
open Go.RowKit
structure VarsOk (w : World) : Prop where
  len : ∃ m, w.cell? ⟨0, 0, none⟩ = some (.int .i64 m)
  syn : ∃ t p, w.var? Tryd.prog "strconv.ErrSyntax" = some #[.iface t p]
  rng : ∃ t p, w.var? Tryd.prog "strconv.ErrRange" = some #[.iface t p]
  pow : Lib.TabIs Tryd.prog w "internal/strconv.uint64pow10" .u64 Lib.pow10Tab
theorem g_syn : Tryd.prog.globalNamed "strconv.ErrSyntax" = some 1 := by kernel_rfl
theorem g_rng : Tryd.prog.globalNamed "strconv.ErrRange" = some 2 := by kernel_rfl
theorem g_pow : Tryd.prog.globalNamed "internal/strconv.uint64pow10" = some 3 := by kernel_rfl
theorem VarsOk.below {w W : World} (h : VarsOk w) (hb : Below w.heap.size w W) : VarsOk W := by
  obtain ⟨⟨m, a⟩, ⟨t, p, b⟩, ⟨t', p', c⟩, d⟩ := h
  exact ⟨⟨m, (hb.cell (p := ⟨0, 0, none⟩) (World.block_lt_of_cell? w ⟨0, 0, none⟩ a)).trans a⟩, ⟨t, p, Joins.var_stays g_syn b hb (Nat.le_refl _)⟩, ⟨t', p', Joins.var_stays g_rng c hb (Nat.le_refl _)⟩, Joins.tab_stays g_pow d hb (Nat.le_refl _)⟩
end Go.Proofs.YtmbjhhpnckfppaaDoor
