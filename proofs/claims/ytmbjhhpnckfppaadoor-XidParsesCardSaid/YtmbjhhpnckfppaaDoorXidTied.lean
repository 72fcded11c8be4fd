/-
What the listed variables hold, out of the rows' conditions and the world's shape; a world that meets them.
-/
import Derived.Test.YtmbjhhpnckfppaaDoorVarsTied
namespace Go.Proofs.YtmbjhhpnckfppaaDoor
open Go.RowKit
set_option maxRecDepth 100000
theorem vars_xid {W : World} (hs : W.ShapedOpen Tryd.prog) (h : laidMetH Tryd.prog Rows.xidTextsRow.laid W) : VarsOk W := by
  rw [MakeChecks.laidMetH_plain _ _ _ (by kernel_rfl)] at h
  exact ⟨len_shaped hs, syn_laid h.tail.tail.tail.tail, rng_laid h.tail.tail.tail, pow_laid h.tail.tail⟩
theorem met_xid (os : Os) (args : Array Value) : laidMetH Tryd.prog Rows.xidTextsRow.laid ((World.laidAll Tryd.prog os Rows.xidTextsRow.laid).forCall (fun _ _ => 0) ⟨#[], args, []⟩).memory := by
  rw [MakeChecks.laidMetH_plain _ _ _ (by kernel_rfl)]
  exact laidMet_laidAll _ (by kernel_rfl) (by kernel_rfl)
end Go.Proofs.YtmbjhhpnckfppaaDoor
