/-
Walk of the statement PathReads.
-/
import Derived.Test.YtplandmnmdkjmaaDoorPathGetP
import Derived.WalkKit
import Derived.Scope
import Derived.WalkMore
import Derived.Lib.LazyBuf
import Derived.BigRegion
import Derived.Lib.SmallJoins
import Derived.Lib.ItoaNum
import Derived.Lib.QuietBelow
import Derived.Lib.IndexBytes
import Derived.IntWalk
import Derived.OrdersHeld
import Derived.Deep.RegionHeld
import Derived.BigQuiet
import Derived.Deep.QuietTactic
namespace Go.Proofs.YtplandmnmdkjmaaDoor
open Go.RowKit Go.Sort
set_option maxRecDepth 20000
theorem getP_yes : ∀ (k : Nat) (l : List Ent) (s : List UInt8), (getP k l s).1 ≤ 11
  | 0, l, s => by unfold getP; split; · simp
                  · split <;> simp
  | k + 1, l, s => by
    unfold getP
    split
    · simp
    · split
      · split
        · split
          · simp
          · split <;> simp
        · exact getP_yes k _ _
      · simp
theorem getP_none : ∀ (k : Nat) (l : List Ent) (s : List UInt8), (getP k l s).1 ≠ 0 → (getP k l s).2 = []
  | 0, l, s, h => by unfold getP; split; · rfl
                     · split <;> rfl
  | k + 1, l, s, h => by
    unfold getP at h ⊢
    split
    · rfl
    · rename_i h7
      rw [if_neg h7] at h
      split
      · rename_i hg
        rw [if_pos hg] at h
        split
        · rename_i hla
          rw [if_pos hla] at h
          split
          · rfl
          · rename_i hl
            rw [if_neg hl] at h
            split
            · rename_i ho
              rw [if_pos ho] at h
              exact absurd rfl h
            · rfl
        · rename_i hla
          rw [if_neg hla] at h
          exact getP_none k _ _ h
      · rfl
end Go.Proofs.YtplandmnmdkjmaaDoor
