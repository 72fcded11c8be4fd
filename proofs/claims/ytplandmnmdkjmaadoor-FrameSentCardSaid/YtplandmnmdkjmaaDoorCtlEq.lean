/-
Walks of the statements CtlUnlike and CtlModes.
-/
import Derived.Test.YtplandmnmdkjmaaDoorProg
import Derived.BigRegion
import Derived.IntWalk
import Derived.WalkKit
import Derived.WalkSpells
import Derived.WalkLawsBesides
import Derived.Laws.BitsAllLaws
import Derived.Laws.ShiftsVarLaws
import Derived.Lib.Hide
import Derived.BigQuiet
import Derived.Deep.QuietTactic
import Derived.Lib.LaidTab
namespace Go.Proofs.YtplandmnmdkjmaaDoor
open Go.RowKit
set_option maxRecDepth 20000
/-- == on controls -/
theorem run_eq_ctl (k nr ns k' nr' ns' : Int) (pf pf' : Bool) (w : World) (E : Bool) (h : E = decide (k = k' ∧ nr = nr' ∧ ns = ns' ∧ pf = pf')) :
    (Op.equalIn 10000 28 (.agg #[.int .i64 k, .int .i64 nr, .int .i64 ns, .bool pf]) (.agg #[.int .i64 k', .int .i64 nr', .int .i64 ns', .bool pf'])).run Tryd.prog w = .ok E w := by
  have e1 : (k == k') = decide (k = k') := rfl
  have e2 : (nr == nr') = decide (nr = nr') := rfl
  have e3 : (ns == ns') = decide (ns = ns') := rfl
  have e4 : (pf == pf') = decide (pf = pf') := by cases pf <;> cases pf' <;> rfl
  by_cases h1 : k = k'
  · by_cases h2 : nr = nr'
    · by_cases h3 : ns = ns'
      · by_cases h4 : pf = pf'
        · rw [decide_eq_true ⟨h1, h2, h3, h4⟩] at h
          rw [decide_eq_true h1] at e1
          rw [decide_eq_true h2] at e2
          rw [decide_eq_true h3] at e3
          rw [decide_eq_true h4] at e4
          subst h
          go_simp
        · rw [decide_eq_false (fun x => h4 x.2.2.2)] at h
          rw [decide_eq_true h1] at e1
          rw [decide_eq_true h2] at e2
          rw [decide_eq_true h3] at e3
          rw [decide_eq_false h4] at e4
          subst h
          go_simp
      · rw [decide_eq_false (fun x => h3 x.2.2.1)] at h
        rw [decide_eq_true h1] at e1
        rw [decide_eq_true h2] at e2
        rw [decide_eq_false h3] at e3
        subst h
        go_simp
    · rw [decide_eq_false (fun x => h2 x.2.1)] at h
      rw [decide_eq_true h1] at e1
      rw [decide_eq_false h2] at e2
      subst h
      go_simp
  · rw [decide_eq_false (fun x => h1 x.1)] at h
    rw [decide_eq_false h1] at e1
    subst h
    go_simp
theorem seq_bytes (a b : List UInt8) (E : Bool) (h : E = decide (a = b)) : ((⟨a.toArray⟩ : ByteArray).toList == (⟨b.toArray⟩ : ByteArray).toList) = E := by
  subst h
  rw [ByteArray.toList_eq, ByteArray.toList_eq, Bool.eq_iff_iff, beq_iff_eq, decide_eq_true_eq]
end Go.Proofs.YtplandmnmdkjmaaDoor
