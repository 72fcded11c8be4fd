/-
How timers and names lie; == of names.
-/
import Derived.Test.YtchhaolgmdhnmaaClkPure
import Derived.Test.YtchhaolgmdhnmaaInPlace
namespace Go.Proofs.Ytchhaolgmdhnmaa
open Go.RowKit
set_option maxRecDepth 20000
/-- timers -/
def encT : Enc Tm := ⟨3, by omega, fun t => [.int .i64 t.k, .int .i64 t.n, .int .i64 t.l], fun _ => rfl, fun _ u hu => by
  simp only [List.mem_cons, List.not_mem_nil, or_false] at hu
  rcases hu with rfl | rfl | rfl <;> rfl⟩
/-- names -/
def encN : Enc Nm := ⟨2, by omega, fun t => [.int .i64 t.k, .int .i64 t.n], fun _ => rfl, fun _ u hu => by
  simp only [List.mem_cons, List.not_mem_nil, or_false] at hu
  rcases hu with rfl | rfl <;> rfl⟩
/-- == of names -/
theorem run_eq_nm (k n k' n' : Int) (w : World) (E : Bool) (h : E = eqN ⟨k, n⟩ ⟨k', n'⟩) :
    (Op.equalIn 10000 31 (.agg #[.int .i64 k, .int .i64 n]) (.agg #[.int .i64 k', .int .i64 n'])).run Try.prog w = .ok E w := by
  have e1 : (k == k') = decide (k = k') := rfl
  have e2 : (n == n') = decide (n = n') := rfl
  unfold eqN at h
  by_cases h1 : k = k'
  · by_cases h2 : n = n'
    · rw [decide_eq_true ⟨h1, h2⟩] at h
      rw [decide_eq_true h1] at e1
      rw [decide_eq_true h2] at e2
      subst h
      go_simp
    · rw [decide_eq_false (fun x => h2 x.2)] at h
      rw [decide_eq_true h1] at e1
      rw [decide_eq_false h2] at e2
      subst h
      go_simp
  · rw [decide_eq_false (fun x => h1 x.1)] at h
    rw [decide_eq_false h1] at e1
    subst h
    go_simp
end Go.Proofs.Ytchhaolgmdhnmaa
