/-
The code's own numbers, Usual.
-/
import Derived.Test.YtofodlaebhjneaaTncParL
namespace Go.Proofs.Ytofodlaebhjneaa
open Go.RowKit Go.Sort
theorem usual_ok : UsualOk := by
  intro w
  go_enter Try.func14, Try.ntmps14
  go_wp2
  exact bodyPost_ret (v := .agg #[.int .i64 2, .int .i64 63, .int .i64 1, .int .i64 1, .bool false]) (by simp [results, Try.results14, go_sem]) rfl ⟨rfl, (Below.refl _ w).alloc (Nat.le_refl _) _⟩
/-- where the four numbers of parameters in block n lie -/
def ptrs (n : Nat) : Value := .agg #[.pointer (some ⟨n, 0, none⟩), .pointer (some ⟨n, 1, none⟩), .pointer (some ⟨n, 2, none⟩), .pointer (some ⟨n, 3, none⟩)]
theorem numbers_any (n : Nat) (w : World) :
    Calls Try.prog 17 #[.pointer (some ⟨n, 0, none⟩)] w fun e w' => e = .returned (ptrs n) ∧ Below w.heap.size w w' := by
  go_enter Try.func17, Try.ntmps17
  go_wp2
  go_region
  go_wp2
  exact bodyPost_ret (v := ptrs n) (by simp [results, Try.results17, go_sem]; rfl) rfl ⟨rfl, ((Below.refl _ w).alloc (Nat.le_refl _) _).drew⟩
end Go.Proofs.Ytofodlaebhjneaa
