/-
Texts: one that is not empty; the pieces of one that begins with two bytes.
-/
import Derived.Test.YtchjljmcgjlkiaaMem
namespace Go.Proofs.Ytchjljmcgjlkiaa
open Go.RowKit
theorem text_some (b : ByteArray) (h : 1 ≤ b.size) : b.toList.isEmpty = false := by
  rw [ByteArray.toList_eq]
  cases hl : b.data.toList with
  | nil =>
    have : b.data.toList.length = b.size := by simp
    rw [hl] at this
    simp at this
    omega
  | cons x l => rfl
/-- a text that begins with two bytes, so many more, and what is behind them: what its pieces are -/
theorem text_parts (x y : UInt8) (F R : List UInt8) (S : ByteArray) (hS : S = ⟨(x :: y :: (F ++ R)).toArray⟩) :
    S.size = 2 + F.length + R.length ∧ (∀ W, (Instr.index 9 (.string S) (.int .i64 0)).run Try.prog W = .ok (.int .u8 ((x.toNat : Nat) : Int)) W) ∧ (∀ W, (Instr.index 9 (.string S) (.int .i64 1)).run Try.prog W = .ok (.int .u8 ((y.toNat : Nat) : Int)) W) ∧
    (∀ W, (Instr.slice 9 (.string S) (some (.int .i64 2)) (some (.int .i64 (2 + (F.length : Int)))) none).run Try.prog W = .ok (.string ⟨F.toArray⟩) W) ∧ (∀ W, (Instr.slice 9 (.string S) (some (.int .i64 (2 + (F.length : Int)))) none none).run Try.prog W = .ok (.string ⟨R.toArray⟩) W) := by
  have hl : S.data.toList = x :: y :: (F ++ R) := by rw [hS]
  have hsz : S.size = 2 + F.length + R.length := by
    rw [hS]
    show (List.toArray _).size = _
    simp
    omega
  refine ⟨hsz, fun W => ?_, fun W => ?_, fun W => ?_, fun W => ?_⟩
  · subst hS
    have k := run_index_string (P := Try.prog) (w := W) 9 ⟨(x :: y :: (F ++ R)).toArray⟩ .i64 0 Try.underlying9
    rw [dif_pos ⟨by omega, by omega⟩] at k
    exact k
  · subst hS
    have k := run_index_string (P := Try.prog) (w := W) 9 ⟨(x :: y :: (F ++ R)).toArray⟩ .i64 1 Try.underlying9
    rw [dif_pos ⟨by omega, by omega⟩] at k
    exact k
  · have k := run_slice_string (P := Try.prog) W 9 S .i64 .i64 2 (2 + (F.length : Int)) Try.underlying9 (by omega) (by omega) (by omega)
    rw [k]
    congr 2
    apply bytes_ext'
    rw [show (2 : Int).toNat = 2 from rfl, show (2 + (F.length : Int)).toNat = 2 + F.length by omega]
    simp only [ByteArray.data_extract, Array.toList_extract, List.extract_eq_take_drop, hl]
    rw [show 2 + F.length - 2 = F.length by omega]
    simp
  · have k := run_slice_string_l (P := Try.prog) (w := W) 9 S Try.underlying9 .i64 (2 + (F.length : Int)) (by omega) (by omega)
    rw [k]
    congr 2
    apply bytes_ext'
    rw [Lib.extract_to_end, hl, show (2 + (F.length : Int)).toNat = F.length + 1 + 1 by omega, List.drop_succ_cons, List.drop_succ_cons, List.drop_left' rfl]
end Go.Proofs.Ytchjljmcgjlkiaa
