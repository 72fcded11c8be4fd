/-
The document's taker's window as it lies; its Held.
-/
import Derived.Test.YtmokibjeanbabaaSeqRFar
namespace Go.Proofs.Ytmokibjeanbabaa
open Go.RowKit
set_option maxRecDepth 20000
/-- its cells: three numbers, 128 marks -/
def tiV (m k : Int) (s : Ti) : List Value := .int .i64 m :: .int .i64 k :: .int .i64 s.vr :: s.came.map .bool
/-- what holds of it -/
structure TiOk (m k : Int) (s : Ti) : Prop where
  md : m = 8 ∨ m = 128
  kb : 1 ≤ k ∧ 2 * k ≤ m
  vb : 0 ≤ s.vr ∧ s.vr ≤ 100000
  len : s.came.length = 128
  high : ∀ i : Nat, k ≤ i → s.came.getD i false = false
  head : s.came.getD 0 false = false
theorem came_at (m k : Int) (s : Ti) (i : Nat) (hi : i < s.came.length) : (tiV m k s)[3 + i]? = some (.bool s.came[i]) := by
  unfold tiV
  rw [show 3 + i = i + 1 + 1 + 1 by omega]
  simp [hi]
theorem came_put (m k : Int) (s : Ti) (i : Nat) (b : Bool) : (tiV m k s).set (3 + i) (.bool b) = tiV m k ⟨s.vr, s.came.set i b⟩ := by
  unfold tiV
  rw [show 3 + i = i + 1 + 1 + 1 by omega]
  simp [List.map_set]
theorem count_take (l : List Bool) (i : Nat) (hi : i < l.length) : (l.take (i + 1)).count true = (l.take i).count true + if l[i] then 1 else 0 := by
  rw [List.take_succ_eq_append_getElem hi, List.count_append]
  cases l[i] <;> simp
set_option maxHeartbeats 1000000 in
theorem rheld_any (p : Nat) (m k : Int) (s : Ti) (w : World) (h : RowAt w p (tiV m k s)) (hl : s.came.length = 128) : Calls Try.prog 30 #[.pointer (some ⟨p, 0, none⟩)] w fun e w' => e = .returned (.int .i64 (heldT s)) ∧ w' = w := by
  have HR := Lib.hid h
  have HL := Lib.hid hl
  clear h hl
  go_enter Try.func30, Try.ntmps30
  go_wp2_with fail
  go_loopw [3, 4] (fun n v wx => ∃ i : Nat, i ≤ 128 ∧ v = .int .i64 i ∧ n = .int .i64 ((s.came.take i).count true : Nat) ∧ wx = w) (fun _ v _ => 128 - (intOf v).toNat)
  case atStart => exact ⟨0, by omega, rfl, by simp, rfl⟩
  case round =>
    obtain ⟨i, hi, rfl, rfl, rfl⟩ := hrel
    by_cases hlt : i < 128
    · have hL : i < s.came.length := by rw [HL.out]; exact hlt
      have c0 := HR.out.cell (3 + i) (came_at m k s i hL)
      have HC := Lib.hid (count_take s.came i hL)
      have hcb : (s.came.take i).count true ≤ 128 := Nat.le_trans List.count_le_length (by rw [List.length_take]; omega)
      obtain ⟨c, hc⟩ : ∃ c, c = (s.came.take i).count true := ⟨_, rfl⟩
      rw [← hc] at HC hcb ⊢
      clear hc
      have z1 : IntKind.i64.wrap ((c : Int) + 1) = (c : Int) + 1 := i64_small' _ (by omega) (by omega)
      generalize s.came[i] = b at *
      clear hL
      cases b with
      | false =>
        go_wp2_with fail
        go_roundw
        case rel => exact ⟨i + 1, by omega, by go_num, congrArg (Value.int .i64) (by rw [HC.out]; simp), by first | rfl | trivial⟩
        case measure => simp [intOf]; omega
      | true =>
        go_wp2_with fail
        go_roundw
        case rel => exact ⟨i + 1, by omega, by go_num, congrArg (Value.int .i64) (by rw [HC.out]; simp), by first | rfl | trivial⟩
        case measure => simp [intOf]; omega
    · go_wp2_with fail
      have e : s.came.take i = s.came := List.take_of_length_le (by rw [HL.out]; omega)
      exact bodyPost_ret (v := .int .i64 ((s.came.take i).count true : Nat)) (by simp [results, Try.results30, go_sem]) rfl ⟨by rw [e]; rfl, rfl⟩
end Go.Proofs.Ytmokibjeanbabaa
