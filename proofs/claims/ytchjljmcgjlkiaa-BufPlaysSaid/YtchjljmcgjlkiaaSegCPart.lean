/-
The parts of a message's bytes, one by one, are its pieces.
-/
import Derived.Test.YtchjljmcgjlkiaaSegCIter
import Derived.Test.YtchjljmcgjlkiaaSegRun
namespace Go.Proofs.Ytchjljmcgjlkiaa
open Go.RowKit
theorem chunk_len (m : Nat) (hm : 0 < m) : ∀ n l, l.length ≤ n → (chunk m l).length = ckN l.length m
  | 0, l, h => by
    obtain rfl : l = [] := List.length_eq_zero_iff.1 (by omega)
    show 0 = (0 + m - 1) / m
    rw [Nat.zero_add, Nat.div_eq_of_lt (by omega)]
  | n + 1, l, h => by
    by_cases hl : l = []
    · subst hl
      show 0 = (0 + m - 1) / m
      rw [Nat.zero_add, Nat.div_eq_of_lt (by omega)]
    · have h1 : 0 < l.length := List.length_pos_iff.2 hl
      rw [chunk_cons m hm l hl, List.length_cons, chunk_len m hm n (l.drop m) (by simp; omega)]
      unfold ckN
      rw [List.length_drop]
      by_cases h2 : l.length ≤ m
      · rw [show l.length - m = 0 by omega, Nat.zero_add, Nat.div_eq_of_lt (show m - 1 < m by omega), Nat.div_eq_of_lt_le (n := m) (k := 1) (by omega) (by omega)]
      · rw [show l.length + m - 1 = (l.length - m + m - 1) + m by omega, Nat.add_div_right _ hm]
theorem chunk_get (m : Nat) (hm : 0 < m) : ∀ (k : Nat) (l : List UInt8) (h : k < (chunk m l).length), (chunk m l)[k] = (l.drop (k * m)).take m
  | 0, l, h => by
    have hl : l ≠ [] := fun e => by subst e; simp [chunk_nil] at h
    simp only [chunk_cons m hm l hl, List.getElem_cons_zero, Nat.zero_mul, List.drop_zero]
  | k + 1, l, h => by
    have hl : l ≠ [] := fun e => by subst e; simp [chunk_nil] at h
    have h2 : k < (chunk m (l.drop m)).length := by
      rw [chunk_cons m hm l hl, List.length_cons] at h
      omega
    simp only [chunk_cons m hm l hl, List.getElem_cons_succ]
    rw [chunk_get m hm k (l.drop m) h2, List.drop_drop, Nat.add_mul, Nat.one_mul, Nat.add_comm m]
/-- a piece's first byte: how many follow -/
def hdN (F0 : Int) (k : Nat) : Int := if k = 0 then F0 + 128 else IntKind.u8.wrap (F0 - k)
theorem hdN_low (F0 : Int) (k : Nat) (h0 : 0 ≤ F0) (h1 : F0 ≤ 100) : 0 ≤ hdN F0 k ∧ hdN F0 k ≤ 255 := by
  unfold hdN
  split
  · omega
  · rw [IntKind.wrap_u8]
    omega
theorem hdN_at (n k : Nat) (hk : k < n) (hn : n ≤ 100) : hdN ((n : Int) - 1) k = ((n - 1 - k : Nat) : Int) + if k = 0 then 128 else 0 := by
  unfold hdN
  split
  · omega
  · rw [IntKind.wrap_u8]
    omega
/-- the piece that is made of a part, as the k-th one -/
def partP (body : List UInt8) (m : Nat) (F0 : Int) (k : Nat) (x : Nat) : Pc := ⟨8, ⟨(byteI (hdN F0 k) :: (body.drop (x * m)).take m).toArray⟩⟩
/-- the pieces of the parts that have come -/
def comeC (body : List UInt8) (m L : Nat) (F0 : Int) (pre : List (Fin (ckN L m))) : List Pc := pre.mapIdx fun k x => partP body m F0 k x.1
theorem comeC_next (body : List UInt8) (m L : Nat) (F0 : Int) (pre : List (Fin (ckN L m))) (x : Fin (ckN L m)) : comeC body m L F0 (pre ++ [x]) = comeC body m L F0 pre ++ [partP body m F0 pre.length x.1] := by
  unfold comeC
  rw [List.mapIdx_append]
  simp
theorem comeC_len (body : List UInt8) (m L : Nat) (F0 : Int) (pre : List (Fin (ckN L m))) : (comeC body m L F0 pre).length = pre.length := by simp [comeC]
theorem comeC_get (body : List UInt8) (m L : Nat) (F0 : Int) (pre : List (Fin (ckN L m))) (i : Nat) (h : i < pre.length) : (comeC body m L F0 pre)[i]'(by rw [comeC_len]; exact h) = partP body m F0 i pre[i].1 := by simp [comeC]
theorem comeC_all (body : List UInt8) (m : Nat) (hm : 0 < m) (hn : ckN body.length m ≤ 100) : comeC body m body.length ((ckN body.length m : Int) - 1) (List.finRange (ckN body.length m)) = heads true (chunk m body) := by
  have hl := chunk_len m hm _ body (Nat.le_refl _)
  apply List.ext_getElem
  · rw [comeC_len, heads_length, List.length_finRange, hl]
  · intro i h1 h2
    have hi : i < (chunk m body).length := by rwa [heads_length] at h2
    rw [heads_get true _ i hi, chunk_get m hm i body hi]
    rw [comeC_get _ _ _ _ _ i (by rw [comeC_len] at h1; exact h1), List.getElem_finRange]
    unfold partP
    rw [hdN_at _ i (by omega) hn, hl]
    simp
end Go.Proofs.Ytchjljmcgjlkiaa
