/-
The document's own Right of calls.
-/
import Derived.Test.YtfmcngchcalcmaaDoorProg
import Derived.WalkKit
import Derived.Lib.Hide
import Derived.Lib.Strings
namespace Go.Proofs.YtfmcngchcalcmaaDoor
open Go.RowKit
/-- a letter of a call sign -/
def signD (x : UInt8) : Bool := (decide (65 ≤ x.toNat) && decide (x.toNat ≤ 90)) || (decide (48 ≤ x.toNat) && decide (x.toNat ≤ 57))
/-- a right call -/
def rightD (b : ByteArray) (n : Int) : Bool := decide (1 ≤ b.size) && decide (b.size ≤ 6) && decide (0 ≤ n) && decide (n ≤ 15) && b.data.toList.all signD
/-- a call as a value -/
def callV (b : ByteArray) (n : Int) : Value := .agg #[.string b, .int .i64 n]
theorem rright_bad (b : ByteArray) (n : Int) (w : World) (h : b.size < 1 ∨ 6 < b.size ∨ n < 0 ∨ 15 < n) :
    Calls Tryd.prog 47 #[.agg #[.string b, .int .i64 n]] w fun e w' => e = .returned (.bool false) ∧ Below w.heap.size w w' := by
  by_cases h1 : b.size < 1
  · go_enter Tryd.func47, Tryd.ntmps47
    go_wp2
    go_ret
    exact ⟨rfl, (Below.refl _ w).alloc (Nat.le_refl _) _⟩
  by_cases h2 : 6 < b.size
  · go_enter Tryd.func47, Tryd.ntmps47
    go_wp2
    go_ret
    exact ⟨rfl, (Below.refl _ w).alloc (Nat.le_refl _) _⟩
  by_cases h3 : n < 0
  · go_enter Tryd.func47, Tryd.ntmps47
    go_wp2
    go_ret
    exact ⟨rfl, (Below.refl _ w).alloc (Nat.le_refl _) _⟩
  have h4 : 15 < n := by omega
  go_enter Tryd.func47, Tryd.ntmps47
  go_wp2
  go_ret
  exact ⟨rfl, (Below.refl _ w).alloc (Nat.le_refl _) _⟩
theorem list_at (b : ByteArray) (k : Nat) (h : k < b.size) : b.data.toList[k]'(by simpa using h) = b[k] := by
  rw [Array.getElem_toList]; rfl
theorem all_next (b : ByteArray) (k : Nat) (h : k < b.size) (ha : (b.data.toList.take k).all signD = true) (hx : signD b[k] = true) : (b.data.toList.take (k + 1)).all signD = true := by
  have hl : k < b.data.toList.length := by simpa using h
  rw [List.take_succ_eq_append_getElem hl, List.all_append, ha, list_at b k h]
  simp [hx]
theorem all_not (b : ByteArray) (k : Nat) (h : k < b.size) (hx : signD b[k] = false) : b.data.toList.all signD = false := by
  have hl : k < b.data.toList.length := by simpa using h
  rw [List.all_eq_false]
  exact ⟨b[k], by rw [← list_at b k h]; exact List.getElem_mem hl, by rw [hx]; simp⟩
set_option maxHeartbeats 1000000 in
theorem rright_loop (b : ByteArray) (n : Int) (w : World) (h1 : 1 ≤ b.size) (h2 : b.size ≤ 6) (h3 : 0 ≤ n) (h4 : n ≤ 15) :
    Calls Tryd.prog 47 #[.agg #[.string b, .int .i64 n]] w fun e w' => e = .returned (.bool (b.data.toList.all signD)) ∧ Below w.heap.size w w' := by
  obtain ⟨R, hR⟩ : ∃ R, R = b.data.toList.all signD := ⟨_, rfl⟩
  rw [← hR]
  have HR := Lib.hid hR
  clear hR
  go_enter Tryd.func47, Tryd.ntmps47
  go_wp2
  go_loopw [3] (fun i wx => ∃ k : Nat, k ≤ b.size ∧ i = .int .i64 k ∧ Hid ((b.data.toList.take k).all signD = true) ∧ wx = w.alloc (.cells #[.string b, .int .i64 n] 23)) (fun i _ => b.size - (intOf i).toNat)
  case atStart => exact ⟨0, by omega, rfl, Lib.hid (by simp), rfl⟩
  case round =>
    obtain ⟨k, hk, rfl, hall, rfl⟩ := hrel
    by_cases hlt : k < b.size
    · cases hs : signD b[k]
      · have HF := Lib.hid (all_not b k hlt hs)
        have hx : (b[k].toNat : Int) < 48 ∧ (b[k].toNat : Int) < 65 ∨ ((57 : Int) < b[k].toNat ∧ (b[k].toNat : Int) < 65) ∨ (90 : Int) < b[k].toNat ∧ (57 : Int) < b[k].toNat := by
          simp only [signD, Bool.or_eq_false_iff, Bool.and_eq_false_iff, decide_eq_false_iff_not] at hs
          omega
        clear hs hall
        rcases hx with ⟨hx, hx2⟩ | ⟨hx, hx2⟩ | ⟨hx, hx2⟩
        · go_wp2
          go_ret
          rw [show R = _ from HR.out.trans HF.out]
          exact ⟨rfl, (Below.refl _ w).alloc (Nat.le_refl _) _⟩
        · have d57 : decide ((b[k].toNat : Int) ≤ 57) = false := decide_eq_false (by omega)
          go_wp2
          go_ret
          rw [show R = _ from HR.out.trans HF.out]
          exact ⟨rfl, (Below.refl _ w).alloc (Nat.le_refl _) _⟩
        · have d57 : decide ((b[k].toNat : Int) ≤ 57) = false := decide_eq_false (by omega)
          have d90 : decide ((b[k].toNat : Int) ≤ 90) = false := decide_eq_false (by omega)
          go_wp2
          go_ret
          rw [show R = _ from HR.out.trans HF.out]
          exact ⟨rfl, (Below.refl _ w).alloc (Nat.le_refl _) _⟩
      · have HF := Lib.hid (all_next b k hlt hall.out hs)
        have hx : ((65 : Int) ≤ b[k].toNat ∧ (b[k].toNat : Int) ≤ 90) ∨ ((b[k].toNat : Int) < 65 ∧ (48 : Int) ≤ b[k].toNat ∧ (b[k].toNat : Int) ≤ 57) := by
          simp only [signD, Bool.or_eq_true, Bool.and_eq_true, decide_eq_true_eq] at hs
          omega
        clear hs hall
        rcases hx with ⟨hx, hx2⟩ | ⟨hx, hx2, hx3⟩
        · have d90 : decide ((b[k].toNat : Int) ≤ 90) = true := decide_eq_true (by omega)
          go_wp2
          go_roundw
          case rel => exact ⟨k + 1, by omega, by go_num, HF, by first | trivial | rfl⟩
          case measure => simp [intOf]; omega
        · have d57 : decide ((b[k].toNat : Int) ≤ 57) = true := decide_eq_true (by omega)
          go_wp2
          go_roundw
          case rel => exact ⟨k + 1, by omega, by go_num, HF, by first | trivial | rfl⟩
          case measure => simp [intOf]; omega
    · obtain rfl : k = b.size := by omega
      have HF := Lib.hid (show b.data.toList.all signD = true from by rw [List.take_of_length_le (by simp)] at hall; exact hall.out)
      clear hall
      go_wp2
      go_ret
      rw [show R = _ from HR.out.trans HF.out]
      exact ⟨rfl, (Below.refl _ w).alloc (Nat.le_refl _) _⟩
theorem rcright_any (b : ByteArray) (n : Int) (w : World) :
    Calls Tryd.prog 47 #[.agg #[.string b, .int .i64 n]] w fun e w' => e = .returned (.bool (rightD b n)) ∧ Below w.heap.size w w' := by
  by_cases h : b.size < 1 ∨ 6 < b.size ∨ n < 0 ∨ 15 < n
  · have e : rightD b n = false := by
      unfold rightD
      rw [Bool.and_eq_false_iff]
      left
      simp only [Bool.and_eq_false_iff, decide_eq_false_iff_not]
      omega
    rw [e]
    exact rright_bad b n w h
  · have e : rightD b n = b.data.toList.all signD := by
      unfold rightD
      rw [decide_eq_true (by omega), decide_eq_true (by omega), decide_eq_true (by omega), decide_eq_true (by omega)]
      simp
    rw [e]
    exact rright_loop b n w (by omega) (by omega) (by omega) (by omega)
end Go.Proofs.YtfmcngchcalcmaaDoor
