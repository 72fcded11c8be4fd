/-
The landed code's Right of calls.
-/
import Derived.Test.YtfmcngchcalcmaaDoorCallKit
namespace Go.Proofs.YtfmcngchcalcmaaDoor
open Go.RowKit Go.Sort
set_option maxRecDepth 20000
theorem letter_any (x : UInt8) (w : World) : Calls Tryd.prog 75 #[.int .u8 (x.toNat : Int)] w fun e w' => e = .returned (.bool (signD x)) ∧ w' = w := by
  obtain ⟨R, hR⟩ : ∃ R, R = signD x := ⟨_, rfl⟩
  rw [← hR]
  have hv := x.toNat_lt
  have h : R = ((decide ((65 : Int) ≤ (x.toNat : Int)) && decide ((x.toNat : Int) ≤ 90)) || (decide ((48 : Int) ≤ (x.toNat : Int)) && decide ((x.toNat : Int) ≤ 57))) := by
    rw [hR]
    unfold signD
    congr 2 <;> apply decide_eq_decide.2 <;> omega
  clear hR
  by_cases h65 : (65 : Int) ≤ (x.toNat : Int)
  · by_cases h90 : (x.toNat : Int) ≤ 90
    · have d65 : decide ((65 : Int) ≤ (x.toNat : Int)) = true := decide_eq_true h65
      have d90 : decide ((x.toNat : Int) ≤ 90) = true := decide_eq_true h90
      have hr : R = true := by rw [h, d65, d90]; rfl
      subst hr
      clear h
      go_enter Tryd.func75, Tryd.ntmps75
      go_wp2
      go_ret
      exact ⟨rfl, rfl⟩
    · have d65 : decide ((65 : Int) ≤ (x.toNat : Int)) = true := decide_eq_true h65
      have d90 : decide ((x.toNat : Int) ≤ 90) = false := decide_eq_false h90
      have d48 : decide ((48 : Int) ≤ (x.toNat : Int)) = true := decide_eq_true (by omega)
      have d57 : decide ((x.toNat : Int) ≤ 57) = false := decide_eq_false (by omega)
      have hr : R = false := by rw [h, d65, d90, d48, d57]; rfl
      subst hr
      clear h
      go_enter Tryd.func75, Tryd.ntmps75
      go_wp2
      go_ret
      exact ⟨rfl, rfl⟩
  · have d65 : decide ((65 : Int) ≤ (x.toNat : Int)) = false := decide_eq_false h65
    by_cases h48 : (48 : Int) ≤ (x.toNat : Int)
    · have d48 : decide ((48 : Int) ≤ (x.toNat : Int)) = true := decide_eq_true h48
      by_cases h57 : (x.toNat : Int) ≤ 57
      · have d57 : decide ((x.toNat : Int) ≤ 57) = true := decide_eq_true h57
        have hr : R = true := by rw [h, d65, d48, d57]; simp
        subst hr
        clear h
        go_enter Tryd.func75, Tryd.ntmps75
        go_wp2
        go_ret
        exact ⟨rfl, rfl⟩
      · have d57 : decide ((x.toNat : Int) ≤ 57) = false := decide_eq_false h57
        have hr : R = false := by rw [h, d65, d48, d57]; simp
        subst hr
        clear h
        go_enter Tryd.func75, Tryd.ntmps75
        go_wp2
        go_ret
        exact ⟨rfl, rfl⟩
    · have d48 : decide ((48 : Int) ≤ (x.toNat : Int)) = false := decide_eq_false h48
      have hr : R = false := by rw [h, d65, d48]; simp
      subst hr
      clear h
      go_enter Tryd.func75, Tryd.ntmps75
      go_wp2
      go_ret
      exact ⟨rfl, rfl⟩
theorem not_empty (b : ByteArray) (h : 1 ≤ b.size) : b.toList.isEmpty = false := by
  rw [List.isEmpty_eq_false_iff, Lib.toList_data]
  intro e
  have h3 : b.data.toList.length = b.size := by simp
  rw [e, List.length_nil] at h3
  omega
theorem cright_bad (b : ByteArray) (n : Int) (w : World) (h : b.size < 1 ∨ 6 < b.size ∨ n < 0 ∨ 15 < n) :
    Calls Tryd.prog 52 #[.agg #[.string b, .int .i64 n]] w fun e w' => e = .returned (.bool false) ∧ Below w.heap.size w w' := by
  by_cases h1 : b.size < 1
  · have hb : b = ⟨#[]⟩ := ByteArray.ext (Array.eq_empty_of_size_eq_zero (by show b.size = 0; omega))
    subst hb
    clear h h1
    go_enter Tryd.func52, Tryd.ntmps52
    go_wp2
    go_ret
    exact ⟨rfl, (Below.refl _ w).alloc (Nat.le_refl _) _⟩
  have he : b.toList.isEmpty = false := not_empty b (by omega)
  by_cases h2 : 6 < b.size
  · have d6 : decide ((6 : Int) < (b.size : Int)) = true := decide_eq_true (by omega)
    clear h
    go_enter Tryd.func52, Tryd.ntmps52
    go_wp2
    go_ret
    exact ⟨rfl, (Below.refl _ w).alloc (Nat.le_refl _) _⟩
  have d6 : decide ((6 : Int) < (b.size : Int)) = false := decide_eq_false (by omega)
  by_cases h3 : n < 0
  · have d0 : decide (n < 0) = true := decide_eq_true h3
    clear h
    go_enter Tryd.func52, Tryd.ntmps52
    go_wp2
    go_ret
    exact ⟨rfl, (Below.refl _ w).alloc (Nat.le_refl _) _⟩
  have d0 : decide (n < 0) = false := decide_eq_false h3
  have h4 : 15 < n := by omega
  have d15 : decide (15 < n) = true := decide_eq_true h4
  clear h
  go_enter Tryd.func52, Tryd.ntmps52
  go_wp2
  go_ret
  exact ⟨rfl, (Below.refl _ w).alloc (Nat.le_refl _) _⟩
set_option maxHeartbeats 1000000 in
theorem cright_loop (b : ByteArray) (n : Int) (w : World) (h1 : 1 ≤ b.size) (h2 : b.size ≤ 6) (h3 : 0 ≤ n) (h4 : n ≤ 15) :
    Calls Tryd.prog 52 #[.agg #[.string b, .int .i64 n]] w fun e w' => e = .returned (.bool (b.data.toList.all signD)) ∧ Below w.heap.size w w' := by
  obtain ⟨R, hR⟩ : ∃ R, R = b.data.toList.all signD := ⟨_, rfl⟩
  rw [← hR]
  have HR := Lib.hid hR
  clear hR
  have HL := Lib.hid (fun (x : UInt8) (W : World) => letter_any x W)
  have he : b.toList.isEmpty = false := not_empty b h1
  have d6 : decide ((6 : Int) < (b.size : Int)) = false := decide_eq_false (by omega)
  have d0 : decide (n < 0) = false := decide_eq_false (by omega)
  have d15 : decide (15 < n) = false := decide_eq_false (by omega)
  go_enter Tryd.func52, Tryd.ntmps52
  go_wp2
  go_loopw [26] (fun i wx => ∃ k : Nat, k ≤ b.size ∧ i = .int .i64 k ∧ Hid ((b.data.toList.take k).all signD = true) ∧ wx = w.alloc (.cells #[.string b, .int .i64 n] 23)) (fun i _ => b.size - (intOf i).toNat)
  case atStart => exact ⟨0, by omega, rfl, Lib.hid (by simp), rfl⟩
  case round =>
    obtain ⟨k, hk, rfl, hall, rfl⟩ := hrel
    by_cases hlt : k < b.size
    · have dk : decide ((k : Int) < (b.size : Int)) = true := decide_eq_true (by omega)
      cases hs : signD b[k]
      · have HF := Lib.hid (all_not b k hlt hs)
        clear hall
        go_wp2_with (go_at_call 75; (with_reducible refine (HL.out b[k] _).mono ?_); rintro e w1 ⟨rfl, rfl⟩; rw [hs])
        go_ret
        rw [show R = _ from HR.out.trans HF.out]
        exact ⟨rfl, (Below.refl _ w).alloc (Nat.le_refl _) _⟩
      · have HF := Lib.hid (all_next b k hlt hall.out hs)
        clear hall
        go_wp2_with (go_at_call 75; (with_reducible refine (HL.out b[k] _).mono ?_); rintro e w1 ⟨rfl, rfl⟩; rw [hs])
        go_roundw
        case rel => exact ⟨k + 1, by omega, by go_num, HF, by first | trivial | rfl⟩
        case measure => simp [intOf]; omega
    · obtain rfl : k = b.size := by omega
      have dk : decide ((b.size : Int) < (b.size : Int)) = false := decide_eq_false (by omega)
      have HF := Lib.hid (show b.data.toList.all signD = true from by rw [List.take_of_length_le (by simp)] at hall; exact hall.out)
      clear hall
      go_wp2
      go_ret
      rw [show R = _ from HR.out.trans HF.out]
      exact ⟨rfl, (Below.refl _ w).alloc (Nat.le_refl _) _⟩
theorem cright_any (b : ByteArray) (n : Int) (w : World) : Calls Tryd.prog 52 #[.agg #[.string b, .int .i64 n]] w fun e w' => e = .returned (.bool (rightD b n)) ∧ Below w.heap.size w w' := by
  by_cases h : b.size < 1 ∨ 6 < b.size ∨ n < 0 ∨ 15 < n
  · have e : rightD b n = false := by
      unfold rightD
      rw [Bool.and_eq_false_iff]
      left
      simp only [Bool.and_eq_false_iff, decide_eq_false_iff_not]
      omega
    rw [e]
    exact cright_bad b n w h
  · have e : rightD b n = b.data.toList.all signD := by
      unfold rightD
      rw [decide_eq_true (by omega), decide_eq_true (by omega), decide_eq_true (by omega), decide_eq_true (by omega)]
      simp
    rw [e]
    exact cright_loop b n w (by omega) (by omega) (by omega) (by omega)
theorem cright_ok : CRightOk := fun b n w _ => cright_any b n w
end Go.Proofs.YtfmcngchcalcmaaDoor
