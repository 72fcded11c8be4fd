/-
The landed code's Right and Less of calls.
-/
import Derived.Test.YtaaeppembjkelaaDoorCallLaw
namespace Go.Proofs.YtaaeppembjkelaaDoor
open Go.RowKit Go.Sort
set_option maxRecDepth 20000
theorem letter_any (x : UInt8) (w : World) : Calls Tryd.prog 21 #[.int .u8 (x.toNat : Int)] w fun e w' => e = .returned (.bool (signD x)) ∧ w' = w := by
  obtain ⟨R, hR⟩ : ∃ R, R = signD x := ⟨_, rfl⟩
  rw [← hR]
  have hv := x.toNat_lt
  have h : R = ((decide ((65 : Int) ≤ (x.toNat : Int)) && decide ((x.toNat : Int) ≤ 90)) || (decide ((48 : Int) ≤ (x.toNat : Int)) && decide ((x.toNat : Int) ≤ 57))) := by
    rw [hR]
    unfold signD
    congr 2 <;> apply decide_eq_decide.2 <;> omega
  clear hR
  by_cases h65 : (65 : Int) ≤ (x.toNat : Int)
  · by_cases h90 : (x.toNat : Int) ≤ 90
    · have d65 : decide ((65 : Int) ≤ (x.toNat : Int)) = true := decide_eq_true h65
      have d90 : decide ((x.toNat : Int) ≤ 90) = true := decide_eq_true h90
      have hr : R = true := by rw [h, d65, d90]; rfl
      subst hr
      clear h
      go_enter Tryd.func21, Tryd.ntmps21
      go_wp2
      go_ret
      exact ⟨rfl, rfl⟩
    · have d65 : decide ((65 : Int) ≤ (x.toNat : Int)) = true := decide_eq_true h65
      have d90 : decide ((x.toNat : Int) ≤ 90) = false := decide_eq_false h90
      have d48 : decide ((48 : Int) ≤ (x.toNat : Int)) = true := decide_eq_true (by omega)
      have d57 : decide ((x.toNat : Int) ≤ 57) = false := decide_eq_false (by omega)
      have hr : R = false := by rw [h, d65, d90, d48, d57]; rfl
      subst hr
      clear h
      go_enter Tryd.func21, Tryd.ntmps21
      go_wp2
      go_ret
      exact ⟨rfl, rfl⟩
  · have d65 : decide ((65 : Int) ≤ (x.toNat : Int)) = false := decide_eq_false h65
    by_cases h48 : (48 : Int) ≤ (x.toNat : Int)
    · have d48 : decide ((48 : Int) ≤ (x.toNat : Int)) = true := decide_eq_true h48
      by_cases h57 : (x.toNat : Int) ≤ 57
      · have d57 : decide ((x.toNat : Int) ≤ 57) = true := decide_eq_true h57
        have hr : R = true := by rw [h, d65, d48, d57]; simp
        subst hr
        clear h
        go_enter Tryd.func21, Tryd.ntmps21
        go_wp2
        go_ret
        exact ⟨rfl, rfl⟩
      · have d57 : decide ((x.toNat : Int) ≤ 57) = false := decide_eq_false h57
        have hr : R = false := by rw [h, d65, d48, d57]; simp
        subst hr
        clear h
        go_enter Tryd.func21, Tryd.ntmps21
        go_wp2
        go_ret
        exact ⟨rfl, rfl⟩
    · have d48 : decide ((48 : Int) ≤ (x.toNat : Int)) = false := decide_eq_false h48
      have hr : R = false := by rw [h, d65, d48]; simp
      subst hr
      clear h
      go_enter Tryd.func21, Tryd.ntmps21
      go_wp2
      go_ret
      exact ⟨rfl, rfl⟩
theorem not_empty (b : ByteArray) (h : 1 ≤ b.size) : b.toList.isEmpty = false := by
  rw [List.isEmpty_eq_false_iff, Lib.toList_data]
  intro e
  have h3 : b.data.toList.length = b.size := by simp
  rw [e, List.length_nil] at h3
  omega
theorem cright_bad (b : ByteArray) (n : Int) (w : World) (h : b.size < 1 ∨ 6 < b.size ∨ n < 0 ∨ 15 < n) :
    Calls Tryd.prog 9 #[.agg #[.string b, .int .i64 n]] w fun e w' => e = .returned (.bool false) ∧ Below w.heap.size w w' := by
  by_cases h1 : b.size < 1
  · have hb : b = ⟨#[]⟩ := ByteArray.ext (Array.eq_empty_of_size_eq_zero (by show b.size = 0; omega))
    subst hb
    clear h h1
    go_enter Tryd.func9, Tryd.ntmps9
    go_wp2
    go_ret
    exact ⟨rfl, (Below.refl _ w).alloc (Nat.le_refl _) _⟩
  have he : b.toList.isEmpty = false := not_empty b (by omega)
  by_cases h2 : 6 < b.size
  · have d6 : decide ((6 : Int) < (b.size : Int)) = true := decide_eq_true (by omega)
    clear h
    go_enter Tryd.func9, Tryd.ntmps9
    go_wp2
    go_ret
    exact ⟨rfl, (Below.refl _ w).alloc (Nat.le_refl _) _⟩
  have d6 : decide ((6 : Int) < (b.size : Int)) = false := decide_eq_false (by omega)
  by_cases h3 : n < 0
  · have d0 : decide (n < 0) = true := decide_eq_true h3
    clear h
    go_enter Tryd.func9, Tryd.ntmps9
    go_wp2
    go_ret
    exact ⟨rfl, (Below.refl _ w).alloc (Nat.le_refl _) _⟩
  have d0 : decide (n < 0) = false := decide_eq_false h3
  have h4 : 15 < n := by omega
  have d15 : decide (15 < n) = true := decide_eq_true h4
  clear h
  go_enter Tryd.func9, Tryd.ntmps9
  go_wp2
  go_ret
  exact ⟨rfl, (Below.refl _ w).alloc (Nat.le_refl _) _⟩
set_option maxHeartbeats 1000000 in
theorem cright_loop (b : ByteArray) (n : Int) (w : World) (h1 : 1 ≤ b.size) (h2 : b.size ≤ 6) (h3 : 0 ≤ n) (h4 : n ≤ 15) :
    Calls Tryd.prog 9 #[.agg #[.string b, .int .i64 n]] w fun e w' => e = .returned (.bool (b.data.toList.all signD)) ∧ Below w.heap.size w w' := by
  obtain ⟨R, hR⟩ : ∃ R, R = b.data.toList.all signD := ⟨_, rfl⟩
  rw [← hR]
  have HR := Lib.hid hR
  clear hR
  have HL := Lib.hid (fun (x : UInt8) (W : World) => letter_any x W)
  have he : b.toList.isEmpty = false := not_empty b h1
  have d6 : decide ((6 : Int) < (b.size : Int)) = false := decide_eq_false (by omega)
  have d0 : decide (n < 0) = false := decide_eq_false (by omega)
  have d15 : decide (15 < n) = false := decide_eq_false (by omega)
  go_enter Tryd.func9, Tryd.ntmps9
  go_wp2
  go_loopw [26] (fun i wx => ∃ k : Nat, k ≤ b.size ∧ i = .int .i64 k ∧ Hid ((b.data.toList.take k).all signD = true) ∧ wx = w.alloc (.cells #[.string b, .int .i64 n] 23)) (fun i _ => b.size - (intOf i).toNat)
  case atStart => exact ⟨0, by omega, rfl, Lib.hid (by simp), rfl⟩
  case round =>
    obtain ⟨k, hk, rfl, hall, rfl⟩ := hrel
    by_cases hlt : k < b.size
    · have dk : decide ((k : Int) < (b.size : Int)) = true := decide_eq_true (by omega)
      cases hs : signD b[k]
      · have HF := Lib.hid (all_not b k hlt hs)
        clear hall
        go_wp2_with (go_at_call 21; (with_reducible refine (HL.out b[k] _).mono ?_); rintro e w1 ⟨rfl, rfl⟩; rw [hs])
        go_ret
        rw [show R = _ from HR.out.trans HF.out]
        exact ⟨rfl, (Below.refl _ w).alloc (Nat.le_refl _) _⟩
      · have HF := Lib.hid (all_next b k hlt hall.out hs)
        clear hall
        go_wp2_with (go_at_call 21; (with_reducible refine (HL.out b[k] _).mono ?_); rintro e w1 ⟨rfl, rfl⟩; rw [hs])
        go_roundw
        case rel => exact ⟨k + 1, by omega, by go_num, HF, by first | trivial | rfl⟩
        case measure => simp [intOf]; omega
    · obtain rfl : k = b.size := by omega
      have dk : decide ((b.size : Int) < (b.size : Int)) = false := decide_eq_false (by omega)
      have HF := Lib.hid (show b.data.toList.all signD = true from by rw [List.take_of_length_le (by simp)] at hall; exact hall.out)
      clear hall
      go_wp2
      go_ret
      rw [show R = _ from HR.out.trans HF.out]
      exact ⟨rfl, (Below.refl _ w).alloc (Nat.le_refl _) _⟩
theorem cright_ok : CRightOk := fun b n w _ => by
  by_cases h : b.size < 1 ∨ 6 < b.size ∨ n < 0 ∨ 15 < n
  · have e : rightD b n = false := by
      unfold rightD
      rw [Bool.and_eq_false_iff]
      left
      simp only [Bool.and_eq_false_iff, decide_eq_false_iff_not]
      omega
    rw [e]
    exact cright_bad b n w h
  · have e : rightD b n = b.data.toList.all signD := by
      unfold rightD
      rw [decide_eq_true (by omega), decide_eq_true (by omega), decide_eq_true (by omega), decide_eq_true (by omega)]
      simp
    rw [e]
    exact cright_loop b n w (by omega) (by omega) (by omega) (by omega)
theorem ltD_less : ∀ (a b : List UInt8), Op.bytesLess a b = (ltD a b).getD false
  | [], [] => rfl
  | [], _ :: _ => rfl
  | _ :: _, [] => rfl
  | x :: l, y :: r => by
    have ih := ltD_less l r
    unfold Op.bytesLess ltD
    by_cases h : x = y
    · subst h
      rw [if_pos rfl, ih]
      simp
    · rw [if_neg h]
      simp [h, UInt8.lt_iff_toNat_lt]
theorem ltD_isnone : ∀ (a b : List UInt8), ltD a b = none ↔ a = b
  | [], [] => by simp [ltD]
  | [], _ :: _ => by simp [ltD]
  | _ :: _, [] => by simp [ltD]
  | x :: l, y :: r => by
    have ih := ltD_isnone l r
    unfold ltD
    by_cases h : x = y
    · subst h
      rw [if_pos rfl, ih]
      simp
    · rw [if_neg h]
      simp [h]
theorem cless_ok : CLessOk := fun a b n m w _ _ => by
  obtain ⟨R, hR⟩ : ∃ R, R = lessD a.data.toList n b.data.toList m := ⟨_, rfl⟩
  rw [← hR]
  have k := ltD_less a.data.toList b.data.toList
  have k2 := ltD_isnone a.data.toList b.data.toList
  rw [← Lib.toList_data, ← Lib.toList_data] at hR k k2
  by_cases h : a.toList = b.toList
  · have he : (a.toList == b.toList) = true := by rw [h]; exact beq_self_eq_true _
    have hr : R = decide (n < m) := by rw [hR, lessD, k2.2 h]; rfl
    clear hR k k2 h
    subst hr
    go_enter Tryd.func18, Tryd.ntmps18
    go_wp2
    go_ret
    exact ⟨rfl, ((Below.refl _ w).alloc (Nat.le_refl _) _).alloc (by simp) _⟩
  · have he : (a.toList == b.toList) = false := by rw [beq_eq_false_iff_ne]; exact h
    have hr : R = Op.bytesLess a.toList b.toList := by
      rw [hR, lessD, k]
      cases hc : ltD a.toList b.toList
      · exact absurd (k2.1 hc) h
      · rfl
    clear hR k k2 h
    subst hr
    go_enter Tryd.func18, Tryd.ntmps18
    go_wp2
    go_ret
    exact ⟨rfl, ((Below.refl _ w).alloc (Nat.le_refl _) _).alloc (by simp) _⟩
end Go.Proofs.YtaaeppembjkelaaDoor
