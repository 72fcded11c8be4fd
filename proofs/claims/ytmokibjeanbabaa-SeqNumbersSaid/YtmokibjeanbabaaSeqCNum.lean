/-
The landed code's Right, Step and Far.
-/
import Derived.Test.YtmokibjeanbabaaSeqRFar
namespace Go.Proofs.Ytmokibjeanbabaa
open Go.RowKit
set_option maxRecDepth 20000
theorem and_7 (n : Int) : bits BinOp.and IntKind.i64 n 7 = n % 8 := by
  have e : (BitVec.ofInt 64 7).toNat = 2 ^ 3 - 1 := by decide
  have h : bits BinOp.and IntKind.i64 n 7 = IntKind.i64.wrap (((BitVec.ofInt 64 n).toNat &&& (2 ^ 3 - 1) : Nat) : Int) := by
    rw [← e, ← BitVec.toNat_and]; rfl
  rw [h, Nat.and_two_pow_sub_one_eq_mod, BitVec.toNat_ofInt, IntKind.wrap_i64]
  omega
theorem and_127 (n : Int) : bits BinOp.and IntKind.i64 n 127 = n % 128 := by
  have e : (BitVec.ofInt 64 127).toNat = 2 ^ 7 - 1 := by decide
  have h : bits BinOp.and IntKind.i64 n 127 = IntKind.i64.wrap (((BitVec.ofInt 64 n).toNat &&& (2 ^ 7 - 1) : Nat) : Int) := by
    rw [← e, ← BitVec.toNat_and]; rfl
  rw [h, Nat.and_two_pow_sub_one_eq_mod, BitVec.toNat_ofInt, IntKind.wrap_i64]
  omega
/-- a sum, whatever it is, by the modulus less 1 -/
theorem and_sum (m a b : Int) (hm : m = 8 ∨ m = 128) : bits BinOp.and IntKind.i64 (IntKind.i64.wrap (a + b)) (m - 1) = (a + b) % m := by
  rcases hm with e | e <;> subst e
  · rw [show (8 : Int) - 1 = 7 from rfl, and_7, IntKind.wrap_i64]
    omega
  · rw [show (128 : Int) - 1 = 127 from rfl, and_127, IntKind.wrap_i64]
    omega
theorem all_take (L : List Int) (p : Int → Bool) (k : Nat) (hk : k < L.length) : (L.take (k + 1)).all p = ((L.take k).all p && p L[k]) := by
  rw [List.take_succ_eq_append_getElem hk, List.all_append]
  simp
theorem all_not (L : List Int) (p : Int → Bool) (k : Nat) (hk : k < L.length) (h : p L[k] = false) : L.all p = false := by
  rw [List.all_eq_false]
  exact ⟨L[k], List.getElem_mem hk, by simp [h]⟩
set_option maxHeartbeats 1000000 in
theorem cright_any (m : Int) (a : Option Addr) (n c : Nat) (L : List Int) (w : World) (hn : L.length = n) (hA : AtL encI w a L) (hl : n ≤ 1000) : Calls Try.prog 11 #[.int .i64 m, .slice a n c] w fun e w' => e = .returned (.bool (modR m && L.all (inR m))) ∧ w' = w := by
  have HN := Lib.hid hn
  have HA := Lib.hid hA
  clear hn hA
  by_cases hm : modR m = true
  · rw [hm, Bool.true_and]
    by_cases h8 : m = 8
    · have d8 : (m != 8) = false := by simp [h8]
      clear hm h8
      go_enter Try.func11, Try.ntmps11
      go_wp2_with fail
      go_loopw [15] (fun i wx => ∃ k : Nat, k ≤ n ∧ i = .int .i64 k ∧ Hid ((L.take k).all (inR m) = true ∧ wx = w)) (fun i _ => n - (intOf i).toNat)
      case atStart => exact ⟨0, by omega, rfl, Lib.hid ⟨by simp, rfl⟩⟩
      case round =>
        obtain ⟨k, hk, rfl, HK⟩ := hrel
        obtain ⟨hall, rfl⟩ := HK.out
        have HALL := Lib.hid hall
        clear hall HK
        by_cases hlt : k < n
        · have hL : k < L.length := by rw [HN.out]; exact hlt
          obtain ⟨g, o, rfl, _⟩ := HA.out.some_ (by omega)
          have x0 := int_at HA.out k hL
          have HT := Lib.hid (all_take L (inR m) k hL)
          have HF := Lib.hid (all_not L (inR m) k hL)
          generalize L[k] = x at *
          cases hx : inR m x with
          | true =>
            have hb := inR_yes hx
            have d0 : decide (x < 0) = false := decide_eq_false (by omega)
            have d1 : decide (m ≤ x) = false := decide_eq_false (by omega)
            rw [HALL.out, hx] at HT
            clear hx hb hL HF
            go_wp2_with fail
            go_roundw
            case rel => exact ⟨k + 1, by omega, by go_num, Lib.hid ⟨HT.out, by first | rfl | trivial⟩⟩
            case measure => simp [intOf]; omega
          | false =>
            have HF2 := Lib.hid (HF.out hx)
            by_cases hx0 : x < 0
            · have d0 : decide (x < 0) = true := decide_eq_true hx0
              clear hx hL HF HT hx0
              go_wp2_with fail
              exact bodyPost_ret (v := .bool false) (by simp [results, Try.results11, go_sem]) rfl ⟨by rw [HF2.out], rfl⟩
            · have d0 : decide (x < 0) = false := decide_eq_false hx0
              have d1 : decide (m ≤ x) = true := decide_eq_true (by rcases inR_no hx with h | h <;> omega)
              clear hx hL HF HT hx0
              go_wp2_with fail
              exact bodyPost_ret (v := .bool false) (by simp [results, Try.results11, go_sem]) rfl ⟨by rw [HF2.out], rfl⟩
        · have hkn : k = n := by omega
          have HE := Lib.hid (show L.all (inR m) = true from by
            have := HALL.out
            rwa [List.take_of_length_le (by rw [HN.out]; omega)] at this)
          have dk : decide ((k : Int) < (n : Int)) = false := decide_eq_false (by omega)
          clear hkn
          go_wp2_with fail
          exact bodyPost_ret (v := .bool true) (by simp [results, Try.results11, go_sem]) rfl ⟨by rw [HE.out], rfl⟩
    · have d8 : (m != 8) = true := by simpa using h8
      have d9 : (m != 128) = false := by
        rcases modR_yes hm with h | h
        · exact absurd h h8
        · simp [h]
      clear hm h8
      go_enter Try.func11, Try.ntmps11
      go_wp2_with fail
      go_loopw [15] (fun i wx => ∃ k : Nat, k ≤ n ∧ i = .int .i64 k ∧ Hid ((L.take k).all (inR m) = true ∧ wx = w)) (fun i _ => n - (intOf i).toNat)
      case atStart => exact ⟨0, by omega, rfl, Lib.hid ⟨by simp, rfl⟩⟩
      case round =>
        obtain ⟨k, hk, rfl, HK⟩ := hrel
        obtain ⟨hall, rfl⟩ := HK.out
        have HALL := Lib.hid hall
        clear hall HK
        by_cases hlt : k < n
        · have hL : k < L.length := by rw [HN.out]; exact hlt
          obtain ⟨g, o, rfl, _⟩ := HA.out.some_ (by omega)
          have x0 := int_at HA.out k hL
          have HT := Lib.hid (all_take L (inR m) k hL)
          have HF := Lib.hid (all_not L (inR m) k hL)
          generalize L[k] = x at *
          cases hx : inR m x with
          | true =>
            have hb := inR_yes hx
            have d0 : decide (x < 0) = false := decide_eq_false (by omega)
            have d1 : decide (m ≤ x) = false := decide_eq_false (by omega)
            rw [HALL.out, hx] at HT
            clear hx hb hL HF
            go_wp2_with fail
            go_roundw
            case rel => exact ⟨k + 1, by omega, by go_num, Lib.hid ⟨HT.out, by first | rfl | trivial⟩⟩
            case measure => simp [intOf]; omega
          | false =>
            have HF2 := Lib.hid (HF.out hx)
            by_cases hx0 : x < 0
            · have d0 : decide (x < 0) = true := decide_eq_true hx0
              clear hx hL HF HT hx0
              go_wp2_with fail
              exact bodyPost_ret (v := .bool false) (by simp [results, Try.results11, go_sem]) rfl ⟨by rw [HF2.out], rfl⟩
            · have d0 : decide (x < 0) = false := decide_eq_false hx0
              have d1 : decide (m ≤ x) = true := decide_eq_true (by rcases inR_no hx with h | h <;> omega)
              clear hx hL HF HT hx0
              go_wp2_with fail
              exact bodyPost_ret (v := .bool false) (by simp [results, Try.results11, go_sem]) rfl ⟨by rw [HF2.out], rfl⟩
        · have hkn : k = n := by omega
          have HE := Lib.hid (show L.all (inR m) = true from by
            have := HALL.out
            rwa [List.take_of_length_le (by rw [HN.out]; omega)] at this)
          have dk : decide ((k : Int) < (n : Int)) = false := decide_eq_false (by omega)
          clear hkn
          go_wp2_with fail
          exact bodyPost_ret (v := .bool true) (by simp [results, Try.results11, go_sem]) rfl ⟨by rw [HE.out], rfl⟩
  · have hm2 : modR m = false := by simpa using hm
    rw [hm2, Bool.false_and]
    have d8 : (m != 8) = true := by
      unfold modR at hm2
      simp at hm2
      simpa using hm2.1
    have d9 : (m != 128) = true := by
      unfold modR at hm2
      simp at hm2
      simpa using hm2.2
    clear hm hm2
    go_enter Try.func11, Try.ntmps11
    go_wp2_with fail
    exact bodyPost_ret (v := .bool false) (by simp [results, Try.results11, go_sem]) rfl ⟨rfl, rfl⟩
theorem cright_none (m : Int) (w : World) : Calls Try.prog 11 #[.int .i64 m, .slice none 0 0] w fun e w' => e = .returned (.bool (modR m)) ∧ w' = w := by
  have := cright_any m none 0 0 [] w rfl (AtL.nil _ _ _) (by omega)
  simpa using this
theorem cright_one (m a : Int) (w : World) : Calls Try.prog 11 #[.int .i64 m, .slice (some ⟨w.heap.size, 0, none⟩) 1 1] (w.alloc (.cells #[.int .i64 a] 3)) fun e w' => e = .returned (.bool (modR m && inR m a)) ∧ w' = w.alloc (.cells #[.int .i64 a] 3) := by
  have := cright_any m (some ⟨w.heap.size, 0, none⟩) 1 1 [a] _ rfl (AtL.made encI 3 w w.heap.size a [.int .i64 a] rfl rfl) (by omega)
  simpa using this
theorem two_made (w : World) (a b : Int) : AtL encI (w.alloc (.cells #[.int .i64 a, .int .i64 b] 3)) (some ⟨w.heap.size, 0, none⟩) [a, b] := by
  obtain ⟨g, c, hv, -, -, hA⟩ := (OwnL.lit encI 3 w w.heap.size [a, b] [.int .i64 a, .int .i64 b] rfl (Nat.le_refl _) (by simp) 2 rfl).some_ (by simp)
  simp only [Value.slice.injEq, Option.some.injEq, Addr.mk.injEq, and_true] at hv
  obtain ⟨rfl, -⟩ := hv
  exact hA
theorem cright_two (m a b : Int) (w : World) : Calls Try.prog 11 #[.int .i64 m, .slice (some ⟨w.heap.size, 0, none⟩) 2 2] (w.alloc (.cells #[.int .i64 a, .int .i64 b] 3)) fun e w' => e = .returned (.bool (modR m && inR m a && inR m b)) ∧ w' = w.alloc (.cells #[.int .i64 a, .int .i64 b] 3) := by
  have := cright_any m (some ⟨w.heap.size, 0, none⟩) 2 2 [a, b] _ rfl (two_made w a b) (by omega)
  simpa [Bool.and_assoc] using this
/-- a step -/
def stepD (m a b : Int) : Int := if modR m && inR m a then (a + b) % m else -1
set_option maxHeartbeats 1000000 in
theorem cstep_any (m a b : Int) (w : World) : Calls Try.prog 12 #[.int .i64 m, .int .i64 a, .int .i64 b] w fun e w' => e = .returned (.int .i64 (stepD m a b)) ∧ Below w.heap.size w w' := by
  have HC := Lib.hid (cright_one m a w)
  have HB := Lib.hid ((Below.refl w.heap.size w).alloc (Nat.le_refl _) (.cells #[.int .i64 a] 3))
  unfold stepD
  by_cases hr : (modR m && inR m a) = true
  · rw [hr] at HC
    rw [if_pos hr]
    have hmd : m = 8 ∨ m = 128 := modR_yes (by rw [Bool.and_eq_true] at hr; exact hr.1)
    have z1 : IntKind.i64.wrap (m - 1) = m - 1 := i64_small' _ (by omega) (by omega)
    have z2 := and_sum m a b hmd
    have HZ2 := Lib.hid z2
    obtain ⟨r, hr2⟩ : ∃ r, (a + b) % m = r := ⟨_, rfl⟩
    rw [hr2] at z2 ⊢
    rw [IntWalk.i64_left] at z2
    clear hr2 hr hmd HZ2
    go_enter Try.func12, Try.ntmps12
    go_wp2_with (go_at_call 11; (with_reducible refine HC.out.mono ?_); rintro e w1 ⟨rfl, rfl⟩)
    exact bodyPost_ret (v := .int .i64 r) (by simp [results, Try.results12, go_sem]) rfl ⟨rfl, HB.out⟩
  · rw [if_neg hr]
    have hr2 : (modR m && inR m a) = false := by simpa using hr
    rw [hr2] at HC
    clear hr hr2
    go_enter Try.func12, Try.ntmps12
    go_wp2_with (go_at_call 11; (with_reducible refine HC.out.mono ?_); rintro e w1 ⟨rfl, rfl⟩)
    exact bodyPost_ret (v := .int .i64 (-1)) (by simp [results, Try.results12, go_sem]) rfl ⟨rfl, HB.out⟩
theorem step_far (m a b : Int) (hm : modR m = true) (ha : inR m a = true) (hb : inR m b = true) : stepD m b (-a) = farN m a b := by
  unfold stepD
  rw [hm, hb, if_pos (by simp)]
  have h1 := inR_yes ha
  have h2 := inR_yes hb
  unfold farN
  rcases modR_yes hm with e | e <;> subst e <;> split <;> omega
set_option maxHeartbeats 1000000 in
theorem cfar_any (m a b : Int) (w : World) : Calls Try.prog 10 #[.int .i64 m, .int .i64 a, .int .i64 b] w fun e w' => e = .returned (.int .i64 (farD m a b)) ∧ Below w.heap.size w w' := by
  have HC := Lib.hid (cright_two m a b w)
  have HB := Lib.hid ((Below.refl w.heap.size w).alloc (Nat.le_refl _) (.cells #[.int .i64 a, .int .i64 b] 3))
  have HS := Lib.hid (fun W => cstep_any m b (-a) W)
  unfold farD
  by_cases hr : (modR m && inR m a && inR m b) = true
  · rw [hr] at HC
    rw [if_pos hr]
    simp only [Bool.and_eq_true] at hr
    rw [step_far m a b hr.1.1 hr.1.2 hr.2] at HS
    have ha := inR_yes hr.1.2
    have hmd := modR_yes hr.1.1
    have z1 : IntKind.i64.wrap (-a) = -a := i64_small' _ (by omega) (by omega)
    generalize farN m a b = r at *
    clear hr ha hmd
    go_enter Try.func10, Try.ntmps10
    go_wp2_with (first | (go_at_call 11; (with_reducible refine HC.out.mono ?_); rintro e w1 ⟨rfl, rfl⟩) | (go_at_call 12; (with_reducible refine (HS.out _).mono ?_); rintro e w2 ⟨rfl, hb⟩; have HB2 := Lib.hid (HB.out.trans (hb.mono HB.out.size)); clear hb))
    exact bodyPost_ret (v := .int .i64 r) (by simp [results, Try.results10, go_sem]) rfl ⟨rfl, HB2.out⟩
  · rw [if_neg hr]
    have hr2 : (modR m && inR m a && inR m b) = false := by simpa using hr
    rw [hr2] at HC
    clear hr hr2
    go_enter Try.func10, Try.ntmps10
    go_wp2_with (go_at_call 11; (with_reducible refine HC.out.mono ?_); rintro e w1 ⟨rfl, rfl⟩)
    exact bodyPost_ret (v := .int .i64 (-1)) (by simp [results, Try.results10, go_sem]) rfl ⟨rfl, HB.out⟩
end Go.Proofs.Ytmokibjeanbabaa
