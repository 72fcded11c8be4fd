/-
The document's Mod and Far; its Same.
-/
import Derived.Test.YtmokibjeanbabaaSeqPure
namespace Go.Proofs.Ytmokibjeanbabaa
open Go.RowKit
set_option maxRecDepth 20000
theorem rmod_any (m : Int) (w : World) : Calls Try.prog 14 #[.int .i64 m] w fun e w' => e = .returned (.bool (modR m)) ∧ w' = w := by
  by_cases h : m = 8
  · subst h
    go_enter Try.func14, Try.ntmps14
    go_wp2
    go_ret
    exact ⟨rfl, rfl⟩
  · have d8 : (m == 8) = false := by rw [beq_eq_false_iff_ne]; exact h
    have e : modR m = (m == 128) := by unfold modR; rw [d8]; rfl
    rw [e]
    go_enter Try.func14, Try.ntmps14
    go_wp2
    go_ret
    exact ⟨rfl, rfl⟩
theorem i64_small' (n : Int) (h0 : -1000000 ≤ n) (h1 : n ≤ 1000000) : IntKind.i64.wrap n = n := IntWalk.i64_in _ (by omega)
/-- one step nearer -/
theorem far_step (m a b : Int) (ha : 0 ≤ a ∧ a < m) (hb : 0 ≤ b ∧ b < m) (hne : a ≠ b) : 0 < farN m a b ∧ farN m a b < m ∧ (a + 1 = m → farN m 0 b = farN m a b - 1) ∧ (a + 1 ≠ m → farN m (a + 1) b = farN m a b - 1) := by
  unfold farN
  refine ⟨?_, ?_, fun h => ?_, fun h => ?_⟩ <;> (repeat' split) <;> omega
theorem far_most (m a b : Int) (ha : 0 ≤ a ∧ a < m) (hb : 0 ≤ b ∧ b < m) : 0 ≤ farN m a b ∧ farN m a b < m := by
  unfold farN
  split <;> omega
theorem far_same (m a : Int) : farN m a a = 0 := by unfold farN; rw [if_pos (Int.le_refl _)]; omega
set_option maxHeartbeats 1000000 in
theorem rfar_any (m a b : Int) (w : World) : Calls Try.prog 9 #[.int .i64 m, .int .i64 a, .int .i64 b] w fun e w' => e = .returned (.int .i64 (farD m a b)) ∧ w' = w := by
  have HM := Lib.hid (fun W => rmod_any m W)
  by_cases hr : (modR m && inR m a && inR m b) = true
  · have hd : farD m a b = farN m a b := by unfold farD; rw [if_pos hr]
    rw [hd]
    simp only [Bool.and_eq_true] at hr
    obtain ⟨⟨h1, h2⟩, h3⟩ := hr
    have hm := modR_yes h1
    have ha := inR_yes h2
    have hb := inR_yes h3
    rw [h1] at HM
    have d1 : decide (a < 0) = false := decide_eq_false (by omega)
    have d2 : decide (m ≤ a) = false := decide_eq_false (by omega)
    have d3 : decide (b < 0) = false := decide_eq_false (by omega)
    have d4 : decide (m ≤ b) = false := decide_eq_false (by omega)
    have HFA := Lib.hid (far_most m a b ha hb)
    clear h1 h2 h3 hd
    go_enter Try.func9, Try.ntmps9
    go_wp2_with (go_at_call 14; (with_reducible refine (HM.out _).mono ?_); rintro e w ⟨rfl, rfl⟩)
    go_loopw [1, 7] (fun x c wx => ∃ y n : Int, x = .int .i64 y ∧ c = .int .i64 n ∧ Hid (0 ≤ y ∧ y < m ∧ 0 ≤ n ∧ n ≤ m ∧ n + farN m y b = farN m a b ∧ wx = w)) (fun x _ _ => (farN m (intOf x) b).toNat)
    case atStart => exact ⟨a, 0, rfl, rfl, Lib.hid ⟨ha.1, ha.2, Int.le_refl _, by omega, by omega, rfl⟩⟩
    case round =>
      obtain ⟨y, n, rfl, rfl, HK⟩ := hrel
      obtain ⟨k0, k1, k2, k3, k4, rfl⟩ := HK.out
      clear HK
      by_cases hyb : y = b
      · subst hyb
        rw [far_same, Int.add_zero] at k4
        have HE := Lib.hid k4
        clear k4
        go_wp2_with fail
        exact bodyPost_ret (v := .int .i64 n) (by simp [results, Try.results9, go_sem]) rfl ⟨by rw [HE.out], rfl⟩
      · have dy : (y != b) = true := by simpa using hyb
        obtain ⟨f0, f1, f2, f3⟩ := far_step m y b ⟨k0, k1⟩ hb hyb
        have zy : IntKind.i64.wrap (y + 1) = y + 1 := i64_small' _ (by omega) (by omega)
        have zn : IntKind.i64.wrap (n + 1) = n + 1 := i64_small' _ (by omega) (by omega)
        have HF0 := Lib.hid f0
        have HF1 := Lib.hid f1
        have HK4 := Lib.hid k4
        by_cases hym : y + 1 = m
        · have dm : (y + 1 == m) = true := by simpa using hym
          have HF := Lib.hid (f2 hym)
          clear f0 f1 f2 f3 k4 hym
          go_wp2_with fail
          go_roundw
          case rel => exact ⟨0, n + 1, rfl, rfl, Lib.hid ⟨Int.le_refl _, by omega, by omega, by have := HF.out; have := HF0.out; have := HF1.out; have := HK4.out; have := HFA.out; omega, by have := HF.out; have := HK4.out; omega, by first | rfl | trivial⟩⟩
          case measure =>
            have := HF.out
            have := HF0.out
            simp only [intOf]
            omega
        · have dm : (y + 1 == m) = false := by rw [beq_eq_false_iff_ne]; exact hym
          have HF := Lib.hid (f3 hym)
          have HYM := Lib.hid hym
          clear f0 f1 f2 f3 k4 hym
          go_wp2_with fail
          go_roundw
          case rel => exact ⟨y + 1, n + 1, rfl, rfl, Lib.hid ⟨by omega, by have := HYM.out; omega, by omega, by have := HF.out; have := HF0.out; have := HF1.out; have := HK4.out; have := HFA.out; omega, by have := HF.out; have := HK4.out; omega, by first | rfl | trivial⟩⟩
          case measure =>
            have := HF.out
            have := HF0.out
            simp only [intOf]
            omega
  · have hd : farD m a b = -1 := by unfold farD; rw [if_neg hr]
    rw [hd]
    clear hd
    cases h1 : modR m with
    | false =>
      rw [h1] at HM
      clear hr
      go_enter Try.func9, Try.ntmps9
      go_wp2_with (go_at_call 14; (with_reducible refine (HM.out _).mono ?_); rintro e w ⟨rfl, rfl⟩)
      exact bodyPost_ret (v := .int .i64 (-1)) (by simp [results, Try.results9, go_sem]) rfl ⟨rfl, rfl⟩
    | true =>
      rw [h1] at HM
      rw [h1, Bool.true_and] at hr
      cases h2 : inR m a with
      | false =>
        clear hr
        rcases inR_no h2 with h | h
        · have d1 : decide (a < 0) = true := decide_eq_true h
          clear h h2
          go_enter Try.func9, Try.ntmps9
          go_wp2_with (go_at_call 14; (with_reducible refine (HM.out _).mono ?_); rintro e w ⟨rfl, rfl⟩)
          exact bodyPost_ret (v := .int .i64 (-1)) (by simp [results, Try.results9, go_sem]) rfl ⟨rfl, rfl⟩
        · by_cases h0 : a < 0
          · have d1 : decide (a < 0) = true := decide_eq_true h0
            clear h h2 h0
            go_enter Try.func9, Try.ntmps9
            go_wp2_with (go_at_call 14; (with_reducible refine (HM.out _).mono ?_); rintro e w ⟨rfl, rfl⟩)
            exact bodyPost_ret (v := .int .i64 (-1)) (by simp [results, Try.results9, go_sem]) rfl ⟨rfl, rfl⟩
          · have d1 : decide (a < 0) = false := decide_eq_false h0
            have d2 : decide (m ≤ a) = true := decide_eq_true h
            clear h h2 h0
            go_enter Try.func9, Try.ntmps9
            go_wp2_with (go_at_call 14; (with_reducible refine (HM.out _).mono ?_); rintro e w ⟨rfl, rfl⟩)
            exact bodyPost_ret (v := .int .i64 (-1)) (by simp [results, Try.results9, go_sem]) rfl ⟨rfl, rfl⟩
      | true =>
        have ha := inR_yes h2
        rw [h2, Bool.true_and] at hr
        have h3 : inR m b = false := by simpa using hr
        have d1 : decide (a < 0) = false := decide_eq_false (by omega)
        have d2 : decide (m ≤ a) = false := decide_eq_false (by omega)
        clear hr h2
        rcases inR_no h3 with h | h
        · have d3 : decide (b < 0) = true := decide_eq_true h
          clear h h3 ha
          go_enter Try.func9, Try.ntmps9
          go_wp2_with (go_at_call 14; (with_reducible refine (HM.out _).mono ?_); rintro e w ⟨rfl, rfl⟩)
          exact bodyPost_ret (v := .int .i64 (-1)) (by simp [results, Try.results9, go_sem]) rfl ⟨rfl, rfl⟩
        · by_cases h0 : b < 0
          · have d3 : decide (b < 0) = true := decide_eq_true h0
            clear h h3 h0 ha
            go_enter Try.func9, Try.ntmps9
            go_wp2_with (go_at_call 14; (with_reducible refine (HM.out _).mono ?_); rintro e w ⟨rfl, rfl⟩)
            exact bodyPost_ret (v := .int .i64 (-1)) (by simp [results, Try.results9, go_sem]) rfl ⟨rfl, rfl⟩
          · have d3 : decide (b < 0) = false := decide_eq_false h0
            have d4 : decide (m ≤ b) = true := decide_eq_true h
            clear h h3 h0 ha
            go_enter Try.func9, Try.ntmps9
            go_wp2_with (go_at_call 14; (with_reducible refine (HM.out _).mono ?_); rintro e w ⟨rfl, rfl⟩)
            exact bodyPost_ret (v := .int .i64 (-1)) (by simp [results, Try.results9, go_sem]) rfl ⟨rfl, rfl⟩
end Go.Proofs.Ytmokibjeanbabaa
