/-
The code's own small functions of tnc: numbers, isHalf, isFormed, Usual.
-/
import Derived.Test.YteglaenjmeocmaaTncLaw
namespace Go.Proofs.Yteglaenjmeocmaa
open Go.RowKit Go.Sort
theorem usual_ok : UsualOk := by
  intro w
  go_enter Try.func17, Try.ntmps17
  go_wp2
  exact bodyPost_ret (v := .agg #[.int .i64 2, .int .i64 63, .int .i64 1, .int .i64 1, .bool false]) (by simp [results, Try.results17, go_sem]) rfl ⟨rfl, (Below.refl _ w).alloc (Nat.le_refl _) _⟩
/-- where the four numbers of parameters in block n lie -/
def ptrs (n : Nat) : Value := .agg #[.pointer (some ⟨n, 0, none⟩), .pointer (some ⟨n, 1, none⟩), .pointer (some ⟨n, 2, none⟩), .pointer (some ⟨n, 3, none⟩)]
theorem numbers_any (n : Nat) (w : World) :
    Calls Try.prog 20 #[.pointer (some ⟨n, 0, none⟩)] w fun e w' => e = .returned (ptrs n) ∧ Below w.heap.size w w' := by
  go_enter Try.func20, Try.ntmps20
  go_wp2
  go_region
  go_wp2
  exact bodyPost_ret (v := ptrs n) (by simp [results, Try.results20, go_sem]; rfl) rfl ⟨rfl, ((Below.refl _ w).alloc (Nat.le_refl _) _).drew⟩
/-- the code's isHalf -/
theorem thalf_any (n : Int) (w : World) :
    Calls Try.prog 21 #[.int .i64 n] w fun e w' => e = .returned (.bool (decide (0 ≤ n) && decide (n ≤ 15))) ∧ w' = w := by
  by_cases h : 0 ≤ n
  · by_cases h2 : n ≤ 15
    all_goals
      go_enter Try.func21, Try.ntmps21
      go_wp2
      go_ret
      simp [h, h2]
  · go_enter Try.func21, Try.ntmps21
    go_wp2
    go_ret
    have e : decide (0 ≤ n) = false := by simpa using h
    rw [e]
    exact ⟨rfl, rfl⟩
theorem thalf_yes (n : Int) (w : World) (h : 0 ≤ n) (h2 : n ≤ 15) : Calls Try.prog 21 #[.int .i64 n] w fun e w' => e = .returned (.bool true) ∧ w' = w := by
  have k := thalf_any n w
  rwa [decide_eq_true h, decide_eq_true h2] at k
theorem thalf_no (n : Int) (w : World) (h : ¬ (0 ≤ n ∧ n ≤ 15)) : Calls Try.prog 21 #[.int .i64 n] w fun e w' => e = .returned (.bool false) ∧ w' = w := by
  have k := thalf_any n w
  have e : (decide (0 ≤ n) && decide (n ≤ 15)) = false := by rw [← Bool.decide_and]; exact decide_eq_false h
  rwa [e] at k
/-- may a frame's Port and Command stand together? -/
def formD (port cmd : Int) : Bool := decide (¬ (port < 0 ∨ 15 < port ∨ cmd < 0 ∨ 15 < cmd ∨ (cmd = 15 ∧ port ≠ 15)))
theorem formed_any (port cmd : Int) (s : ByteArray) (w : World) :
    Calls Try.prog 18 #[.agg #[.int .i64 port, .int .i64 cmd, .string s]] w fun e w' => e = .returned (.bool (formD port cmd)) ∧ Below w.heap.size w w' := by
  by_cases hp : 0 ≤ port ∧ port ≤ 15
  · have HP := Lib.hid (fun W => thalf_yes port W hp.1 hp.2)
    by_cases hc : 0 ≤ cmd ∧ cmd ≤ 15
    · have HC := Lib.hid (fun W => thalf_yes cmd W hc.1 hc.2)
      by_cases h15 : cmd = 15
      · subst h15
        have e : formD port 15 = decide (port = 15) := by
          unfold formD
          rw [decide_eq_decide]
          omega
        rw [e]
        have hb : (port == 15) = decide (port = 15) := rfl
        clear hc hp e
        go_enter Try.func18, Try.ntmps18
        go_wp2_with (go_at_call 21; (first | (with_reducible refine (HP.out _).mono ?_; rintro e w1 ⟨rfl, rfl⟩) | (with_reducible refine (HC.out _).mono ?_; rintro e w1 ⟨rfl, rfl⟩)))
        go_ret
        exact ⟨rfl, (Below.refl _ w).alloc (Nat.le_refl _) _⟩
      · have e : formD port cmd = true := by
          unfold formD
          rw [decide_eq_true_eq]
          omega
        rw [e]
        have hb : (cmd == 15) = false := by rw [beq_eq_false_iff_ne]; exact h15
        clear hc hp e
        go_enter Try.func18, Try.ntmps18
        go_wp2_with (go_at_call 21; (first | (with_reducible refine (HP.out _).mono ?_; rintro e w1 ⟨rfl, rfl⟩) | (with_reducible refine (HC.out _).mono ?_; rintro e w1 ⟨rfl, rfl⟩)))
        go_ret
        exact ⟨rfl, (Below.refl _ w).alloc (Nat.le_refl _) _⟩
    · have HC := Lib.hid (fun W => thalf_no cmd W hc)
      have e : formD port cmd = false := by
        unfold formD
        rw [decide_eq_false_iff_not]
        omega
      rw [e]
      clear hc hp e
      go_enter Try.func18, Try.ntmps18
      go_wp2_with (go_at_call 21; (first | (with_reducible refine (HP.out _).mono ?_; rintro e w1 ⟨rfl, rfl⟩) | (with_reducible refine (HC.out _).mono ?_; rintro e w1 ⟨rfl, rfl⟩)))
      go_ret
      exact ⟨rfl, (Below.refl _ w).alloc (Nat.le_refl _) _⟩
  · have HP := Lib.hid (fun W => thalf_no port W hp)
    have e : formD port cmd = false := by
      unfold formD
      rw [decide_eq_false_iff_not]
      omega
    rw [e]
    clear hp e
    go_enter Try.func18, Try.ntmps18
    go_wp2_with (go_at_call 21; (with_reducible refine (HP.out _).mono ?_; rintro e w1 ⟨rfl, rfl⟩))
    go_ret
    exact ⟨rfl, (Below.refl _ w).alloc (Nat.le_refl _) _⟩
end Go.Proofs.Yteglaenjmeocmaa
