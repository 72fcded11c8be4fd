/-
Controls as plain numbers: which are right.
-/
import Derived.Test.YtfmcngchcalcmaaDoorOwnBytes
namespace Go.Proofs.YtfmcngchcalcmaaDoor
open Go.RowKit
def codeL : List Int := [0, 0, 1, 5, 9, 13, 47, 111, 67, 15, 99, 135, 3, 175, 227]
def codeD (k : Nat) : Int := codeL.getD k 0
def supD (k : Int) : Bool := decide (2 ≤ k) && decide (k ≤ 5)
def hasD (k : Int) : Bool := decide (k = 1) || supD k
def kindD (k : Int) : Bool := decide (1 ≤ k) && decide (k ≤ 14)
def belowD (n m : Int) : Bool := decide (0 ≤ n) && decide (n < m)
def modD (w : Bool) : Int := if w then 128 else 8
def rightC (k nr ns : Int) (w : Bool) : Bool := kindD k && belowD nr (if hasD k then modD w else 1) && belowD ns (if k = 1 then modD w else 1)
def infoD (k : Int) : Bool := decide (k = 1) || decide (k = 11) || decide (k = 12) || decide (k = 13) || decide (k = 14)
def pidD (k : Int) : Bool := decide (k = 1) || decide (k = 12)
theorem isKind_any (k : Int) (w : World) : Calls Tryd.prog 70 #[.int .i64 k] w fun e w' => e = .returned (.bool (kindD k)) ∧ w' = w := by
  by_cases h1 : 1 ≤ k
  · have d1 : decide (1 ≤ k) = true := decide_eq_true h1
    by_cases h2 : k ≤ 14
    · have d2 : decide (k ≤ 14) = true := decide_eq_true h2
      go_enter Tryd.func70, Tryd.ntmps70
      go_wp2
      go_ret
      exact ⟨by rw [kindD, d1, d2]; rfl, rfl⟩
    · have d2 : decide (k ≤ 14) = false := decide_eq_false h2
      go_enter Tryd.func70, Tryd.ntmps70
      go_wp2
      go_ret
      exact ⟨by rw [kindD, d1, d2]; rfl, rfl⟩
  · have d1 : decide (1 ≤ k) = false := decide_eq_false h1
    go_enter Tryd.func70, Tryd.ntmps70
    go_wp2
    go_ret
    exact ⟨by rw [kindD, d1]; rfl, rfl⟩
theorem sup_any (k : Int) (w : World) : Calls Tryd.prog 44 #[.int .i64 k] w fun e w' => e = .returned (.bool (supD k)) ∧ w' = w := by
  by_cases h1 : 2 ≤ k
  · have d1 : decide (2 ≤ k) = true := decide_eq_true h1
    by_cases h2 : k ≤ 5
    · have d2 : decide (k ≤ 5) = true := decide_eq_true h2
      go_enter Tryd.func44, Tryd.ntmps44
      go_wp2
      go_ret
      exact ⟨by rw [supD, d1, d2]; rfl, rfl⟩
    · have d2 : decide (k ≤ 5) = false := decide_eq_false h2
      go_enter Tryd.func44, Tryd.ntmps44
      go_wp2
      go_ret
      exact ⟨by rw [supD, d1, d2]; rfl, rfl⟩
  · have d1 : decide (2 ≤ k) = false := decide_eq_false h1
    go_enter Tryd.func44, Tryd.ntmps44
    go_wp2
    go_ret
    exact ⟨by rw [supD, d1]; rfl, rfl⟩
theorem hasNr_any (k : Int) (w : World) : Calls Tryd.prog 68 #[.int .i64 k] w fun e w' => e = .returned (.bool (hasD k)) ∧ w' = w := by
  have HS := Lib.hid (fun W => sup_any k W)
  by_cases h1 : k = 1
  · subst h1
    go_enter Tryd.func68, Tryd.ntmps68
    go_wp2
    go_ret
    exact ⟨by simp [hasD], rfl⟩
  · have d1 : (k == 1) = false := by simpa using h1
    go_enter Tryd.func68, Tryd.ntmps68
    go_wp2_with (go_at_call 44; (with_reducible refine (HS.out _).mono ?_); rintro e w1 ⟨rfl, rfl⟩)
    go_ret
    exact ⟨by simp [hasD, h1], rfl⟩
theorem isBelow_any (n m : Int) (w : World) : Calls Tryd.prog 71 #[.int .i64 n, .int .i64 m] w fun e w' => e = .returned (.bool (belowD n m)) ∧ w' = w := by
  by_cases h1 : 0 ≤ n
  · have d1 : decide (0 ≤ n) = true := decide_eq_true h1
    by_cases h2 : n < m
    · have d2 : decide (n < m) = true := decide_eq_true h2
      go_enter Tryd.func71, Tryd.ntmps71
      go_wp2
      go_ret
      exact ⟨by rw [belowD, d1, d2]; rfl, rfl⟩
    · have d2 : decide (n < m) = false := decide_eq_false h2
      go_enter Tryd.func71, Tryd.ntmps71
      go_wp2
      go_ret
      exact ⟨by rw [belowD, d1, d2]; rfl, rfl⟩
  · have d1 : decide (0 ≤ n) = false := decide_eq_false h1
    go_enter Tryd.func71, Tryd.ntmps71
    go_wp2
    go_ret
    exact ⟨by rw [belowD, d1]; rfl, rfl⟩
theorem bit_any (on : Bool) (b : Int) (w : World) : Calls Tryd.prog 69 #[.bool on, .int .u8 b] w fun e w' => e = .returned (.int .u8 (if on then b else 0)) ∧ w' = w := by
  cases on
  all_goals
    go_enter Tryd.func69, Tryd.ntmps69
    go_wp2
    go_ret
    exact ⟨rfl, rfl⟩
def maskD (k : Int) (w : Bool) : Int := if k = 1 then 1 else if supD k then (if w then 255 else 15) else 239
theorem mask_any (k : Int) (wide : Bool) (w : World) : Calls Tryd.prog 85 #[.int .i64 k, .bool wide] w fun e w' => e = .returned (.int .u8 (maskD k wide)) ∧ w' = w := by
  have HS := Lib.hid (fun W => sup_any k W)
  by_cases h1 : k = 1
  · subst h1
    go_enter Tryd.func85, Tryd.ntmps85
    go_wp2
    go_ret
    exact ⟨by simp [maskD], rfl⟩
  · have d1 : (k == 1) = false := by simpa using h1
    have hm : maskD k wide = if supD k then (if wide then 255 else 15) else 239 := by rw [maskD, if_neg h1]
    rw [hm]
    generalize supD k = S at *
    clear hm
    cases S <;> cases wide
    all_goals
      go_enter Tryd.func85, Tryd.ntmps85
      go_wp2_with (go_at_call 44; (with_reducible refine (HS.out _).mono ?_); rintro e w1 ⟨rfl, rfl⟩)
      go_ret
      exact ⟨rfl, rfl⟩
def lenD (b : Int) (w : Bool) : Int := if w && (bits BinOp.and .u8 b 3 != 3) then 2 else 1
theorem length_any (b : Int) (wide : Bool) (w : World) : Calls Tryd.prog 72 #[.int .u8 b, .bool wide] w fun e w' => e = .returned (.int .i64 (lenD b wide)) ∧ w' = w := by
  unfold lenD
  cases wide
  · go_enter Tryd.func72, Tryd.ntmps72
    go_wp2
    go_ret
    exact ⟨rfl, rfl⟩
  · cases hb : (bits BinOp.and .u8 b 3 != 3)
    all_goals
      go_enter Tryd.func72, Tryd.ntmps72
      go_wp2
      go_ret
      exact ⟨rfl, rfl⟩
theorem info_any (k : Int) (w : World) : Calls Tryd.prog 45 #[.int .i64 k] w fun e w' => e = .returned (.bool (infoD k)) ∧ w' = w := by
  by_cases h : k = 1 ∨ k = 11 ∨ k = 12 ∨ k = 13 ∨ k = 14
  · rcases h with rfl | rfl | rfl | rfl | rfl
    all_goals
      go_enter Tryd.func45, Tryd.ntmps45
      go_wp2
      go_ret
      exact ⟨rfl, rfl⟩
  · have d1 : (k == 1) = false := by simp; omega
    have d2 : (k == 11) = false := by simp; omega
    have d3 : (k == 12) = false := by simp; omega
    have d4 : (k == 13) = false := by simp; omega
    have d5 : (k == 14) = false := by simp; omega
    go_enter Tryd.func45, Tryd.ntmps45
    go_wp2
    go_ret
    exact ⟨by simp [infoD]; omega, rfl⟩
theorem pid_any (k : Int) (w : World) : Calls Tryd.prog 46 #[.int .i64 k] w fun e w' => e = .returned (.bool (pidD k)) ∧ w' = w := by
  by_cases h : k = 1 ∨ k = 12
  · rcases h with rfl | rfl
    all_goals
      go_enter Tryd.func46, Tryd.ntmps46
      go_wp2
      go_ret
      exact ⟨rfl, rfl⟩
  · have d1 : (k == 1) = false := by simp; omega
    have d3 : (k == 12) = false := by simp; omega
    go_enter Tryd.func46, Tryd.ntmps46
    go_wp2
    go_ret
    exact ⟨by simp [pidD]; omega, rfl⟩
end Go.Proofs.YtfmcngchcalcmaaDoor
