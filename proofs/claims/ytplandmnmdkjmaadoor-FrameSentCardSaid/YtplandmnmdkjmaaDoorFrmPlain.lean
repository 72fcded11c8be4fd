/-
Frames as plain facts: what is wrong with one.
-/
import Derived.Test.YtplandmnmdkjmaaDoorPathBase
import Derived.Test.YtplandmnmdkjmaaDoorCtlBase
namespace Go.Proofs.YtplandmnmdkjmaaDoor
open Go.RowKit Go.Sort
set_option maxRecDepth 20000
/-- the protocol's number is right -/
def pidOk (k pid : Int) : Bool := if pidD k then decide (0 ≤ pid) && decide (pid ≤ 255) else decide (pid = 0)
/-- what is wrong with information of n bytes -/
def infE (k : Int) (n : Nat) : Nat := if n = 0 then 0 else if infoC k then (if 256 < n then 5 else 0) else 2
/-- what is wrong with a frame -/
def wrongF (L : List Ent) (k nr ns : Int) (wide : Bool) (pid : Int) (n : Nat) : Nat :=
  if rightP L then (if rightC k nr ns wide && pidOk k pid then infE k n else 1) else 11
theorem infE_le (k : Int) (n : Nat) : infE k n ≤ 5 := by
  unfold infE
  split
  · omega
  · split
    · split <;> omega
    · omega
theorem wrong_path {L : List Ent} {k nr ns : Int} {wide : Bool} {pid : Int} {n : Nat} (h : rightP L = false) : wrongF L k nr ns wide pid n = 11 := by unfold wrongF; rw [h]; rfl
theorem wrong_arg {L : List Ent} {k nr ns : Int} {wide : Bool} {pid : Int} {n : Nat} (h : rightP L = true) (h2 : (rightC k nr ns wide && pidOk k pid) = false) : wrongF L k nr ns wide pid n = 1 := by unfold wrongF; rw [h, h2]; rfl
theorem wrong_info {L : List Ent} {k nr ns : Int} {wide : Bool} {pid : Int} {n : Nat} (h : rightP L = true) (h2 : (rightC k nr ns wide && pidOk k pid) = true) : wrongF L k nr ns wide pid n = infE k n := by unfold wrongF; rw [h, h2]; rfl
/-- of a right frame -/
theorem right_frame {L : List Ent} {k nr ns : Int} {wide : Bool} {pid : Int} {n : Nat} (h : wrongF L k nr ns wide pid n = 0) : rightP L = true ∧ rightC k nr ns wide = true ∧ pidOk k pid = true ∧ infE k n = 0 := by
  unfold wrongF at h
  cases h1 : rightP L
  · rw [h1] at h; simp at h
  · cases h2 : rightC k nr ns wide
    · rw [h1, h2] at h; simp at h
    · cases h3 : pidOk k pid
      · rw [h1, h2, h3] at h; simp at h
      · rw [h1, h2, h3] at h
        exact ⟨rfl, rfl, rfl, by simpa using h⟩
theorem inf_facts {k : Int} {n : Nat} (h : infE k n = 0) : n ≤ 256 ∧ (n ≠ 0 → infoC k = true) := by
  unfold infE at h
  by_cases h0 : n = 0
  · exact ⟨by omega, fun q => absurd h0 q⟩
  · rw [if_neg h0] at h
    cases h1 : infoC k
    · rw [h1] at h; simp at h
    · rw [h1] at h
      refine ⟨?_, fun _ => rfl⟩
      by_cases h2 : 256 < n
      · rw [if_pos rfl, if_pos h2] at h; omega
      · omega
theorem pid_facts {k pid : Int} (h : pidOk k pid = true) : ∃ P : Nat, pid = P ∧ P < 256 ∧ (pidD k = false → P = 0) := by
  unfold pidOk at h
  cases h1 : pidD k
  · rw [h1] at h
    have e : pid = 0 := by simpa using h
    exact ⟨0, e, by omega, fun _ => rfl⟩
  · rw [h1] at h
    have e : 0 ≤ pid ∧ pid ≤ 255 := by simpa using h
    exact ⟨pid.toNat, by omega, by omega, fun q => by cases q⟩
end Go.Proofs.YtplandmnmdkjmaaDoor
