/-
The document's own Right, Put and Text of controls.
The document's own look at a frame: which kinds have a number, which information; what is wrong with one.
-/
import Derived.Test.YtadhiknmkiogjaaDoorCtlBase
import Derived.Test.YtadhiknmkiogjaaDoorMix11
import Derived.Test.YtadhiknmkiogjaaDoorMix05
namespace Go.Proofs.YtadhiknmkiogjaaDoor
open Go.RowKit
set_option maxRecDepth 20000
end Go.Proofs.YtadhiknmkiogjaaDoor
namespace Go.Proofs.YtadhiknmkiogjaaDoor
open Go.RowKit Go.Sort
set_option maxRecDepth 20000
theorem rhaspid_any (k : Int) (w : World) : Calls Tryd.prog 37 #[.int .i64 k] w fun e w' => e = .returned (.bool (pidD k)) ∧ w' = w := by
  by_cases h : k = 1
  · subst h
    go_enter Tryd.func37, Tryd.ntmps37
    go_wp2
    go_ret
    exact ⟨rfl, rfl⟩
  · have d1 : (k == 1) = false := by simpa using h
    go_enter Tryd.func37, Tryd.ntmps37
    go_wp2
    go_ret
    exact ⟨by simp [pidD, h]; rfl, rfl⟩
theorem info_doc (k : Int) : infoC k = (decide (k = 1) || (decide (11 ≤ k) && decide (k ≤ 14))) := by
  unfold infoC
  rw [Bool.eq_iff_iff]
  simp only [Bool.or_eq_true, Bool.and_eq_true, decide_eq_true_eq]
  omega
theorem rhasinfo_any (k : Int) (w : World) : Calls Tryd.prog 56 #[.int .i64 k] w fun e w' => e = .returned (.bool (infoC k)) ∧ w' = w := by
  rw [info_doc]
  by_cases h : k = 1
  · subst h
    go_enter Tryd.func56, Tryd.ntmps56
    go_wp2
    go_ret
    exact ⟨rfl, rfl⟩
  · have d1 : (k == 1) = false := by simpa using h
    have e1 : decide (k = 1) = false := decide_eq_false h
    by_cases h2 : 11 ≤ k
    · have d2 : decide (11 ≤ k) = true := decide_eq_true h2
      by_cases h3 : k ≤ 14
      · have d3 : decide (k ≤ 14) = true := decide_eq_true h3
        go_enter Tryd.func56, Tryd.ntmps56
        go_wp2
        go_ret
        exact ⟨by first | rfl | (rw [e1, d2, d3]; rfl), rfl⟩
      · have d3 : decide (k ≤ 14) = false := decide_eq_false h3
        go_enter Tryd.func56, Tryd.ntmps56
        go_wp2
        go_ret
        exact ⟨by first | rfl | (rw [e1, d2, d3]; rfl), rfl⟩
    · have d2 : decide (11 ≤ k) = false := decide_eq_false h2
      go_enter Tryd.func56, Tryd.ntmps56
      go_wp2
      go_ret
      exact ⟨by first | rfl | (rw [e1, d2]; rfl), rfl⟩
set_option maxHeartbeats 1000000 in
theorem rinfo_any (wa : Option Addr) (wn wc : Nat) (k nr ns : Int) (pf : Bool) (pid : Int) (info : ByteArray) (w : World) :
    Calls Tryd.prog 38 #[.agg #[.slice wa wn wc, .int .i64 k, .int .i64 nr, .int .i64 ns, .bool pf, .int .i64 pid, .string info]] w fun e w' => e = .returned (.int .i64 (infE k info.size : Nat)) ∧ Below w.heap.size w w' := by
  unfold infE
  by_cases h0 : info.size = 0
  · rw [if_pos h0]
    obtain rfl := txt_none info h0
    have HB0 := Lib.hid ((Below.refl _ w).alloc (Nat.le_refl _) (.cells #[.slice wa wn wc, .int .i64 k, .int .i64 nr, .int .i64 ns, .bool pf, .int .i64 pid, .string ⟨#[]⟩] 73))
    go_enter Tryd.func38, Tryd.ntmps38
    go_wp2_with fail
    go_ret
    exact ⟨rfl, HB0.out⟩
  · rw [if_neg h0]
    have HB0 := Lib.hid ((Below.refl _ w).alloc (Nat.le_refl _) (.cells #[.slice wa wn wc, .int .i64 k, .int .i64 nr, .int .i64 ns, .bool pf, .int .i64 pid, .string info] 73))
    have hi := fun W => rhasinfo_any k W
    have he := txt_some info h0
    cases h : infoC k
    · rw [h] at hi
      have HI := Lib.hid hi
      clear hi h
      go_enter Tryd.func38, Tryd.ntmps38
      go_wp2_with (go_at_call 56; (with_reducible refine (HI.out _).mono ?_); rintro e w1 ⟨rfl, rfl⟩)
      go_ret
      exact ⟨rfl, HB0.out⟩
    · rw [h] at hi
      have HI := Lib.hid hi
      clear hi h
      by_cases h2 : 256 < info.size
      · have d2 : decide ((256 : Int) < (info.size : Int)) = true := decide_eq_true (by omega)
        rw [if_pos rfl, if_pos h2]
        go_enter Tryd.func38, Tryd.ntmps38
        go_wp2_with (go_at_call 56; (with_reducible refine (HI.out _).mono ?_); rintro e w1 ⟨rfl, rfl⟩)
        go_ret
        exact ⟨rfl, HB0.out⟩
      · have d2 : decide ((256 : Int) < (info.size : Int)) = false := decide_eq_false (by omega)
        rw [if_pos rfl, if_neg h2]
        go_enter Tryd.func38, Tryd.ntmps38
        go_wp2_with (go_at_call 56; (with_reducible refine (HI.out _).mono ?_); rintro e w1 ⟨rfl, rfl⟩)
        go_ret
        exact ⟨rfl, HB0.out⟩
end Go.Proofs.YtadhiknmkiogjaaDoor
