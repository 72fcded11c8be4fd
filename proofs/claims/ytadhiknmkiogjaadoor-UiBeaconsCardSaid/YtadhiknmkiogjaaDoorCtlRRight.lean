/-
The document's own Right, Put and Text of controls.
-/
import Derived.Test.YtadhiknmkiogjaaDoorMix17
namespace Go.Proofs.YtadhiknmkiogjaaDoor
open Go.RowKit
set_option maxRecDepth 20000
set_option maxHeartbeats 1000000 in
theorem rright6_false (k nr ns : Int) (pf : Bool) (w : World) :
    Calls Tryd.prog 36 #[.agg #[.int .i64 k, .int .i64 nr, .int .i64 ns, .bool pf], .bool false] w fun e w' => e = .returned (.bool (rightC k nr ns false)) ∧ Below w.heap.size w w' := by
  have hb0 := Lib.hid ((Below.refl _ w).alloc (Nat.le_refl _) (.cells #[.int .i64 k, .int .i64 nr, .int .i64 ns, .bool pf] 71))
  have hi := rightC_iff k nr ns false
  rw [show modD false = 8 from rfl] at hi
  generalize rightC k nr ns false = R at *
  have hno : ¬ (1 ≤ k ∧ k ≤ 14 ∧ 0 ≤ nr ∧ 0 ≤ ns ∧ nr < 8 ∧ ns < 8 ∧ (k = 1 ∨ ns = 0) ∧ (k ≤ 5 ∨ nr = 0)) → R = false := fun h => Bool.eq_false_iff.2 fun e => h (hi.1 e)
  have hye := hi.2
  clear hi
  by_cases a0 : k < 1
  · have d0 : decide (k < 1) = true := decide_eq_true a0
    obtain rfl := hno (by omega)
    clear hno hye
    go_enter Tryd.func36, Tryd.ntmps36
    go_wp2
    go_ret
    exact ⟨rfl, hb0.out⟩
  have d0 : decide (k < 1) = false := decide_eq_false a0
  by_cases a1 : 14 < k
  · have d1 : decide (14 < k) = true := decide_eq_true a1
    obtain rfl := hno (by omega)
    clear hno hye
    go_enter Tryd.func36, Tryd.ntmps36
    go_wp2
    go_ret
    exact ⟨rfl, hb0.out⟩
  have d1 : decide (14 < k) = false := decide_eq_false a1
  by_cases a2 : ns < 0
  · have d2 : decide (ns < 0) = true := decide_eq_true a2
    obtain rfl := hno (by omega)
    clear hno hye
    go_enter Tryd.func36, Tryd.ntmps36
    go_wp2
    go_ret
    exact ⟨rfl, hb0.out⟩
  have d2 : decide (ns < 0) = false := decide_eq_false a2
  by_cases a3 : nr < 0
  · have d3 : decide (nr < 0) = true := decide_eq_true a3
    obtain rfl := hno (by omega)
    clear hno hye
    go_enter Tryd.func36, Tryd.ntmps36
    go_wp2
    go_ret
    exact ⟨rfl, hb0.out⟩
  have d3 : decide (nr < 0) = false := decide_eq_false a3
  by_cases a4 : 8 ≤ ns
  · have d4 : decide (8 ≤ ns) = true := decide_eq_true a4
    obtain rfl := hno (by omega)
    clear hno hye
    go_enter Tryd.func36, Tryd.ntmps36
    go_wp2
    go_ret
    exact ⟨rfl, hb0.out⟩
  have d4 : decide (8 ≤ ns) = false := decide_eq_false a4
  by_cases a5 : 8 ≤ nr
  · have d5 : decide (8 ≤ nr) = true := decide_eq_true a5
    obtain rfl := hno (by omega)
    clear hno hye
    go_enter Tryd.func36, Tryd.ntmps36
    go_wp2
    go_ret
    exact ⟨rfl, hb0.out⟩
  have d5 : decide (8 ≤ nr) = false := decide_eq_false a5
  by_cases b1 : k = 1
  · have e1 : (k == 1) = true := by simpa using b1
    have e2 : decide (k ≤ 5) = true := decide_eq_true (by omega)
    obtain rfl := hye (by omega)
    clear hno hye b1
    go_enter Tryd.func36, Tryd.ntmps36
    go_wp2
    go_ret
    exact ⟨rfl, hb0.out⟩
  have e1 : (k == 1) = false := by simpa using b1
  by_cases b2 : ns = 0
  · have e2 : (ns == 0) = true := by simpa using b2
    by_cases b3 : k ≤ 5
    · have e3 : decide (k ≤ 5) = true := decide_eq_true b3
      obtain rfl := hye (by omega)
      clear hno hye b2
      go_enter Tryd.func36, Tryd.ntmps36
      go_wp2
      go_ret
      exact ⟨rfl, hb0.out⟩
    · have e3 : decide (k ≤ 5) = false := decide_eq_false b3
      by_cases b4 : nr = 0
      · have e4 : (nr == 0) = true := by simpa using b4
        obtain rfl := hye (by omega)
        clear hno hye b2 b4
        go_enter Tryd.func36, Tryd.ntmps36
        go_wp2
        go_ret
        exact ⟨rfl, hb0.out⟩
      · have e4 : (nr == 0) = false := by simpa using b4
        obtain rfl := hno (by omega)
        clear hno hye b2
        go_enter Tryd.func36, Tryd.ntmps36
        go_wp2
        go_ret
        exact ⟨rfl, hb0.out⟩
  · have e2 : (ns == 0) = false := by simpa using b2
    obtain rfl := hno (by omega)
    clear hno hye
    go_enter Tryd.func36, Tryd.ntmps36
    go_wp2
    go_ret
    exact ⟨rfl, hb0.out⟩
set_option maxHeartbeats 1000000 in
theorem rright6_true (k nr ns : Int) (pf : Bool) (w : World) :
    Calls Tryd.prog 36 #[.agg #[.int .i64 k, .int .i64 nr, .int .i64 ns, .bool pf], .bool true] w fun e w' => e = .returned (.bool (rightC k nr ns true)) ∧ Below w.heap.size w w' := by
  have hb0 := Lib.hid ((Below.refl _ w).alloc (Nat.le_refl _) (.cells #[.int .i64 k, .int .i64 nr, .int .i64 ns, .bool pf] 71))
  have hi := rightC_iff k nr ns true
  rw [show modD true = 128 from rfl] at hi
  generalize rightC k nr ns true = R at *
  have hno : ¬ (1 ≤ k ∧ k ≤ 14 ∧ 0 ≤ nr ∧ 0 ≤ ns ∧ nr < 128 ∧ ns < 128 ∧ (k = 1 ∨ ns = 0) ∧ (k ≤ 5 ∨ nr = 0)) → R = false := fun h => Bool.eq_false_iff.2 fun e => h (hi.1 e)
  have hye := hi.2
  clear hi
  by_cases a0 : k < 1
  · have d0 : decide (k < 1) = true := decide_eq_true a0
    obtain rfl := hno (by omega)
    clear hno hye
    go_enter Tryd.func36, Tryd.ntmps36
    go_wp2
    go_ret
    exact ⟨rfl, hb0.out⟩
  have d0 : decide (k < 1) = false := decide_eq_false a0
  by_cases a1 : 14 < k
  · have d1 : decide (14 < k) = true := decide_eq_true a1
    obtain rfl := hno (by omega)
    clear hno hye
    go_enter Tryd.func36, Tryd.ntmps36
    go_wp2
    go_ret
    exact ⟨rfl, hb0.out⟩
  have d1 : decide (14 < k) = false := decide_eq_false a1
  by_cases a2 : ns < 0
  · have d2 : decide (ns < 0) = true := decide_eq_true a2
    obtain rfl := hno (by omega)
    clear hno hye
    go_enter Tryd.func36, Tryd.ntmps36
    go_wp2
    go_ret
    exact ⟨rfl, hb0.out⟩
  have d2 : decide (ns < 0) = false := decide_eq_false a2
  by_cases a3 : nr < 0
  · have d3 : decide (nr < 0) = true := decide_eq_true a3
    obtain rfl := hno (by omega)
    clear hno hye
    go_enter Tryd.func36, Tryd.ntmps36
    go_wp2
    go_ret
    exact ⟨rfl, hb0.out⟩
  have d3 : decide (nr < 0) = false := decide_eq_false a3
  by_cases a4 : 128 ≤ ns
  · have d4 : decide (128 ≤ ns) = true := decide_eq_true a4
    obtain rfl := hno (by omega)
    clear hno hye
    go_enter Tryd.func36, Tryd.ntmps36
    go_wp2
    go_ret
    exact ⟨rfl, hb0.out⟩
  have d4 : decide (128 ≤ ns) = false := decide_eq_false a4
  by_cases a5 : 128 ≤ nr
  · have d5 : decide (128 ≤ nr) = true := decide_eq_true a5
    obtain rfl := hno (by omega)
    clear hno hye
    go_enter Tryd.func36, Tryd.ntmps36
    go_wp2
    go_ret
    exact ⟨rfl, hb0.out⟩
  have d5 : decide (128 ≤ nr) = false := decide_eq_false a5
  by_cases b1 : k = 1
  · have e1 : (k == 1) = true := by simpa using b1
    have e2 : decide (k ≤ 5) = true := decide_eq_true (by omega)
    obtain rfl := hye (by omega)
    clear hno hye b1
    go_enter Tryd.func36, Tryd.ntmps36
    go_wp2
    go_ret
    exact ⟨rfl, hb0.out⟩
  have e1 : (k == 1) = false := by simpa using b1
  by_cases b2 : ns = 0
  · have e2 : (ns == 0) = true := by simpa using b2
    by_cases b3 : k ≤ 5
    · have e3 : decide (k ≤ 5) = true := decide_eq_true b3
      obtain rfl := hye (by omega)
      clear hno hye b2
      go_enter Tryd.func36, Tryd.ntmps36
      go_wp2
      go_ret
      exact ⟨rfl, hb0.out⟩
    · have e3 : decide (k ≤ 5) = false := decide_eq_false b3
      by_cases b4 : nr = 0
      · have e4 : (nr == 0) = true := by simpa using b4
        obtain rfl := hye (by omega)
        clear hno hye b2 b4
        go_enter Tryd.func36, Tryd.ntmps36
        go_wp2
        go_ret
        exact ⟨rfl, hb0.out⟩
      · have e4 : (nr == 0) = false := by simpa using b4
        obtain rfl := hno (by omega)
        clear hno hye b2
        go_enter Tryd.func36, Tryd.ntmps36
        go_wp2
        go_ret
        exact ⟨rfl, hb0.out⟩
  · have e2 : (ns == 0) = false := by simpa using b2
    obtain rfl := hno (by omega)
    clear hno hye
    go_enter Tryd.func36, Tryd.ntmps36
    go_wp2
    go_ret
    exact ⟨rfl, hb0.out⟩
theorem rright6_any (k nr ns : Int) (pf wide : Bool) (w : World) :
    Calls Tryd.prog 36 #[.agg #[.int .i64 k, .int .i64 nr, .int .i64 ns, .bool pf], .bool wide] w fun e w' => e = .returned (.bool (rightC k nr ns wide)) ∧ Below w.heap.size w w' := by
  cases wide
  · exact rright6_false k nr ns pf w
  · exact rright6_true k nr ns pf w
end Go.Proofs.YtadhiknmkiogjaaDoor
