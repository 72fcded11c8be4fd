/-
Parameters; the document's own Plain and Right.
-/
import Derived.Test.YtofodlaebhjneaaMemK
import Derived.BigRegion
namespace Go.Proofs.Ytofodlaebhjneaa
open Go.RowKit
/-- parameters as numbers -/
structure Par where
  a : Int
  b : Int
  c : Int
  d : Int
  f : Bool
/-- as the code has them -/
def Par.v (p : Par) : Value := .agg #[.int .i64 p.a, .int .i64 p.b, .int .i64 p.c, .int .i64 p.d, .bool p.f]
def okN (n : Int) : Bool := decide (0 ≤ n) && decide (n ≤ 255)
def Par.ok (p : Par) : Bool := okN p.a && okN p.b && okN p.c && okN p.d
theorem plain3 (a b c d : Int) (f : Bool) (w : World) : Calls Try.prog 10 #[.agg #[.int .i64 a, .int .i64 b, .int .i64 c, .int .i64 d, .bool f]] w fun e w' => e = .returned (.agg #[.int .i64 a, .int .i64 b, .int .i64 c, .int .i64 d, .bool f]) ∧ Below w.heap.size w w' := by
  go_enter Try.func10, Try.ntmps10
  go_wp2
  exact bodyPost_ret (v := .agg #[.int .i64 a, .int .i64 b, .int .i64 c, .int .i64 d, .bool f]) (by simp [results, Try.results10, go_sem]) rfl ⟨rfl, ((Below.refl _ w).alloc (Nat.le_refl _) _).alloc (by simp) _⟩
theorem rright_yes (a b c d : Int) (f : Bool) (w : World) (ha : 0 ≤ a ∧ a ≤ 255) (hb : 0 ≤ b ∧ b ≤ 255) (hc : 0 ≤ c ∧ c ≤ 255) (hd : 0 ≤ d ∧ d ≤ 255) :
    Calls Try.prog 13 #[.agg #[.int .i64 a, .int .i64 b, .int .i64 c, .int .i64 d, .bool f]] w fun e w' => e = .returned (.bool true) ∧ Below w.heap.size w w' := by
  obtain ⟨a1, a2⟩ := ha
  obtain ⟨b1, b2⟩ := hb
  obtain ⟨c1, c2⟩ := hc
  obtain ⟨d1, d2⟩ := hd
  go_enter Try.func13, Try.ntmps13
  go_wp2
  refine wp_loop_rounds 5 ?_
  rw [rounds_succ]
  go_wp2
  rw [rounds_succ]
  go_wp2
  rw [rounds_succ]
  go_wp2
  rw [rounds_succ]
  go_wp2
  rw [rounds_succ]
  go_wp2
  go_ret
  exact ⟨rfl, (Below.refl _ w).alloc (Nat.le_refl _) _⟩
theorem rright_no0 (a b c d : Int) (f : Bool) (w : World) (h : a < 0 ∨ 255 < a) :
    Calls Try.prog 13 #[.agg #[.int .i64 a, .int .i64 b, .int .i64 c, .int .i64 d, .bool f]] w fun e w' => e = .returned (.bool false) ∧ Below w.heap.size w w' := by
  rcases h with h | h
  all_goals
    go_enter Try.func13, Try.ntmps13
    go_wp2
    refine wp_loop_rounds 1 ?_
    rw [rounds_succ]
    go_wp2
    go_ret
    exact ⟨rfl, (Below.refl _ w).alloc (Nat.le_refl _) _⟩
theorem rright_no1 (a b c d : Int) (f : Bool) (w : World) (ha : 0 ≤ a ∧ a ≤ 255) (h : b < 0 ∨ 255 < b) :
    Calls Try.prog 13 #[.agg #[.int .i64 a, .int .i64 b, .int .i64 c, .int .i64 d, .bool f]] w fun e w' => e = .returned (.bool false) ∧ Below w.heap.size w w' := by
  obtain ⟨a1, a2⟩ := ha
  rcases h with h | h
  all_goals
    go_enter Try.func13, Try.ntmps13
    go_wp2
    refine wp_loop_rounds 2 ?_
    rw [rounds_succ]
    go_wp2
    rw [rounds_succ]
    go_wp2
    go_ret
    exact ⟨rfl, (Below.refl _ w).alloc (Nat.le_refl _) _⟩
theorem rright_no2 (a b c d : Int) (f : Bool) (w : World) (ha : 0 ≤ a ∧ a ≤ 255) (hb : 0 ≤ b ∧ b ≤ 255) (h : c < 0 ∨ 255 < c) :
    Calls Try.prog 13 #[.agg #[.int .i64 a, .int .i64 b, .int .i64 c, .int .i64 d, .bool f]] w fun e w' => e = .returned (.bool false) ∧ Below w.heap.size w w' := by
  obtain ⟨a1, a2⟩ := ha
  obtain ⟨b1, b2⟩ := hb
  rcases h with h | h
  all_goals
    go_enter Try.func13, Try.ntmps13
    go_wp2
    refine wp_loop_rounds 3 ?_
    rw [rounds_succ]
    go_wp2
    rw [rounds_succ]
    go_wp2
    rw [rounds_succ]
    go_wp2
    go_ret
    exact ⟨rfl, (Below.refl _ w).alloc (Nat.le_refl _) _⟩
theorem rright_no3 (a b c d : Int) (f : Bool) (w : World) (ha : 0 ≤ a ∧ a ≤ 255) (hb : 0 ≤ b ∧ b ≤ 255) (hc : 0 ≤ c ∧ c ≤ 255) (h : d < 0 ∨ 255 < d) :
    Calls Try.prog 13 #[.agg #[.int .i64 a, .int .i64 b, .int .i64 c, .int .i64 d, .bool f]] w fun e w' => e = .returned (.bool false) ∧ Below w.heap.size w w' := by
  obtain ⟨a1, a2⟩ := ha
  obtain ⟨b1, b2⟩ := hb
  obtain ⟨c1, c2⟩ := hc
  rcases h with h | h
  all_goals
    go_enter Try.func13, Try.ntmps13
    go_wp2
    refine wp_loop_rounds 4 ?_
    rw [rounds_succ]
    go_wp2
    rw [rounds_succ]
    go_wp2
    rw [rounds_succ]
    go_wp2
    rw [rounds_succ]
    go_wp2
    go_ret
    exact ⟨rfl, (Below.refl _ w).alloc (Nat.le_refl _) _⟩
theorem okN_iff (n : Int) : okN n = true ↔ 0 ≤ n ∧ n ≤ 255 := by simp [okN]
theorem okN_no (n : Int) : okN n = false ↔ n < 0 ∨ 255 < n := by
  unfold okN
  by_cases h1 : 0 ≤ n <;> by_cases h2 : n ≤ 255 <;> simp [h1, h2] <;> omega
theorem rright_any (p : Par) (w : World) : Calls Try.prog 13 #[p.v] w fun e w' => e = .returned (.bool p.ok) ∧ Below w.heap.size w w' := by
  obtain ⟨a, b, c, d, f⟩ := p
  show Calls Try.prog 13 #[.agg #[.int .i64 a, .int .i64 b, .int .i64 c, .int .i64 d, .bool f]] w _
  simp only [Par.ok]
  cases ha : okN a
  · exact rright_no0 a b c d f w ((okN_no a).1 ha)
  cases hb : okN b
  · exact rright_no1 a b c d f w ((okN_iff a).1 ha) ((okN_no b).1 hb)
  cases hc : okN c
  · exact rright_no2 a b c d f w ((okN_iff a).1 ha) ((okN_iff b).1 hb) ((okN_no c).1 hc)
  cases hd : okN d
  · exact rright_no3 a b c d f w ((okN_iff a).1 ha) ((okN_iff b).1 hb) ((okN_iff c).1 hc) ((okN_no d).1 hd)
  · exact rright_yes a b c d f w ((okN_iff a).1 ha) ((okN_iff b).1 hb) ((okN_iff c).1 hc) ((okN_iff d).1 hd)
theorem plain_par (p : Par) (w : World) : Calls Try.prog 10 #[p.v] w fun e w' => e = .returned p.v ∧ Below w.heap.size w w' := plain3 p.a p.b p.c p.d p.f w
end Go.Proofs.Ytofodlaebhjneaa
