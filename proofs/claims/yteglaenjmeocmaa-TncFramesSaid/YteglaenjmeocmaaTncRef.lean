/-
Walks of the document's own side of tnc: Plain, Right, Apply.
-/
import Derived.Test.YteglaenjmeocmaaHeap
import Derived.BigRegion
namespace Go.Proofs.Yteglaenjmeocmaa
open Go.RowKit
/-- parameters as numbers -/
structure Par where
  a : Int
  b : Int
  c : Int
  d : Int
  f : Bool
/-- as the code has them -/
def Par.v (p : Par) : Value := .agg #[.int .i64 p.a, .int .i64 p.b, .int .i64 p.c, .int .i64 p.d, .bool p.f]
def okN (n : Int) : Bool := decide (0 ≤ n) && decide (n ≤ 255)
def Par.ok (p : Par) : Bool := okN p.a && okN p.b && okN p.c && okN p.d
theorem plain3 (a b c d : Int) (f : Bool) (w : World) : Calls Try.prog 9 #[.agg #[.int .i64 a, .int .i64 b, .int .i64 c, .int .i64 d, .bool f]] w fun e w' => e = .returned (.agg #[.int .i64 a, .int .i64 b, .int .i64 c, .int .i64 d, .bool f]) ∧ Below w.heap.size w w' := by
  go_enter Try.func9, Try.ntmps9
  go_wp2
  exact bodyPost_ret (v := .agg #[.int .i64 a, .int .i64 b, .int .i64 c, .int .i64 d, .bool f]) (by simp [results, Try.results9, go_sem]) rfl ⟨rfl, ((Below.refl _ w).alloc (Nat.le_refl _) _).alloc (by simp) _⟩
theorem rright_yes (a b c d : Int) (f : Bool) (w : World) (ha : 0 ≤ a ∧ a ≤ 255) (hb : 0 ≤ b ∧ b ≤ 255) (hc : 0 ≤ c ∧ c ≤ 255) (hd : 0 ≤ d ∧ d ≤ 255) :
    Calls Try.prog 11 #[.agg #[.int .i64 a, .int .i64 b, .int .i64 c, .int .i64 d, .bool f]] w fun e w' => e = .returned (.bool true) ∧ Below w.heap.size w w' := by
  obtain ⟨a1, a2⟩ := ha
  obtain ⟨b1, b2⟩ := hb
  obtain ⟨c1, c2⟩ := hc
  obtain ⟨d1, d2⟩ := hd
  go_enter Try.func11, Try.ntmps11
  go_wp2
  refine wp_loop_rounds 5 ?_
  rw [rounds_succ]
  go_wp2
  rw [rounds_succ]
  go_wp2
  rw [rounds_succ]
  go_wp2
  rw [rounds_succ]
  go_wp2
  rw [rounds_succ]
  go_wp2
  go_ret
  exact ⟨rfl, (Below.refl _ w).alloc (Nat.le_refl _) _⟩
theorem rright_no0 (a b c d : Int) (f : Bool) (w : World) (h : a < 0 ∨ 255 < a) :
    Calls Try.prog 11 #[.agg #[.int .i64 a, .int .i64 b, .int .i64 c, .int .i64 d, .bool f]] w fun e w' => e = .returned (.bool false) ∧ Below w.heap.size w w' := by
  rcases h with h | h
  all_goals
    go_enter Try.func11, Try.ntmps11
    go_wp2
    refine wp_loop_rounds 1 ?_
    rw [rounds_succ]
    go_wp2
    go_ret
    exact ⟨rfl, (Below.refl _ w).alloc (Nat.le_refl _) _⟩
theorem rright_no1 (a b c d : Int) (f : Bool) (w : World) (ha : 0 ≤ a ∧ a ≤ 255) (h : b < 0 ∨ 255 < b) :
    Calls Try.prog 11 #[.agg #[.int .i64 a, .int .i64 b, .int .i64 c, .int .i64 d, .bool f]] w fun e w' => e = .returned (.bool false) ∧ Below w.heap.size w w' := by
  obtain ⟨a1, a2⟩ := ha
  rcases h with h | h
  all_goals
    go_enter Try.func11, Try.ntmps11
    go_wp2
    refine wp_loop_rounds 2 ?_
    rw [rounds_succ]
    go_wp2
    rw [rounds_succ]
    go_wp2
    go_ret
    exact ⟨rfl, (Below.refl _ w).alloc (Nat.le_refl _) _⟩
theorem rright_no2 (a b c d : Int) (f : Bool) (w : World) (ha : 0 ≤ a ∧ a ≤ 255) (hb : 0 ≤ b ∧ b ≤ 255) (h : c < 0 ∨ 255 < c) :
    Calls Try.prog 11 #[.agg #[.int .i64 a, .int .i64 b, .int .i64 c, .int .i64 d, .bool f]] w fun e w' => e = .returned (.bool false) ∧ Below w.heap.size w w' := by
  obtain ⟨a1, a2⟩ := ha
  obtain ⟨b1, b2⟩ := hb
  rcases h with h | h
  all_goals
    go_enter Try.func11, Try.ntmps11
    go_wp2
    refine wp_loop_rounds 3 ?_
    rw [rounds_succ]
    go_wp2
    rw [rounds_succ]
    go_wp2
    rw [rounds_succ]
    go_wp2
    go_ret
    exact ⟨rfl, (Below.refl _ w).alloc (Nat.le_refl _) _⟩
theorem rright_no3 (a b c d : Int) (f : Bool) (w : World) (ha : 0 ≤ a ∧ a ≤ 255) (hb : 0 ≤ b ∧ b ≤ 255) (hc : 0 ≤ c ∧ c ≤ 255) (h : d < 0 ∨ 255 < d) :
    Calls Try.prog 11 #[.agg #[.int .i64 a, .int .i64 b, .int .i64 c, .int .i64 d, .bool f]] w fun e w' => e = .returned (.bool false) ∧ Below w.heap.size w w' := by
  obtain ⟨a1, a2⟩ := ha
  obtain ⟨b1, b2⟩ := hb
  obtain ⟨c1, c2⟩ := hc
  rcases h with h | h
  all_goals
    go_enter Try.func11, Try.ntmps11
    go_wp2
    refine wp_loop_rounds 4 ?_
    rw [rounds_succ]
    go_wp2
    rw [rounds_succ]
    go_wp2
    rw [rounds_succ]
    go_wp2
    rw [rounds_succ]
    go_wp2
    go_ret
    exact ⟨rfl, (Below.refl _ w).alloc (Nat.le_refl _) _⟩
theorem okN_iff (n : Int) : okN n = true ↔ 0 ≤ n ∧ n ≤ 255 := by simp [okN]
theorem okN_no (n : Int) : okN n = false ↔ n < 0 ∨ 255 < n := by
  unfold okN
  by_cases h1 : 0 ≤ n <;> by_cases h2 : n ≤ 255 <;> simp [h1, h2] <;> omega
theorem rright_any (p : Par) (w : World) : Calls Try.prog 11 #[p.v] w fun e w' => e = .returned (.bool p.ok) ∧ Below w.heap.size w w' := by
  obtain ⟨a, b, c, d, f⟩ := p
  show Calls Try.prog 11 #[.agg #[.int .i64 a, .int .i64 b, .int .i64 c, .int .i64 d, .bool f]] w _
  simp only [Par.ok]
  cases ha : okN a
  · exact rright_no0 a b c d f w ((okN_no a).1 ha)
  cases hb : okN b
  · exact rright_no1 a b c d f w ((okN_iff a).1 ha) ((okN_no b).1 hb)
  cases hc : okN c
  · exact rright_no2 a b c d f w ((okN_iff a).1 ha) ((okN_iff b).1 hb) ((okN_no c).1 hc)
  cases hd : okN d
  · exact rright_no3 a b c d f w ((okN_iff a).1 ha) ((okN_iff b).1 hb) ((okN_iff c).1 hc) ((okN_no d).1 hd)
  · exact rright_yes a b c d f w ((okN_iff a).1 ha) ((okN_iff b).1 hb) ((okN_iff c).1 hc) ((okN_iff d).1 hd)
theorem plain_par (p : Par) (w : World) : Calls Try.prog 9 #[p.v] w fun e w' => e = .returned p.v ∧ Below w.heap.size w w' := plain3 p.a p.b p.c p.d p.f w
/-- what a frame makes of parameters; the error's number -/
def appD (p : Par) (port cmd : Int) (s : List UInt8) : Par × Int :=
  if p.ok = false then (p, 1)
  else if port < 0 ∨ 15 < port ∨ cmd < 0 ∨ 15 < cmd ∨ (cmd = 15 ∧ port ≠ 15) then (p, 2)
  else if 7 ≤ cmd ∧ cmd ≤ 14 then (p, 7)
  else if cmd = 0 ∨ cmd = 6 ∨ cmd = 15 then (p, 0)
  else match s with
    | [] => (p, 4)
    | x :: _ => if cmd = 5 then ({ p with f := decide (x ≠ 0) }, 0) else if cmd = 1 then ({ p with a := (x.toNat : Nat) }, 0) else if cmd = 2 then ({ p with b := (x.toNat : Nat) }, 0) else if cmd = 3 then ({ p with c := (x.toNat : Nat) }, 0) else ({ p with d := (x.toNat : Nat) }, 0)
theorem below_cells {W w1 : World} (h : Below W.heap.size W w1) : (∀ b o, b < W.heap.size → w1.cell? ⟨b, o, none⟩ = W.cell? ⟨b, o, none⟩) ∧ (∀ b o, b < W.heap.size → w1.frozen? ⟨b, o, none⟩ = W.frozen? ⟨b, o, none⟩) :=
  ⟨fun b o hb => h.cell (p := ⟨b, o, none⟩) hb, fun b o hb => h.frozen (p := ⟨b, o, none⟩) hb⟩
theorem stored5 {W : World} {n : Nat} {x0 x1 x2 x3 x4 : Value} (u0 u1 u2 u3 u4 : Value) (r0 : W.cell? ⟨n, 0, none⟩ = some x0) (r1 : W.cell? ⟨n, 1, none⟩ = some x1) (r2 : W.cell? ⟨n, 2, none⟩ = some x2) (r3 : W.cell? ⟨n, 3, none⟩ = some x3) (r4 : W.cell? ⟨n, 4, none⟩ = some x4) :
    (((((W.setCell ⟨n, 0, none⟩ u0).setCell ⟨n, 1, none⟩ u1).setCell ⟨n, 2, none⟩ u2).setCell ⟨n, 3, none⟩ u3).setCell ⟨n, 4, none⟩ u4).cell? ⟨n, 0, none⟩ = some u0 ∧
    (((((W.setCell ⟨n, 0, none⟩ u0).setCell ⟨n, 1, none⟩ u1).setCell ⟨n, 2, none⟩ u2).setCell ⟨n, 3, none⟩ u3).setCell ⟨n, 4, none⟩ u4).cell? ⟨n, 1, none⟩ = some u1 ∧
    (((((W.setCell ⟨n, 0, none⟩ u0).setCell ⟨n, 1, none⟩ u1).setCell ⟨n, 2, none⟩ u2).setCell ⟨n, 3, none⟩ u3).setCell ⟨n, 4, none⟩ u4).cell? ⟨n, 2, none⟩ = some u2 ∧
    (((((W.setCell ⟨n, 0, none⟩ u0).setCell ⟨n, 1, none⟩ u1).setCell ⟨n, 2, none⟩ u2).setCell ⟨n, 3, none⟩ u3).setCell ⟨n, 4, none⟩ u4).cell? ⟨n, 3, none⟩ = some u3 ∧
    (((((W.setCell ⟨n, 0, none⟩ u0).setCell ⟨n, 1, none⟩ u1).setCell ⟨n, 2, none⟩ u2).setCell ⟨n, 3, none⟩ u3).setCell ⟨n, 4, none⟩ u4).cell? ⟨n, 4, none⟩ = some u4 := by
  refine ⟨?_, ?_, ?_, ?_, ?_⟩
  · rw [set_off _ _ _ _ _ (by omega), set_off _ _ _ _ _ (by omega), set_off _ _ _ _ _ (by omega), set_off _ _ _ _ _ (by omega), set_here r0]
  · rw [set_off _ _ _ _ _ (by omega), set_off _ _ _ _ _ (by omega), set_off _ _ _ _ _ (by omega), set_here (by rw [set_off _ _ _ _ _ (by omega)]; exact r1)]
  · rw [set_off _ _ _ _ _ (by omega), set_off _ _ _ _ _ (by omega), set_here (by rw [set_off _ _ _ _ _ (by omega), set_off _ _ _ _ _ (by omega)]; exact r2)]
  · rw [set_off _ _ _ _ _ (by omega), set_here (by rw [set_off _ _ _ _ _ (by omega), set_off _ _ _ _ _ (by omega), set_off _ _ _ _ _ (by omega)]; exact r3)]
  · rw [set_here (by rw [set_off _ _ _ _ _ (by omega), set_off _ _ _ _ _ (by omega), set_off _ _ _ _ _ (by omega), set_off _ _ _ _ _ (by omega)]; exact r4)]
theorem set5_below {B n : Nat} {a W : World} (h : Below B a W) (hn : B ≤ n) (u0 u1 u2 u3 u4 : Value) : Below B a (((((W.setCell ⟨n, 0, none⟩ u0).setCell ⟨n, 1, none⟩ u1).setCell ⟨n, 2, none⟩ u2).setCell ⟨n, 3, none⟩ u3).setCell ⟨n, 4, none⟩ u4) :=
  ((((h.setCell hn _).setCell hn _).setCell hn _).setCell hn _).setCell hn _
theorem three_below {a w1 : World} {o1 o2 o3 : Obj} (h : Below (((a.alloc o1).alloc o2).alloc o3).heap.size (((a.alloc o1).alloc o2).alloc o3) w1) : Below a.heap.size a w1 :=
  ((((Below.refl _ a).alloc (Nat.le_refl _) o1).alloc (by simp) o2).alloc (by simp; omega) o3).trans (h.mono (by simp; omega))
end Go.Proofs.Yteglaenjmeocmaa
