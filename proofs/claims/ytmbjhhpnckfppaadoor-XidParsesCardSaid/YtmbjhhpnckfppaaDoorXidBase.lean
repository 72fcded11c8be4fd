/-
What two stations agree on, as plain facts; its parameters in memory; the landed code's and the document's look at them.
-/
import Derived.Test.YtmbjhhpnckfppaaDoorMem
import Derived.BigQuiet
import Derived.Deep.QuietTactic
namespace Go.Proofs.YtmbjhhpnckfppaaDoor
open Go.RowKit
set_option maxRecDepth 20000
/-- within a range -/
def inD (n lo hi : Int) : Bool := decide (lo ≤ n) && decide (n ≤ hi)
theorem inD_yes {n lo hi : Int} (h : inD n lo hi = true) : lo ≤ n ∧ n ≤ hi := by simpa [inD] using h
/-- the greatest window -/
def mostD (a b : Bool) : Int := if a then (if b then 32 else 63) else if b then 4 else 7
/-- are they right -/
def rightX (a b : Bool) (n k t r : Int) : Bool := inD n 16 256 && (inD k 1 (mostD a b) && (inD t 4 255 && inD r 1 15))
theorem most_le (a b : Bool) : mostD a b ≤ 63 := by cases a <;> cases b <;> decide
theorem rightX_facts {a b : Bool} {n k t r : Int} (h : rightX a b n k t r = true) : 16 ≤ n ∧ n ≤ 256 ∧ 1 ≤ k ∧ k ≤ 63 ∧ 4 ≤ t ∧ t ≤ 255 ∧ 1 ≤ r ∧ r ≤ 15 := by
  unfold rightX at h
  simp only [Bool.and_eq_true] at h
  obtain ⟨h1, h2, h3, h4⟩ := h
  have := inD_yes h1
  have := inD_yes h2
  have := inD_yes h3
  have := inD_yes h4
  have := most_le a b
  omega
/-- six cells in a block -/
structure C6 (W : World) (m : Nat) (v0 v1 v2 v3 v4 v5 : Value) : Prop where
  k0 : KeepAt W m 0 v0
  k1 : KeepAt W m 1 v1
  k2 : KeepAt W m 2 v2
  k3 : KeepAt W m 3 v3
  k4 : KeepAt W m 4 v4
  k5 : KeepAt W m 5 v5
theorem C6.new (w : World) (m : Nat) (hm : m = w.heap.size) (v0 v1 v2 v3 v4 v5 : Value) (T : TypeId) : C6 (w.alloc (.cells #[v0, v1, v2, v3, v4, v5] T)) m v0 v1 v2 v3 v4 v5 := by
  subst hm
  have hl : w.heap.size < (w.alloc (.cells #[v0, v1, v2, v3, v4, v5] T)).heap.size := by simp
  exact ⟨⟨World.cell?_alloc_at _ _ _ _ rfl, World.frozen?_alloc_at _ _ _ _ rfl, hl⟩, ⟨World.cell?_alloc_at _ _ _ _ rfl, World.frozen?_alloc_at _ _ _ _ rfl, hl⟩, ⟨World.cell?_alloc_at _ _ _ _ rfl, World.frozen?_alloc_at _ _ _ _ rfl, hl⟩, ⟨World.cell?_alloc_at _ _ _ _ rfl, World.frozen?_alloc_at _ _ _ _ rfl, hl⟩, ⟨World.cell?_alloc_at _ _ _ _ rfl, World.frozen?_alloc_at _ _ _ _ rfl, hl⟩, ⟨World.cell?_alloc_at _ _ _ _ rfl, World.frozen?_alloc_at _ _ _ _ rfl, hl⟩⟩
theorem C6.block {W W' : World} {m : Nat} {v0 v1 v2 v3 v4 v5 : Value} (h : C6 W m v0 v1 v2 v3 v4 v5) (hb : W'.heap[m]? = W.heap[m]?) (hs : W.heap.size ≤ W'.heap.size) : C6 W' m v0 v1 v2 v3 v4 v5 :=
  ⟨h.k0.block hb hs, h.k1.block hb hs, h.k2.block hb hs, h.k3.block hb hs, h.k4.block hb hs, h.k5.block hb hs⟩
theorem C6.below {W W' : World} {m : Nat} {v0 v1 v2 v3 v4 v5 : Value} (h : C6 W m v0 v1 v2 v3 v4 v5) (hb : Below W.heap.size W W') : C6 W' m v0 v1 v2 v3 v4 v5 := h.block (hb.block m h.k0.lt) hb.size
theorem C6.drew {W : World} {m : Nat} {v0 v1 v2 v3 v4 v5 : Value} (h : C6 W m v0 v1 v2 v3 v4 v5) : C6 W.drew m v0 v1 v2 v3 v4 v5 := h.block rfl (Nat.le_refl _)
theorem C6.alloc {W : World} {m : Nat} {v0 v1 v2 v3 v4 v5 : Value} (h : C6 W m v0 v1 v2 v3 v4 v5) (x : Obj) : C6 (W.alloc x) m v0 v1 v2 v3 v4 v5 := h.below ((Below.refl _ W).alloc (Nat.le_refl _) _)
theorem C6.other {W : World} {m g p : Nat} {v0 v1 v2 v3 v4 v5 : Value} (h : C6 W m v0 v1 v2 v3 v4 v5) (v : Value) (hg : g ≠ m) : C6 (W.setCell ⟨g, p, none⟩ v) m v0 v1 v2 v3 v4 v5 :=
  ⟨h.k0.other _ hg, h.k1.other _ hg, h.k2.other _ hg, h.k3.other _ hg, h.k4.other _ hg, h.k5.other _ hg⟩
theorem C6.put0 {W : World} {m : Nat} {v0 v1 v2 v3 v4 v5 : Value} (h : C6 W m v0 v1 v2 v3 v4 v5) (u : Value) : C6 (W.setCell ⟨m, 0, none⟩ u) m u v1 v2 v3 v4 v5 := ⟨h.k0.put _, h.k1.set _ (by omega), h.k2.set _ (by omega), h.k3.set _ (by omega), h.k4.set _ (by omega), h.k5.set _ (by omega)⟩
theorem C6.put1 {W : World} {m : Nat} {v0 v1 v2 v3 v4 v5 : Value} (h : C6 W m v0 v1 v2 v3 v4 v5) (u : Value) : C6 (W.setCell ⟨m, 1, none⟩ u) m v0 u v2 v3 v4 v5 := ⟨h.k0.set _ (by omega), h.k1.put _, h.k2.set _ (by omega), h.k3.set _ (by omega), h.k4.set _ (by omega), h.k5.set _ (by omega)⟩
theorem C6.put2 {W : World} {m : Nat} {v0 v1 v2 v3 v4 v5 : Value} (h : C6 W m v0 v1 v2 v3 v4 v5) (u : Value) : C6 (W.setCell ⟨m, 2, none⟩ u) m v0 v1 u v3 v4 v5 := ⟨h.k0.set _ (by omega), h.k1.set _ (by omega), h.k2.put _, h.k3.set _ (by omega), h.k4.set _ (by omega), h.k5.set _ (by omega)⟩
theorem C6.put3 {W : World} {m : Nat} {v0 v1 v2 v3 v4 v5 : Value} (h : C6 W m v0 v1 v2 v3 v4 v5) (u : Value) : C6 (W.setCell ⟨m, 3, none⟩ u) m v0 v1 v2 u v4 v5 := ⟨h.k0.set _ (by omega), h.k1.set _ (by omega), h.k2.set _ (by omega), h.k3.put _, h.k4.set _ (by omega), h.k5.set _ (by omega)⟩
theorem C6.put4 {W : World} {m : Nat} {v0 v1 v2 v3 v4 v5 : Value} (h : C6 W m v0 v1 v2 v3 v4 v5) (u : Value) : C6 (W.setCell ⟨m, 4, none⟩ u) m v0 v1 v2 v3 u v5 := ⟨h.k0.set _ (by omega), h.k1.set _ (by omega), h.k2.set _ (by omega), h.k3.set _ (by omega), h.k4.put _, h.k5.set _ (by omega)⟩
theorem C6.put5 {W : World} {m : Nat} {v0 v1 v2 v3 v4 v5 : Value} (h : C6 W m v0 v1 v2 v3 v4 v5) (u : Value) : C6 (W.setCell ⟨m, 5, none⟩ u) m v0 v1 v2 v3 v4 u := ⟨h.k0.set _ (by omega), h.k1.set _ (by omega), h.k2.set _ (by omega), h.k3.set _ (by omega), h.k4.set _ (by omega), h.k5.put _⟩
/-- six cells written anew -/
theorem stored6 {W : World} {m : Nat} {x0 x1 x2 x3 x4 x5 : Value} (u0 u1 u2 u3 u4 u5 : Value) (h : C6 W m x0 x1 x2 x3 x4 x5) :
    C6 ((((((W.setCell ⟨m, 0, none⟩ u0).setCell ⟨m, 1, none⟩ u1).setCell ⟨m, 2, none⟩ u2).setCell ⟨m, 3, none⟩ u3).setCell ⟨m, 4, none⟩ u4).setCell ⟨m, 5, none⟩ u5) m u0 u1 u2 u3 u4 u5 :=
  (((((h.put0 u0).put1 u1).put2 u2).put3 u3).put4 u4).put5 u5
theorem set6_below {B m : Nat} {a W : World} (h : Below B a W) (hm : B ≤ m) (u0 u1 u2 u3 u4 u5 : Value) :
    Below B a ((((((W.setCell ⟨m, 0, none⟩ u0).setCell ⟨m, 1, none⟩ u1).setCell ⟨m, 2, none⟩ u2).setCell ⟨m, 3, none⟩ u3).setCell ⟨m, 4, none⟩ u4).setCell ⟨m, 5, none⟩ u5) :=
  (((((h.setCell (p := ⟨m, 0, none⟩) hm u0).setCell (p := ⟨m, 1, none⟩) hm u1).setCell (p := ⟨m, 2, none⟩) hm u2).setCell (p := ⟨m, 3, none⟩) hm u3).setCell (p := ⟨m, 4, none⟩) hm u4).setCell (p := ⟨m, 5, none⟩) hm u5
theorem below_drewX {B : Nat} {a w : World} (h : Below B a w) (n : Nat) : Below B a (w.drewN n) := ⟨h.os, h.tape, h.output, h.size, h.block⟩
theorem within_any (n lo hi : Int) (w : World) : Calls Tryd.prog 17 #[.int .i64 n, .int .i64 lo, .int .i64 hi] w fun e w' => e = .returned (.bool (inD n lo hi)) ∧ w' = w := by
  by_cases h1 : lo ≤ n
  · have d1 : decide (lo ≤ n) = true := decide_eq_true h1
    by_cases h2 : n ≤ hi
    · have d2 : decide (n ≤ hi) = true := decide_eq_true h2
      go_enter Tryd.func17, Tryd.ntmps17
      go_wp2
      go_ret
      exact ⟨by rw [inD, d1, d2]; rfl, rfl⟩
    · have d2 : decide (n ≤ hi) = false := decide_eq_false h2
      go_enter Tryd.func17, Tryd.ntmps17
      go_wp2
      go_ret
      exact ⟨by rw [inD, d1, d2]; rfl, rfl⟩
  · have d1 : decide (lo ≤ n) = false := decide_eq_false h1
    go_enter Tryd.func17, Tryd.ntmps17
    go_wp2
    go_ret
    exact ⟨by rw [inD, d1]; rfl, rfl⟩
theorem most_any (a b : Bool) (w : World) : Calls Tryd.prog 18 #[.bool a, .bool b] w fun e w' => e = .returned (.int .i64 (mostD a b)) ∧ w' = w := by
  cases a <;> cases b
  all_goals
    go_enter Tryd.func18, Tryd.ntmps18
    go_wp2
    go_ret
    exact ⟨rfl, rfl⟩
theorem rmost_any (a b : Bool) (w : World) : Calls Tryd.prog 14 #[.bool a, .bool b] w fun e w' => e = .returned (.int .i64 (mostD a b)) ∧ w' = w := by
  cases a <;> cases b
  all_goals
    go_enter Tryd.func14, Tryd.ntmps14
    go_wp2
    go_ret
    exact ⟨rfl, rfl⟩
set_option maxHeartbeats 1000000 in
/-- the landed code's Right -/
theorem xright_any (a b : Bool) (n k t r : Int) (w : World) : Calls Tryd.prog 10 #[.agg #[.bool a, .bool b, .int .i64 n, .int .i64 k, .int .i64 t, .int .i64 r]] w fun e w' => e = .returned (.bool (rightX a b n k t r)) ∧ Below w.heap.size w w' := by
  have HA := C6.new w w.heap.size rfl (.bool a) (.bool b) (.int .i64 n) (.int .i64 k) (.int .i64 t) (.int .i64 r) 23
  have HB := Lib.hid ((Below.refl _ w).alloc (Nat.le_refl _) (.cells #[.bool a, .bool b, .int .i64 n, .int .i64 k, .int .i64 t, .int .i64 r] 23))
  obtain ⟨⟨c0, -, -⟩, ⟨c1, -, -⟩, ⟨c2, -, -⟩, ⟨c3, -, -⟩, ⟨c4, -, -⟩, ⟨c5, -, -⟩⟩ := HA
  have HM := Lib.hid (fun W => most_any a b W)
  have H1 := Lib.hid (fun W => within_any n 16 256 W)
  have H2 := Lib.hid (fun W => within_any k 1 (mostD a b) W)
  have H3 := Lib.hid (fun W => within_any t 4 255 W)
  have H4 := Lib.hid (fun W => within_any r 1 15 W)
  unfold rightX
  generalize mostD a b = M at *
  generalize inD n 16 256 = A at *
  generalize inD k 1 M = B at *
  generalize inD t 4 255 = C at *
  generalize inD r 1 15 = D at *
  cases A
  · go_enter Tryd.func10, Tryd.ntmps10
    go_wp2
    go_quiet ((first
      | (go_at_call 18; with_reducible exact Calls.quiet_of_same (HM.out _))
      | (go_at_call 17; with_reducible exact Calls.quiet_of_same (H1.out _))
      | (go_at_call 17; with_reducible exact Calls.quiet_of_same (H2.out _))
      | (go_at_call 17; with_reducible exact Calls.quiet_of_same (H3.out _))
      | (go_at_call 17; with_reducible exact Calls.quiet_of_same (H4.out _))))
    go_wp2
    go_ret
    exact ⟨rfl, below_drewX HB.out _⟩
  cases B
  · go_enter Tryd.func10, Tryd.ntmps10
    go_wp2
    go_quiet ((first
      | (go_at_call 18; with_reducible exact Calls.quiet_of_same (HM.out _))
      | (go_at_call 17; with_reducible exact Calls.quiet_of_same (H1.out _))
      | (go_at_call 17; with_reducible exact Calls.quiet_of_same (H2.out _))
      | (go_at_call 17; with_reducible exact Calls.quiet_of_same (H3.out _))
      | (go_at_call 17; with_reducible exact Calls.quiet_of_same (H4.out _))))
    go_wp2
    go_ret
    exact ⟨rfl, below_drewX HB.out _⟩
  cases C
  · go_enter Tryd.func10, Tryd.ntmps10
    go_wp2
    go_quiet ((first
      | (go_at_call 18; with_reducible exact Calls.quiet_of_same (HM.out _))
      | (go_at_call 17; with_reducible exact Calls.quiet_of_same (H1.out _))
      | (go_at_call 17; with_reducible exact Calls.quiet_of_same (H2.out _))
      | (go_at_call 17; with_reducible exact Calls.quiet_of_same (H3.out _))
      | (go_at_call 17; with_reducible exact Calls.quiet_of_same (H4.out _))))
    go_wp2
    go_ret
    exact ⟨rfl, below_drewX HB.out _⟩
  cases D
  · go_enter Tryd.func10, Tryd.ntmps10
    go_wp2
    go_quiet ((first
      | (go_at_call 18; with_reducible exact Calls.quiet_of_same (HM.out _))
      | (go_at_call 17; with_reducible exact Calls.quiet_of_same (H1.out _))
      | (go_at_call 17; with_reducible exact Calls.quiet_of_same (H2.out _))
      | (go_at_call 17; with_reducible exact Calls.quiet_of_same (H3.out _))
      | (go_at_call 17; with_reducible exact Calls.quiet_of_same (H4.out _))))
    go_wp2
    go_ret
    exact ⟨rfl, below_drewX HB.out _⟩
  · go_enter Tryd.func10, Tryd.ntmps10
    go_wp2
    go_quiet ((first
      | (go_at_call 18; with_reducible exact Calls.quiet_of_same (HM.out _))
      | (go_at_call 17; with_reducible exact Calls.quiet_of_same (H1.out _))
      | (go_at_call 17; with_reducible exact Calls.quiet_of_same (H2.out _))
      | (go_at_call 17; with_reducible exact Calls.quiet_of_same (H3.out _))
      | (go_at_call 17; with_reducible exact Calls.quiet_of_same (H4.out _))))
    go_wp2
    go_ret
    exact ⟨rfl, below_drewX HB.out _⟩
end Go.Proofs.YtmbjhhpnckfppaaDoor
