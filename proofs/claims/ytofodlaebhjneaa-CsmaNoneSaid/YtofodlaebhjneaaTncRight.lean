/-
The code's own Right.
-/
import Derived.Test.YtofodlaebhjneaaTncUsual
namespace Go.Proofs.Ytofodlaebhjneaa
open Go.RowKit Go.Sort
theorem pidx (n k : Nat) (h : k < 4) (w : World) : (Instr.index 48 (.agg #[.pointer (some ⟨n, 0, none⟩), .pointer (some ⟨n, 1, none⟩), .pointer (some ⟨n, 2, none⟩), .pointer (some ⟨n, 3, none⟩)]) (.int .i64 (k : Int))).run Try.prog w = .ok (.pointer (some ⟨n, k, none⟩)) w := by
  have p0 : (part 47 #[.pointer (some ⟨n, 0, none⟩), .pointer (some ⟨n, 1, none⟩), .pointer (some ⟨n, 2, none⟩), .pointer (some ⟨n, 3, none⟩)] k).run Try.prog w = .ok (.pointer (some ⟨n, k, none⟩)) w := by
    obtain rfl | rfl | rfl | rfl : k = 0 ∨ k = 1 ∨ k = 2 ∨ k = 3 := by omega
    all_goals simp [part, isAgg, run_underlying Try.underlying47]
  have hc : ∀ w, (Go.sizeOf 47).run Try.prog w = .ok 1 w := fun w => by kernel_rfl
  simp [Instr.index, asIntOf, run_underlying Try.underlying48, hc, p0]
  intro h
  omega
set_option maxHeartbeats 1000000 in
theorem tright_yes (a b c d : Int) (f : Bool) (w : World) (ha : 0 ≤ a ∧ a ≤ 255) (hb : 0 ≤ b ∧ b ≤ 255) (hc : 0 ≤ c ∧ c ≤ 255) (hd : 0 ≤ d ∧ d ≤ 255) :
    Calls Try.prog 15 #[.agg #[.int .i64 a, .int .i64 b, .int .i64 c, .int .i64 d, .bool f]] w fun e w' => e = .returned (.bool true) ∧ Below w.heap.size w w' := by
  have HN := Lib.hid numbers_any
  have HP := Lib.hid (par_cells ⟨a, b, c, d, f⟩ w 27)
  have i0 := pidx w.heap.size 0 (by omega)
  have i1 := pidx w.heap.size 1 (by omega)
  have i2 := pidx w.heap.size 2 (by omega)
  have i3 := pidx w.heap.size 3 (by omega)
  change ∀ w, (Instr.index _ _ (.int .i64 0)).run _ w = _ at i0
  change ∀ w, (Instr.index _ _ (.int .i64 1)).run _ w = _ at i1
  change ∀ w, (Instr.index _ _ (.int .i64 2)).run _ w = _ at i2
  change ∀ w, (Instr.index _ _ (.int .i64 3)).run _ w = _ at i3
  obtain ⟨a1, a2⟩ := ha
  obtain ⟨b1, b2⟩ := hb
  obtain ⟨c1, c2⟩ := hc
  obtain ⟨d1, d2⟩ := hd
  go_enter Try.func15, Try.ntmps15
  go_wp2_with (go_at_call 17; (with_reducible refine (HN.out _ _).mono ?_; rintro e w1 ⟨rfl, hb⟩))
  obtain ⟨y0, y1, y2, y3, y4⟩ := (show ParAt _ _ ⟨a, b, c, d, f⟩ from HP.out).below (by simp) hb
  have HB := Lib.hid (((Below.refl _ w).alloc (Nat.le_refl _) _).trans (hb.mono (by simp)))
  clear hb HP
  simp only [ptrs]
  simp only at y0 y1 y2 y3 y4
  refine wp_loop_rounds 5 ?_
  rw [rounds_succ]
  go_wp2
  rw [rounds_succ]
  go_wp2
  rw [rounds_succ]
  go_wp2
  rw [rounds_succ]
  go_wp2
  rw [rounds_succ]
  go_wp2
  go_ret
  exact ⟨rfl, HB.out⟩
set_option maxHeartbeats 1000000 in
theorem tright_no0 (a b c d : Int) (f : Bool) (w : World) (h : a < 0 ∨ 255 < a) :
    Calls Try.prog 15 #[.agg #[.int .i64 a, .int .i64 b, .int .i64 c, .int .i64 d, .bool f]] w fun e w' => e = .returned (.bool false) ∧ Below w.heap.size w w' := by
  have HN := Lib.hid numbers_any
  have HP := Lib.hid (par_cells ⟨a, b, c, d, f⟩ w 27)
  have i0 := pidx w.heap.size 0 (by omega)
  have i1 := pidx w.heap.size 1 (by omega)
  have i2 := pidx w.heap.size 2 (by omega)
  have i3 := pidx w.heap.size 3 (by omega)
  change ∀ w, (Instr.index _ _ (.int .i64 0)).run _ w = _ at i0
  change ∀ w, (Instr.index _ _ (.int .i64 1)).run _ w = _ at i1
  change ∀ w, (Instr.index _ _ (.int .i64 2)).run _ w = _ at i2
  change ∀ w, (Instr.index _ _ (.int .i64 3)).run _ w = _ at i3
  rcases h with h | h
  all_goals
    go_enter Try.func15, Try.ntmps15
    go_wp2_with (go_at_call 17; (with_reducible refine (HN.out _ _).mono ?_; rintro e w1 ⟨rfl, hb⟩))
    obtain ⟨y0, y1, y2, y3, y4⟩ := (show ParAt _ _ ⟨a, b, c, d, f⟩ from HP.out).below (by simp) hb
    have HB := Lib.hid (((Below.refl _ w).alloc (Nat.le_refl _) _).trans (hb.mono (by simp)))
    clear hb HP
    simp only [ptrs]
    simp only at y0 y1 y2 y3 y4
    refine wp_loop_rounds 1 ?_
    rw [rounds_succ]
    go_wp2
    go_ret
    exact ⟨rfl, HB.out⟩
set_option maxHeartbeats 1000000 in
theorem tright_no1 (a b c d : Int) (f : Bool) (w : World) (ha : 0 ≤ a ∧ a ≤ 255) (h : b < 0 ∨ 255 < b) :
    Calls Try.prog 15 #[.agg #[.int .i64 a, .int .i64 b, .int .i64 c, .int .i64 d, .bool f]] w fun e w' => e = .returned (.bool false) ∧ Below w.heap.size w w' := by
  have HN := Lib.hid numbers_any
  have HP := Lib.hid (par_cells ⟨a, b, c, d, f⟩ w 27)
  have i0 := pidx w.heap.size 0 (by omega)
  have i1 := pidx w.heap.size 1 (by omega)
  have i2 := pidx w.heap.size 2 (by omega)
  have i3 := pidx w.heap.size 3 (by omega)
  change ∀ w, (Instr.index _ _ (.int .i64 0)).run _ w = _ at i0
  change ∀ w, (Instr.index _ _ (.int .i64 1)).run _ w = _ at i1
  change ∀ w, (Instr.index _ _ (.int .i64 2)).run _ w = _ at i2
  change ∀ w, (Instr.index _ _ (.int .i64 3)).run _ w = _ at i3
  obtain ⟨a1, a2⟩ := ha
  rcases h with h | h
  all_goals
    go_enter Try.func15, Try.ntmps15
    go_wp2_with (go_at_call 17; (with_reducible refine (HN.out _ _).mono ?_; rintro e w1 ⟨rfl, hb⟩))
    obtain ⟨y0, y1, y2, y3, y4⟩ := (show ParAt _ _ ⟨a, b, c, d, f⟩ from HP.out).below (by simp) hb
    have HB := Lib.hid (((Below.refl _ w).alloc (Nat.le_refl _) _).trans (hb.mono (by simp)))
    clear hb HP
    simp only [ptrs]
    simp only at y0 y1 y2 y3 y4
    refine wp_loop_rounds 2 ?_
    rw [rounds_succ]
    go_wp2
    rw [rounds_succ]
    go_wp2
    go_ret
    exact ⟨rfl, HB.out⟩
set_option maxHeartbeats 1000000 in
theorem tright_no2 (a b c d : Int) (f : Bool) (w : World) (ha : 0 ≤ a ∧ a ≤ 255) (hb : 0 ≤ b ∧ b ≤ 255) (h : c < 0 ∨ 255 < c) :
    Calls Try.prog 15 #[.agg #[.int .i64 a, .int .i64 b, .int .i64 c, .int .i64 d, .bool f]] w fun e w' => e = .returned (.bool false) ∧ Below w.heap.size w w' := by
  have HN := Lib.hid numbers_any
  have HP := Lib.hid (par_cells ⟨a, b, c, d, f⟩ w 27)
  have i0 := pidx w.heap.size 0 (by omega)
  have i1 := pidx w.heap.size 1 (by omega)
  have i2 := pidx w.heap.size 2 (by omega)
  have i3 := pidx w.heap.size 3 (by omega)
  change ∀ w, (Instr.index _ _ (.int .i64 0)).run _ w = _ at i0
  change ∀ w, (Instr.index _ _ (.int .i64 1)).run _ w = _ at i1
  change ∀ w, (Instr.index _ _ (.int .i64 2)).run _ w = _ at i2
  change ∀ w, (Instr.index _ _ (.int .i64 3)).run _ w = _ at i3
  obtain ⟨a1, a2⟩ := ha
  obtain ⟨b1, b2⟩ := hb
  rcases h with h | h
  all_goals
    go_enter Try.func15, Try.ntmps15
    go_wp2_with (go_at_call 17; (with_reducible refine (HN.out _ _).mono ?_; rintro e w1 ⟨rfl, hb⟩))
    obtain ⟨y0, y1, y2, y3, y4⟩ := (show ParAt _ _ ⟨a, b, c, d, f⟩ from HP.out).below (by simp) hb
    have HB := Lib.hid (((Below.refl _ w).alloc (Nat.le_refl _) _).trans (hb.mono (by simp)))
    clear hb HP
    simp only [ptrs]
    simp only at y0 y1 y2 y3 y4
    refine wp_loop_rounds 3 ?_
    rw [rounds_succ]
    go_wp2
    rw [rounds_succ]
    go_wp2
    rw [rounds_succ]
    go_wp2
    go_ret
    exact ⟨rfl, HB.out⟩
set_option maxHeartbeats 1000000 in
theorem tright_no3 (a b c d : Int) (f : Bool) (w : World) (ha : 0 ≤ a ∧ a ≤ 255) (hb : 0 ≤ b ∧ b ≤ 255) (hc : 0 ≤ c ∧ c ≤ 255) (h : d < 0 ∨ 255 < d) :
    Calls Try.prog 15 #[.agg #[.int .i64 a, .int .i64 b, .int .i64 c, .int .i64 d, .bool f]] w fun e w' => e = .returned (.bool false) ∧ Below w.heap.size w w' := by
  have HN := Lib.hid numbers_any
  have HP := Lib.hid (par_cells ⟨a, b, c, d, f⟩ w 27)
  have i0 := pidx w.heap.size 0 (by omega)
  have i1 := pidx w.heap.size 1 (by omega)
  have i2 := pidx w.heap.size 2 (by omega)
  have i3 := pidx w.heap.size 3 (by omega)
  change ∀ w, (Instr.index _ _ (.int .i64 0)).run _ w = _ at i0
  change ∀ w, (Instr.index _ _ (.int .i64 1)).run _ w = _ at i1
  change ∀ w, (Instr.index _ _ (.int .i64 2)).run _ w = _ at i2
  change ∀ w, (Instr.index _ _ (.int .i64 3)).run _ w = _ at i3
  obtain ⟨a1, a2⟩ := ha
  obtain ⟨b1, b2⟩ := hb
  obtain ⟨c1, c2⟩ := hc
  rcases h with h | h
  all_goals
    go_enter Try.func15, Try.ntmps15
    go_wp2_with (go_at_call 17; (with_reducible refine (HN.out _ _).mono ?_; rintro e w1 ⟨rfl, hb⟩))
    obtain ⟨y0, y1, y2, y3, y4⟩ := (show ParAt _ _ ⟨a, b, c, d, f⟩ from HP.out).below (by simp) hb
    have HB := Lib.hid (((Below.refl _ w).alloc (Nat.le_refl _) _).trans (hb.mono (by simp)))
    clear hb HP
    simp only [ptrs]
    simp only at y0 y1 y2 y3 y4
    refine wp_loop_rounds 4 ?_
    rw [rounds_succ]
    go_wp2
    rw [rounds_succ]
    go_wp2
    rw [rounds_succ]
    go_wp2
    rw [rounds_succ]
    go_wp2
    go_ret
    exact ⟨rfl, HB.out⟩
theorem right_ok : RightOk := by
  intro p w
  obtain ⟨a, b, c, d, f⟩ := p
  have e : Par.ok ⟨a, b, c, d, f⟩ = (okN a && okN b && okN c && okN d) := rfl
  show Calls Try.prog 15 #[.agg #[.int .i64 a, .int .i64 b, .int .i64 c, .int .i64 d, .bool f]] w _
  cases ha : okN a
  · rw [e, ha]
    exact tright_no0 a b c d f w (by have := mt (okN_iff a).2 (by rw [ha]; simp); omega)
  have ha := (okN_iff a).1 ha
  cases hb : okN b
  · rw [e, hb, Bool.and_false]
    exact tright_no1 a b c d f w ha (by have := mt (okN_iff b).2 (by rw [hb]; simp); omega)
  have hb := (okN_iff b).1 hb
  cases hc : okN c
  · rw [e, hc, Bool.and_false]
    exact tright_no2 a b c d f w ha hb (by have := mt (okN_iff c).2 (by rw [hc]; simp); omega)
  have hc := (okN_iff c).1 hc
  cases hd : okN d
  · rw [e, hd, Bool.and_false]
    exact tright_no3 a b c d f w ha hb hc (by have := mt (okN_iff d).2 (by rw [hd]; simp); omega)
  have hd := (okN_iff d).1 hd
  rw [e, (okN_iff a).2 ha, (okN_iff b).2 hb, (okN_iff c).2 hc, (okN_iff d).2 hd]
  exact tright_yes a b c d f w ha hb hc hd
end Go.Proofs.Ytofodlaebhjneaa
