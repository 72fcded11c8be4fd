/-
The code's own set.
-/
import Derived.Test.YteglaenjmeocmaaTncRight
namespace Go.Proofs.Yteglaenjmeocmaa
open Go.RowKit Go.Sort
set_option maxHeartbeats 1000000 in
theorem set_full (a b c d : Int) (f : Bool) (x : UInt8) (w : World) :
    Calls Try.prog 19 #[.agg #[.int .i64 a, .int .i64 b, .int .i64 c, .int .i64 d, .bool f], .int .i64 5, .int .u8 ((x.toNat : Nat) : Int)] w fun e w' => e = .returned (.agg #[.int .i64 a, .int .i64 b, .int .i64 c, .int .i64 d, .bool (decide (x ≠ 0))]) ∧ Below w.heap.size w w' := by
  have e : decide (x ≠ 0) = !(((x.toNat : Nat) : Int) == 0) := by
    rw [u8_pos, Bool.eq_iff_iff]
    simp
    omega
  rw [e]
  go_enter Try.func19, Try.ntmps19
  go_wp2
  have hne : (!(((x.toNat : Nat) : Int) == 0)) = (((x.toNat : Nat) : Int) != 0) := rfl
  rw [hne]
  exact bodyPost_ret (v := .agg #[.int .i64 a, .int .i64 b, .int .i64 c, .int .i64 d, .bool (((x.toNat : Nat) : Int) != 0)]) (by simp [results, Try.results19, go_sem]) rfl ⟨rfl, ((Below.refl _ w).alloc (Nat.le_refl _) _).alloc (by simp) _⟩
theorem two_size {a w1 : World} {o1 o2 : Obj} (h : Below ((a.alloc o1).alloc o2).heap.size ((a.alloc o1).alloc o2) w1) : a.heap.size + 2 ≤ w1.heap.size := by
  refine Nat.le_trans ?_ h.size
  show _ ≤ ((a.heap.push o1).push o2).size
  simp
theorem par_cells2 (p : Par) (w : World) (o : Obj) (T : TypeId) : ParAt ((w.alloc (.cells #[.int .i64 p.a, .int .i64 p.b, .int .i64 p.c, .int .i64 p.d, .bool p.f] T)).alloc o) w.heap.size p := by
  obtain ⟨a, b, c, d, e⟩ := par_cells p w T
  exact ⟨(World.cell?_alloc_past _ _ _ (by simp)).trans a, (World.cell?_alloc_past _ _ _ (by simp)).trans b, (World.cell?_alloc_past _ _ _ (by simp)).trans c, (World.cell?_alloc_past _ _ _ (by simp)).trans d, (World.cell?_alloc_past _ _ _ (by simp)).trans e⟩
theorem froz_new (w : World) (o : Nat) : w.frozen? ⟨w.heap.size, o, none⟩ = false := by simp [World.frozen?]
set_option maxHeartbeats 1000000 in
theorem set_num1 (a b c d : Int) (f : Bool) (x : UInt8) (w : World) :
    Calls Try.prog 19 #[.agg #[.int .i64 a, .int .i64 b, .int .i64 c, .int .i64 d, .bool f], .int .i64 1, .int .u8 ((x.toNat : Nat) : Int)] w fun e w' => e = .returned (.agg #[.int .i64 ((x.toNat : Nat) : Int), .int .i64 b, .int .i64 c, .int .i64 d, .bool f]) ∧ Below w.heap.size w w' := by
  have HN := Lib.hid numbers_any
  have i0 := pidx w.heap.size 0 (by omega)
  change ∀ w, (Instr.index _ _ (.int .i64 0)).run _ w = _ at i0
  have hx : x.toNat < 256 := blt' _
  have HPP := Lib.hid (par_cells2 ⟨a, b, c, d, f⟩ w (.cells #[.int .i64 0, .int .i64 0, .int .i64 0, .int .i64 0, .bool false] 23) 23)
  go_enter Try.func19, Try.ntmps19
  go_wp2_with (go_at_call 20; go_loud (refine (HN.out _ _).mono ?_; rintro e w1 ⟨rfl, hb⟩; simp only [ptrs]; obtain ⟨hc, hf⟩ := below_cells hb; have hz := two_size hb; have hz1 : w.heap.size < w1.heap.size := (by omega); have hz2 : w.heap.size + 1 < w1.heap.size := (by omega); obtain ⟨y0, y1, y2, y3, y4⟩ := HPP.out.below (by simp; omega) hb; simp only at y0 y1 y2 y3 y4; have kf := fun i => (hf w.heap.size i (by simp; omega)).trans ((frozen?_alloc_cells _ _ _ _).trans ((frozen?_alloc_cells _ _ _ _).trans (froz_new w i))); have kg := fun i => (hf (w.heap.size + 1) i (by simp)).trans (World.frozen?_alloc_at _ _ (w.heap.size + 1) i (by simp)); have HB := Lib.hid (((((Below.refl _ w).alloc (Nat.le_refl _) _).alloc (by simp) _)).trans (hb.mono (by simp; omega))); have r := fun i => (hc (w.heap.size + 1) i (by simp)).trans (World.cell?_alloc_at _ _ _ _ (by simp)); have r0 := r 0; have r1 := r 1; have r2 := r 2; have r3 := r 3; have r4 := r 4; simp at r0 r1 r2 r3 r4; clear r hc hf hb))
  obtain ⟨q0, q1, q2, q3, q4⟩ := stored5 (W := w1.setCell ⟨w.heap.size, 0, none⟩ (.int .i64 ((x.toNat : Nat) : Int))) (n := w.heap.size + 1) (.int .i64 ((x.toNat : Nat) : Int)) (.int .i64 b) (.int .i64 c) (.int .i64 d) (.bool f) (by rw [set_block _ _ _ _ _ _ (by omega)]; exact r0) (by rw [set_block _ _ _ _ _ _ (by omega)]; exact r1) (by rw [set_block _ _ _ _ _ _ (by omega)]; exact r2) (by rw [set_block _ _ _ _ _ _ (by omega)]; exact r3) (by rw [set_block _ _ _ _ _ _ (by omega)]; exact r4)
  have HS := Lib.hid (set5_below (HB.out.setCell (p := ⟨w.heap.size, 0, none⟩) (Nat.le_refl _) (.int .i64 ((x.toNat : Nat) : Int))) (n := w.heap.size + 1) (by omega) (.int .i64 ((x.toNat : Nat) : Int)) (.int .i64 b) (.int .i64 c) (.int .i64 d) (.bool f))
  exact bodyPost_ret (v := .agg #[.int .i64 ((x.toNat : Nat) : Int), .int .i64 b, .int .i64 c, .int .i64 d, .bool f]) (by simp [results, Try.results19, go_sem, q0, q1, q2, q3, q4, hz2]) rfl ⟨rfl, HS.out.alloc HS.out.size _⟩
set_option maxHeartbeats 1000000 in
theorem set_num2 (a b c d : Int) (f : Bool) (x : UInt8) (w : World) :
    Calls Try.prog 19 #[.agg #[.int .i64 a, .int .i64 b, .int .i64 c, .int .i64 d, .bool f], .int .i64 2, .int .u8 ((x.toNat : Nat) : Int)] w fun e w' => e = .returned (.agg #[.int .i64 a, .int .i64 ((x.toNat : Nat) : Int), .int .i64 c, .int .i64 d, .bool f]) ∧ Below w.heap.size w w' := by
  have HN := Lib.hid numbers_any
  have i0 := pidx w.heap.size 1 (by omega)
  change ∀ w, (Instr.index _ _ (.int .i64 1)).run _ w = _ at i0
  have hx : x.toNat < 256 := blt' _
  have HPP := Lib.hid (par_cells2 ⟨a, b, c, d, f⟩ w (.cells #[.int .i64 0, .int .i64 0, .int .i64 0, .int .i64 0, .bool false] 23) 23)
  go_enter Try.func19, Try.ntmps19
  go_wp2_with (go_at_call 20; go_loud (refine (HN.out _ _).mono ?_; rintro e w1 ⟨rfl, hb⟩; simp only [ptrs]; obtain ⟨hc, hf⟩ := below_cells hb; have hz := two_size hb; have hz1 : w.heap.size < w1.heap.size := (by omega); have hz2 : w.heap.size + 1 < w1.heap.size := (by omega); obtain ⟨y0, y1, y2, y3, y4⟩ := HPP.out.below (by simp; omega) hb; simp only at y0 y1 y2 y3 y4; have kf := fun i => (hf w.heap.size i (by simp; omega)).trans ((frozen?_alloc_cells _ _ _ _).trans ((frozen?_alloc_cells _ _ _ _).trans (froz_new w i))); have kg := fun i => (hf (w.heap.size + 1) i (by simp)).trans (World.frozen?_alloc_at _ _ (w.heap.size + 1) i (by simp)); have HB := Lib.hid (((((Below.refl _ w).alloc (Nat.le_refl _) _).alloc (by simp) _)).trans (hb.mono (by simp; omega))); have r := fun i => (hc (w.heap.size + 1) i (by simp)).trans (World.cell?_alloc_at _ _ _ _ (by simp)); have r0 := r 0; have r1 := r 1; have r2 := r 2; have r3 := r 3; have r4 := r 4; simp at r0 r1 r2 r3 r4; clear r hc hf hb))
  obtain ⟨q0, q1, q2, q3, q4⟩ := stored5 (W := w1.setCell ⟨w.heap.size, 1, none⟩ (.int .i64 ((x.toNat : Nat) : Int))) (n := w.heap.size + 1) (.int .i64 a) (.int .i64 ((x.toNat : Nat) : Int)) (.int .i64 c) (.int .i64 d) (.bool f) (by rw [set_block _ _ _ _ _ _ (by omega)]; exact r0) (by rw [set_block _ _ _ _ _ _ (by omega)]; exact r1) (by rw [set_block _ _ _ _ _ _ (by omega)]; exact r2) (by rw [set_block _ _ _ _ _ _ (by omega)]; exact r3) (by rw [set_block _ _ _ _ _ _ (by omega)]; exact r4)
  have HS := Lib.hid (set5_below (HB.out.setCell (p := ⟨w.heap.size, 1, none⟩) (Nat.le_refl _) (.int .i64 ((x.toNat : Nat) : Int))) (n := w.heap.size + 1) (by omega) (.int .i64 a) (.int .i64 ((x.toNat : Nat) : Int)) (.int .i64 c) (.int .i64 d) (.bool f))
  exact bodyPost_ret (v := .agg #[.int .i64 a, .int .i64 ((x.toNat : Nat) : Int), .int .i64 c, .int .i64 d, .bool f]) (by simp [results, Try.results19, go_sem, q0, q1, q2, q3, q4, hz2]) rfl ⟨rfl, HS.out.alloc HS.out.size _⟩
set_option maxHeartbeats 1000000 in
theorem set_num3 (a b c d : Int) (f : Bool) (x : UInt8) (w : World) :
    Calls Try.prog 19 #[.agg #[.int .i64 a, .int .i64 b, .int .i64 c, .int .i64 d, .bool f], .int .i64 3, .int .u8 ((x.toNat : Nat) : Int)] w fun e w' => e = .returned (.agg #[.int .i64 a, .int .i64 b, .int .i64 ((x.toNat : Nat) : Int), .int .i64 d, .bool f]) ∧ Below w.heap.size w w' := by
  have HN := Lib.hid numbers_any
  have i0 := pidx w.heap.size 2 (by omega)
  change ∀ w, (Instr.index _ _ (.int .i64 2)).run _ w = _ at i0
  have hx : x.toNat < 256 := blt' _
  have HPP := Lib.hid (par_cells2 ⟨a, b, c, d, f⟩ w (.cells #[.int .i64 0, .int .i64 0, .int .i64 0, .int .i64 0, .bool false] 23) 23)
  go_enter Try.func19, Try.ntmps19
  go_wp2_with (go_at_call 20; go_loud (refine (HN.out _ _).mono ?_; rintro e w1 ⟨rfl, hb⟩; simp only [ptrs]; obtain ⟨hc, hf⟩ := below_cells hb; have hz := two_size hb; have hz1 : w.heap.size < w1.heap.size := (by omega); have hz2 : w.heap.size + 1 < w1.heap.size := (by omega); obtain ⟨y0, y1, y2, y3, y4⟩ := HPP.out.below (by simp; omega) hb; simp only at y0 y1 y2 y3 y4; have kf := fun i => (hf w.heap.size i (by simp; omega)).trans ((frozen?_alloc_cells _ _ _ _).trans ((frozen?_alloc_cells _ _ _ _).trans (froz_new w i))); have kg := fun i => (hf (w.heap.size + 1) i (by simp)).trans (World.frozen?_alloc_at _ _ (w.heap.size + 1) i (by simp)); have HB := Lib.hid (((((Below.refl _ w).alloc (Nat.le_refl _) _).alloc (by simp) _)).trans (hb.mono (by simp; omega))); have r := fun i => (hc (w.heap.size + 1) i (by simp)).trans (World.cell?_alloc_at _ _ _ _ (by simp)); have r0 := r 0; have r1 := r 1; have r2 := r 2; have r3 := r 3; have r4 := r 4; simp at r0 r1 r2 r3 r4; clear r hc hf hb))
  obtain ⟨q0, q1, q2, q3, q4⟩ := stored5 (W := w1.setCell ⟨w.heap.size, 2, none⟩ (.int .i64 ((x.toNat : Nat) : Int))) (n := w.heap.size + 1) (.int .i64 a) (.int .i64 b) (.int .i64 ((x.toNat : Nat) : Int)) (.int .i64 d) (.bool f) (by rw [set_block _ _ _ _ _ _ (by omega)]; exact r0) (by rw [set_block _ _ _ _ _ _ (by omega)]; exact r1) (by rw [set_block _ _ _ _ _ _ (by omega)]; exact r2) (by rw [set_block _ _ _ _ _ _ (by omega)]; exact r3) (by rw [set_block _ _ _ _ _ _ (by omega)]; exact r4)
  have HS := Lib.hid (set5_below (HB.out.setCell (p := ⟨w.heap.size, 2, none⟩) (Nat.le_refl _) (.int .i64 ((x.toNat : Nat) : Int))) (n := w.heap.size + 1) (by omega) (.int .i64 a) (.int .i64 b) (.int .i64 ((x.toNat : Nat) : Int)) (.int .i64 d) (.bool f))
  exact bodyPost_ret (v := .agg #[.int .i64 a, .int .i64 b, .int .i64 ((x.toNat : Nat) : Int), .int .i64 d, .bool f]) (by simp [results, Try.results19, go_sem, q0, q1, q2, q3, q4, hz2]) rfl ⟨rfl, HS.out.alloc HS.out.size _⟩
set_option maxHeartbeats 1000000 in
theorem set_num4 (a b c d : Int) (f : Bool) (x : UInt8) (w : World) :
    Calls Try.prog 19 #[.agg #[.int .i64 a, .int .i64 b, .int .i64 c, .int .i64 d, .bool f], .int .i64 4, .int .u8 ((x.toNat : Nat) : Int)] w fun e w' => e = .returned (.agg #[.int .i64 a, .int .i64 b, .int .i64 c, .int .i64 ((x.toNat : Nat) : Int), .bool f]) ∧ Below w.heap.size w w' := by
  have HN := Lib.hid numbers_any
  have i0 := pidx w.heap.size 3 (by omega)
  change ∀ w, (Instr.index _ _ (.int .i64 3)).run _ w = _ at i0
  have hx : x.toNat < 256 := blt' _
  have HPP := Lib.hid (par_cells2 ⟨a, b, c, d, f⟩ w (.cells #[.int .i64 0, .int .i64 0, .int .i64 0, .int .i64 0, .bool false] 23) 23)
  go_enter Try.func19, Try.ntmps19
  go_wp2_with (go_at_call 20; go_loud (refine (HN.out _ _).mono ?_; rintro e w1 ⟨rfl, hb⟩; simp only [ptrs]; obtain ⟨hc, hf⟩ := below_cells hb; have hz := two_size hb; have hz1 : w.heap.size < w1.heap.size := (by omega); have hz2 : w.heap.size + 1 < w1.heap.size := (by omega); obtain ⟨y0, y1, y2, y3, y4⟩ := HPP.out.below (by simp; omega) hb; simp only at y0 y1 y2 y3 y4; have kf := fun i => (hf w.heap.size i (by simp; omega)).trans ((frozen?_alloc_cells _ _ _ _).trans ((frozen?_alloc_cells _ _ _ _).trans (froz_new w i))); have kg := fun i => (hf (w.heap.size + 1) i (by simp)).trans (World.frozen?_alloc_at _ _ (w.heap.size + 1) i (by simp)); have HB := Lib.hid (((((Below.refl _ w).alloc (Nat.le_refl _) _).alloc (by simp) _)).trans (hb.mono (by simp; omega))); have r := fun i => (hc (w.heap.size + 1) i (by simp)).trans (World.cell?_alloc_at _ _ _ _ (by simp)); have r0 := r 0; have r1 := r 1; have r2 := r 2; have r3 := r 3; have r4 := r 4; simp at r0 r1 r2 r3 r4; clear r hc hf hb))
  obtain ⟨q0, q1, q2, q3, q4⟩ := stored5 (W := w1.setCell ⟨w.heap.size, 3, none⟩ (.int .i64 ((x.toNat : Nat) : Int))) (n := w.heap.size + 1) (.int .i64 a) (.int .i64 b) (.int .i64 c) (.int .i64 ((x.toNat : Nat) : Int)) (.bool f) (by rw [set_block _ _ _ _ _ _ (by omega)]; exact r0) (by rw [set_block _ _ _ _ _ _ (by omega)]; exact r1) (by rw [set_block _ _ _ _ _ _ (by omega)]; exact r2) (by rw [set_block _ _ _ _ _ _ (by omega)]; exact r3) (by rw [set_block _ _ _ _ _ _ (by omega)]; exact r4)
  have HS := Lib.hid (set5_below (HB.out.setCell (p := ⟨w.heap.size, 3, none⟩) (Nat.le_refl _) (.int .i64 ((x.toNat : Nat) : Int))) (n := w.heap.size + 1) (by omega) (.int .i64 a) (.int .i64 b) (.int .i64 c) (.int .i64 ((x.toNat : Nat) : Int)) (.bool f))
  exact bodyPost_ret (v := .agg #[.int .i64 a, .int .i64 b, .int .i64 c, .int .i64 ((x.toNat : Nat) : Int), .bool f]) (by simp [results, Try.results19, go_sem, q0, q1, q2, q3, q4, hz2]) rfl ⟨rfl, HS.out.alloc HS.out.size _⟩
end Go.Proofs.Yteglaenjmeocmaa
