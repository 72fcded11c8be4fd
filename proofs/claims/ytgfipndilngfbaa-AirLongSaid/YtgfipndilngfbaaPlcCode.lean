/-
The landed New, At and Stand.
-/
import Derived.Test.YtgfipndilngfbaaPlcApart
import Derived.Laws.MakeOwn
import Derived.Deep.RegionHeld
namespace Go.Proofs.Ytgfipndilngfbaa
open Go.RowKit
set_option maxRecDepth 20000
/-- stations that all stand at 0 with reach 0 -/
abbrev fresh (k : Nat) : List Stn := List.replicate k ⟨0, 0, 0⟩
theorem made_eq (k : Nat) (h : 1 ≤ k ∧ k ≤ 16) : madeCells (Value.agg #[.complex .f64 0 0, .int .i64 0]).cells (k * 2) = (flatE encSt (fresh k)).toArray := by
  obtain rfl | rfl | rfl | rfl | rfl | rfl | rfl | rfl | rfl | rfl | rfl | rfl | rfl | rfl | rfl | rfl : k = 1 ∨ k = 2 ∨ k = 3 ∨ k = 4 ∨ k = 5 ∨ k = 6 ∨ k = 7 ∨ k = 8 ∨ k = 9 ∨ k = 10 ∨ k = 11 ∨ k = 12 ∨ k = 13 ∨ k = 14 ∨ k = 15 ∨ k = 16 := by omega
  all_goals kernel_rfl
theorem run_stations (k : Nat) (n : Int) (hn : n = k) (h : 1 ≤ k ∧ k ≤ 16) (W : World) :
    (Instr.makeSlice 72 (.int .i64 n) (.int .i64 n)).run Try.prog W = .ok (.slice (some ⟨W.heap.size, 0, none⟩) k k) (W.alloc (.cells (flatE encSt (fresh k)).toArray 82)) := by
  subst hn
  obtain ⟨i0, hi0, hz0, hz1, hz2⟩ := info_parts infoSt
  have hr := run_make W 72 82 i0 _ Try.underlying72 hi0 hz0 .i64 .i64 (k : Int) (k : Int) (by omega) (by omega) (by rw [hz2]; omega) (by omega)
  rw [Int.toNat_natCast, hz1, made_eq k h] at hr
  exact hr
set_option maxHeartbeats 1000000 in
theorem cnew14_yes (k : Nat) (n : Int) (hn : n = k) (h : 1 ≤ k ∧ k ≤ 16) (w : World) : Calls Try.prog 14 #[.int .i64 n] w fun e w' =>
    ∃ p g F, e = .returned (.tuple #[.pointer (some ⟨p, 0, none⟩), .int .i64 0]) ∧ PlL w' p g (fresh k) (.map []) F ∧ (∀ b, F b → w.heap.size ≤ b) ∧ Below w.heap.size w w' := by
  have hms := fun W => run_stations k n hn h W
  have d0 : decide (n < 1) = false := decide_eq_false (by omega)
  have d1 : decide (16 < n) = false := decide_eq_false (by omega)
  have hmm := @run_makeMap Try.prog
  have HO := Lib.hid (fun W => World.ownsMap_made (H := Unit) W Try.prog 99 unitElem)
  have HL := Lib.hid (OwnL.lit encSt 82 w 0 (fresh k) _ rfl (Nat.zero_le _) (by simp; omega) k (by simp))
  have HLEN := Lib.hid (show (fresh k).length = k by simp)
  generalize (flatE encSt (fresh k)).toArray = V at *
  generalize fresh k = L at *
  clear hn h
  go_enter Try.func14, Try.ntmps14
  go_wp2
  refine bodyPost_ret (v := .tuple #[.pointer (some ⟨w.heap.size + 2, 0, none⟩), .int .i64 0]) (by simp [results, Try.results14, go_sem]) rfl ⟨w.heap.size + 2, w.heap.size, _, rfl, ⟨k, w.heap.size + 1, ?_, ?_, ?_, by omega, by omega, by omega, by simp, rfl⟩, ?_, ?_⟩
  · rw [HLEN.out]
    exact RowAt.new _ _ (by simp) [.slice (some ⟨w.heap.size, 0, none⟩) k k, .map (some (w.heap.size + 1))] _
  · rw [HLEN.out]
    exact (HL.out.alloc _).alloc _
  · have := HO.out (w.alloc (.cells V 82))
    rw [show (w.alloc (.cells V 82)).heap.size = w.heap.size + 1 by simp] at this
    exact this.alloc _
  · rintro b (rfl | rfl | rfl) <;> omega
  · exact (((Below.refl _ w).alloc (Nat.le_refl _) _).alloc (by simp) _).alloc (by simp; omega) _
/-- a complex number is written as one cell -/
theorem run_store_cx (re im : Nat) (a : Addr) (W : World) : (store a (.complex .f64 re im)).run Try.prog W = stored Try.prog W a (.complex .f64 re im) .plain := run_store Try.prog W a _ .plain rfl
/-- is it there? -/
theorem there_yes (n k : Nat) (i : Int) (hi : i = k + 1) (hk : k < n) : thereN n i = true := by
  unfold thereN
  rw [decide_eq_true (show 1 ≤ i by omega), decide_eq_true (show i ≤ n by omega)]
  rfl
set_option maxHeartbeats 1000000 in
theorem at_yes (p g : Nat) (L : List Stn) (D : DataW Unit) (F : Nat → Prop) (k : Nat) (i : Int) (hi : i = k + 1) (hk : k < L.length) (hl : L.length ≤ 16) (w : World) (h : PlL w p g L D F) :
    Calls Try.prog 44 #[.pointer (some ⟨p, 0, none⟩), .int .i64 i] w fun e w' => e = .returned (.tuple #[.complex .f64 L[k].re L[k].im, .int .i64 L[k].r]) ∧ Below w.heap.size w w' := by
  have ht := there_yes L.length k i hi hk
  obtain ⟨c, b, -⟩ := h.cells
  have hz : wrap64 (i - 1) = k := by rw [hi]; rw [show (k : Int) + 1 - 1 = k by omega]; exact IntWalk.wrap64_in _ (by omega)
  have HM := Lib.hid (RowAt.new w w.heap.size rfl [.int .i64 i] 3)
  have HP := Lib.hid (h.alloc (.cells #[.int .i64 i] 3))
  obtain ⟨c, b, x0, -, -⟩ := HP.out.cells
  obtain ⟨y0, y1⟩ := HP.out.get k hk
  have HT := Lib.hid (fun W hp hm => there_one p w.heap.size L.length (some ⟨g, 0, none⟩) c i W hp hm)
  rw [ht, show thereE true = 0 from rfl] at HT
  have HB := Lib.hid ((Below.refl _ w).alloc (Nat.le_refl _) (.cells #[.int .i64 i] 3))
  have HN := Lib.hid (RowAt.new (w.alloc (.cells #[.int .i64 i] 3)) (w.heap.size + 1) (by simp) [.complex .f64 0 0, .int .i64 0] 82)
  clear hi ht
  generalize L[k] = s at *
  obtain ⟨re, im, r⟩ := s
  simp only at y0 y1 ⊢
  have hst := fun a W => run_store_cx re im a W
  have n0 := HN.out.cell 0 rfl
  have f0 := (HN.out.get 0 rfl).free
  have HA := Lib.hid (HN.out.put 0 (.complex .f64 re im) _ rfl)
  have n1 := HA.out.cell 1 rfl
  have f1 := (HA.out.get 1 rfl).free
  have HR := Lib.hid (RowAt.new (w.alloc (.cells #[.int .i64 i] 3)) (w.heap.size + 1) (by simp) [.complex .f64 re im, .int .i64 r] 82)
  have HE := Lib.hid (HB.out.alloc (by simp) (.cells #[.complex .f64 re im, .int .i64 r] 82))
  go_enter Try.func44, Try.ntmps44
  go_wp2_with (go_at_call 30; (with_reducible refine (HT.out _ x0 HM.out).mono ?_); rintro e w1 ⟨rfl, rfl⟩)
  generalize (w.alloc (.cells #[.int .i64 i] 3)).alloc (.cells #[.complex .f64 re im, .int .i64 r] 82) = w2 at *
  generalize w.heap.size + 1 = m2 at *

  refine wp_region_held (S := fun W' => Below w2.heap.size w2 W') (by kernel_rfl) ?_
  change wpAnyH _ _ _ _ _ _ _ _ w2.drew
  have HB := Lib.hid ((Below.refl w2.heap.size w2).drew)
  refine wpAnyH_take (i := 0) (v := ?_) rfl (by kernel_rfl) (by kernel_rfl) (by kernel_rfl) (fun _ _ _ h => h) (Or.inl ⟨by rfl, ?_⟩) HB.out ?_
  rotate_left
  · intro w' hw'
    go_simp
    with_reducible rfl
  go_simp
  refine wpAnyH_take (i := 2) (v := ?_) rfl (by kernel_rfl) (by kernel_rfl) (by kernel_rfl) (fun _ _ _ h => h) (Or.inl ⟨by rfl, ?_⟩) HB.out ?_
  rotate_left
  · intro w' hw'
    go_simp
    with_reducible rfl
  go_simp
  refine wpAnyH_take (i := 1) (v := ?_) rfl (by kernel_rfl) (by kernel_rfl) (by kernel_rfl) (fun _ _ _ h => h) (Or.inl ⟨by rfl, ?_⟩) HB.out ?_
  rotate_left
  · intro w' hw'
    have x := (HR.out.below hw').cell 0 rfl
    go_simp
    with_reducible rfl
  go_simp
  refine wpAnyH_take (i := 3) (v := ?_) rfl (by kernel_rfl) (by kernel_rfl) (by kernel_rfl) (fun _ _ _ h => h) (Or.inl ⟨by rfl, ?_⟩) HB.out ?_
  rotate_left
  · intro w' hw'
    have x := (HR.out.below hw').cell 1 rfl
    go_simp
    with_reducible rfl
  go_simp
  refine wpAnyH_take (i := 4) (v := ?_) rfl (by kernel_rfl) (by kernel_rfl) (by kernel_rfl) (fun _ _ _ h => h) (Or.inl ⟨by rfl, ?_⟩) HB.out ?_
  rotate_left
  · intro w' hw'
    go_simp
    with_reducible rfl
  go_simp
  refine wpAnyH_take (i := 5) (v := ?_) rfl (by kernel_rfl) (by kernel_rfl) (by kernel_rfl) (fun _ _ _ h => h) (Or.inl ⟨by rfl, ?_⟩) HB.out ?_
  rotate_left
  · intro w' hw'
    go_simp
    with_reducible rfl
  go_simp
  refine wpAnyH_done (by kernel_rfl) ?_ _
  go_wp2_with fail
  exact bodyPost_ret (v := .tuple #[.complex .f64 re im, .int .i64 r]) (by simp [results, Try.results44, go_sem]) rfl ⟨rfl, HE.out.trans (HB.out.mono HE.out.size)⟩

end Go.Proofs.Ytgfipndilngfbaa
