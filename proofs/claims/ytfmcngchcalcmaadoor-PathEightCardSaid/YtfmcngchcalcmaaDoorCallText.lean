/-
The document's own Text.
-/
import Derived.Test.YtfmcngchcalcmaaDoorCallDigits
import Derived.Lib.QuietBelow
import Derived.Test.YtfmcngchcalcmaaDoorHeap
namespace Go.Proofs.YtfmcngchcalcmaaDoor
open Go.RowKit Go.Sort
theorem rtext_none (b : ByteArray) (w : World) :
    Calls Tryd.prog 58 #[.agg #[.string b, .int .i64 0]] w fun e w' => e = .returned (.string b) ∧ Below w.heap.size w w' := by
  go_enter Tryd.func58, Tryd.ntmps58
  go_wp2
  go_ret
  exact ⟨rfl, (Below.refl _ w).alloc (Nat.le_refl _) _⟩
theorem rtext_some (b : ByteArray) (n : Nat) (w : World) (h0 : 1 ≤ n) (h : n ≤ 15) (hb : b.size ≤ 6) :
    Calls Tryd.prog 58 #[.agg #[.string b, .int .i64 (n : Int)]] w fun e w' => e = .returned (.string ⟨(b.data.toList ++ 45 :: digD n).toArray⟩) ∧ Below w.heap.size w w' := by
  have HD := Lib.hid (fun W => digits_lit n W h)
  obtain ⟨W, hW⟩ : ∃ W, W = w.alloc (.cells #[.string b, .int .i64 (n : Int)] 23) := ⟨_, rfl⟩
  have k0 : W.cell? ⟨w.heap.size, 0, none⟩ = some (.string b) := by rw [hW, World.cell?_alloc_new]; rfl
  have k1 : W.cell? ⟨w.heap.size, 1, none⟩ = some (.int .i64 (n : Int)) := by rw [hW, World.cell?_alloc_new]; rfl
  have HBW := Lib.hid (show Below w.heap.size w W from by rw [hW]; exact (Below.refl _ w).alloc (Nat.le_refl _) _)
  have HW := Lib.hid hW
  clear hW
  obtain ⟨g, hg⟩ : ∃ g : ByteArray, g = ⟨(digD n).toArray⟩ := ⟨_, rfl⟩
  rw [← hg] at HD
  have hgs : g.size ≤ 2 := by
    rw [hg]
    show (digD n).toArray.size ≤ 2
    unfold digD
    split <;> simp
  have ha1 := fun (w : World) => run_string_add_sum (P := Tryd.prog) (w := w) b ⟨#[45]⟩ (by show b.size + 1 ≤ _; omega)
  have ha2 := fun (w : World) => run_string_add_sum (P := Tryd.prog) (w := w) (b ++ ⟨#[45]⟩) g (by rw [ByteArray.size_append]; show b.size + 1 + _ ≤ _; omega)
  obtain ⟨r, hr⟩ : ∃ r : ByteArray, r = ⟨(b.data.toList ++ 45 :: digD n).toArray⟩ := ⟨_, rfl⟩
  have hrr : (b ++ ⟨#[45]⟩) ++ g = r := by
    rw [hr, hg]
    exact bytes_ext' (by simp [ByteArray.data_append])
  rw [hrr] at ha2
  rw [← hr]
  clear hr hrr hg
  have hn : ((n : Int) == 0) = false := by rw [beq_eq_false_iff_ne]; omega
  go_enter Tryd.func58, Tryd.ntmps58
  go_wp2
  rw [← HW.out]
  have g0 := fun d' os => cell_regrown k0 d' os
  have g1 := fun d' os => cell_regrown k1 d' os
  refine wp_region_quiet_below (by kernel_rfl) (by kernel_rfl) ?_
  repeat (quiet_step (exact Calls.regrown_of (HD.out _)))
  refine wpQuiet_nil ?_
  intro _ hw'
  obtain ⟨pg, hw''⟩ := hw'
  subst hw''
  have HE := Lib.hid (below_regrown W pg.d pg.os)
  generalize grow (redrawn W pg.d) pg.os = w9 at *
  go_wp2
  go_ret
  exact ⟨rfl, HBW.out.trans (HE.out.mono HBW.out.size)⟩
end Go.Proofs.YtfmcngchcalcmaaDoor
