/-
The landed code's anew, ahead, Command and Response.
-/
import Derived.Test.YtadhiknmkiogjaaDoorMix04
import Derived.Test.YtadhiknmkiogjaaDoorPathBase
import Derived.OrdersHeld
import Derived.Deep.RegionHeld
import Derived.Lib.SmallJoins
import Derived.Lib.ItoaNum
import Derived.Lib.QuietBelow
import Derived.Lib.IndexBytes
import Derived.IntWalk
namespace Go.Proofs.YtadhiknmkiogjaaDoor
open Go.RowKit Go.Sort
set_option maxRecDepth 20000
set_option maxHeartbeats 1000000 in
theorem anew_any (b : ByteArray) (n : Int) (w : World) (h : b.size ≤ 140737488351232) :
    Calls Tryd.prog 29 #[.agg #[.string b, .int .i64 n]] w fun e w' => e = .returned (.agg #[.string b, .int .i64 n]) ∧ Below w.heap.size w w' := by
  have HC := Lib.hid (fun W => clone_any b W h)
  obtain ⟨W0, hW0⟩ : ∃ W0, W0 = ((w.alloc (.cells #[.string b, .int .i64 n] 23)).alloc (.cells #[.string ⟨#[]⟩, .int .i64 0] 23)) := ⟨_, rfl⟩
  have hb0 : Below w.heap.size w W0 := by rw [hW0]; exact ((Below.refl _ w).alloc (Nat.le_refl _) _).alloc (by simp) _
  have hx := (show KeepAt (w.alloc (.cells #[.string b, .int .i64 n] 23)) w.heap.size 0 (.string b) ∧ KeepAt (w.alloc (.cells #[.string b, .int .i64 n] 23)) w.heap.size 1 (.int .i64 n) from ⟨⟨World.cell?_alloc_at _ _ _ _ rfl, World.frozen?_alloc_at _ _ _ _ rfl, by simp⟩, ⟨World.cell?_alloc_at _ _ _ _ rfl, World.frozen?_alloc_at _ _ _ _ rfl, by simp⟩⟩)
  have HX := Lib.hid (show KeepAt W0 w.heap.size 0 (.string b) ∧ KeepAt W0 w.heap.size 1 (.int .i64 n) ∧ KeepAt W0 (w.heap.size + 1) 0 (.string ⟨#[]⟩) ∧ KeepAt W0 (w.heap.size + 1) 1 (.int .i64 0) from by
    have e : w.heap.size + 1 = (w.alloc (.cells #[.string b, .int .i64 n] 23)).heap.size := by simp
    rw [hW0]
    refine ⟨hx.1.alloc _, hx.2.alloc _, ?_, ?_⟩ <;> rw [e] <;> exact ⟨World.cell?_alloc_at _ _ _ _ rfl, World.frozen?_alloc_at _ _ _ _ rfl, by simp⟩)
  have HB0 := Lib.hid hb0
  clear hx hb0 h
  subst hW0
  go_enter Tryd.func29, Tryd.ntmps29
  go_wp2_with (go_at_call 27; (with_reducible refine (HC.out _).mono ?_); rintro e w1 ⟨rfl, hb⟩; have HB := Lib.hid (HB0.out.trans (hb.mono HB0.out.size)); have HX1 := Lib.hid (show _ ∧ _ ∧ _ ∧ _ from ⟨HX.out.1.below hb, HX.out.2.1.below hb, HX.out.2.2.1.below hb, HX.out.2.2.2.below hb⟩); clear hb; obtain ⟨⟨a0, f0, l0⟩, ⟨a1, f1, -⟩, ⟨b0, g0, l1⟩, ⟨b1, g1, -⟩⟩ := HX1.out)
  have z := (HX1.out.2.2.1.other (g := w.heap.size) (p := 0) (.string b) (by omega))
  have z' := (HX1.out.2.2.2.other (g := w.heap.size) (p := 0) (.string b) (by omega))
  obtain ⟨z0, z1⟩ := stored2 (W := w1.setCell ⟨w.heap.size, 0, none⟩ (.string b)) (.string b) (.int .i64 n) z.cell z'.cell
  exact bodyPost_ret (v := .agg #[.string b, .int .i64 n]) (by simp [results, Tryd.results29, go_sem, z0, z1]) rfl ⟨rfl, set2_below (HB.out.setCell (p := ⟨w.heap.size, 0, none⟩) (Nat.le_refl _) _) (by omega) _ _⟩
set_option maxHeartbeats 1000000 in
theorem ahead_any (fb tb : ByteArray) (fn tn : Int) (c : Bool) (w : World) (hf : fb.size ≤ 140737488351232) (ht : tb.size ≤ 140737488351232) :
    Calls Tryd.prog 28 #[.agg #[.string fb, .int .i64 fn], .agg #[.string tb, .int .i64 tn], .bool c] w fun e w' => e = .returned (.agg #[.string tb, .int .i64 tn, .string fb, .int .i64 fn, .bool c, .bool (!c), .slice none 0 0]) ∧ Below w.heap.size w w' := by
  have HF := Lib.hid (fun W => anew_any fb fn W hf)
  have HT := Lib.hid (fun W => anew_any tb tn W ht)
  obtain ⟨W, hW⟩ : ∃ W, W = (((w.alloc (.cells #[.string fb, .int .i64 fn] 23)).alloc (.cells #[.string tb, .int .i64 tn] 23)).alloc (.cells #[.string ⟨#[]⟩, .int .i64 0, .string ⟨#[]⟩, .int .i64 0, .bool false, .bool false, .slice none 0 0] 58)) := ⟨_, rfl⟩
  have hb0 : Below w.heap.size w W := by rw [hW]; exact (((Below.refl _ w).alloc (Nat.le_refl _) _).alloc (by simp) _).alloc (by simp; omega) _
  have hs : W.heap.size = w.heap.size + 1 + 1 + 1 := by rw [hW]; simp
  have k1 : KeepAt (w.alloc (.cells #[.string fb, .int .i64 fn] 23)) w.heap.size 0 (.string fb) := ⟨World.cell?_alloc_at _ _ _ _ rfl, World.frozen?_alloc_at _ _ _ _ rfl, by simp⟩
  have k2 : KeepAt (w.alloc (.cells #[.string fb, .int .i64 fn] 23)) w.heap.size 1 (.int .i64 fn) := ⟨World.cell?_alloc_at _ _ _ _ rfl, World.frozen?_alloc_at _ _ _ _ rfl, by simp⟩
  have e1 : w.heap.size + 1 = (w.alloc (.cells #[.string fb, .int .i64 fn] 23)).heap.size := by simp
  have k3 : KeepAt ((w.alloc (.cells #[.string fb, .int .i64 fn] 23)).alloc (.cells #[.string tb, .int .i64 tn] 23)) (w.heap.size + 1) 0 (.string tb) := by rw [e1]; exact ⟨World.cell?_alloc_at _ _ _ _ rfl, World.frozen?_alloc_at _ _ _ _ rfl, by simp⟩
  have k4 : KeepAt ((w.alloc (.cells #[.string fb, .int .i64 fn] 23)).alloc (.cells #[.string tb, .int .i64 tn] 23)) (w.heap.size + 1) 1 (.int .i64 tn) := by rw [e1]; exact ⟨World.cell?_alloc_at _ _ _ _ rfl, World.frozen?_alloc_at _ _ _ _ rfl, by simp⟩
  have HKK := Lib.hid (show KeepAt W w.heap.size 0 (.string fb) ∧ KeepAt W w.heap.size 1 (.int .i64 fn) ∧ KeepAt W (w.heap.size + 1) 0 (.string tb) ∧ KeepAt W (w.heap.size + 1) 1 (.int .i64 tn) from by rw [hW]; exact ⟨(k1.alloc _).alloc _, (k2.alloc _).alloc _, k3.alloc _, k4.alloc _⟩)
  have HP := Lib.hid (show P7 W (w.heap.size + 1 + 1) _ _ _ _ _ _ _ from by rw [hW]; exact P7.new _ _ (by simp) _ _ _ _ _ _ _ _)
  have HB0 := Lib.hid hb0
  clear k1 k2 k3 k4 e1 hb0
  go_enter Tryd.func28, Tryd.ntmps28
  go_wp2
  rw [← hW]
  clear hW
  have hl0 : w.heap.size < w.heap.size + 1 + 1 := by omega
  have hl1 : w.heap.size + 1 < w.heap.size + 1 + 1 := by omega
  refine wp_region_held (S := fun W' => Below (w.heap.size + 1 + 1) W W') (by kernel_rfl) ?_
  change wpAnyH _ _ _ _ _ _ _ _ W.drew
  have HB := Lib.hid ((Below.refl (w.heap.size + 1 + 1) W).drew)
  refine wpAnyH_take (i := 0) (v := ?_) rfl (by kernel_rfl) (by kernel_rfl) (by kernel_rfl) (fun _ _ _ h => h) (Or.inl ⟨by rfl, ?_⟩) HB.out ?_
  rotate_left
  · intro w' hw'
    have x0 := (hw'.cell (p := ⟨w.heap.size, 0, none⟩) hl0).trans HKK.out.1.cell; have x1 := (hw'.cell (p := ⟨w.heap.size, 1, none⟩) hl0).trans HKK.out.2.1.cell; have x2 := (hw'.cell (p := ⟨w.heap.size + 1, 0, none⟩) hl1).trans HKK.out.2.2.1.cell; have x3 := (hw'.cell (p := ⟨w.heap.size + 1, 1, none⟩) hl1).trans HKK.out.2.2.2.cell
    go_simp
    with_reducible rfl
  refine wpAnyH_take (i := 2) (v := ?_) rfl (by kernel_rfl) (by kernel_rfl) (by kernel_rfl) (fun _ _ _ h => h) (Or.inl ⟨by rfl, ?_⟩) HB.out ?_
  rotate_left
  · intro w' hw'
    have x0 := (hw'.cell (p := ⟨w.heap.size, 0, none⟩) hl0).trans HKK.out.1.cell; have x1 := (hw'.cell (p := ⟨w.heap.size, 1, none⟩) hl0).trans HKK.out.2.1.cell; have x2 := (hw'.cell (p := ⟨w.heap.size + 1, 0, none⟩) hl1).trans HKK.out.2.2.1.cell; have x3 := (hw'.cell (p := ⟨w.heap.size + 1, 1, none⟩) hl1).trans HKK.out.2.2.2.cell
    go_simp
    with_reducible rfl
  refine wpAnyH_take (i := 4) (v := ?_) rfl (by kernel_rfl) (by kernel_rfl) (by kernel_rfl) (fun _ _ _ h => h) (Or.inl ⟨by rfl, ?_⟩) HB.out ?_
  rotate_left
  · intro w' hw'
    have x0 := (hw'.cell (p := ⟨w.heap.size, 0, none⟩) hl0).trans HKK.out.1.cell; have x1 := (hw'.cell (p := ⟨w.heap.size, 1, none⟩) hl0).trans HKK.out.2.1.cell; have x2 := (hw'.cell (p := ⟨w.heap.size + 1, 0, none⟩) hl1).trans HKK.out.2.2.1.cell; have x3 := (hw'.cell (p := ⟨w.heap.size + 1, 1, none⟩) hl1).trans HKK.out.2.2.2.cell
    go_simp
    with_reducible rfl
  refine wpAnyH_take (i := 5) (v := ?_) rfl (by kernel_rfl) (by kernel_rfl) (by kernel_rfl) (fun _ _ _ h => h) (Or.inl ⟨by rfl, ?_⟩) HB.out ?_
  rotate_left
  · intro w' hw'
    have x0 := (hw'.cell (p := ⟨w.heap.size, 0, none⟩) hl0).trans HKK.out.1.cell; have x1 := (hw'.cell (p := ⟨w.heap.size, 1, none⟩) hl0).trans HKK.out.2.1.cell; have x2 := (hw'.cell (p := ⟨w.heap.size + 1, 0, none⟩) hl1).trans HKK.out.2.2.1.cell; have x3 := (hw'.cell (p := ⟨w.heap.size + 1, 1, none⟩) hl1).trans HKK.out.2.2.2.cell
    go_simp
    with_reducible rfl
  refine wpAnyH_take (i := 6) (v := ?_) rfl (by kernel_rfl) (by kernel_rfl) (by kernel_rfl) (fun _ _ _ h => h) (Or.inl ⟨by rfl, ?_⟩) HB.out ?_
  rotate_left
  · intro w' hw'
    have x0 := (hw'.cell (p := ⟨w.heap.size, 0, none⟩) hl0).trans HKK.out.1.cell; have x1 := (hw'.cell (p := ⟨w.heap.size, 1, none⟩) hl0).trans HKK.out.2.1.cell; have x2 := (hw'.cell (p := ⟨w.heap.size + 1, 0, none⟩) hl1).trans HKK.out.2.2.1.cell; have x3 := (hw'.cell (p := ⟨w.heap.size + 1, 1, none⟩) hl1).trans HKK.out.2.2.2.cell
    go_simp
    with_reducible rfl
  refine wpAnyH_ready (rs := [1]) (by kernel_rfl) (by simp) ?_
  refine AllReadyH.cons rfl (fun K hK => ?_) AllReadyH.nil
  go_simp
  go_at_call 29
  refine (HT.out _).mono ?_
  rintro e w3 ⟨rfl, hb⟩
  have HP := Lib.hid (HP.out.drew.below hb)
  have HB := Lib.hid (HB.out.trans (hb.mono (by show _ ≤ W.heap.size; omega)))
  change K _ _
  refine hK.out _ _ HB.out (fun _ => ?_)
  clear hK K
  have hs3 : w.heap.size + 1 + 1 + 1 ≤ w3.heap.size := by rw [← hs]; exact hb.size
  clear hb
  refine wpAnyH_ready (rs := [3]) (by kernel_rfl) (by simp) ?_
  refine AllReadyH.cons rfl (fun K hK => ?_) AllReadyH.nil
  go_simp
  go_at_call 29
  refine (HF.out _).mono ?_
  rintro e w4 ⟨rfl, hb⟩
  have HP := Lib.hid (HP.out.below hb)
  have HB := Lib.hid (HB.out.trans (hb.mono (by omega)))
  have hbb := hb
  change K _ _
  refine hK.out _ _ HB.out (fun _ => ?_)
  clear hK K
  have hs4 : w.heap.size + 1 + 1 + 1 ≤ w4.heap.size := by have := hb.size; omega
  clear hb
  refine wpAnyH_take (i := 7) (v := ?_) rfl (by kernel_rfl) (by kernel_rfl) (by kernel_rfl) (fun _ _ _ h => h) (Or.inl ⟨by rfl, ?_⟩) HB.out ?_
  rotate_left
  · intro w' hw'
    go_simp
    with_reducible rfl
  obtain ⟨⟨p0, q0, pl⟩, ⟨p1, q1, -⟩, ⟨p2, q2, -⟩, ⟨p3, q3, -⟩, ⟨p4, q4, -⟩, ⟨p5, q5, -⟩, ⟨p6, q6, -⟩⟩ := HP.out
  have S7 := stored7 (.string tb) (.int .i64 tn) (.string fb) (.int .i64 fn) (.bool c) (.bool !c) (.slice none 0 0) HP.out
  have HB := Lib.hid (set7_below HB.out (Nat.le_refl _) (.string tb) (.int .i64 tn) (.string fb) (.int .i64 fn) (.bool c) (.bool !c) (.slice none 0 0))
  refine wpAnyH_ready (rs := [8]) (by kernel_rfl) (by simp) ?_
  refine AllReadyH.cons rfl (fun K hK => ?_) AllReadyH.nil
  go_simp
  refine hK.out _ _ HB.out (fun _ => ?_)
  clear hK K
  refine wpAnyH_done (by kernel_rfl) ?_ _
  go_wp2
  exact bodyPost_ret (v := .agg #[.string tb, .int .i64 tn, .string fb, .int .i64 fn, .bool c, .bool (!c), .slice none 0 0]) (by simp [results, Tryd.results28, go_sem, S7.k0.cell, S7.k1.cell, S7.k2.cell, S7.k3.cell, S7.k4.cell, S7.k5.cell, S7.k6.cell]) rfl ⟨rfl, HB0.out.trans (HB.out.mono (by omega))⟩
end Go.Proofs.YtadhiknmkiogjaaDoor
