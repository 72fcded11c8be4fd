/-
The landed code's of.
The path with whose bytes a text begins, as a plain function; the document's own Get.
-/
import Derived.Test.YtgoaepjjegblnaaGreatDoorMix02
import Derived.OrdersHeld
import Derived.Deep.RegionHeld
import Derived.Lib.SmallJoins
import Derived.Lib.ItoaNum
import Derived.BigRegion
import Derived.IntWalk
import Derived.Lib.QuietBelow
import Derived.BigQuiet
import Derived.Deep.QuietTactic
import Derived.Lib.IndexBytes
import Derived.Test.YtgoaepjjegblnaaGreatDoorMix01
namespace Go.Proofs.YtgoaepjjegblnaaGreatDoor
open Go.RowKit Go.Sort
set_option maxRecDepth 20000
set_option maxHeartbeats 2000000 in
theorem of_any (tb fb : ByteArray) (tn fn : Int) (tm fm : Bool) (a : Option Addr) (cap : Nat) (D : List Ent) (w : World) (hD : D.length ≤ 1000) (hE : EntsAt w a cap ((tb, tn, tm) :: (fb, fn, fm) :: D)) :
    Calls Tryz.prog 192 #[.slice a (D.length + 2) cap] w fun e w' => ∃ v, e = .returned (.agg #[.string tb, .int .i64 tn, .string fb, .int .i64 fn, .bool tm, .bool fm, v]) ∧ OwnE 157 w' w.heap.size v D ∧ Below w.heap.size w w' := by
  obtain ⟨a', hs, hE'⟩ := slice_from Tryz.underlying55 sizeD hE 2 (by simp)
  have hle := hE.le
  obtain ⟨g, o, rfl, hg, c0, c1, c2⟩ := hE.at_ 0 (by simp)
  obtain ⟨g', o', ha, -, d0, d1, d2⟩ := hE.at_ 1 (by simp)
  simp only [Option.some.injEq, Addr.mk.injEq, and_true] at ha
  obtain ⟨rfl, rfl⟩ := ha
  simp only [List.getElem_cons_zero, List.getElem_cons_succ, Nat.zero_mul, Nat.add_zero, Nat.one_mul] at c0 c1 c2 d0 d1 d2
  simp only [List.length_cons, List.drop_succ_cons, List.drop_zero] at hs hE' hle
  obtain ⟨W, hW⟩ : ∃ W, W = (w.alloc (.cells #[.string ⟨#[]⟩, .int .i64 0, .string ⟨#[]⟩, .int .i64 0, .bool false, .bool false, .slice none 0 0] 57)) := ⟨_, rfl⟩
  have HB0 := Lib.hid (show Below w.heap.size w W from by rw [hW]; exact (Below.refl _ w).alloc (Nat.le_refl _) _)
  have hsz : W.heap.size = w.heap.size + 1 := by rw [hW]; simp
  have HP := Lib.hid (show P7 W w.heap.size _ _ _ _ _ _ _ from by rw [hW]; exact P7.new _ _ rfl _ _ _ _ _ _ _ _)
  have HC := Lib.hid (show W.cell? ⟨g, o, none⟩ = some (.string tb) ∧ W.cell? ⟨g, o + 1, none⟩ = some (.int .i64 tn) ∧ W.cell? ⟨g, o + 2, none⟩ = some (.bool tm) ∧ W.cell? ⟨g, o + 3, none⟩ = some (.string fb) ∧ W.cell? ⟨g, o + 3 + 1, none⟩ = some (.int .i64 fn) ∧ W.cell? ⟨g, o + 3 + 2, none⟩ = some (.bool fm) from
    ⟨(HB0.out.cell (p := ⟨g, _, none⟩) hg).trans c0, (HB0.out.cell (p := ⟨g, _, none⟩) hg).trans c1, (HB0.out.cell (p := ⟨g, _, none⟩) hg).trans c2, (HB0.out.cell (p := ⟨g, _, none⟩) hg).trans d0, (HB0.out.cell (p := ⟨g, _, none⟩) hg).trans d1, (HB0.out.cell (p := ⟨g, _, none⟩) hg).trans d2⟩)
  have HE := Lib.hid (hE'.below HB0.out)
  clear c0 c1 c2 d0 d1 d2 hE hE'
  have hl1 : (0 : Int) < (D.length : Int) + 2 := by omega
  have hl2 : (1 : Int) < (D.length : Int) + 2 := by omega
  have hgW : g < W.heap.size := by omega
  go_enter Tryz.func192, Tryz.ntmps192
  go_wp2
  rw [← hW]
  clear hW
  refine wp_region_held (S := fun W' => Below W.heap.size W W') (by kernel_rfl) ?_
  change wpAnyH _ _ _ _ _ _ _ _ W.drew
  have HB := Lib.hid ((Below.refl W.heap.size W).drew)
  refine wpAnyH_take (i := 0) (v := ?_) rfl (by kernel_rfl) (by kernel_rfl) (by kernel_rfl) (fun _ _ _ h => h) (Or.inl ⟨by rfl, ?_⟩) HB.out ?_
  rotate_left
  · intro w' hw'
    obtain ⟨x0, x1, x2, x3, x4, x5⟩ := HC.out; have y0 := (hw'.cell (p := ⟨g, o, none⟩) hgW).trans x0; have y1 := (hw'.cell (p := ⟨g, o + 1, none⟩) hgW).trans x1; have y2 := (hw'.cell (p := ⟨g, o + 2, none⟩) hgW).trans x2; have y3 := (hw'.cell (p := ⟨g, o + 3, none⟩) hgW).trans x3; have y4 := (hw'.cell (p := ⟨g, o + 3 + 1, none⟩) hgW).trans x4; have y5 := (hw'.cell (p := ⟨g, o + 3 + 2, none⟩) hgW).trans x5; clear x0 x1 x2 x3 x4 x5
    go_simp
    with_reducible rfl
  refine wpAnyH_take (i := 1) (v := ?_) rfl (by kernel_rfl) (by kernel_rfl) (by kernel_rfl) (fun _ _ _ h => h) (Or.inl ⟨by rfl, ?_⟩) HB.out ?_
  rotate_left
  · intro w' hw'
    obtain ⟨x0, x1, x2, x3, x4, x5⟩ := HC.out; have y0 := (hw'.cell (p := ⟨g, o, none⟩) hgW).trans x0; have y1 := (hw'.cell (p := ⟨g, o + 1, none⟩) hgW).trans x1; have y2 := (hw'.cell (p := ⟨g, o + 2, none⟩) hgW).trans x2; have y3 := (hw'.cell (p := ⟨g, o + 3, none⟩) hgW).trans x3; have y4 := (hw'.cell (p := ⟨g, o + 3 + 1, none⟩) hgW).trans x4; have y5 := (hw'.cell (p := ⟨g, o + 3 + 2, none⟩) hgW).trans x5; clear x0 x1 x2 x3 x4 x5
    go_simp
    with_reducible rfl
  refine wpAnyH_take (i := 2) (v := ?_) rfl (by kernel_rfl) (by kernel_rfl) (by kernel_rfl) (fun _ _ _ h => h) (Or.inl ⟨by rfl, ?_⟩) HB.out ?_
  rotate_left
  · intro w' hw'
    obtain ⟨x0, x1, x2, x3, x4, x5⟩ := HC.out; have y0 := (hw'.cell (p := ⟨g, o, none⟩) hgW).trans x0; have y1 := (hw'.cell (p := ⟨g, o + 1, none⟩) hgW).trans x1; have y2 := (hw'.cell (p := ⟨g, o + 2, none⟩) hgW).trans x2; have y3 := (hw'.cell (p := ⟨g, o + 3, none⟩) hgW).trans x3; have y4 := (hw'.cell (p := ⟨g, o + 3 + 1, none⟩) hgW).trans x4; have y5 := (hw'.cell (p := ⟨g, o + 3 + 2, none⟩) hgW).trans x5; clear x0 x1 x2 x3 x4 x5
    go_simp
    with_reducible rfl
  refine wpAnyH_take (i := 3) (v := ?_) rfl (by kernel_rfl) (by kernel_rfl) (by kernel_rfl) (fun _ _ _ h => h) (Or.inl ⟨by rfl, ?_⟩) HB.out ?_
  rotate_left
  · intro w' hw'
    obtain ⟨x0, x1, x2, x3, x4, x5⟩ := HC.out; have y0 := (hw'.cell (p := ⟨g, o, none⟩) hgW).trans x0; have y1 := (hw'.cell (p := ⟨g, o + 1, none⟩) hgW).trans x1; have y2 := (hw'.cell (p := ⟨g, o + 2, none⟩) hgW).trans x2; have y3 := (hw'.cell (p := ⟨g, o + 3, none⟩) hgW).trans x3; have y4 := (hw'.cell (p := ⟨g, o + 3 + 1, none⟩) hgW).trans x4; have y5 := (hw'.cell (p := ⟨g, o + 3 + 2, none⟩) hgW).trans x5; clear x0 x1 x2 x3 x4 x5
    go_simp
    with_reducible rfl
  refine wpAnyH_take (i := 4) (v := ?_) rfl (by kernel_rfl) (by kernel_rfl) (by kernel_rfl) (fun _ _ _ h => h) (Or.inl ⟨by rfl, ?_⟩) HB.out ?_
  rotate_left
  · intro w' hw'
    obtain ⟨x0, x1, x2, x3, x4, x5⟩ := HC.out; have y0 := (hw'.cell (p := ⟨g, o, none⟩) hgW).trans x0; have y1 := (hw'.cell (p := ⟨g, o + 1, none⟩) hgW).trans x1; have y2 := (hw'.cell (p := ⟨g, o + 2, none⟩) hgW).trans x2; have y3 := (hw'.cell (p := ⟨g, o + 3, none⟩) hgW).trans x3; have y4 := (hw'.cell (p := ⟨g, o + 3 + 1, none⟩) hgW).trans x4; have y5 := (hw'.cell (p := ⟨g, o + 3 + 2, none⟩) hgW).trans x5; clear x0 x1 x2 x3 x4 x5
    go_simp
    with_reducible rfl
  refine wpAnyH_take (i := 5) (v := ?_) rfl (by kernel_rfl) (by kernel_rfl) (by kernel_rfl) (fun _ _ _ h => h) (Or.inl ⟨by rfl, ?_⟩) HB.out ?_
  rotate_left
  · intro w' hw'
    obtain ⟨x0, x1, x2, x3, x4, x5⟩ := HC.out; have y0 := (hw'.cell (p := ⟨g, o, none⟩) hgW).trans x0; have y1 := (hw'.cell (p := ⟨g, o + 1, none⟩) hgW).trans x1; have y2 := (hw'.cell (p := ⟨g, o + 2, none⟩) hgW).trans x2; have y3 := (hw'.cell (p := ⟨g, o + 3, none⟩) hgW).trans x3; have y4 := (hw'.cell (p := ⟨g, o + 3 + 1, none⟩) hgW).trans x4; have y5 := (hw'.cell (p := ⟨g, o + 3 + 2, none⟩) hgW).trans x5; clear x0 x1 x2 x3 x4 x5
    go_simp
    with_reducible rfl
  refine wpAnyH_take (i := 6) (v := ?_) rfl (by kernel_rfl) (by kernel_rfl) (by kernel_rfl) (fun _ _ _ h => h) (Or.inl ⟨by rfl, ?_⟩) HB.out ?_
  rotate_left
  · intro w' hw'
    obtain ⟨x0, x1, x2, x3, x4, x5⟩ := HC.out; have y0 := (hw'.cell (p := ⟨g, o, none⟩) hgW).trans x0; have y1 := (hw'.cell (p := ⟨g, o + 1, none⟩) hgW).trans x1; have y2 := (hw'.cell (p := ⟨g, o + 2, none⟩) hgW).trans x2; have y3 := (hw'.cell (p := ⟨g, o + 3, none⟩) hgW).trans x3; have y4 := (hw'.cell (p := ⟨g, o + 3 + 1, none⟩) hgW).trans x4; have y5 := (hw'.cell (p := ⟨g, o + 3 + 2, none⟩) hgW).trans x5; clear x0 x1 x2 x3 x4 x5
    go_simp
    with_reducible rfl
  refine wpAnyH_take (i := 7) (v := ?_) rfl (by kernel_rfl) (by kernel_rfl) (by kernel_rfl) (fun _ _ _ h => h) (Or.inl ⟨by rfl, ?_⟩) HB.out ?_
  rotate_left
  · intro w' hw'
    obtain ⟨x0, x1, x2, x3, x4, x5⟩ := HC.out; have y0 := (hw'.cell (p := ⟨g, o, none⟩) hgW).trans x0; have y1 := (hw'.cell (p := ⟨g, o + 1, none⟩) hgW).trans x1; have y2 := (hw'.cell (p := ⟨g, o + 2, none⟩) hgW).trans x2; have y3 := (hw'.cell (p := ⟨g, o + 3, none⟩) hgW).trans x3; have y4 := (hw'.cell (p := ⟨g, o + 3 + 1, none⟩) hgW).trans x4; have y5 := (hw'.cell (p := ⟨g, o + 3 + 2, none⟩) hgW).trans x5; clear x0 x1 x2 x3 x4 x5
    go_simp
    with_reducible rfl
  refine wpAnyH_take (i := 8) (v := ?_) rfl (by kernel_rfl) (by kernel_rfl) (by kernel_rfl) (fun _ _ _ h => h) (Or.inl ⟨by rfl, ?_⟩) HB.out ?_
  rotate_left
  · intro w' hw'
    obtain ⟨x0, x1, x2, x3, x4, x5⟩ := HC.out; have y0 := (hw'.cell (p := ⟨g, o, none⟩) hgW).trans x0; have y1 := (hw'.cell (p := ⟨g, o + 1, none⟩) hgW).trans x1; have y2 := (hw'.cell (p := ⟨g, o + 2, none⟩) hgW).trans x2; have y3 := (hw'.cell (p := ⟨g, o + 3, none⟩) hgW).trans x3; have y4 := (hw'.cell (p := ⟨g, o + 3 + 1, none⟩) hgW).trans x4; have y5 := (hw'.cell (p := ⟨g, o + 3 + 2, none⟩) hgW).trans x5; clear x0 x1 x2 x3 x4 x5
    go_simp
    with_reducible rfl
  refine wpAnyH_take (i := 9) (v := ?_) rfl (by kernel_rfl) (by kernel_rfl) (by kernel_rfl) (fun _ _ _ h => h) (Or.inl ⟨by rfl, ?_⟩) HB.out ?_
  rotate_left
  · intro w' hw'
    obtain ⟨x0, x1, x2, x3, x4, x5⟩ := HC.out; have y0 := (hw'.cell (p := ⟨g, o, none⟩) hgW).trans x0; have y1 := (hw'.cell (p := ⟨g, o + 1, none⟩) hgW).trans x1; have y2 := (hw'.cell (p := ⟨g, o + 2, none⟩) hgW).trans x2; have y3 := (hw'.cell (p := ⟨g, o + 3, none⟩) hgW).trans x3; have y4 := (hw'.cell (p := ⟨g, o + 3 + 1, none⟩) hgW).trans x4; have y5 := (hw'.cell (p := ⟨g, o + 3 + 2, none⟩) hgW).trans x5; clear x0 x1 x2 x3 x4 x5
    go_simp
    with_reducible rfl
  refine wpAnyH_take (i := 10) (v := ?_) rfl (by kernel_rfl) (by kernel_rfl) (by kernel_rfl) (fun _ _ _ h => h) (Or.inl ⟨by rfl, ?_⟩) HB.out ?_
  rotate_left
  · intro w' hw'
    obtain ⟨x0, x1, x2, x3, x4, x5⟩ := HC.out; have y0 := (hw'.cell (p := ⟨g, o, none⟩) hgW).trans x0; have y1 := (hw'.cell (p := ⟨g, o + 1, none⟩) hgW).trans x1; have y2 := (hw'.cell (p := ⟨g, o + 2, none⟩) hgW).trans x2; have y3 := (hw'.cell (p := ⟨g, o + 3, none⟩) hgW).trans x3; have y4 := (hw'.cell (p := ⟨g, o + 3 + 1, none⟩) hgW).trans x4; have y5 := (hw'.cell (p := ⟨g, o + 3 + 2, none⟩) hgW).trans x5; clear x0 x1 x2 x3 x4 x5
    go_simp
    with_reducible rfl
  refine wpAnyH_take (i := 11) (v := ?_) rfl (by kernel_rfl) (by kernel_rfl) (by kernel_rfl) (fun _ _ _ h => h) (Or.inl ⟨by rfl, ?_⟩) HB.out ?_
  rotate_left
  · intro w' hw'
    obtain ⟨x0, x1, x2, x3, x4, x5⟩ := HC.out; have y0 := (hw'.cell (p := ⟨g, o, none⟩) hgW).trans x0; have y1 := (hw'.cell (p := ⟨g, o + 1, none⟩) hgW).trans x1; have y2 := (hw'.cell (p := ⟨g, o + 2, none⟩) hgW).trans x2; have y3 := (hw'.cell (p := ⟨g, o + 3, none⟩) hgW).trans x3; have y4 := (hw'.cell (p := ⟨g, o + 3 + 1, none⟩) hgW).trans x4; have y5 := (hw'.cell (p := ⟨g, o + 3 + 2, none⟩) hgW).trans x5; clear x0 x1 x2 x3 x4 x5
    go_simp
    with_reducible rfl
  refine wpAnyH_take (i := 12) (v := ?_) rfl (by kernel_rfl) (by kernel_rfl) (by kernel_rfl) (fun _ _ _ h => h) (Or.inl ⟨by rfl, ?_⟩) HB.out ?_
  rotate_left
  · intro w' hw'
    obtain ⟨x0, x1, x2, x3, x4, x5⟩ := HC.out; have y0 := (hw'.cell (p := ⟨g, o, none⟩) hgW).trans x0; have y1 := (hw'.cell (p := ⟨g, o + 1, none⟩) hgW).trans x1; have y2 := (hw'.cell (p := ⟨g, o + 2, none⟩) hgW).trans x2; have y3 := (hw'.cell (p := ⟨g, o + 3, none⟩) hgW).trans x3; have y4 := (hw'.cell (p := ⟨g, o + 3 + 1, none⟩) hgW).trans x4; have y5 := (hw'.cell (p := ⟨g, o + 3 + 2, none⟩) hgW).trans x5; clear x0 x1 x2 x3 x4 x5
    go_simp
    with_reducible rfl
  refine wpAnyH_take (i := 13) (v := ?_) rfl (by kernel_rfl) (by kernel_rfl) (by kernel_rfl) (fun _ _ _ h => h) (Or.inl ⟨by rfl, ?_⟩) HB.out ?_
  rotate_left
  · intro w' hw'
    obtain ⟨x0, x1, x2, x3, x4, x5⟩ := HC.out; have y0 := (hw'.cell (p := ⟨g, o, none⟩) hgW).trans x0; have y1 := (hw'.cell (p := ⟨g, o + 1, none⟩) hgW).trans x1; have y2 := (hw'.cell (p := ⟨g, o + 2, none⟩) hgW).trans x2; have y3 := (hw'.cell (p := ⟨g, o + 3, none⟩) hgW).trans x3; have y4 := (hw'.cell (p := ⟨g, o + 3 + 1, none⟩) hgW).trans x4; have y5 := (hw'.cell (p := ⟨g, o + 3 + 2, none⟩) hgW).trans x5; clear x0 x1 x2 x3 x4 x5
    go_simp
    with_reducible rfl
  refine wpAnyH_take (i := 14) (v := ?_) rfl (by kernel_rfl) (by kernel_rfl) (by kernel_rfl) (fun _ _ _ h => h) (Or.inl ⟨by rfl, ?_⟩) HB.out ?_
  rotate_left
  · intro w' hw'
    obtain ⟨x0, x1, x2, x3, x4, x5⟩ := HC.out; have y0 := (hw'.cell (p := ⟨g, o, none⟩) hgW).trans x0; have y1 := (hw'.cell (p := ⟨g, o + 1, none⟩) hgW).trans x1; have y2 := (hw'.cell (p := ⟨g, o + 2, none⟩) hgW).trans x2; have y3 := (hw'.cell (p := ⟨g, o + 3, none⟩) hgW).trans x3; have y4 := (hw'.cell (p := ⟨g, o + 3 + 1, none⟩) hgW).trans x4; have y5 := (hw'.cell (p := ⟨g, o + 3 + 2, none⟩) hgW).trans x5; clear x0 x1 x2 x3 x4 x5
    go_simp
    with_reducible rfl
  refine wpAnyH_take (i := 15) (v := ?_) rfl (by kernel_rfl) (by kernel_rfl) (by kernel_rfl) (fun _ _ _ h => h) (Or.inl ⟨by rfl, ?_⟩) HB.out ?_
  rotate_left
  · intro w' hw'
    obtain ⟨x0, x1, x2, x3, x4, x5⟩ := HC.out; have y0 := (hw'.cell (p := ⟨g, o, none⟩) hgW).trans x0; have y1 := (hw'.cell (p := ⟨g, o + 1, none⟩) hgW).trans x1; have y2 := (hw'.cell (p := ⟨g, o + 2, none⟩) hgW).trans x2; have y3 := (hw'.cell (p := ⟨g, o + 3, none⟩) hgW).trans x3; have y4 := (hw'.cell (p := ⟨g, o + 3 + 1, none⟩) hgW).trans x4; have y5 := (hw'.cell (p := ⟨g, o + 3 + 2, none⟩) hgW).trans x5; clear x0 x1 x2 x3 x4 x5
    go_simp
    with_reducible rfl
  refine wpAnyH_take (i := 16) (v := ?_) rfl (by kernel_rfl) (by kernel_rfl) (by kernel_rfl) (fun _ _ _ h => h) (Or.inl ⟨by rfl, ?_⟩) HB.out ?_
  rotate_left
  · intro w' hw'
    obtain ⟨x0, x1, x2, x3, x4, x5⟩ := HC.out; have y0 := (hw'.cell (p := ⟨g, o, none⟩) hgW).trans x0; have y1 := (hw'.cell (p := ⟨g, o + 1, none⟩) hgW).trans x1; have y2 := (hw'.cell (p := ⟨g, o + 2, none⟩) hgW).trans x2; have y3 := (hw'.cell (p := ⟨g, o + 3, none⟩) hgW).trans x3; have y4 := (hw'.cell (p := ⟨g, o + 3 + 1, none⟩) hgW).trans x4; have y5 := (hw'.cell (p := ⟨g, o + 3 + 2, none⟩) hgW).trans x5; clear x0 x1 x2 x3 x4 x5
    go_simp
    with_reducible rfl
  refine wpAnyH_ready (rs := [17]) (by kernel_rfl) (by simp) ?_
  refine AllReadyH.cons rfl (fun K hK => ?_) AllReadyH.nil
  go_simp
  have HB := Lib.hid (((Below.refl W.heap.size W).alloc (Nat.le_refl _) (.cells #[.string ⟨#[]⟩, .int .i64 0, .string ⟨#[]⟩, .int .i64 0, .bool false, .bool false, .slice none 0 0] 57)).drew)
  refine hK.out _ _ HB.out (fun _ => ?_)
  clear hK K
  have HQ := Lib.hid ((P7.new W (w.heap.size + 1) hsz.symm (.string ⟨#[]⟩) (.int .i64 0) (.string ⟨#[]⟩) (.int .i64 0) (.bool false) (.bool false) (.slice none 0 0) 57).drew)
  obtain ⟨⟨p0, q0, pl⟩, ⟨p1, q1, -⟩, ⟨p2, q2, -⟩, ⟨p3, q3, -⟩, ⟨p4, q4, -⟩, ⟨p5, q5, -⟩, ⟨p6, q6, -⟩⟩ := HQ.out
  have HX := Lib.hid ((HP.out.alloc (.cells #[.string ⟨#[]⟩, .int .i64 0, .string ⟨#[]⟩, .int .i64 0, .bool false, .bool false, .slice none 0 0] 57)).drew)
  have HE2 := Lib.hid ((HE.out.alloc (.cells #[.string ⟨#[]⟩, .int .i64 0, .string ⟨#[]⟩, .int .i64 0, .bool false, .bool false, .slice none 0 0] 57)).drew)
  generalize (W.alloc (.cells #[.string ⟨#[]⟩, .int .i64 0, .string ⟨#[]⟩, .int .i64 0, .bool false, .bool false, .slice none 0 0] 57)).drew = V at *
  refine wpAnyH_ready (rs := [18]) (by kernel_rfl) (by simp) ?_
  refine AllReadyH.cons rfl (fun K hK => ?_) AllReadyH.nil
  go_simp
  have HQ := Lib.hid (stored7 (m := w.heap.size + 1) (.string tb) (.int .i64 tn) (.string fb) (.int .i64 fn) (.bool tm) (.bool fm) (.slice none 0 0) HQ.out)
  have HX := Lib.hid (show P7 (((((((V.setCell ⟨(w.heap.size + 1), 0, none⟩ (.string tb)).setCell ⟨(w.heap.size + 1), 1, none⟩ (.int .i64 tn)).setCell ⟨(w.heap.size + 1), 2, none⟩ (.string fb)).setCell ⟨(w.heap.size + 1), 3, none⟩ (.int .i64 fn)).setCell ⟨(w.heap.size + 1), 4, none⟩ (.bool tm)).setCell ⟨(w.heap.size + 1), 5, none⟩ (.bool fm)).setCell ⟨(w.heap.size + 1), 6, none⟩ (.slice none 0 0)) w.heap.size _ _ _ _ _ _ _ from ((((((HX.out.other _ (by omega)).other _ (by omega)).other _ (by omega)).other _ (by omega)).other _ (by omega)).other _ (by omega)).other _ (by omega))
  have HB := Lib.hid (set7_below (m := w.heap.size + 1) HB.out (by omega) (.string tb) (.int .i64 tn) (.string fb) (.int .i64 fn) (.bool tm) (.bool fm) (.slice none 0 0))
  refine hK.out _ _ HB.out (fun _ => ?_)
  clear hK K
  have HE2 := Lib.hid (HE.out.below HB.out)
  generalize (((((((V.setCell ⟨(w.heap.size + 1), 0, none⟩ (.string tb)).setCell ⟨(w.heap.size + 1), 1, none⟩ (.int .i64 tn)).setCell ⟨(w.heap.size + 1), 2, none⟩ (.string fb)).setCell ⟨(w.heap.size + 1), 3, none⟩ (.int .i64 fn)).setCell ⟨(w.heap.size + 1), 4, none⟩ (.bool tm)).setCell ⟨(w.heap.size + 1), 5, none⟩ (.bool fm)).setCell ⟨(w.heap.size + 1), 6, none⟩ (.slice none 0 0)) = X at *
  clear p0 q0 pl p1 q1 p2 q2 p3 q3 p4 q4 p5 q5 p6 q6
  refine wpAnyH_done (by kernel_rfl) ?_ _
  go_wp2
  have HBX := Lib.hid (HB0.out.trans (HB.out.mono HB0.out.size))
  clear HB HB0 HE HP HC
  obtain ⟨⟨p0, q0, pl⟩, ⟨p1, q1, -⟩, ⟨p2, q2, -⟩, ⟨p3, q3, -⟩, ⟨p4, q4, -⟩, ⟨p5, q5, -⟩, ⟨p6, q6, -⟩⟩ := HQ.out
  have hsl : ∀ W, (Instr.slice 55 (.slice (some ⟨g, o, none⟩) (D.length + 2) cap) (some (.int .i64 2)) none none).run Tryz.prog W = .ok (.slice a' D.length (cap - 2)) W := hs
  have HE3 := Lib.hid (HE2.out.drew)
  have HQ3 := Lib.hid (HQ.out.drew)
  have HX3 := Lib.hid (HX.out.drew)
  have HBX3 := Lib.hid HBX.out.drew
  refine wp_region_any (by kernel_rfl) ?_
  try (change wpAny _ _ _ _ _ _ _ (World.drew _))
  have HYS := Lib.hid (show w.heap.size + 2 ≤ X.drew.heap.size from pl)
  generalize X.drew = Y at *
  clear p0 q0 pl p1 q1 p2 q2 p3 q3 p4 q4 p5 q5 p6 q6 HX HQ HBX HE2
  have y6 := HQ3.out.k6.cell
  have HLL := Lib.hid (show ([] : List Ent).length + D.length ≤ 100000 from by simp; omega)
  refine wpAny_take (i := 0) (v := ?_) rfl (by kernel_rfl) (by kernel_rfl) (by kernel_rfl) (fun _ _ _ h => h) (Or.inl ⟨by rfl, ?_⟩) ?_
  rotate_left
  · intro w; go_simp; with_reducible rfl
  refine wpAny_take (i := 2) (v := ?_) rfl (by kernel_rfl) (by kernel_rfl) (by kernel_rfl) (fun _ _ _ h => h) (Or.inl ⟨by rfl, ?_⟩) ?_
  rotate_left
  · intro w; go_simp; with_reducible rfl
  refine wpAny_take (i := 3) (v := ?_) rfl (by kernel_rfl) (by kernel_rfl) (by kernel_rfl) (fun _ _ _ h => h) (Or.inl ⟨by rfl, ?_⟩) ?_
  rotate_left
  · intro w; go_simp; with_reducible rfl
  refine wpAny_ready (rs := [1]) (by kernel_rfl) (by simp) ?_
  refine AllReady.cons rfl (fun K hK => ?_) AllReady.nil
  go_simp
  refine hK _ _ ?_
  clear hK K
  refine wpAny_ready (rs := [4]) (by kernel_rfl) (by simp) ?_
  refine AllReady.cons rfl (fun K hK => ?_) AllReady.nil
  rw [if_pos (by kernel_rfl)]
  unfold Oper.wp
  refine wp_append_ents infoD Tryz.underlying55 _ (.tmp 22) (.tmp 24) rfl (w.heap.size + 2) (.slice none 0 0) [] D rfl (OwnE.nil _ _ _) a' (cap - 2) rfl HE3.out HLL.out ?_ ?_
  · show _ ≤ Y.heap.size
    exact HYS.out
  intro v' w1 hown hgr hov
  obtain ⟨va, vn, vc, rfl⟩ := hown.form
  have HG := Lib.hid (show Below Y.heap.size Y w1 from (Below.refl _ Y).grown hgr (Nat.le_refl _) (fun k h => by cases h))
  have HQ4 := Lib.hid (HQ3.out.below HG.out)
  have HX4 := Lib.hid (HX3.out.below HG.out)
  have HOW := Lib.hid hown
  have HBX4 := Lib.hid (HBX3.out.trans (HG.out.mono HBX3.out.size))
  have HZ := Lib.hid (Nat.le_trans HYS.out HG.out.size)
  clear hown hgr hov HQ3 HX3 HG HBX3 HYS
  go_simp
  refine hK _ _ ?_
  clear hK K
  have HQ5 := Lib.hid (HQ4.out.put6 (.slice va vn vc))
  have HX5 := Lib.hid (HX4.out.other (g := w.heap.size + 1) (p := 6) (.slice va vn vc) (by omega))
  have HOW5 := Lib.hid (HOW.out.grown (grown_set (grown_refl w1 (some (w.heap.size + 1))) (o := 6) (.slice va vn vc)) (fun g hv e => by have := (HOW.out.ge hv).1; have := Option.some.inj e; omega))
  have HBX5 := Lib.hid (HBX4.out.setCell (p := ⟨w.heap.size + 1, 6, none⟩) (by show w.heap.size ≤ w.heap.size + 1; omega) (.slice va vn vc))
  obtain ⟨z0, zf, zl⟩ := HQ4.out.k6
  refine wpAny_ready (rs := [5]) (by kernel_rfl) (by simp) ?_
  refine AllReady.cons rfl (fun K hK => ?_) AllReady.nil
  go_simp
  refine hK _ _ ?_
  clear hK K
  refine wpAny_ready (rs := [6]) (by kernel_rfl) (by simp) ?_
  refine AllReady.cons rfl (fun K hK => ?_) AllReady.nil
  go_simp
  refine hK _ _ ?_
  clear hK K
  generalize w1.setCell ⟨w.heap.size + 1, 6, none⟩ (.slice va vn vc) = w5 at *
  refine wpAny_done (by kernel_rfl) ?_ _
  clear z0 zf zl HQ4 HX4 HOW HBX4 y6
  obtain ⟨⟨p0, q0, pl⟩, ⟨p1, q1, -⟩, ⟨p2, q2, -⟩, ⟨p3, q3, -⟩, ⟨p4, q4, -⟩, ⟨p5, q5, -⟩, ⟨p6, q6, -⟩⟩ := HQ5.out
  obtain ⟨⟨r0, s0, rl⟩, ⟨r1, s1, -⟩, ⟨r2, s2, -⟩, ⟨r3, s3, -⟩, ⟨r4, s4, -⟩, ⟨r5, s5, -⟩, ⟨r6, s6, -⟩⟩ := HX5.out
  have S7 := stored7 (m := w.heap.size) (.string tb) (.int .i64 tn) (.string fb) (.int .i64 fn) (.bool tm) (.bool fm) (.slice va vn vc) HX5.out
  have HF := Lib.hid (And.intro (HOW5.out.grown (grown7 (m := w.heap.size) (grown_refl w5 (some w.heap.size)) (Or.inr rfl) (.string tb) (.int .i64 tn) (.string fb) (.int .i64 fn) (.bool tm) (.bool fm) (.slice va vn vc)) (fun g hv e => by have := (HOW5.out.ge hv).1; have := Option.some.inj e; omega)) (set7_below (m := w.heap.size) HBX5.out (Nat.le_refl _) (.string tb) (.int .i64 tn) (.string fb) (.int .i64 fn) (.bool tm) (.bool fm) (.slice va vn vc)))
  go_wp2
  exact bodyPost_ret (v := .agg #[.string tb, .int .i64 tn, .string fb, .int .i64 fn, .bool tm, .bool fm, .slice va vn vc]) (by simp [results, Tryz.results192, go_sem, S7.k0.cell, S7.k1.cell, S7.k2.cell, S7.k3.cell, S7.k4.cell, S7.k5.cell, S7.k6.cell]) rfl ⟨_, rfl, HF.out.1.base (by omega), HF.out.2⟩
end Go.Proofs.YtgoaepjjegblnaaGreatDoor
namespace Go.Proofs.YtgoaepjjegblnaaGreatDoor
open Go.RowKit Go.Sort
set_option maxRecDepth 20000
/-- the entry that a call's bytes are -/
def entD (s : List UInt8) : Ent := (⟨(getD7 s).2.1.toArray⟩, ((getD7 s).2.2.1 : Int), (getD7 s).2.2.2.1)
/-- what Get finds behind the entries that it has read; k: how many more there may be -/
def getP : Nat → List Ent → List UInt8 → Nat × List Ent
  | 0, _, s => if s.length < 7 then (4, []) else if (getD7 (s.take 7)).1 then (11, []) else (2, [])
  | k + 1, l, s => if s.length < 7 then (4, []) else if (getD7 (s.take 7)).1 then
      (if (getD7 (s.take 7)).2.2.2.2 then (if l.length = 0 then (2, []) else if ordD ((l ++ [entD (s.take 7)]).drop 2) then (0, l ++ [entD (s.take 7)]) else (11, [])) else getP k (l ++ [entD (s.take 7)]) (s.drop 7)) else (2, [])
/-- seven bytes of a text -/
theorem part7 (s : ByteArray) (at_ : Nat) (h : at_ + 7 ≤ s.size) : ∃ p : ByteArray, p.data.toList = (s.data.toList.drop at_).take 7 ∧ p.size = 7 ∧ ∀ W, (Instr.slice 9 (.string s) (some (.int .i64 (at_ : Int))) (some (.int .i64 ((at_ : Int) + 7))) none).run Tryz.prog W = .ok (.string p) W := by
  refine ⟨s.extract at_ (at_ + 7), ?_, ?_, fun W => ?_⟩
  · rw [Lib.extract_data]
    congr 1
    omega
  · rw [ByteArray.size_extract]
    omega
  · have k := run_slice_string (P := Tryz.prog) (w := W) 9 s .i64 .i64 (at_ : Int) ((at_ : Int) + 7) Tryz.underlying9 (by omega) (by omega) (by omega)
    rw [k]
    congr 2
theorem getP_short : ∀ (k : Nat) (l : List Ent) (s : List UInt8), s.length < 7 → getP k l s = (4, [])
  | 0, _, _, h => by unfold getP; rw [if_pos h]
  | k + 1, _, _, h => by unfold getP; rw [if_pos h]
theorem getP_bad : ∀ (k : Nat) (l : List Ent) (s : List UInt8), 7 ≤ s.length → (getD7 (s.take 7)).1 = false → getP k l s = (2, [])
  | 0, _, _, h, hg => by unfold getP; rw [if_neg (by omega), hg]; rfl
  | k + 1, _, _, h, hg => by unfold getP; rw [if_neg (by omega), hg]; rfl
theorem getP_full (l : List Ent) (s : List UInt8) (h : 7 ≤ s.length) (hg : (getD7 (s.take 7)).1 = true) : getP 0 l s = (11, []) := by unfold getP; rw [if_neg (by omega), if_pos hg]
theorem getP_next (k : Nat) (l : List Ent) (s : List UInt8) (h : 7 ≤ s.length) {bl : List UInt8} {n : Nat} {mk : Bool} (hg : getD7 (s.take 7) = (true, bl, n, mk, false)) : getP (k + 1) l s = getP k (l ++ [(⟨bl.toArray⟩, (n : Int), mk)]) (s.drop 7) := by
  conv => lhs; unfold getP
  rw [if_neg (by omega)]
  unfold entD
  rw [hg]
  rfl
theorem getP_last (k : Nat) (l : List Ent) (s : List UInt8) (h : 7 ≤ s.length) {bl : List UInt8} {n : Nat} {mk : Bool} (hg : getD7 (s.take 7) = (true, bl, n, mk, true)) :
    getP (k + 1) l s = if l.length = 0 then (2, []) else if ordD ((l ++ [((⟨bl.toArray⟩ : ByteArray), (n : Int), mk)] : List Ent).drop 2) then (0, l ++ [((⟨bl.toArray⟩ : ByteArray), (n : Int), mk)]) else (11, []) := by
  conv => lhs; unfold getP
  rw [if_neg (by omega)]
  unfold entD
  rw [hg]
  rfl
end Go.Proofs.YtgoaepjjegblnaaGreatDoor
