/-
The landed air's arrive, as long as nothing is said ahead; its sound.
-/
import Derived.Test.YtgfipndilngfbaaAirCDelB
namespace Go.Proofs.Ytgfipndilngfbaa
open Go.RowKit
set_option maxRecDepth 20000
section
variable {w : World} {a n : Nat} {H : Nat → Nat → Bool} {S : Ai} {p m hh : Nat} {Fp : Nat → Prop} {M : Nat → Option Nat} {G : Nat → Nat → Prop} {T : Nat → List Int}
set_option maxHeartbeats 1000000 in
theorem carrive15 (h : AirAt w a n H S p m hh Fp M G T) (i j : Nat) (hi : i ≤ 1000) (hj : j ≤ 1000) (f : ByteArray) :
    Calls Try.prog 42 #[ptrV a, .agg #[.int .i64 i, .int .i64 j], .string f] w fun e w' => e = .returned (.tuple #[.agg #[.int .i64 i, .int .i64 j, .string f, .bool false], .bool true]) ∧ Below w.heap.size w w' := by
  have HA := Lib.hid h
  clear h
  go_enter Try.func42, Try.ntmps42
  go_upto_region 2 with fail
  have HR0 := Lib.hid (show RowAt (((w.alloc (.cells #[.int .i64 i, .int .i64 j] 93)).alloc (.cells #[.int .i64 0, .int .i64 0, .string ⟨#[]⟩, .bool false] 37)).alloc (.cells #[.int .i64 i, .int .i64 j, .string f, .bool false] 37)) w.heap.size [.int .i64 i, .int .i64 j] from
    ((RowAt.new w w.heap.size rfl [.int .i64 i, .int .i64 j] _).alloc _).alloc _)
  have HR1 := Lib.hid (show RowAt (((w.alloc (.cells #[.int .i64 i, .int .i64 j] 93)).alloc (.cells #[.int .i64 0, .int .i64 0, .string ⟨#[]⟩, .bool false] 37)).alloc (.cells #[.int .i64 i, .int .i64 j, .string f, .bool false] 37)) (w.heap.size + 1) [.int .i64 0, .int .i64 0, .string ⟨#[]⟩, .bool false] from
    (RowAt.new (w.alloc (.cells #[.int .i64 i, .int .i64 j] 93)) (w.heap.size + 1) (by simp) [.int .i64 0, .int .i64 0, .string ⟨#[]⟩, .bool false] _).alloc _)
  have HR2 := Lib.hid (show RowAt (((w.alloc (.cells #[.int .i64 i, .int .i64 j] 93)).alloc (.cells #[.int .i64 0, .int .i64 0, .string ⟨#[]⟩, .bool false] 37)).alloc (.cells #[.int .i64 i, .int .i64 j, .string f, .bool false] 37)) (w.heap.size + 1 + 1) [.int .i64 i, .int .i64 j, .string f, .bool false] from
    RowAt.new _ _ (by simp) [.int .i64 i, .int .i64 j, .string f, .bool false] _)
  have HB0 := Lib.hid (show Below w.heap.size w (((w.alloc (.cells #[.int .i64 i, .int .i64 j] 93)).alloc (.cells #[.int .i64 0, .int .i64 0, .string ⟨#[]⟩, .bool false] 37)).alloc (.cells #[.int .i64 i, .int .i64 j, .string f, .bool false] 37)) from
    (((Below.refl _ w).alloc (Nat.le_refl _) _).alloc (by simp) _).alloc (by simp; omega) _)
  have HA3 := Lib.hid (HA.out.below HB0.out)
  generalize ((w.alloc (.cells #[.int .i64 i, .int .i64 j] 93)).alloc (.cells #[.int .i64 0, .int .i64 0, .string ⟨#[]⟩, .bool false] 37)).alloc (.cells #[.int .i64 i, .int .i64 j, .string f, .bool false] 37) = w3 at *
  refine wp_region_held (S := fun W' => Below w3.heap.size w3 W') (by kernel_rfl) ?_
  change wpAnyH _ _ _ _ _ _ _ _ w3.drew
  have HB := Lib.hid ((Below.refl w3.heap.size w3).drew)
  refine wpAnyH_take (i := 0) (v := ?_) rfl (by kernel_rfl) (by kernel_rfl) (by kernel_rfl) (fun _ _ _ h => h) (Or.inl ⟨by rfl, ?_⟩) HB.out ?_
  rotate_left
  · intro w' hw'
    go_simp
    with_reducible rfl
  go_simp
  refine wpAnyH_take (i := 1) (v := ?_) rfl (by kernel_rfl) (by kernel_rfl) (by kernel_rfl) (fun _ _ _ h => h) (Or.inl ⟨by rfl, ?_⟩) HB.out ?_
  rotate_left
  · intro w' hw'
    go_simp
    with_reducible rfl
  go_simp
  refine wpAnyH_take (i := 2) (v := ?_) rfl (by kernel_rfl) (by kernel_rfl) (by kernel_rfl) (fun _ _ _ h => h) (Or.inl ⟨by rfl, ?_⟩) HB.out ?_
  rotate_left
  · intro w' hw'
    go_simp
    with_reducible rfl
  go_simp
  refine wpAnyH_take (i := 3) (v := ?_) rfl (by kernel_rfl) (by kernel_rfl) (by kernel_rfl) (fun _ _ _ h => h) (Or.inl ⟨by rfl, ?_⟩) HB.out ?_
  rotate_left
  · intro w' hw'
    have xx := (HA3.out.row.below hw').cell 2 rfl
    go_simp
    with_reducible rfl
  go_simp
  refine wpAnyH_take (i := 4) (v := ?_) rfl (by kernel_rfl) (by kernel_rfl) (by kernel_rfl) (fun _ _ _ h => h) (Or.inl ⟨by rfl, ?_⟩) HB.out ?_
  rotate_left
  · intro w' hw'
    have xx := (HR0.out.below hw').cell 0 rfl; have xy := (HR0.out.below hw').cell 1 rfl
    go_simp
    with_reducible rfl
  go_simp
  refine wpAnyH_take (i := 5) (v := ?_) rfl (by kernel_rfl) (by kernel_rfl) (by kernel_rfl) (fun _ _ _ h => h) (Or.inl ⟨by rfl, ?_⟩) HB.out ?_
  rotate_left
  · intro w' hw'
    have xx := (HA3.out.said.below hw').look i j (WalkArith.wf_i64 (by omega)) (WalkArith.wf_i64 (by omega))
    go_simp
    with_reducible rfl
  go_simp
  refine wpAnyH_take (i := 6) (v := ?_) rfl (by kernel_rfl) (by kernel_rfl) (by kernel_rfl) (fun _ _ _ h => h) (Or.inl ⟨by rfl, ?_⟩) HB.out ?_
  rotate_left
  · intro w' hw'
    go_simp
    with_reducible rfl
  go_simp
  refine wpAnyH_done (by kernel_rfl) ?_ _
  have HR1d := Lib.hid HR1.out.drew
  have HR2d := Lib.hid HR2.out.drew
  have HB0d := Lib.hid HB0.out.drew
  clear HR0 HR1 HR2 HB0 HA3 HB HA
  generalize w3.drew = w4 at *
  have q0 := HR2d.out.cell 0 rfl
  have q1 := HR2d.out.cell 1 rfl
  have q2 := HR2d.out.cell 2 rfl
  have q3 := HR2d.out.cell 3 rfl
  have r0 := HR1d.out.cell 0 rfl
  have rf0 := (HR1d.out.get 0 rfl).free
  have r1 := HR1d.out.cell 1 rfl
  have rf1 := (HR1d.out.get 1 rfl).free
  have r2 := HR1d.out.cell 2 rfl
  have rf2 := (HR1d.out.get 2 rfl).free
  have r3 := HR1d.out.cell 3 rfl
  have rf3 := (HR1d.out.get 3 rfl).free
  have HE := Lib.hid (show RowAt ((((w4.setCell ⟨w.heap.size + 1, 0, none⟩ (.int .i64 i)).setCell ⟨w.heap.size + 1, 1, none⟩ (.int .i64 j)).setCell ⟨w.heap.size + 1, 2, none⟩ (.string f)).setCell ⟨w.heap.size + 1, 3, none⟩ (.bool false)) (w.heap.size + 1) [.int .i64 i, .int .i64 j, .string f, .bool false] from
    ((((HR1d.out.put 0 (.int .i64 i) _ rfl).put 1 (.int .i64 j) _ rfl).put 2 (.string f) _ rfl).put 3 (.bool false) _ rfl))
  have HBE := Lib.hid (show Below w.heap.size w ((((w4.setCell ⟨w.heap.size + 1, 0, none⟩ (.int .i64 i)).setCell ⟨w.heap.size + 1, 1, none⟩ (.int .i64 j)).setCell ⟨w.heap.size + 1, 2, none⟩ (.string f)).setCell ⟨w.heap.size + 1, 3, none⟩ (.bool false)) from
    ((((HB0d.out.setCell (p := ⟨w.heap.size + 1, 0, none⟩) (Nat.le_succ _) (.int .i64 i)).setCell (p := ⟨w.heap.size + 1, 1, none⟩) (Nat.le_succ _) (.int .i64 j)).setCell (p := ⟨w.heap.size + 1, 2, none⟩) (Nat.le_succ _) (.string f)).setCell (p := ⟨w.heap.size + 1, 3, none⟩) (Nat.le_succ _) (.bool false)))
  go_wp2_with fail
  clear r0 r1 r2 r3 rf0 rf1 rf2 rf3 q0 q1 q2 q3
  have s0 := HE.out.cell 0 rfl
  have s1 := HE.out.cell 1 rfl
  have s2 := HE.out.cell 2 rfl
  have s3 := HE.out.cell 3 rfl
  exact bodyPost_ret (v := .tuple #[.agg #[.int .i64 i, .int .i64 j, .string f, .bool false], .bool true]) (by simp [results, Try.results42, go_sem, s0, s1, s2, s3]) rfl ⟨rfl, HBE.out⟩
end
end Go.Proofs.Ytgfipndilngfbaa
