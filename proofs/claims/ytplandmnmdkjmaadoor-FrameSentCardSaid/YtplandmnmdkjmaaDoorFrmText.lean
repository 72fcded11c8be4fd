/-
The landed code's word of the document's example.
-/
import Derived.Test.YtplandmnmdkjmaaDoorFrmCells
import Derived.Test.YtplandmnmdkjmaaDoorPathCText
import Derived.Test.YtplandmnmdkjmaaDoorCtlName
import Derived.Test.YtplandmnmdkjmaaDoorFrmCFault
import Derived.OrdersHeld
import Derived.Deep.RegionHeld
namespace Go.Proofs.YtplandmnmdkjmaaDoor
open Go.RowKit Go.Sort
set_option maxRecDepth 20000
theorem ex_fright : rightP [(⟨#[66]⟩, 0, true), (⟨#[65]⟩, 0, false)] = true := by decide +kernel
theorem ex_fpath : pathD (⟨#[66]⟩, 0, true) (⟨#[65]⟩, 0, false) [] = [65, 62, 66] := by decide +kernel
theorem ex_fname : nameC 12 = [85, 73] := by decide +kernel
theorem ex_fsup : supD 12 = false := by decide +kernel
theorem ex_fdec : Lib.decDigits 2 = [50] := by decide +kernel
set_option maxHeartbeats 2000000 in
theorem ftext_ui (a : Option Addr) (cap : Nat) (I : ByteArray) (hI : I.size = 2) (w : World) (hN : NamesOk w) (hE : EntsAt w a cap []) :
    Calls Tryd.prog 23 #[.agg #[.string ⟨#[66]⟩, .int .i64 0, .string ⟨#[65]⟩, .int .i64 0, .bool true, .bool false, .slice a 0 cap, .int .i64 12, .int .i64 0, .int .i64 0, .bool false, .int .i64 240, .string I]] w fun e w' => e = .returned (.string ⟨#[65, 62, 66, 32, 85, 73, 32, 50]⟩) ∧ Below w.heap.size w w' := by
  obtain ⟨W, hW⟩ : ∃ W, W = w.alloc (.cells #[.string ⟨#[66]⟩, .int .i64 0, .string ⟨#[65]⟩, .int .i64 0, .bool true, .bool false, .slice a 0 cap, .int .i64 12, .int .i64 0, .int .i64 0, .bool false, .int .i64 240, .string I] 30) := ⟨_, rfl⟩
  have HB0 := Lib.hid (show Below w.heap.size w W from by rw [hW]; exact (Below.refl _ w).alloc (Nat.le_refl _) _)
  have HF0 := Lib.hid (show F13 W w.heap.size (.string ⟨#[66]⟩) (.int .i64 0) (.string ⟨#[65]⟩) (.int .i64 0) (.bool true) (.bool false) (.slice a 0 cap) (.int .i64 12) (.int .i64 0) (.int .i64 0) (.bool false) (.int .i64 240) (.string I) from by rw [hW]; exact F13.new w w.heap.size rfl _ _ _ _ _ _ _ _ _ _ _ _ _ _)
  have htx := fun W (h : Below w.heap.size w W) => ptext_any ⟨#[66]⟩ ⟨#[65]⟩ 0 0 true false a cap [] W (by simp) (hE.below h)
  rw [ex_fright, ex_fpath] at htx
  simp only [if_true, List.length_nil] at htx
  have hna := fun W (h : Below w.heap.size w W) => name_any 12 W (hN.below h)
  rw [ex_fname] at hna
  have hsu := fun W => sup_any 12 W
  rw [ex_fsup] at hsu
  have hit := fun W => Tryd.strconv_Itoa_small 2 (by omega) W
  rw [ex_fdec] at hit
  obtain ⟨T1, hT1⟩ : ∃ T : ByteArray, T = ⟨[65, 62, 66].toArray⟩ := ⟨_, rfl⟩
  obtain ⟨T2, hT2⟩ : ∃ T : ByteArray, T = ⟨[85, 73].toArray⟩ := ⟨_, rfl⟩
  obtain ⟨T3, hT3⟩ : ∃ T : ByteArray, T = ⟨[50].toArray⟩ := ⟨_, rfl⟩
  obtain ⟨R, hR⟩ : ∃ T : ByteArray, T = ⟨#[65, 62, 66, 32, 85, 73, 32, 50]⟩ := ⟨_, rfl⟩
  rw [← hR]
  rw [← hT1] at htx
  rw [← hT2] at hna
  rw [← hT3] at hit
  have z1 : T1.size = 3 := by rw [hT1]; rfl
  have z2 : T2.size = 2 := by rw [hT2]; rfl
  have z3 : T3.size = 1 := by rw [hT3]; rfl
  have e1 := txt_some T1 (by omega)
  have e2 := txt_some T2 (by omega)
  have e3 := txt_some I (by omega)
  have c1 := fun (w : World) => run_string_add_sum (P := Tryd.prog) (w := w) T1 ⟨#[32]⟩ (by rw [z1]; decide)
  obtain ⟨X1, hX1⟩ : ∃ X : ByteArray, X = T1 ++ ⟨#[32]⟩ := ⟨_, rfl⟩
  rw [← hX1] at c1
  have y1 : X1.size = 4 := by rw [hX1, ByteArray.size_append, z1]; rfl
  have c2 := fun (w : World) => run_string_add_sum (P := Tryd.prog) (w := w) X1 T2 (by omega)
  obtain ⟨X2, hX2⟩ : ∃ X : ByteArray, X = X1 ++ T2 := ⟨_, rfl⟩
  rw [← hX2] at c2
  have y2 : X2.size = 6 := by rw [hX2, ByteArray.size_append, y1, z2]
  have c3 := fun (w : World) => run_string_add_sum (P := Tryd.prog) (w := w) ⟨#[32]⟩ T3 (by rw [z3]; decide)
  obtain ⟨X3, hX3⟩ : ∃ X : ByteArray, X = ⟨#[32]⟩ ++ T3 := ⟨_, rfl⟩
  rw [← hX3] at c3
  have y3 : X3.size = 2 := by rw [hX3, ByteArray.size_append, z3]; rfl
  have c4 := fun (w : World) => run_string_add_sum (P := Tryd.prog) (w := w) X2 X3 (by omega)
  obtain ⟨X4, hX4⟩ : ∃ X : ByteArray, X = X2 ++ X3 := ⟨_, rfl⟩
  rw [← hX4] at c4
  have HX := Lib.hid (show X4 = R from by
    apply bytes_ext'
    rw [hX4, hX3, hX2, hX1, hT1, hT2, hT3, hR]
    rfl)
  have hlen : ((I.size : Nat) : Int) = 2 := by rw [hI]; rfl
  have HTX := Lib.hid htx
  have HNA := Lib.hid hna
  have HSU := Lib.hid hsu
  have HIT := Lib.hid hit
  have HB1 := Lib.hid ((Below.refl W.heap.size W).drew)
  clear htx hna hsu hit hT1 hT2 hT3 hR hX1 hX2 hX3 hX4 z1 z2 z3 y1 y2 y3 hE hN hI
  go_enter Tryd.func23, Tryd.ntmps23
  go_wp2_with fail
  rw [← hW]
  clear hW
  refine wp_region_held (S := fun W' => Below W.heap.size W W') (by kernel_rfl) ?_
  change wpAnyH _ _ _ _ _ _ _ _ W.drew
  have HB := Lib.hid ((Below.refl W.heap.size W).drew)
  refine wpAnyH_take (i := 0) (v := ?_) rfl (by kernel_rfl) (by kernel_rfl) (by kernel_rfl) (fun _ _ _ h => h) (Or.inl ⟨by rfl, ?_⟩) HB.out ?_
  rotate_left
  · intro w' hw'
    go_simp
    with_reducible rfl
  go_simp
  refine wpAnyH_take (i := 3) (v := ?_) rfl (by kernel_rfl) (by kernel_rfl) (by kernel_rfl) (fun _ _ _ h => h) (Or.inl ⟨by rfl, ?_⟩) HB.out ?_
  rotate_left
  · intro w' hw'
    go_simp
    with_reducible rfl
  go_simp
  refine wpAnyH_take (i := 4) (v := ?_) rfl (by kernel_rfl) (by kernel_rfl) (by kernel_rfl) (fun _ _ _ h => h) (Or.inl ⟨by rfl, ?_⟩) HB.out ?_
  rotate_left
  · intro w' hw'
    go_simp
    with_reducible rfl
  go_simp
  refine wpAnyH_take (i := 1) (v := ?_) rfl (by kernel_rfl) (by kernel_rfl) (by kernel_rfl) (fun _ _ _ h => h) (Or.inl ⟨by rfl, ?_⟩) HB.out ?_
  rotate_left
  · intro w' hw'
    obtain ⟨⟨p0, -, pl⟩, ⟨p1, -, -⟩, ⟨p2, -, -⟩, ⟨p3, -, -⟩, ⟨p4, -, -⟩, ⟨p5, -, -⟩, ⟨p6, -, -⟩, ⟨p7, -, -⟩, ⟨p8, -, -⟩, ⟨p9, -, -⟩, ⟨p10, -, -⟩, ⟨p11, -, -⟩, ⟨p12, -, -⟩⟩ := HF0.out.below hw'
    go_simp
    with_reducible rfl
  go_simp
  refine wpAnyH_take (i := 5) (v := ?_) rfl (by kernel_rfl) (by kernel_rfl) (by kernel_rfl) (fun _ _ _ h => h) (Or.inl ⟨by rfl, ?_⟩) HB.out ?_
  rotate_left
  · intro w' hw'
    obtain ⟨⟨p0, -, pl⟩, ⟨p1, -, -⟩, ⟨p2, -, -⟩, ⟨p3, -, -⟩, ⟨p4, -, -⟩, ⟨p5, -, -⟩, ⟨p6, -, -⟩, ⟨p7, -, -⟩, ⟨p8, -, -⟩, ⟨p9, -, -⟩, ⟨p10, -, -⟩, ⟨p11, -, -⟩, ⟨p12, -, -⟩⟩ := HF0.out.below hw'
    go_simp
    with_reducible rfl
  go_simp
  refine wpAnyH_ready (rs := [2]) (by kernel_rfl) (by simp) ?_
  refine AllReadyH.cons rfl (fun K hK => ?_) AllReadyH.nil
  go_simp
  go_at_call 47
  refine (HTX.out _ HB0.out.drew).mono ?_
  rintro e w8 ⟨rfl, hb⟩
  have HB := Lib.hid (show Below W.heap.size W w8 from HB1.out.trans (hb.mono (Nat.le_refl _)))
  clear hb
  change K _ _
  refine hK.out _ _ HB.out (fun _ => ?_)
  clear hK K
  refine wpAnyH_ready (rs := [6]) (by kernel_rfl) (by simp) ?_
  refine AllReadyH.cons rfl (fun K hK => ?_) AllReadyH.nil
  go_simp
  go_at_call 48
  refine (HNA.out w8 (HB0.out.trans (HB.out.mono HB0.out.size))).mono ?_
  rintro e w9 ⟨rfl, rfl⟩
  change K _ _
  refine hK.out _ _ HB.out (fun _ => ?_)
  clear hK K
  refine wpAnyH_ready (rs := [7]) (by kernel_rfl) (by simp) ?_
  refine AllReadyH.cons rfl (fun K hK => ?_) AllReadyH.nil
  go_simp
  refine hK.out _ _ HB.out (fun _ => ?_)
  clear hK K
  refine wpAnyH_ready (rs := [8]) (by kernel_rfl) (by simp) ?_
  refine AllReadyH.cons rfl (fun K hK => ?_) AllReadyH.nil
  go_simp
  refine hK.out _ _ HB.out (fun _ => ?_)
  clear hK K
  refine wpAnyH_done (by kernel_rfl) ?_ _
  have HF := Lib.hid (HF0.out.below HB.out)
  obtain ⟨⟨p0, -, pl⟩, ⟨p1, -, -⟩, ⟨p2, -, -⟩, ⟨p3, -, -⟩, ⟨p4, -, -⟩, ⟨p5, -, -⟩, ⟨p6, -, -⟩, ⟨p7, -, -⟩, ⟨p8, -, -⟩, ⟨p9, -, -⟩, ⟨p10, -, -⟩, ⟨p11, -, -⟩, ⟨p12, -, -⟩⟩ := HF.out
  go_wp2_with (first
    | (go_at_call 50; (with_reducible refine (HSU.out _).mono ?_); rintro e w3 ⟨rfl, rfl⟩)
    | (go_at_call 49; refine (HIT.out _).mono ?_; rintro e w4 ⟨rfl, rfl⟩))
  go_ret
  exact ⟨by rw [← HX.out]; rfl, HB0.out.trans (HB.out.mono HB0.out.size)⟩
end Go.Proofs.YtplandmnmdkjmaaDoor
