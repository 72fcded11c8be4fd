/-
A landed code's marks, as an array of pointers to them; its bit, text, isNumber and Right (written over a stand-in of the landed code).
-/
import Derived.Test.YtdaagllacmnekaaRepGetP
namespace Go.Proofs.Ytdaagllacmnekaa
open Go.RowKit
set_option maxRecDepth 20000
/-- four pointers to the marks -/
def ptrsR (m : Nat) : Value := .agg #[.pointer (some ⟨m, 4, none⟩), .pointer (some ⟨m, 5, none⟩), .pointer (some ⟨m, 6, none⟩), .pointer (some ⟨m, 7, none⟩)]
/-- four cells written anew -/
theorem stored4 {W : World} {m : Nat} {L : List Value} (h : RowAt W m L) (hL : L.length = 4) (u0 u1 u2 u3 : Value) :
    RowAt ((((W.setCell ⟨m, 0, none⟩ u0).setCell ⟨m, 1, none⟩ u1).setCell ⟨m, 2, none⟩ u2).setCell ⟨m, 3, none⟩ u3) m [u0, u1, u2, u3] := by
  match L, hL with
  | [x0, x1, x2, x3], _ => exact (((h.put 0 u0 _ rfl).put 1 u1 _ rfl).put 2 u2 _ rfl).put 3 u3 _ rfl
theorem set4_below {B m : Nat} {a W : World} (h : Below B a W) (hm : B ≤ m) (u0 u1 u2 u3 : Value) :
    Below B a ((((W.setCell ⟨m, 0, none⟩ u0).setCell ⟨m, 1, none⟩ u1).setCell ⟨m, 2, none⟩ u2).setCell ⟨m, 3, none⟩ u3) :=
  (((h.setCell (p := ⟨m, 0, none⟩) hm u0).setCell (p := ⟨m, 1, none⟩) hm u1).setCell (p := ⟨m, 2, none⟩) hm u2).setCell (p := ⟨m, 3, none⟩) hm u3
set_option maxHeartbeats 1000000 in
theorem cmarks_any (m : Nat) (w : World) : Calls Try.prog 28 #[.pointer (some ⟨m, 0, none⟩)] w fun e w' => e = .returned (ptrsR m) ∧ Below w.heap.size w w' := by
  have HZ := Lib.hid (RowAt.new w w.heap.size rfl [.pointer none, .pointer none, .pointer none, .pointer none] 65)
  have HB := Lib.hid ((Below.refl _ w).alloc (Nat.le_refl _) (.cells #[.pointer none, .pointer none, .pointer none, .pointer none] 65))
  go_enter Try.func28, Try.ntmps28
  go_upto_region 1 with (fail)
  generalize w.alloc (.cells #[.pointer none, .pointer none, .pointer none, .pointer none] 65) = w1 at *
  have HD := Lib.hid HZ.out.drew
  have x0 := HD.out.cell 0 rfl
  have f0 := (HD.out.get 0 rfl).free
  have RA := Lib.hid (HZ.out.put 0 (.pointer (some ⟨m, 4, none⟩)) _ rfl)
  have x1 := RA.out.drew.cell 1 rfl
  have f1 := (RA.out.drew.get 1 rfl).free
  have RB := Lib.hid (RA.out.put 1 (.pointer (some ⟨m, 5, none⟩)) _ rfl)
  have x2 := RB.out.drew.cell 2 rfl
  have f2 := (RB.out.drew.get 2 rfl).free
  have RC := Lib.hid (RB.out.put 2 (.pointer (some ⟨m, 6, none⟩)) _ rfl)
  have x3 := RC.out.drew.cell 3 rfl
  have f3 := (RC.out.drew.get 3 rfl).free
  refine wp_region_any (by kernel_rfl) ?_
  try (change wpAny _ _ _ _ _ _ _ (World.drew _))
  refine wpAny_take (i := 0) (v := ?_) rfl (by kernel_rfl) (by kernel_rfl) (by kernel_rfl) (fun _ _ _ h => h) (Or.inl ⟨by rfl, ?_⟩) ?_
  rotate_left
  · intro w; go_simp; with_reducible rfl
  refine wpAny_take (i := 1) (v := ?_) rfl (by kernel_rfl) (by kernel_rfl) (by kernel_rfl) (fun _ _ _ h => h) (Or.inl ⟨by rfl, ?_⟩) ?_
  rotate_left
  · intro w; go_simp; with_reducible rfl
  refine wpAny_take (i := 2) (v := ?_) rfl (by kernel_rfl) (by kernel_rfl) (by kernel_rfl) (fun _ _ _ h => h) (Or.inl ⟨by rfl, ?_⟩) ?_
  rotate_left
  · intro w; go_simp; with_reducible rfl
  refine wpAny_take (i := 3) (v := ?_) rfl (by kernel_rfl) (by kernel_rfl) (by kernel_rfl) (fun _ _ _ h => h) (Or.inl ⟨by rfl, ?_⟩) ?_
  rotate_left
  · intro w; go_simp; with_reducible rfl
  refine wpAny_take (i := 4) (v := ?_) rfl (by kernel_rfl) (by kernel_rfl) (by kernel_rfl) (fun _ _ _ h => h) (Or.inl ⟨by rfl, ?_⟩) ?_
  rotate_left
  · intro w; go_simp; with_reducible rfl
  refine wpAny_take (i := 5) (v := ?_) rfl (by kernel_rfl) (by kernel_rfl) (by kernel_rfl) (fun _ _ _ h => h) (Or.inl ⟨by rfl, ?_⟩) ?_
  rotate_left
  · intro w; go_simp; with_reducible rfl
  refine wpAny_take (i := 6) (v := ?_) rfl (by kernel_rfl) (by kernel_rfl) (by kernel_rfl) (fun _ _ _ h => h) (Or.inl ⟨by rfl, ?_⟩) ?_
  rotate_left
  · intro w; go_simp; with_reducible rfl
  refine wpAny_take (i := 7) (v := ?_) rfl (by kernel_rfl) (by kernel_rfl) (by kernel_rfl) (fun _ _ _ h => h) (Or.inl ⟨by rfl, ?_⟩) ?_
  rotate_left
  · intro w; go_simp; with_reducible rfl
  refine wpAny_take (i := 8) (v := ?_) rfl (by kernel_rfl) (by kernel_rfl) (by kernel_rfl) (fun _ _ _ h => h) (Or.inl ⟨by rfl, ?_⟩) ?_
  rotate_left
  · intro w; go_simp; with_reducible rfl
  refine wpAny_take (i := 9) (v := ?_) rfl (by kernel_rfl) (by kernel_rfl) (by kernel_rfl) (fun _ _ _ h => h) (Or.inl ⟨by rfl, ?_⟩) ?_
  rotate_left
  · intro w; go_simp; with_reducible rfl
  refine wpAny_take (i := 10) (v := ?_) rfl (by kernel_rfl) (by kernel_rfl) (by kernel_rfl) (fun _ _ _ h => h) (Or.inl ⟨by rfl, ?_⟩) ?_
  rotate_left
  · intro w; go_simp; with_reducible rfl
  refine wpAny_take (i := 11) (v := ?_) rfl (by kernel_rfl) (by kernel_rfl) (by kernel_rfl) (fun _ _ _ h => h) (Or.inl ⟨by rfl, ?_⟩) ?_
  rotate_left
  · intro w; go_simp; with_reducible rfl
  refine wpAny_take (i := 12) (v := ?_) rfl (by kernel_rfl) (by kernel_rfl) (by kernel_rfl) (fun _ _ _ h => h) (Or.inl ⟨by rfl, ?_⟩) ?_
  rotate_left
  · intro w; go_simp; with_reducible rfl
  refine wpAny_ready (rs := [13]) (by kernel_rfl) (by simp) ?_
  refine AllReady.cons rfl (fun K hK => ?_) AllReady.nil
  go_simp
  refine hK _ _ ?_
  clear hK K
  refine wpAny_done (by kernel_rfl) ?_ _
  have S := Lib.hid (stored4 HZ.out rfl (.pointer (some ⟨m, 4, none⟩)) (.pointer (some ⟨m, 5, none⟩)) (.pointer (some ⟨m, 6, none⟩)) (.pointer (some ⟨m, 7, none⟩)) |>.drew)
  have HE := Lib.hid (set4_below (m := w.heap.size) HB.out (Nat.le_refl _) (.pointer (some ⟨m, 4, none⟩)) (.pointer (some ⟨m, 5, none⟩)) (.pointer (some ⟨m, 6, none⟩)) (.pointer (some ⟨m, 7, none⟩)) |>.drew)
  generalize ((((w1.setCell ⟨w.heap.size, 0, none⟩ (.pointer (some ⟨m, 4, none⟩))).setCell ⟨w.heap.size, 1, none⟩ (.pointer (some ⟨m, 5, none⟩))).setCell ⟨w.heap.size, 2, none⟩ (.pointer (some ⟨m, 6, none⟩))).setCell ⟨w.heap.size, 3, none⟩ (.pointer (some ⟨m, 7, none⟩))).drew = wE at *
  have s0 := S.out.cell 0 rfl
  have s1 := S.out.cell 1 rfl
  have s2 := S.out.cell 2 rfl
  have s3 := S.out.cell 3 rfl
  go_wp2_with fail
  exact bodyPost_ret (v := ptrsR m) (by simp [results, Try.results28, go_sem, s0, s1, s2, s3, ptrsR]) rfl ⟨rfl, HE.out⟩
/-- one of the four -/
theorem index_ptrs (m : Nat) (W : World) : (Instr.index 65 (ptrsR m) (.int .i64 0)).run Try.prog W = .ok (.pointer (some ⟨m, 4, none⟩)) W ∧ (Instr.index 65 (ptrsR m) (.int .i64 1)).run Try.prog W = .ok (.pointer (some ⟨m, 5, none⟩)) W ∧
    (Instr.index 65 (ptrsR m) (.int .i64 2)).run Try.prog W = .ok (.pointer (some ⟨m, 6, none⟩)) W ∧ (Instr.index 65 (ptrsR m) (.int .i64 3)).run Try.prog W = .ok (.pointer (some ⟨m, 7, none⟩)) W :=
  ⟨by kernel_rfl, by kernel_rfl, by kernel_rfl, by kernel_rfl⟩
end Go.Proofs.Ytdaagllacmnekaa
