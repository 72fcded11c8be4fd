/-
The landed smoother: within, New, T1, Srt, None, Took; of one that isn't there, too.
-/
import Derived.Test.YtljmdpkbedmkmaaSmoPure
namespace Go.Proofs.Ytljmdpkbedmkmaa
open Go.RowKit
set_option maxRecDepth 20000
theorem cwithin_any (n : Int) (w : World) : Calls Try.prog 18 #[.int .i64 n] w fun e w' => e = .returned (.int .i64 (inT n)) ∧ w' = w := by
  have hx := inT_min n
  go_enter Try.func18, Try.ntmps18
  go_wp2
  exact bodyPost_ret (v := .int .i64 (inT n)) (by simp [results, Try.results18, go_sem]) rfl ⟨rfl, rfl⟩
theorem cnew_any (n : Int) (w : World) : Calls Try.prog 8 #[.int .i64 n] w fun e w' => e = .returned (.pointer (some ⟨w.heap.size, 0, none⟩)) ∧ w' = w.alloc (.cells #[.int .i64 (Sm.new n).srt, .int .i64 (Sm.new n).t1] 40) := by
  have HW := Lib.hid (fun W => cwithin_any n W)
  have hm := inT_most n
  simp only [Sm.new]
  generalize inT n = x at *
  have z1 : IntKind.i64.wrap (4 * x) = 4 * x := i64_near _ (by omega) (by omega)
  clear hm
  go_enter Try.func8, Try.ntmps8
  go_wp2_with (go_at_call 18; (with_reducible refine (HW.out _).mono ?_); rintro e w ⟨rfl, rfl⟩)
  exact bodyPost_ret (v := .pointer (some ⟨w.heap.size, 0, none⟩)) (by simp [results, Try.results8, go_sem]) rfl ⟨rfl, rfl⟩
/-- its two cells -/
def smV (s : Sm) : List Value := [.int .i64 s.srt, .int .i64 s.t1]
theorem cnew_row (n : Int) (w : World) : RowAt (w.alloc (.cells #[.int .i64 (Sm.new n).srt, .int .i64 (Sm.new n).t1] 40)) w.heap.size (smV (Sm.new n)) := RowAt.new w w.heap.size rfl (smV (Sm.new n)) 40
theorem ct1_any (p : Nat) (s : Sm) (w : World) (h : RowAt w p (smV s)) (hok : s.ok) : Calls Try.prog 10 #[.pointer (some ⟨p, 0, none⟩)] w fun e w' => e = .returned (.int .i64 s.t1) ∧ w' = w := by
  have HW := Lib.hid (fun W => cwithin_any s.t1 W)
  rw [inT_same hok.2] at HW
  have c1 := h.cell 1 (v := .int .i64 s.t1) rfl
  clear h hok
  go_enter Try.func10, Try.ntmps10
  go_wp2_with (go_at_call 18; (with_reducible refine (HW.out _).mono ?_); rintro e w ⟨rfl, rfl⟩)
  exact bodyPost_ret (v := .int .i64 s.t1) (by simp [results, Try.results10, go_sem]) rfl ⟨rfl, rfl⟩
theorem csrt_any (p : Nat) (s : Sm) (w : World) (h : RowAt w p (smV s)) : Calls Try.prog 11 #[.pointer (some ⟨p, 0, none⟩)] w fun e w' => e = .returned (.int .i64 s.srt) ∧ w' = w := by
  have c0 := h.cell 0 (v := .int .i64 s.srt) rfl
  clear h
  go_enter Try.func11, Try.ntmps11
  go_wp2_with fail
  exact bodyPost_ret (v := .int .i64 s.srt) (by simp [results, Try.results11, go_sem]) rfl ⟨rfl, rfl⟩
theorem cnone_any (p : Nat) (s : Sm) (w : World) (h : RowAt w p (smV s)) (hok : s.ok) : Calls Try.prog 12 #[.pointer (some ⟨p, 0, none⟩)] w fun e w' => e = .returned (.int .i64 s.none.t1) ∧ RowAt w' p (smV s.none) ∧ Turn (fun x => x = p) w w' := by
  have HW := Lib.hid (fun W => cwithin_any (2 * s.t1) W)
  have c1 := h.cell 1 (v := .int .i64 s.t1) rfl
  have f1 := (h.get 1 (v := .int .i64 s.t1) rfl).free
  have z1 : IntKind.i64.wrap (2 * s.t1) = 2 * s.t1 := i64_near _ (by have := hok.2; omega) (by have := hok.2; omega)
  have HP := Lib.hid (h.put 1 (.int .i64 s.none.t1) (smV s.none) rfl)
  have HT := Lib.hid ((Turn.refl (fun x => x = p) w).set (p := ⟨p, 1, none⟩) (Or.inl rfl) (.int .i64 s.none.t1))
  have r1 := set_here (v := .int .i64 s.none.t1) c1
  rw [show inT (2 * s.t1) = s.none.t1 from rfl] at HW
  generalize s.none = s' at *
  clear h hok
  go_enter Try.func12, Try.ntmps12
  go_wp2_with (go_at_call 18; (with_reducible refine (HW.out _).mono ?_); rintro e w ⟨rfl, rfl⟩)
  exact bodyPost_ret (v := .int .i64 s'.t1) (by simp [results, Try.results12, go_sem]) rfl ⟨rfl, HP.out, HT.out⟩
theorem ct1_nil (w : World) : Calls Try.prog 10 #[.pointer none] w fun e w' => e = .returned (.int .i64 0) ∧ w' = w := by
  go_enter Try.func10, Try.ntmps10
  go_wp2_with fail
  exact bodyPost_ret (v := .int .i64 0) (by simp [results, Try.results10, go_sem]) rfl ⟨rfl, rfl⟩
theorem csrt_nil (w : World) : Calls Try.prog 11 #[.pointer none] w fun e w' => e = .returned (.int .i64 0) ∧ w' = w := by
  go_enter Try.func11, Try.ntmps11
  go_wp2_with fail
  exact bodyPost_ret (v := .int .i64 0) (by simp [results, Try.results11, go_sem]) rfl ⟨rfl, rfl⟩
theorem cnone_nil (w : World) : Calls Try.prog 12 #[.pointer none] w fun e w' => e = .returned (.int .i64 0) ∧ w' = w := by
  go_enter Try.func12, Try.ntmps12
  go_wp2_with fail
  exact bodyPost_ret (v := .int .i64 0) (by simp [results, Try.results12, go_sem]) rfl ⟨rfl, rfl⟩
theorem ctook_nil (t : Int) (w : World) : Calls Try.prog 14 #[.pointer none, .int .i64 t] w fun e w' => e = .returned (.int .i64 0) ∧ w' = w := by
  go_enter Try.func14, Try.ntmps14
  go_wp2_with fail
  exact bodyPost_ret (v := .int .i64 0) (by simp [results, Try.results14, go_sem]) rfl ⟨rfl, rfl⟩
end Go.Proofs.Ytljmdpkbedmkmaa
