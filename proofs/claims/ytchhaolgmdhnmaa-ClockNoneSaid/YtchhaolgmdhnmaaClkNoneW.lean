/-
The walk of ClockNone.
-/
import Derived.Test.YtchhaolgmdhnmaaClkAwake
namespace Go.Proofs.Ytchhaolgmdhnmaa
open Go.RowKit
set_option maxRecDepth 20000
set_option maxHeartbeats 2000000 in
theorem cknone_any (k n t : Int) (w : World) : Calls Try.prog 5 #[.agg #[.int .i64 k, .int .i64 n], .int .i64 t] w fun e w' => e = .returned (.bool true) ∧ Below w.heap.size w w' := by
  have HAW := Lib.hid (fun W => cawake13 W)
  have HSE := Lib.hid (fun W => cset13_nil ⟨k, n⟩ t W)
  have HST := Lib.hid (fun a W => cstop13_nil a 1 1 W)
  have HLE := Lib.hid (fun W => cleft_nil ⟨k, n⟩ W)
  have HTI := Lib.hid (fun W => ctick13_nil W)
  have HAL := Lib.hid (fun W => call13_nil W)
  have HON := Lib.hid (fun W => conly13_nil n W)
  simp only at HSE HLE
  have HB0 := Lib.hid ((Below.refl w.heap.size w).alloc (Nat.le_refl _) (.cells #[.int .i64 k, .int .i64 n] 31))
  have HR := Lib.hid (RowAt.new w w.heap.size rfl [.int .i64 k, .int .i64 n] 31)
  go_enter Try.func5, Try.ntmps5
  go_wp2_with (first
    | (go_at_call 6; (with_reducible refine (HAW.out _).mono ?_); rintro e w1 ⟨rfl, hb⟩; have HB1 := Lib.hid (HB0.out.trans (hb.mono HB0.out.size)); have HR1 := Lib.hid (HR.out.below hb); clear hb; have x0 := HR1.out.cell 0 rfl; have x1 := HR1.out.cell 1 rfl)
    | (go_at_call 8; (with_reducible refine (HSE.out _).mono ?_); rintro e w2 ⟨rfl, hb⟩; have HB2 := Lib.hid (HB1.out.trans (hb.mono HB1.out.size)); have HR2 := Lib.hid (HR1.out.below hb); clear hb x0 x1; have x0 := HR2.out.cell 0 rfl; have x1 := HR2.out.cell 1 rfl)
    | (go_at_call 10; (with_reducible refine (HST.out _ _).mono ?_); rintro e w3 ⟨rfl, hb⟩; have hb2 := ((Below.refl _ w2).alloc (Nat.le_refl _) (.cells #[.int .i64 k, .int .i64 n] 31)).trans (hb.mono (by simp)); have HB3 := Lib.hid (HB2.out.trans (hb2.mono HB2.out.size)); have HR3 := Lib.hid (HR2.out.below hb2); clear hb hb2 x0 x1; have x0 := HR3.out.cell 0 rfl; have x1 := HR3.out.cell 1 rfl)
    | (go_at_call 19; (with_reducible refine (HLE.out _).mono ?_); rintro e w4 ⟨rfl, hb⟩; have HB4 := Lib.hid (HB3.out.trans (hb.mono HB3.out.size)); have HR4 := Lib.hid (HR3.out.below hb); clear hb x0 x1; have x1 := HR4.out.cell 1 rfl)
    | (go_at_call 13; (with_reducible refine (HTI.out _).mono ?_); rintro e w5 ⟨rfl, rfl⟩)
    | (go_at_call 18; (with_reducible refine (HAL.out _).mono ?_); rintro e w5 ⟨rfl, rfl⟩)
    | (go_at_call 15; (with_reducible refine (HON.out _).mono ?_); rintro e w7 ⟨rfl, hb⟩; have HB7 := Lib.hid (HB4.out.trans (hb.mono HB4.out.size)); clear hb))
  exact bodyPost_ret (v := .bool true) (by simp [results, Try.results5, go_sem]) rfl ⟨rfl, HB7.out⟩
end Go.Proofs.Ytchhaolgmdhnmaa
