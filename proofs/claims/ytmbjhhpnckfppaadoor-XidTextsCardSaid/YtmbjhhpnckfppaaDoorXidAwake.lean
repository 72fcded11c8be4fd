/-
The document's example, at the landed code.
-/
import Derived.Test.YtmbjhhpnckfppaaDoorXidPut
namespace Go.Proofs.YtmbjhhpnckfppaaDoor
open Go.RowKit
set_option maxRecDepth 20000
theorem put_usual (w : World) : Calls Tryd.prog 11 #[.agg #[.bool false, .bool false, .int .i64 64, .int .i64 4, .int .i64 20, .int .i64 5]] w fun e w' => e = .returned (.tuple #[.string ⟨#[130, 128, 0, 17, 3, 2, 0, 0, 6, 2, 0, 64, 8, 1, 4, 9, 1, 20, 10, 1, 5]⟩, .int .i64 0]) ∧ Below w.heap.size w w' := by
  have k := xput_yes false false 64 4 20 5 w (by decide)
  rw [show putX false false 64 4 20 5 = [130, 128, 0, 17, 3, 2, 0, 0, 6, 2, 0, 64, 8, 1, 4, 9, 1, 20, 10, 1, 5] from by decide +kernel] at k
  exact k
theorem k_usual (w : World) : (Instr.field 23 (.agg #[.bool false, .bool false, .int .i64 64, .int .i64 4, .int .i64 20, .int .i64 5]) 3).run Tryd.prog w = .ok (.int .i64 4) w := by
  kernel_rfl
theorem xawake_any (w : World) : Calls Tryd.prog 5 #[] w fun e w' => e = .returned (.bool true) ∧ Below w.heap.size w w' := by
  have HU := Lib.hid (fun W => usual_any W)
  have hk := k_usual
  have HP := Lib.hid (fun W => put_usual W)
  go_enter Tryd.func5, Tryd.ntmps5
  go_wp2_with fail
  go_at_call 12
  refine (HU.out _).mono ?_
  rintro e w1 ⟨rfl, hb⟩
  have HB := Lib.hid hb
  clear hb
  go_wp2_with fail
  go_at_call 11
  refine (HP.out _).mono ?_
  rintro e w2 ⟨rfl, hb⟩
  replace HB := Lib.hid (HB.out.trans (hb.mono HB.out.size))
  clear hb
  go_wp2_with fail
  go_at_call 12
  refine (HU.out _).mono ?_
  rintro e w3 ⟨rfl, hb⟩
  replace HB := Lib.hid (HB.out.trans (hb.mono HB.out.size))
  clear hb
  go_wp2_with fail
  go_ret
  exact ⟨rfl, HB.out⟩
end Go.Proofs.YtmbjhhpnckfppaaDoor
