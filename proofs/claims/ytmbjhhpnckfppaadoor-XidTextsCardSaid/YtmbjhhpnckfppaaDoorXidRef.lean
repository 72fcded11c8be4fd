/-
The document's own Right.
-/
import Derived.Test.YtmbjhhpnckfppaaDoorXidBase
namespace Go.Proofs.YtmbjhhpnckfppaaDoor
open Go.RowKit
set_option maxRecDepth 20000
set_option maxHeartbeats 1000000 in
theorem rright8_any (a b : Bool) (n k t r : Int) (w : World) : Calls Tryd.prog 7 #[.agg #[.bool a, .bool b, .int .i64 n, .int .i64 k, .int .i64 t, .int .i64 r]] w fun e w' => e = .returned (.bool (rightX a b n k t r)) ∧ Below w.heap.size w w' := by
  have HA := C6.new w w.heap.size rfl (.bool a) (.bool b) (.int .i64 n) (.int .i64 k) (.int .i64 t) (.int .i64 r) 27
  have HB := Lib.hid ((Below.refl _ w).alloc (Nat.le_refl _) (.cells #[.bool a, .bool b, .int .i64 n, .int .i64 k, .int .i64 t, .int .i64 r] 27))
  obtain ⟨⟨c0, -, -⟩, ⟨c1, -, -⟩, ⟨c2, -, -⟩, ⟨c3, -, -⟩, ⟨c4, -, -⟩, ⟨c5, -, -⟩⟩ := HA
  have HM := Lib.hid (fun W => rmost_any a b W)
  unfold rightX inD
  generalize mostD a b = M at *
  cases x1 : decide (16 ≤ n)
  · go_enter Tryd.func7, Tryd.ntmps7
    go_wp2
    go_quiet ((go_at_call 14; with_reducible exact Calls.quiet_of_same (HM.out _)))
    go_wp2
    go_ret
    exact ⟨rfl, below_drewX HB.out _⟩
  cases x2 : decide (n ≤ 256)
  · go_enter Tryd.func7, Tryd.ntmps7
    go_wp2
    go_quiet ((go_at_call 14; with_reducible exact Calls.quiet_of_same (HM.out _)))
    go_wp2
    go_ret
    exact ⟨rfl, below_drewX HB.out _⟩
  cases x3 : decide (1 ≤ k)
  · go_enter Tryd.func7, Tryd.ntmps7
    go_wp2
    go_quiet ((go_at_call 14; with_reducible exact Calls.quiet_of_same (HM.out _)))
    go_wp2
    go_ret
    exact ⟨rfl, below_drewX HB.out _⟩
  cases x4 : decide (k ≤ M)
  · go_enter Tryd.func7, Tryd.ntmps7
    go_wp2
    go_quiet ((go_at_call 14; with_reducible exact Calls.quiet_of_same (HM.out _)))
    go_wp2
    go_ret
    exact ⟨rfl, below_drewX HB.out _⟩
  cases x5 : decide (4 ≤ t)
  · go_enter Tryd.func7, Tryd.ntmps7
    go_wp2
    go_quiet ((go_at_call 14; with_reducible exact Calls.quiet_of_same (HM.out _)))
    go_wp2
    go_ret
    exact ⟨rfl, below_drewX HB.out _⟩
  cases x6 : decide (t ≤ 255)
  · go_enter Tryd.func7, Tryd.ntmps7
    go_wp2
    go_quiet ((go_at_call 14; with_reducible exact Calls.quiet_of_same (HM.out _)))
    go_wp2
    go_ret
    exact ⟨rfl, below_drewX HB.out _⟩
  cases x7 : decide (1 ≤ r)
  · go_enter Tryd.func7, Tryd.ntmps7
    go_wp2
    go_quiet ((go_at_call 14; with_reducible exact Calls.quiet_of_same (HM.out _)))
    go_wp2
    go_ret
    exact ⟨rfl, below_drewX HB.out _⟩
  cases x8 : decide (r ≤ 15)
  · go_enter Tryd.func7, Tryd.ntmps7
    go_wp2
    go_quiet ((go_at_call 14; with_reducible exact Calls.quiet_of_same (HM.out _)))
    go_wp2
    go_ret
    exact ⟨rfl, below_drewX HB.out _⟩
  · go_enter Tryd.func7, Tryd.ntmps7
    go_wp2
    go_quiet ((go_at_call 14; with_reducible exact Calls.quiet_of_same (HM.out _)))
    go_wp2
    go_ret
    exact ⟨rfl, below_drewX HB.out _⟩
end Go.Proofs.YtmbjhhpnckfppaaDoor
