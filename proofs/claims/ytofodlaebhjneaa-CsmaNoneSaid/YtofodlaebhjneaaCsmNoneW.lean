/-
The walk of CsmaNone.
-/
import Derived.Test.YtofodlaebhjneaaCsmLaw
import Derived.Test.YtofodlaebhjneaaCsmOpens
namespace Go.Proofs.Ytofodlaebhjneaa
open Go.RowKit
set_option maxRecDepth 20000
set_option maxHeartbeats 1000000 in
theorem csnone_any {G : GaP} (hC : GaC G) (o : Op17) (w : World) : Calls Try.prog 5 #[.agg (opV17 o).toArray] w fun e w' => e = .returned (.bool true) ∧ Below w.heap.size w w' := by
  obtain ⟨⟨a, b, c, d, f⟩, ow, ob, od⟩ := o
  have HAW := Lib.hid (fun W => cawake17 hC W)
  have HB0 := Lib.hid ((Below.refl w.heap.size w).alloc (Nat.le_refl _) (.cells #[.int .i64 a, .int .i64 b, .int .i64 c, .int .i64 d, .bool f, .bool ow, .bool ob, .int .i64 od] 29))
  have HR := Lib.hid (RowAt.new w w.heap.size rfl [.int .i64 a, .int .i64 b, .int .i64 c, .int .i64 d, .bool f, .bool ow, .bool ob, .int .i64 od] 29)
  have HS := Lib.hid (fun W => hC.step0 W ⟨a, b, c, d, f⟩ ow ob od)
  have HK := Lib.hid (fun W => hC.count0 W)
  have HX := Lib.hid (fun W => hC.reset0 W)
  simp only [Par.v] at HS
  clear hC
  go_enter Try.func5, Try.ntmps5
  go_wp2_with (first
    | (go_at_call 6; (with_reducible refine (HAW.out _).mono ?_); rintro e w1 ⟨rfl, hb⟩; have HB1 := Lib.hid hb; clear hb)
    | (go_at_call 12; (with_reducible refine (HX.out _).mono ?_); rintro e w2 ⟨rfl, hb⟩; have HB2 := Lib.hid (HB1.out.trans (hb.mono HB1.out.size)); clear hb; have HR2 := Lib.hid (HR.out.below HB2.out); have x0 := HR2.out.cell 0 rfl; have x1 := HR2.out.cell 1 rfl; have x2 := HR2.out.cell 2 rfl; have x3 := HR2.out.cell 3 rfl; have x4 := HR2.out.cell 4 rfl; have x5 := HR2.out.cell 5 rfl; have x6 := HR2.out.cell 6 rfl; have x7 := HR2.out.cell 7 rfl)
    | (go_at_call 8; (with_reducible refine (HS.out _).mono ?_); rintro e w3 ⟨rfl, hb⟩; have HB3 := Lib.hid (HB2.out.trans (hb.mono HB2.out.size)); clear hb)
    | (go_at_call 11; (with_reducible refine (HK.out _).mono ?_); rintro e w4 ⟨rfl, hb⟩; have HB4 := Lib.hid (HB0.out.trans ((HB3.out.trans (hb.mono HB3.out.size)).mono HB0.out.size)); clear hb))
  exact bodyPost_ret (v := .bool true) (by simp [results, Try.results5, go_sem]) rfl ⟨rfl, HB4.out⟩
end Go.Proofs.Ytofodlaebhjneaa
