/-
The document's example, by the landed code.
-/
import Derived.Test.YtaelhickopeocaaSegCSplit
namespace Go.Proofs.Ytaelhickopeocaa
open Go.RowKit
set_option maxRecDepth 20000
theorem awake_pieces : ∃ i0 i1 i2 : ByteArray, splitD 240 ⟨(List.replicate 40 120).toArray⟩ 16 = ([⟨8, i0⟩, ⟨8, i1⟩, ⟨8, i2⟩], 0) ∧ i0.size = 16 ∧ i2.size = 12 ∧ i0.data.toList[0]? = some 130 ∧ i0.data.toList[1]? = some 240 :=
  ⟨⟨(130 :: 240 :: List.replicate 14 120).toArray⟩, ⟨(1 :: List.replicate 15 120).toArray⟩, ⟨(0 :: List.replicate 11 120).toArray⟩, by kernel_rfl, rfl, rfl, rfl, rfl⟩
set_option maxHeartbeats 1000000 in
theorem segawake_any (w : World) : Calls Try.prog 7 #[] w fun e w' => e = .returned (.bool true) ∧ Below w.heap.size w w' := by
  obtain ⟨i0, i1, i2, hE, hs0, hs2, h0, h1⟩ := awake_pieces
  have HRE := Lib.hid (fun W => repeat_x W)
  have HSP := Lib.hid (fun W => csplit_any 240 16 ⟨(List.replicate 40 120).toArray⟩ W)
  rw [hE] at HSP
  have hx0 : ∀ W, (Instr.index 9 (.string i0) (.int .i64 0)).run Try.prog W = .ok (.int .u8 130) W := fun W => index_text i0 0 130 h0 W
  have hx1 : ∀ W, (Instr.index 9 (.string i0) (.int .i64 1)).run Try.prog W = .ok (.int .u8 240) W := fun W => index_text i0 1 240 h1 W
  have hs0' : (i0.size : Int) = 16 := by omega
  have hs2' : (i2.size : Int) = 12 := by omega
  clear hE h0 h1 hs0 hs2
  generalize (⟨(List.replicate 40 120).toArray⟩ : ByteArray) = xs at *
  go_enter Try.func7, Try.ntmps7
  go_upto_region 2 with (first | (go_at_call 17; (with_reducible refine (HRE.out _).mono ?_); rintro e w1 ⟨rfl, hb⟩; have HB1 := Lib.hid hb; clear hb) | (go_at_call 8; (with_reducible refine (HSP.out _).mono ?_); rintro e w2 ⟨⟨v, rfl, ho⟩, hb⟩; have HB2 := Lib.hid (HB1.out.trans (hb.mono HB1.out.size)); clear hb; obtain ⟨g, c, rfl, -, -, hA⟩ := ho.some_ (by simp); clear ho))
  have c1 : w2.cell? ⟨g, 1, none⟩ = some (.string i0) := hA.get 0 (by simp) 1 rfl
  have c5 : w2.cell? ⟨g, 5, none⟩ = some (.string i2) := hA.get 2 (by simp) 1 rfl
  clear hA
  go_wp2_with fail
  exact bodyPost_ret (v := .bool true) (by simp [results, Try.results7, go_sem]) rfl ⟨rfl, HB2.out⟩
end Go.Proofs.Ytaelhickopeocaa
