/-
The document's example of a box.
-/
import Derived.Test.YtchjljmcgjlkiaaBufLaw
import Derived.Test.YtchjljmcgjlkiaaSegLib
import Derived.Lib.QuietBelow
namespace Go.Proofs.Ytchjljmcgjlkiaa
open Go.RowKit
set_option maxRecDepth 20000
theorem ex_put19 : ∃ b : Bx, putErrB 16 240 ⟨(List.replicate 40 120).toArray⟩ noB = 0 ∧ putB 16 240 ⟨(List.replicate 40 120).toArray⟩ noB = b ∧ b.M.length = 1 ∧ leftM b.M = 3 := by
  obtain ⟨b, hb⟩ : ∃ b, putB 16 240 ⟨(List.replicate 40 120).toArray⟩ noB = b := ⟨_, rfl⟩
  refine ⟨b, by kernel_rfl, hb, ?_, ?_⟩
  · rw [← hb]; kernel_rfl
  · rw [← hb]; kernel_rfl
set_option maxHeartbeats 2000000 in
theorem cawake19 {B : BoP} (hC : BoC B) (w : World) : Calls Try.prog 6 #[] w fun e w' => e = .returned (.bool true) ∧ Below w.heap.size w w' := by
  have HN := Lib.hid (fun W => hC.newYes 16 W (by omega))
  have HRE := Lib.hid (fun W => repeat_x W)
  obtain ⟨b, hE, hb, hm, hl⟩ := ex_put19
  have hok : BOk b := hb ▸ putB_ok noB_ok
  have HP := Lib.hid (fun q W (h : BoO B w q 16 noB (fun _ => False) W) => h.put hC noB_ok (by decide) 240 ⟨(List.replicate 40 120).toArray⟩ (by simp [ByteArray.size]))
  rw [hE, hb] at HP
  have HL := Lib.hid (fun q W (h : BoO B w q 16 b (fun _ => False) W) => h.left hC hok)
  have HM := Lib.hid (fun q W (h : BoO B w q 16 b (fun _ => False) W) => h.len hC hok)
  rw [hl] at HL
  rw [hm] at HM
  have HC := Lib.hid hC
  clear hC hE hb hm hl hok
  generalize (⟨(List.replicate 40 120).toArray⟩ : ByteArray) = xs at *
  go_enter Try.func6, Try.ntmps6
  go_wp2_with (first
    | (go_at_call 8; (with_reducible refine (HN.out _).mono ?_); rintro e w1 ⟨q, rfl, F, h1, h2, h3⟩; have HQ1 := Lib.hid (show BoO B w q 16 noB (fun _ => False) w1 from ⟨F, h1, h2, h3, fun k hk => hk.elim⟩); clear h1 h2 h3)
    | (go_at_call 22; (with_reducible refine (HRE.out _).mono ?_); rintro e w2 ⟨rfl, hb⟩; have HQ2 := Lib.hid (HQ1.out.below HC.out hb); clear hb)
    | (go_at_call 10; (with_reducible refine (HP.out _ _ HQ2.out).mono ?_); rintro e w3 ⟨rfl, h1, -⟩; have HQ3 := Lib.hid h1; clear h1)
    | (go_at_call 17; (with_reducible refine (HL.out _ _ HQ3.out).mono ?_); rintro e w4 ⟨rfl, hb⟩; have HQ4 := Lib.hid (HQ3.out.below HC.out hb); clear hb)
    | (go_at_call 16; (with_reducible refine (HM.out _ _ HQ4.out).mono ?_); rintro e w5 ⟨rfl, hb⟩; have HQ5 := Lib.hid (HQ4.out.below HC.out hb); clear hb))
  exact bodyPost_ret (v := .bool true) (by simp [results, Try.results6, go_sem]) rfl ⟨rfl, HQ5.out.bel⟩
end Go.Proofs.Ytchjljmcgjlkiaa
