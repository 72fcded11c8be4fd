/-
The document's example of a queue.
-/
import Derived.Test.YtliamhphpnifaaaTxqLawB
namespace Go.Proofs.Ytliamhphpnifaaa
open Go.RowKit
set_option maxRecDepth 20000
abbrev later16 : ByteArray := ⟨#[108, 97, 116, 101, 114]⟩
abbrev first16 : ByteArray := ⟨#[102, 105, 114, 115, 116]⟩
theorem ex_put1 : putErr 2 later16.size [] = 0 ∧ sortE (putE 2 1 later16 []) = [⟨2, 1, later16⟩] := ⟨rfl, rfl⟩
theorem ex_put2 : putErr 0 first16.size [⟨2, 1, later16⟩] = 0 ∧ sortE (putE 0 1 first16 [⟨2, 1, later16⟩]) = [⟨0, 1, first16⟩, ⟨2, 1, later16⟩] := ⟨rfl, rfl⟩
theorem ex_take : takeN 1 99 0 0 [⟨0, 1, first16⟩, ⟨2, 1, later16⟩] = 1 := rfl
set_option maxHeartbeats 2000000 in
theorem cawake16 {Q : QuP} (hC : QuC Q) (w : World) : Calls Try.prog 6 #[] w fun e w' => e = .returned (.bool true) ∧ Below w.heap.size w w' := by
  have HC := Lib.hid hC
  have HN := Lib.hid (hC.new w)
  have HP1 := Lib.hid (fun q W (h : QuO Q w q [] (fun _ => False) W) => h.put hC 2 1 later16 (by decide))
  have HP2 := Lib.hid (fun q W (h : QuO Q w q [⟨2, 1, later16⟩] (fun _ => False) W) => h.put hC 0 1 first16 (by decide))
  have HT := Lib.hid (fun q W (h : QuO Q w q [⟨0, 1, first16⟩, ⟨2, 1, later16⟩] (fun _ => False) W) => h.take hC 1 99)
  have HL := Lib.hid (fun q W K (h : QuO Q w q [⟨2, 1, later16⟩] K W) => h.len hC)
  rw [ex_put1.1, ex_put1.2] at HP1
  rw [ex_put2.1, ex_put2.2] at HP2
  rw [ex_take] at HT
  simp only [List.take_succ_cons, List.take_zero, List.map_cons, List.map_nil, frs, List.drop_succ_cons, List.drop_zero, List.length_cons, List.length_nil, Nat.zero_add] at HT HL
  clear hC
  go_enter Try.func6, Try.ntmps6
  go_wp2_with (first
    | (go_at_call 8; (with_reducible refine HN.out.mono ?_); rintro e w1 ⟨q, F, rfl, h1, h2, h3⟩; have HQ1 := Lib.hid (show QuO Q w q [] (fun _ => False) w1 from ⟨F, h1, h2, h3, fun b hb => hb.elim⟩); clear h1 h2 h3)
    | (go_at_call 9; (with_reducible refine (HP1.out _ _ HQ1.out).mono ?_); rintro e w2 ⟨rfl, h1, -⟩; have HQ2 := Lib.hid h1; clear h1 HQ1)
    | (go_at_call 9; (with_reducible refine (HP2.out _ _ HQ2.out).mono ?_); rintro e w3 ⟨rfl, h1, -⟩; have HQ3 := Lib.hid h1; clear h1 HQ2)
    | (go_at_call 12; (with_reducible refine (HT.out _ _ HQ3.out).mono ?_); rintro e w4 ⟨a, c, rfl, hA, h1, -⟩; obtain ⟨g, o, rfl, -⟩ := hA.some_ (by simp); have x0 := text_at16 hA 0 (by simp); simp only [Nat.add_zero, List.getElem_cons_zero] at x0; have HQ4 := Lib.hid h1; clear h1 hA HQ3)
    | (go_at_call 17; (with_reducible refine (HL.out _ _ _ HQ4.out).mono ?_); rintro e w5 ⟨rfl, h1, -⟩; have HQ5 := Lib.hid h1; clear h1))
  exact bodyPost_ret (v := .bool true) (by simp [results, Try.results6, go_sem]) rfl ⟨rfl, by obtain ⟨F, -, -, h, -⟩ := HQ5.out; exact h⟩
end Go.Proofs.Ytliamhphpnifaaa
