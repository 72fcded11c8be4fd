/-
The walk of SeqNumbers.
-/
import Derived.Test.YtmokibjeanbabaaSeqCBoth
namespace Go.Proofs.Ytmokibjeanbabaa
open Go.RowKit
set_option maxRecDepth 20000
set_option maxHeartbeats 1000000 in
theorem seqnumbers_any (m a b : Int) (w : World) : Calls Try.prog 3 #[.int .i64 m, .int .i64 a, .int .i64 b] w fun e w' => e = .returned (.bool true) ∧ Below w.heap.size w w' := by
  have HAW := Lib.hid (fun W => cseqawake W)
  have HRF := Lib.hid (fun W => rfar_any m a b W)
  have HCF := Lib.hid (fun W => cfar_any m a b W)
  have HC2 := Lib.hid (fun W => cright_two m a b W)
  have HB := Lib.hid (Below.refl w.heap.size w)
  by_cases hr : (modR m && inR m a && inR m b) = true
  · have hf : farD m a b = farN m a b := by unfold farD; rw [if_pos hr]
    rw [hf] at HRF HCF
    rw [hr] at HC2
    simp only [Bool.and_eq_true] at hr
    obtain ⟨⟨h1, h2⟩, h3⟩ := hr
    have ha := inR_yes h2
    have hb := inR_yes h3
    have hmd := modR_yes h1
    have hfm := far_most m a b ha hb
    have HS1 := Lib.hid (fun W => cstep_any m a (farN m a b) W)
    rw [show stepD m a (farN m a b) = b from by
      unfold stepD
      rw [h1, h2, if_pos (by simp)]
      unfold farN
      rcases hmd with e | e <;> subst e <;> split <;> omega] at HS1
    have HS2 := Lib.hid (fun W => cstep_any m b (-(farN m a b)) W)
    rw [show stepD m b (-(farN m a b)) = a from by
      unfold stepD
      rw [h1, h3, if_pos (by simp)]
      unfold farN
      rcases hmd with e | e <;> subst e <;> split <;> omega] at HS2
    have HS3 := Lib.hid (fun W => cstep_any m a m W)
    rw [show stepD m a m = a from by
      unfold stepD
      rw [h1, h2, if_pos (by simp)]
      rcases hmd with e | e <;> subst e <;> omega] at HS3
    generalize farN m a b = r at *
    have d0 : decide (0 ≤ r) = true := decide_eq_true hfm.1
    have d1 : decide (r < 0) = false := decide_eq_false (by omega)
    have z1 : IntKind.i64.wrap (-r) = -r := i64_small' _ (by rcases hmd with e | e <;> omega) (by rcases hmd with e | e <;> omega)
    clear h1 h2 h3 ha hb hmd hfm hf
    go_enter Try.func3, Try.ntmps3
    go_wp2_with (first
      | (go_at_call 8; (with_reducible refine (HAW.out _).mono ?_); rintro e w1 ⟨rfl, hb⟩; replace HB := Lib.hid (HB.out.trans (hb.mono HB.out.size)); clear hb)
      | (go_at_call 9; (with_reducible refine (HRF.out _).mono ?_); rintro e w1 ⟨rfl, rfl⟩)
      | (go_at_call 10; (with_reducible refine (HCF.out _).mono ?_); rintro e w1 ⟨rfl, hb⟩; replace HB := Lib.hid (HB.out.trans (hb.mono HB.out.size)); clear hb)
      | (go_at_call 11; (with_reducible refine (HC2.out _).mono ?_); rintro e w1 ⟨rfl, rfl⟩; replace HB := Lib.hid (HB.out.alloc HB.out.size (.cells #[.int .i64 a, .int .i64 b] 3)))
      | (go_at_call 12; (first | (with_reducible refine (HS1.out _).mono ?_) | (with_reducible refine (HS2.out _).mono ?_) | (with_reducible refine (HS3.out _).mono ?_)); rintro e w1 ⟨rfl, hb⟩; replace HB := Lib.hid (HB.out.trans (hb.mono HB.out.size)); clear hb))
    exact bodyPost_ret (v := .bool true) (by simp [results, Try.results3, go_sem]) rfl ⟨rfl, HB.out⟩
  · have hr2 : (modR m && inR m a && inR m b) = false := by simpa using hr
    have hf : farD m a b = -1 := by unfold farD; rw [hr2, if_neg (by simp)]
    rw [hf] at HRF HCF
    rw [hr2] at HC2
    have HC1 := Lib.hid (fun W => cright_one m a W)
    have HS1 := Lib.hid (fun W => cstep_any m a 0 W)
    clear hr hf hr2
    by_cases hs : (modR m && inR m a) = true
    · rw [hs] at HC1
      rw [show stepD m a 0 = a from by
        unfold stepD
        rw [if_pos hs]
        simp only [Bool.and_eq_true] at hs
        have ha := inR_yes hs.2
        rcases modR_yes hs.1 with e | e <;> subst e <;> omega] at HS1
      have da : (a == -1) = false := by
        simp only [Bool.and_eq_true] at hs
        have ha := inR_yes hs.2
        rw [beq_eq_false_iff_ne]
        omega
      clear hs
      go_enter Try.func3, Try.ntmps3
      go_wp2_with (first
        | (go_at_call 8; (with_reducible refine (HAW.out _).mono ?_); rintro e w1 ⟨rfl, hb⟩; replace HB := Lib.hid (HB.out.trans (hb.mono HB.out.size)); clear hb)
        | (go_at_call 9; (with_reducible refine (HRF.out _).mono ?_); rintro e w1 ⟨rfl, rfl⟩)
        | (go_at_call 10; (with_reducible refine (HCF.out _).mono ?_); rintro e w1 ⟨rfl, hb⟩; replace HB := Lib.hid (HB.out.trans (hb.mono HB.out.size)); clear hb)
        | (go_at_call 11; (with_reducible refine (HC2.out _).mono ?_); rintro e w1 ⟨rfl, rfl⟩; replace HB := Lib.hid (HB.out.alloc HB.out.size (.cells #[.int .i64 a, .int .i64 b] 3)))
        | (go_at_call 11; (with_reducible refine (HC1.out _).mono ?_); rintro e w1 ⟨rfl, rfl⟩; replace HB := Lib.hid (HB.out.alloc HB.out.size (.cells #[.int .i64 a] 3)))
        | (go_at_call 12; (with_reducible refine (HS1.out _).mono ?_); rintro e w1 ⟨rfl, hb⟩; replace HB := Lib.hid (HB.out.trans (hb.mono HB.out.size)); clear hb))
      exact bodyPost_ret (v := .bool true) (by simp [results, Try.results3, go_sem]) rfl ⟨rfl, HB.out⟩
    · rw [show stepD m a 0 = -1 from by unfold stepD; rw [if_neg hs]] at HS1
      clear hs HC1
      have HC1 := HC2
      go_enter Try.func3, Try.ntmps3
      go_wp2_with (first
        | (go_at_call 8; (with_reducible refine (HAW.out _).mono ?_); rintro e w1 ⟨rfl, hb⟩; replace HB := Lib.hid (HB.out.trans (hb.mono HB.out.size)); clear hb)
        | (go_at_call 9; (with_reducible refine (HRF.out _).mono ?_); rintro e w1 ⟨rfl, rfl⟩)
        | (go_at_call 10; (with_reducible refine (HCF.out _).mono ?_); rintro e w1 ⟨rfl, hb⟩; replace HB := Lib.hid (HB.out.trans (hb.mono HB.out.size)); clear hb)
        | (go_at_call 11; (with_reducible refine (HC2.out _).mono ?_); rintro e w1 ⟨rfl, rfl⟩; replace HB := Lib.hid (HB.out.alloc HB.out.size (.cells #[.int .i64 a, .int .i64 b] 3)))
        | (go_at_call 11; (with_reducible refine (HC1.out _).mono ?_); rintro e w1 ⟨rfl, rfl⟩; replace HB := Lib.hid (HB.out.alloc HB.out.size (.cells #[.int .i64 a] 3)))
        | (go_at_call 12; (with_reducible refine (HS1.out _).mono ?_); rintro e w1 ⟨rfl, hb⟩; replace HB := Lib.hid (HB.out.trans (hb.mono HB.out.size)); clear hb))
      exact bodyPost_ret (v := .bool true) (by simp [results, Try.results3, go_sem]) rfl ⟨rfl, HB.out⟩
end Go.Proofs.Ytmokibjeanbabaa
