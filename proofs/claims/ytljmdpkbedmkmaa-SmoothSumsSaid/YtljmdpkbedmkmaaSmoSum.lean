/-
Sum: the landed one, the document's; the walk of SmoothSums.
-/
import Derived.Test.YtljmdpkbedmkmaaSmoAt
import Derived.Test.YtljmdpkbedmkmaaSmoRef
namespace Go.Proofs.Ytljmdpkbedmkmaa
open Go.RowKit
set_option maxRecDepth 20000
/-- behind k that didn't come -/
def smT (n : Int) (k : Nat) : Sm := ⟨(Sm.new n).srt, tI n k⟩
theorem smT_ok (n : Int) (k : Nat) : (smT n k).ok := ⟨(Sm.new_ok n).1, tI_most n k⟩
theorem smT_step (n : Int) (k : Nat) : (smT n k).none = smT n (k + 1) := rfl
theorem sumN_near (n : Int) (k : Nat) (hk : k ≤ 1001) : IntKind.i64.wrap (sumN n k) = sumN n k := by
  have := sumN_most n k
  exact i64_near _ (by omega) (by omega)
set_option maxHeartbeats 1000000 in
theorem csum_any (n k : Int) (w : World) : Calls Try.prog 16 #[.int .i64 n, .int .i64 k] w fun e w' => e = .returned (.int .i64 (sumN n (triesN k))) ∧ Below w.heap.size w w' := by
  have HN := Lib.hid (sm_new n w w (Below.refl _ _))
  have h0 : Sm.new n = smT n 0 := rfl
  rw [h0] at HN
  have hK := triesN_eq k
  have hKm := triesN_le k
  obtain ⟨K, hKK⟩ : ∃ K, triesN k = K := ⟨_, rfl⟩
  rw [hKK] at hK hKm ⊢
  obtain ⟨m, hm⟩ : ∃ m, min k 1000 = m := ⟨_, rfl⟩
  have HMM := Lib.hid (show (m < 0 ∧ K = 0) ∨ m = (K : Int) from by omega)
  clear h0 hK hKK
  go_enter Try.func16, Try.ntmps16
  go_wp2_with (go_at_call 8; (with_reducible refine HN.out.mono ?_); rintro e w1 ⟨p, rfl, hs, -, -⟩; have HS := Lib.hid hs; clear hs)
  clear hm
  go_loopw [6, 11] (fun sm i wx => ∃ j : Nat, j ≤ K ∧ i = .int .i64 j ∧ sm = .int .i64 (sumN n j) ∧ Hid (SmAt w p (smT n j) wx)) (fun _ i _ => K - (intOf i).toNat)
  case atStart => exact ⟨0, by omega, rfl, rfl, HS⟩
  case round =>
    obtain ⟨j, hj, rfl, rfl, HK⟩ := hrel
    clear HS
    have HT1 := Lib.hid HK.out.t1
    have HNO := Lib.hid HK.out.missed
    rw [smT_step] at HNO
    have z := sumN_near n (j + 1)
    have hst : sumN n j + (smT n j).t1 = sumN n (j + 1) := rfl
    by_cases hlt : j < K
    · have dlt : decide ((j : Int) < m) = true := decide_eq_true (by rcases HMM.out with h | h <;> omega)
      have z2 := z (by omega)
      rw [← hst] at z2
      have HST := Lib.hid hst
      generalize (smT n j).t1 = a at *
      generalize sumN n j = b at *
      rw [IntWalk.i64_left] at z2
      clear z hst
      go_wp2_with (first
        | (go_at_call 10; (with_reducible refine HT1.out.mono ?_); rintro e wr ⟨rfl, rfl⟩)
        | (go_at_call 12; (with_reducible refine HNO.out.mono ?_); rintro e w3 ⟨rfl, hs, -⟩; have HS := Lib.hid hs; clear hs))
      go_roundw
      case rel => exact ⟨j + 1, by omega, by go_num, by rw [HST.out], HS⟩
      case measure => simp [intOf]; omega
    · have dlt : decide ((j : Int) < m) = false := decide_eq_false (by rcases HMM.out with h | h <;> omega)
      have e : j = K := by omega
      subst e
      clear z hst
      go_wp2_with fail
      exact bodyPost_ret (v := .int .i64 (sumN n j)) (by simp [results, Try.results16, go_sem]) rfl ⟨rfl, HK.out.bel⟩
set_option maxHeartbeats 1000000 in
theorem rsum_any (n k : Int) (w : World) : Calls Try.prog 17 #[.int .i64 n, .int .i64 k] w fun e w' => e = .returned (.int .i64 (sumN n (triesN k))) ∧ Below w.heap.size w w' := by
  have HN := Lib.hid (fun W => rnew_any12 n W)
  have h0 : Sm.new n = smT n 0 := rfl
  rw [h0] at HN
  simp only [smA] at HN
  have hK := triesN_eq k
  have hKm := triesN_le k
  obtain ⟨K, hKK⟩ : ∃ K, triesN k = K := ⟨_, rfl⟩
  rw [hKK] at hK hKm ⊢
  clear h0 hKK
  have HKE := Lib.hid hK
  clear hK
  go_enter Try.func17, Try.ntmps17
  go_upto_region 3 with (go_at_call 9; (with_reducible refine (HN.out _).mono ?_); rintro e w1 ⟨rfl, hb⟩; have HB := Lib.hid hb; clear hb)
  have HR := Lib.hid (RowAt.new w1 w1.heap.size rfl [.int .i64 (smT n 0).srt, .int .i64 (smT n 0).t1] 27)
  have HB2 := Lib.hid (HB.out.alloc HB.out.size (.cells #[.int .i64 (smT n 0).srt, .int .i64 (smT n 0).t1] 27))
  have HP := Lib.hid HB.out.size
  generalize w1.alloc (.cells #[.int .i64 (smT n 0).srt, .int .i64 (smT n 0).t1] 27) = w2 at *
  generalize w1.heap.size = p at *
  have HRN := Lib.hid (fun j W => rnone_any (smT n j) W (smT_ok n j))
  simp only [smT_step, smA] at HRN
  go_wp2_with fail
  go_loopw [5, 7] (fun sm i wx => ∃ j : Nat, j ≤ K ∧ i = .int .i64 j ∧ sm = .int .i64 (sumN n j) ∧ Hid (RowAt wx p [.int .i64 (smT n j).srt, .int .i64 (smT n j).t1] ∧ Below w.heap.size w wx)) (fun _ i _ => K - (intOf i).toNat)
  case atStart => exact ⟨0, by omega, rfl, rfl, Lib.hid ⟨HR.out, HB2.out⟩⟩
  case round =>
    obtain ⟨j, hj, rfl, rfl, HK⟩ := hrel
    clear HR HB HB2
    have HR := Lib.hid HK.out.1
    have HB := Lib.hid HK.out.2
    clear HK
    have HRJ := Lib.hid (HRN.out j wr)
    have c1 := HR.out.cell 1 (v := .int .i64 (smT n j).t1) rfl
    have c0 := HR.out.cell 0 (v := .int .i64 (smT n j).srt) rfl
    have z := sumN_near n (j + 1)
    have hst : sumN n j + (smT n j).t1 = sumN n (j + 1) := rfl
    by_cases hlt : j < K
    · have dlt : decide ((j : Int) < k) = true := decide_eq_true (by have := HKE.out; omega)
      have dl2 : decide ((j : Int) < 1000) = true := decide_eq_true (by omega)
      have z2 := z (by omega)
      rw [← hst] at z2
      have HST := Lib.hid hst
      generalize (smT n j).t1 = a at *
      generalize (smT n j).srt = s at *
      generalize h1 : (smT n (j + 1)).t1 = a' at *
      generalize h2 : (smT n (j + 1)).srt = s' at *
      replace h1 := Lib.hid h1
      replace h2 := Lib.hid h2
      generalize sumN n j = b at *
      rw [IntWalk.i64_left] at z2
      clear z hst
      go_wp2_with (go_at_call 13; (with_reducible refine HRJ.out.mono ?_); rintro e w3 ⟨rfl, hb⟩; have HR3 := Lib.hid (HR.out.below hb); have HB3 := Lib.hid (HB.out.trans (hb.mono HB.out.size)); have d0 := HR3.out.cell 0 rfl; have d1 := HR3.out.cell 1 rfl; have f0 := (HR3.out.get 0 rfl).free; have f1 := (HR3.out.get 1 rfl).free; clear hb c0 c1)
      have HR4 := Lib.hid ((HR3.out.put 0 (.int .i64 s') [.int .i64 s', .int .i64 a] rfl).put 1 (.int .i64 a') [.int .i64 s', .int .i64 a'] rfl)
      have HB4 := Lib.hid (set2_below HB3.out HP.out (.int .i64 s') (.int .i64 a'))
      go_roundw
      case rel => exact ⟨j + 1, by omega, by go_num, by rw [HST.out], Lib.hid ⟨by rw [h1.out, h2.out]; exact HR4.out, HB4.out⟩⟩
      case measure => simp [intOf]; omega
    · have e : j = K := by omega
      subst e
      clear z hst c0 c1
      by_cases hk : (j : Int) < k
      · have dlt : decide ((j : Int) < k) = true := decide_eq_true hk
        have dl2 : decide ((j : Int) < 1000) = false := decide_eq_false (by have := HKE.out; omega)
        clear hk
        go_wp2_with fail
        exact bodyPost_ret (v := .int .i64 (sumN n j)) (by simp [results, Try.results17, go_sem]) rfl ⟨rfl, HB.out⟩
      · have dlt : decide ((j : Int) < k) = false := decide_eq_false hk
        clear hk
        go_wp2_with fail
        exact bodyPost_ret (v := .int .i64 (sumN n j)) (by simp [results, Try.results17, go_sem]) rfl ⟨rfl, HB.out⟩
set_option maxHeartbeats 1000000 in
theorem smsums_any (n k : Int) (w : World) : Calls Try.prog 5 #[.int .i64 n, .int .i64 k] w fun e w' => e = .returned (.bool true) ∧ Below w.heap.size w w' := by
  have HAW := Lib.hid (fun W => smawake_any W)
  have HC := Lib.hid (fun W => csum_any n k W)
  have HRF := Lib.hid (fun W => rsum_any n k W)
  have H1 := Lib.hid (fun W => ct1_nil W)
  have H2 := Lib.hid (fun W => ctook_nil 5 W)
  have H3 := Lib.hid (fun W => cnone_nil W)
  have H4 := Lib.hid (fun W => csrt_nil W)
  have hm := sumN_most n (triesN k)
  have hk := triesN_le k
  have hK := triesN_eq k
  generalize triesN k = K at *
  generalize sumN n K = s at *
  have hx : min (max k 0) 1000 = (K : Int) := hK.symm
  have z1 : IntKind.i64.wrap (255 * (K : Int)) = 255 * (K : Int) := i64_near _ (by omega) (by omega)
  have z2 : IntKind.i64.wrap (4 * (K : Int)) = 4 * (K : Int) := i64_near _ (by omega) (by omega)
  have d1 : decide (s ≤ 255 * (K : Int)) = true := decide_eq_true hm.2
  have d2 : decide (4 * (K : Int) ≤ s) = true := decide_eq_true hm.1
  rw [IntWalk.i64_left] at z1 z2
  clear hm hk hK
  go_enter Try.func5, Try.ntmps5
  go_wp2_with (first
    | (go_at_call 7; (with_reducible refine (HAW.out _).mono ?_); rintro e w1 ⟨rfl, hb⟩; have HB := Lib.hid hb; clear hb)
    | (go_at_call 16; (with_reducible refine (HC.out _).mono ?_); rintro e w2 ⟨rfl, hb⟩; replace HB := Lib.hid (HB.out.trans (hb.mono HB.out.size)); clear hb)
    | (go_at_call 17; (with_reducible refine (HRF.out _).mono ?_); rintro e w2 ⟨rfl, hb⟩; replace HB := Lib.hid (HB.out.trans (hb.mono HB.out.size)); clear hb)
    | (go_at_call 10; (with_reducible refine (H1.out _).mono ?_); rintro e w2 ⟨rfl, rfl⟩)
    | (go_at_call 14; (with_reducible refine (H2.out _).mono ?_); rintro e w2 ⟨rfl, rfl⟩)
    | (go_at_call 12; (with_reducible refine (H3.out _).mono ?_); rintro e w2 ⟨rfl, rfl⟩)
    | (go_at_call 11; (with_reducible refine (H4.out _).mono ?_); rintro e w2 ⟨rfl, rfl⟩))
  exact bodyPost_ret (v := .bool true) (by simp [results, Try.results5, go_sem]) rfl ⟨rfl, HB.out⟩
end Go.Proofs.Ytljmdpkbedmkmaa
