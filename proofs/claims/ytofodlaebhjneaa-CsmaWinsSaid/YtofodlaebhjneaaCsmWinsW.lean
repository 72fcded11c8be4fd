/-
The walk of CsmaWins.
-/
import Derived.Test.YtofodlaebhjneaaCsmStepsW
import Derived.Lib.MinMax
namespace Go.Proofs.Ytofodlaebhjneaa
open Go.RowKit Go.Sort
set_option maxRecDepth 20000
set_option maxHeartbeats 2000000 in
theorem cswins_any {G : GaP} (hC : GaC G) (a : Option Addr) (n c : Nat) (Ops : List Op17) (p : Par) (w : World) (hn : Ops.length = n) (hA : AtL encO17 w a Ops) : Calls Try.prog 4 #[.slice a n c, p.v] w fun e w' => e = .returned (.bool true) ∧ Below w.heap.size w w' := by
  have HC := Lib.hid hC
  have HAW := Lib.hid (fun W => cawake17 hC W)
  have HNW := Lib.hid (fun W => hC.new W)
  have HP0 := Lib.hid (fun W => plain_par p W)
  have HR0 := Lib.hid (fun W => rright_any p W)
  have HWIN := Lib.hid (fun m hp => stepG_win m p hp)
  obtain ⟨pa, pb, pc, pd, pf⟩ := p
  have HB0 := Lib.hid ((Below.refl w.heap.size w).alloc (Nat.le_refl _) (.cells #[.int .i64 pa, .int .i64 pb, .int .i64 pc, .int .i64 pd, .bool pf] 27))
  have HRP := Lib.hid (RowAt.new w w.heap.size rfl [.int .i64 pa, .int .i64 pb, .int .i64 pc, .int .i64 pd, .bool pf] 27)
  simp only [Par.v] at HP0 HR0
  by_cases hg : 100 < n
  · have dg : decide (100 < n) = true := decide_eq_true hg
    clear hC hn hA
    go_enter Try.func4, Try.ntmps4
    go_wp2_with (go_at_call 6; (with_reducible refine (HAW.out _).mono ?_); rintro e w1 ⟨rfl, hb⟩; have HB1 := Lib.hid (HB0.out.trans (hb.mono HB0.out.size)); clear hb)
    exact bodyPost_ret (v := .bool true) (by simp [results, Try.results4, go_sem]) rfl ⟨rfl, HB1.out⟩
  · have dg : decide (100 < n) = false := decide_eq_false hg
    have hl : n ≤ 100 := by omega
    have HN := Lib.hid hn
    have HA := Lib.hid hA
    clear hC hn hA hg
    cases hok : Par.ok ⟨pa, pb, pc, pd, pf⟩ with
    | false =>
      rw [hok] at HR0
      clear hok HWIN
      go_enter Try.func4, Try.ntmps4
      go_wp2_with (first
        | (go_at_call 6; (with_reducible refine (HAW.out _).mono ?_); rintro e w1 ⟨rfl, hb⟩; have HB1 := Lib.hid (HB0.out.trans (hb.mono HB0.out.size)); have HR1 := Lib.hid (HRP.out.below hb); have x0 := HR1.out.cell 0 rfl; have x1 := HR1.out.cell 1 rfl; have x2 := HR1.out.cell 2 rfl; have x3 := HR1.out.cell 3 rfl; have x4 := HR1.out.cell 4 rfl; clear hb)
        | (go_at_call 10; (with_reducible refine (HP0.out _).mono ?_); rintro e w2 ⟨rfl, hb⟩; have HB2 := Lib.hid (HB1.out.trans (hb.mono HB1.out.size)); clear hb)
        | (go_at_call 13; (with_reducible refine (HR0.out _).mono ?_); rintro e w3 ⟨rfl, hb⟩; have HB3 := Lib.hid (HB2.out.trans (hb.mono HB2.out.size)); clear hb))
      exact bodyPost_ret (v := .bool true) (by simp [results, Try.results4, go_sem]) rfl ⟨rfl, HB3.out⟩
    | true =>
      rw [hok] at HR0
      have HW2 := Lib.hid (fun m => HWIN.out m hok)
      clear hok HWIN
      go_enter Try.func4, Try.ntmps4
      go_wp2_with (first
        | (go_at_call 6; (with_reducible refine (HAW.out _).mono ?_); rintro e w1 ⟨rfl, hb⟩; have HB1 := Lib.hid (HB0.out.trans (hb.mono HB0.out.size)); have HR1 := Lib.hid (HRP.out.below hb); have x0 := HR1.out.cell 0 rfl; have x1 := HR1.out.cell 1 rfl; have x2 := HR1.out.cell 2 rfl; have x3 := HR1.out.cell 3 rfl; have x4 := HR1.out.cell 4 rfl; clear hb)
        | (go_at_call 10; (with_reducible refine (HP0.out _).mono ?_); rintro e w2 ⟨rfl, hb⟩; have HB2 := Lib.hid (HB1.out.trans (hb.mono HB1.out.size)); have HR2 := Lib.hid (HR1.out.below hb); clear hb)
        | (go_at_call 13; (with_reducible refine (HR0.out _).mono ?_); rintro e w3 ⟨rfl, hb⟩; have HB3 := Lib.hid (HB2.out.trans (hb.mono HB2.out.size)); have HR3 := Lib.hid (HR2.out.below hb); clear hb)
        | (go_at_call 7; (with_reducible refine (HNW.out _).mono ?_); rintro e w4 ⟨g, F, rfl, h1, h2, h3⟩; have HQ0 := Lib.hid (show GaO G w g 0 (fun b => b = w.heap.size) w4 ∧ RowAt w4 w.heap.size [.int .i64 pa, .int .i64 pb, .int .i64 pc, .int .i64 pd, .bool pf] from ⟨⟨F, h1, fun b hb => Nat.le_trans HB3.out.size (h2 b hb), HB3.out.trans (h3.mono HB3.out.size), fun b hb => by subst hb; exact ⟨(HR3.out.below h3).lt, fun hf => by have := h2 _ hf; have := HR3.out.lt; omega⟩⟩, HR3.out.below h3⟩); clear h1 h2 h3))
      clear dg HAW HNW x0 x1 x2 x3 x4 HP0 HR0
      go_loopw [6, 24] (fun nv iv wx => ∃ (i : Nat) (m mo : Int), i ≤ n ∧ iv = .int .i64 i ∧ nv = .int .i64 mo ∧ Hid ((0 ≤ m ∧ m ≤ mo ∧ mo ≤ 255) ∧ GaO G w g m (fun b => b = w.heap.size) wx ∧ RowAt wx w.heap.size [.int .i64 pa, .int .i64 pb, .int .i64 pc, .int .i64 pd, .bool pf])) (fun _ iv _ => n - (intOf iv).toNat)
      case atStart => exact ⟨0, 0, 0, Nat.zero_le _, rfl, rfl, Lib.hid ⟨⟨by decide, by decide, by decide⟩, HQ0.out⟩⟩
      case round =>
        obtain ⟨i, m, mo, hi, rfl, rfl, HK⟩ := hrel
        clear HQ0 HB1 HB2 HB3 HR1 HR2 HR3
        obtain ⟨hm0, hm1, hm2⟩ := HK.out.1
        by_cases hlt : i < n
        · have dk : decide (i < n) = true := decide_eq_true hlt
          have hL : i < Ops.length := by rw [HN.out]; exact hlt
          obtain ⟨ga, oa, rfl, -⟩ := HA.out.some_ (by omega)
          have hbel := HK.out.2.1.bel
          obtain ⟨e0, e1, e2, e3, e4, e5, e6, e7⟩ := (HA.out.below hbel).op17 i hL
          generalize Ops[i] = x at *
          obtain ⟨⟨xa, xb, xc, xd, xf⟩, ow, ob, od⟩ := x
          simp only at e0 e1 e2 e3 e4 e5 e6 e7
          have HQ := Lib.hid (HK.out.2.1.alloc HC.out (.cells #[.int .i64 xa, .int .i64 xb, .int .i64 xc, .int .i64 xd, .bool xf, .bool ow, .bool ob, .int .i64 od] 29))
          have HR := Lib.hid (RowAt.new wr wr.heap.size rfl [.int .i64 xa, .int .i64 xb, .int .i64 xc, .int .i64 xd, .bool xf, .bool ow, .bool ob, .int .i64 od] 29)
          have HRP1 := Lib.hid (HK.out.2.2.alloc (.cells #[.int .i64 xa, .int .i64 xb, .int .i64 xc, .int .i64 xd, .bool xf, .bool ow, .bool ob, .int .i64 od] 29))
          have HS := Lib.hid (HQ.out.step HC.out ⟨hm0, Int.le_trans hm1 hm2⟩ ⟨xa, xb, xc, xd, xf⟩ ow ob od)
          have HPL := Lib.hid (fun W => plain_par ⟨xa, xb, xc, xd, xf⟩ W)
          have HRX := Lib.hid (fun W => rright_any ⟨xa, xb, xc, xd, xf⟩ W)
          have HIN := Lib.hid (stepG_in m ⟨xa, xb, xc, xd, xf⟩ ow ob od ⟨hm0, Int.le_trans hm1 hm2⟩)
          have hmo := stepG_most m ⟨xa, xb, xc, xd, xf⟩ ow ob od mo ⟨hm0, hm1⟩
          have hpi := fun h => par_in (p := ⟨xa, xb, xc, xd, xf⟩) h
          simp only [Par.v] at HS HPL HRX
          generalize stepG m ⟨xa, xb, xc, xd, xf⟩ ow ob od = r at *
          obtain ⟨r1, r2⟩ := r
          simp only at HS HIN hmo hpi
          have x0 := HR.out.cell 0 rfl
          have x1 := HR.out.cell 1 rfl
          have x2 := HR.out.cell 2 rfl
          have x3 := HR.out.cell 3 rfl
          have x4 := HR.out.cell 4 rfl
          have x5 := HR.out.cell 5 rfl
          have x6 := HR.out.cell 6 rfl
          have x7 := HR.out.cell 7 rfl
          clear hbel HK
          cases hok : Par.ok ⟨xa, xb, xc, xd, xf⟩ with
          | false =>
            rw [hok] at HRX hmo
            rw [if_neg Bool.false_ne_true] at hmo
            have HMO := Lib.hid hmo
            clear hok hmo hpi
            go_wp2_with (first
              | (go_at_call 8; (with_reducible refine HS.out.mono ?_); rintro e wS ⟨rfl, hq, hs⟩; have HQ2 := Lib.hid hq; have HR2 := Lib.hid (HR.out.block (hs.2 _ (Or.inr rfl)) hs.1); have HRP2 := Lib.hid (HRP1.out.block (hs.2 _ (Or.inl rfl)) hs.1); clear hq hs x0 x1 x2 x3 x4 x5 x6 x7; have x0 := HR2.out.cell 0 rfl; have x1 := HR2.out.cell 1 rfl; have x2 := HR2.out.cell 2 rfl; have x3 := HR2.out.cell 3 rfl; have x4 := HR2.out.cell 4 rfl)
              | (go_at_call 10; (with_reducible refine (HPL.out _).mono ?_); rintro e wP ⟨rfl, hb⟩; have HQ3 := Lib.hid (HQ2.out.below HC.out hb); have HR3 := Lib.hid (HR2.out.below hb); have HRP3 := Lib.hid (HRP2.out.below hb); clear hb)
              | (go_at_call 13; (with_reducible refine (HRX.out _).mono ?_); rintro e wQ ⟨rfl, hb⟩; have HQ4 := Lib.hid (HQ3.out.below HC.out hb); have HR4 := Lib.hid (HR3.out.below hb); have HRP4 := Lib.hid (HRP3.out.below hb); have y2 := HR4.out.cell 2 rfl; clear hb))
            go_roundw
            case rel => exact ⟨i + 1, r1, mo, by omega, rfl, rfl, Lib.hid ⟨⟨HIN.out.1, HMO.out, hm2⟩, HQ4.out.less fun b hb => Or.inl hb, HRP4.out⟩⟩
            case measure => simp [intOf]; omega
          | true =>
            have hc := (hpi hok).2
            rw [hok] at HRX hmo
            rw [if_pos rfl] at hmo
            obtain ⟨mx, hmx⟩ : ∃ mx, max mo xc = mx := ⟨_, rfl⟩
            rw [hmx] at hmo
            have HMX := Lib.hid (show mx ≤ 255 from by omega)
            have HMO := Lib.hid hmo
            clear hok hmo hpi hc
            go_wp2_with (first
              | (go_at_call 8; (with_reducible refine HS.out.mono ?_); rintro e wS ⟨rfl, hq, hs⟩; have HQ2 := Lib.hid hq; have HR2 := Lib.hid (HR.out.block (hs.2 _ (Or.inr rfl)) hs.1); have HRP2 := Lib.hid (HRP1.out.block (hs.2 _ (Or.inl rfl)) hs.1); clear hq hs x0 x1 x2 x3 x4 x5 x6 x7; have x0 := HR2.out.cell 0 rfl; have x1 := HR2.out.cell 1 rfl; have x2 := HR2.out.cell 2 rfl; have x3 := HR2.out.cell 3 rfl; have x4 := HR2.out.cell 4 rfl)
              | (go_at_call 10; (with_reducible refine (HPL.out _).mono ?_); rintro e wP ⟨rfl, hb⟩; have HQ3 := Lib.hid (HQ2.out.below HC.out hb); have HR3 := Lib.hid (HR2.out.below hb); have HRP3 := Lib.hid (HRP2.out.below hb); clear hb)
              | (go_at_call 13; (with_reducible refine (HRX.out _).mono ?_); rintro e wQ ⟨rfl, hb⟩; have HQ4 := Lib.hid (HQ3.out.below HC.out hb); have HR4 := Lib.hid (HR3.out.below hb); have HRP4 := Lib.hid (HRP3.out.below hb); have y2 := HR4.out.cell 2 rfl; clear hb))
            go_roundw
            case rel => exact ⟨i + 1, r1, mx, by omega, rfl, rfl, Lib.hid ⟨⟨HIN.out.1, HMO.out, HMX.out⟩, HQ4.out.less fun b hb => Or.inl hb, HRP4.out⟩⟩
            case measure => simp [intOf]; omega
        · have dk : decide (i < n) = false := decide_eq_false hlt
          have hz2 : wrap64 (mo + 2) = mo + 2 := IntWalk.wrap64_in _ (by omega)
          have HK2 := Lib.hid HK.out.2
          clear HK hlt
          go_wp2_with fail
          go_loopw [9] (fun jv wx => ∃ (j : Nat) (m' : Int), jv = .int .i64 j ∧ Hid ((0 ≤ m' ∧ m' ≤ 255 ∧ (j : Int) + m' ≤ mo) ∧ GaO G w g m' (fun b => b = w.heap.size) wx ∧ RowAt wx w.heap.size [.int .i64 pa, .int .i64 pb, .int .i64 pc, .int .i64 pd, .bool pf])) (fun jv _ => (mo + 2 - intOf jv).toNat)
          case atStart => exact ⟨0, m, rfl, Lib.hid ⟨⟨hm0, by omega, by omega⟩, HK2.out⟩⟩
          case round =>
            obtain ⟨j, m', rfl, HJ⟩ := hrel
            clear HK2
            obtain ⟨hj0, hj1, hj2⟩ := HJ.out.1
            have dj : decide ((j : Int) < mo + 2) = true := decide_eq_true (by omega)
            have HS := Lib.hid (HJ.out.2.1.step HC.out ⟨hj0, hj1⟩ ⟨pa, pb, pc, pd, pf⟩ true false 0)
            rw [HW2.out m'] at HS
            simp only [Par.v] at HS
            have HRJ := Lib.hid HJ.out.2.2
            have x0 := HRJ.out.cell 0 rfl
            have x1 := HRJ.out.cell 1 rfl
            have x2 := HRJ.out.cell 2 rfl
            have x3 := HRJ.out.cell 3 rfl
            have x4 := HRJ.out.cell 4 rfl
            by_cases hst : pf = true ∨ ¬ 0 < m'
            · have e : (if pf = true then (m', true) else if 0 < m' then (m' - 1, false) else (m', true)) = (m', true) := by
                rcases hst with h | h
                · rw [if_pos h]
                · rw [if_neg h]
                  split <;> rfl
              rw [e] at HS
              simp only at HS
              clear e hst HJ
              go_wp2_with (go_at_call 8; (with_reducible refine HS.out.mono ?_); rintro e wS ⟨rfl, hq, hs⟩; have HE := Lib.hid hq.bel; clear hq hs)
              exact bodyPost_ret (v := .bool true) (by simp [results, Try.results4, go_sem]) rfl ⟨rfl, HE.out⟩
            · have h1 : ¬ pf = true := fun h => hst (Or.inl h)
              have h2 : 0 < m' := by
                rcases Int.lt_or_le 0 m' with h | h
                · exact h
                · exact absurd (Or.inr (by omega)) hst
              rw [if_neg h1, if_pos h2] at HS
              simp only at HS
              have HZJ := Lib.hid (show wrap64 ((j : Int) + 1) = (j : Int) + 1 from IntWalk.wrap64_in _ (by omega))
              have HM := Lib.hid (show 0 ≤ m' - 1 ∧ m' - 1 ≤ 255 ∧ ((j + 1 : Nat) : Int) + (m' - 1) ≤ mo from by omega)
              clear hst HJ h1 h2
              go_wp2_with (go_at_call 8; (with_reducible refine HS.out.mono ?_); rintro e wS ⟨rfl, hq, hs⟩; have HQS := Lib.hid (And.intro hq (HRJ.out.block (hs.2 _ rfl) hs.1)); clear hq hs)
              go_roundw
              case rel => exact ⟨j + 1, m' - 1, (by (try rw [HZJ.out]); rfl), Lib.hid ⟨HM.out, HQS.out⟩⟩
              case measure =>
                try rw [HZJ.out]
                simp [intOf]
                omega
end Go.Proofs.Ytofodlaebhjneaa
