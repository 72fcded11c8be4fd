/-
The walk of ClockDue (written by tools/gen13/gen_due.py).
-/
import Derived.Test.YtchhaolgmdhnmaaClkAwake
import Derived.Test.YtchhaolgmdhnmaaClkAtN
import Derived.Test.YtchhaolgmdhnmaaClkDueP
import Derived.Test.YtchhaolgmdhnmaaClkOpens
namespace Go.Proofs.Ytchhaolgmdhnmaa
open Go.RowKit
set_option maxRecDepth 20000
theorem op_at' {w : World} {g o : Nat} {L : List Op13} (h : AtL encO w (some ⟨g, o, none⟩) L) (i : Nat) (hi : i < L.length) :
    w.cell? ⟨g, o + i * 4, none⟩ = some (.int .i64 L[i].c) ∧ w.cell? ⟨g, o + i * 4 + 1, none⟩ = some (.int .i64 L[i].t) ∧ w.cell? ⟨g, o + i * 4 + 2, none⟩ = some (.int .i64 L[i].k) ∧ w.cell? ⟨g, o + i * 4 + 3, none⟩ = some (.int .i64 L[i].n) := by
  have h0 := h.get i hi 0 (u := .int .i64 L[i].c) rfl
  have h1 := h.get i hi 1 (u := .int .i64 L[i].t) rfl
  have h2 := h.get i hi 2 (u := .int .i64 L[i].k) rfl
  have h3 := h.get i hi 3 (u := .int .i64 L[i].n) rfl
  simp only [Nat.add_zero] at h0
  exact ⟨h0, h1, h2, h3⟩
set_option maxHeartbeats 8000000 in
theorem ckdue_any (a : Option Addr) (n c : Nat) (L : List Op13) (tb : Nat) (w : World) (hn : L.length = n) (hA : AtL encO w a L) (ht : tb < 256) : Calls Try.prog 4 #[.slice a n c, .int .u8 (tb : Int)] w fun e w' => e = .returned (.bool true) ∧ Below w.heap.size w w' := by
  have HAW := Lib.hid (fun W => cawake13 W)
  have HNW := Lib.hid (fun W h => CkO.new w W h)
  by_cases hz : 200 < n
  · have dz : decide ((200 : Int) < (n : Int)) = true := decide_eq_true (by omega)
    clear hn hA hz HNW
    go_enter Try.func4, Try.ntmps4
    go_wp2_with (go_at_call 6; (with_reducible refine (HAW.out _).mono ?_); rintro e w1 ⟨rfl, hb⟩; have HB1 := Lib.hid hb; clear hb)
    exact bodyPost_ret (v := .bool true) (by simp [results, Try.results4, go_sem]) rfl ⟨rfl, HB1.out⟩
  · have dz : decide ((200 : Int) < (n : Int)) = false := decide_eq_false (by omega)
    have hn2 : n ≤ 200 := by omega
    have HLN := Lib.hid hn
    have HA := Lib.hid hA
    clear hn hA hz
    go_enter Try.func4, Try.ntmps4
    go_upto_region 8 with (first
      | (go_at_call 6; (with_reducible refine (HAW.out _).mono ?_); rintro e w1 ⟨rfl, hb⟩; have HB1 := Lib.hid hb; clear hb)
      | (go_at_call 7; (with_reducible refine (HNW.out _ HB1.out).mono ?_); rintro e w2 ⟨p, rfl, hI⟩; have HI2 := Lib.hid hI; clear hI))
    have HI3 := Lib.hid (HI2.out.box [.int .i64 (-7), .int .i64 (-7)] 31)
    generalize w2.alloc (.cells #[.int .i64 (-7), .int .i64 (-7)] 31) = w3 at *
    generalize w2.heap.size = mm at *
    have hNb : 1 ≤ 1 + (tb : Int) % 40 ∧ 1 + (tb : Int) % 40 ≤ 40 := by omega
    generalize 1 + (tb : Int) % 40 = N at *
    have hst : setT ⟨-7, -7⟩ N [] = ([⟨-7, -7, N⟩], 0) := by
      unfold setT
      rw [if_neg (by omega), if_neg (fun q => by have := q.2; simp at this)]
      rfl
    have HSE := Lib.hid (HI3.out.set ClkOk.nil ⟨-7, -7⟩ N)
    have HOK0 := Lib.hid (ClkOk.nil.set ⟨-7, -7⟩ N)
    rw [hst] at HSE HOK0
    simp only at HSE HOK0
    have HL0 := Lib.hid (show leftT ⟨-7, -7⟩ [⟨-7, -7, N⟩] = restN N 0 from by
      unfold restN
      rw [if_pos (by omega)]
      show (if isT ⟨-7, -7⟩ ⟨-7, -7, N⟩ = true then N else 0) = N - 0
      rw [show isT ⟨-7, -7⟩ ⟨-7, -7, N⟩ = true from rfl, if_pos rfl]
      omega)
    have m0 := (HI3.out.row (.head _)).cell 0 rfl
    have m1 := (HI3.out.row (.head _)).cell 1 rfl
    clear HAW HNW HB1 HI2 dz hst ht
    go_upto_region 10 with (go_at_call 8; (with_reducible refine HSE.out.mono ?_); rintro e w4 ⟨rfl, hI⟩; have HI4 := Lib.hid hI; clear hI)
    clear m0 m1 HSE HI3
    go_wp2_with fail
    go_loopw [8, 32] (fun nw v wx => ∃ (j : Nat) (LL : List Tm) (NN : Int), j ≤ n ∧ v = .int .i64 j ∧ nw = .int .i64 NN ∧ 0 ≤ NN ∧ NN ≤ j ∧ Hid (ClkOk LL ∧ leftT ⟨-7, -7⟩ LL = restN N NN ∧ CkO w p LL [(mm, [.int .i64 (-7), .int .i64 (-7)])] wx)) (fun _ v _ => n - (intOf v).toNat)
    case atStart => exact ⟨0, _, 0, Nat.zero_le _, rfl, rfl, Int.le_refl 0, Int.le_refl 0, Lib.hid ⟨HOK0.out, HL0.out, HI4.out⟩⟩
    case round =>
      obtain ⟨j, LL, NN, hj, rfl, rfl, hNN0, hNN1, HK⟩ := hrel
      clear HI4 HOK0 HL0
      have HOK := Lib.hid HK.out.1
      have HLF := Lib.hid HK.out.2.1
      have HP := Lib.hid HK.out.2.2
      clear HK
      by_cases hlt : j < n
      · have hL : j < L.length := by rw [HLN.out]; exact hlt
        obtain ⟨g0, o0, rfl, _⟩ := HA.out.some_ (by omega)
        obtain ⟨y0, y1, y2, y3⟩ := op_at' (HA.out.below HP.out.bel) j hL
        generalize L[j] = y at *
        obtain ⟨yc, yt, yk, yn⟩ := y
        simp only at y0 y1 y2 y3
        have hNN1 : NN ≤ (j : Int) + 1 := by omega
        cases heq : eqN ⟨yk, yn⟩ ⟨-7, -7⟩ with
        | true =>
          have HPX := Lib.hid (HP.out.box [.int .i64 yc, .int .i64 yt, .int .i64 yk, .int .i64 yn] 33)
          go_upto_region 14 with (fail)
          generalize wr.alloc (.cells #[.int .i64 yc, .int .i64 yt, .int .i64 yk, .int .i64 yn] 33) = wm at *
          generalize wr.heap.size = m at *
          have b0 := (HPX.out.row (.head _)).cell 0 rfl
          have b1 := (HPX.out.row (.head _)).cell 1 rfl
          have b2 := (HPX.out.row (.head _)).cell 2 rfl
          have b3 := (HPX.out.row (.head _)).cell 3 rfl
          have m0 := (HPX.out.row (.tail _ (.head _))).cell 0 rfl
          have m1 := (HPX.out.row (.tail _ (.head _))).cell 1 rfl
          have he := fun W => run_eq_nm yk yn (-7) (-7) W true heq.symm
          have HOKT := HOK
          have HLT := HLF
          have HP6 := HPX
          have HNT := Lib.hid (And.intro hNN0 hNN1)
          clear HP heq
          go_wp2_with fail
          go_roundw
          case rel => exact ⟨j + 1, LL, NN, hlt, by go_num, by go_num, HNT.out.1, by have := HNT.out.2; omega, Lib.hid ⟨HOKT.out, HLT.out, HP6.out.forget⟩⟩
          case measure => simp [intOf]; omega
        | false =>
          by_cases hc3 : yc = 3
          · subst hc3
            by_cases h7 : yn = -7
            · subst h7
              have HPX := Lib.hid (HP.out.box [.int .i64 3, .int .i64 yt, .int .i64 yk, .int .i64 (-7)] 33)
              go_upto_region 14 with (fail)
              generalize wr.alloc (.cells #[.int .i64 3, .int .i64 yt, .int .i64 yk, .int .i64 (-7)] 33) = wm at *
              generalize wr.heap.size = m at *
              have b0 := (HPX.out.row (.head _)).cell 0 rfl
              have b1 := (HPX.out.row (.head _)).cell 1 rfl
              have b2 := (HPX.out.row (.head _)).cell 2 rfl
              have b3 := (HPX.out.row (.head _)).cell 3 rfl
              have m0 := (HPX.out.row (.tail _ (.head _))).cell 0 rfl
              have m1 := (HPX.out.row (.tail _ (.head _))).cell 1 rfl
              have he := fun W => run_eq_nm yk (-7) (-7) (-7) W false heq.symm
              have HOKT := HOK
              have HLT := HLF
              have HP6 := HPX
              have HNT := Lib.hid (And.intro hNN0 hNN1)
              clear HP heq
              go_wp2_with fail
              go_roundw
              case rel => exact ⟨j + 1, LL, NN, hlt, by go_num, by go_num, HNT.out.1, by have := HNT.out.2; omega, Lib.hid ⟨HOKT.out, HLT.out, HP6.out.forget⟩⟩
              case measure => simp [intOf]; omega
            · have d7 : (yn == -7) = false := by simpa using h7
              have HPX := Lib.hid (HP.out.box [.int .i64 3, .int .i64 yt, .int .i64 yk, .int .i64 yn] 33)
              go_upto_region 14 with (fail)
              generalize wr.alloc (.cells #[.int .i64 3, .int .i64 yt, .int .i64 yk, .int .i64 yn] 33) = wm at *
              generalize wr.heap.size = m at *
              have b0 := (HPX.out.row (.head _)).cell 0 rfl
              have b1 := (HPX.out.row (.head _)).cell 1 rfl
              have b2 := (HPX.out.row (.head _)).cell 2 rfl
              have b3 := (HPX.out.row (.head _)).cell 3 rfl
              have m0 := (HPX.out.row (.tail _ (.head _))).cell 0 rfl
              have m1 := (HPX.out.row (.tail _ (.head _))).cell 1 rfl
              have he := fun W => run_eq_nm yk yn (-7) (-7) W false heq.symm
              have HOKT := Lib.hid (show ClkOk (onlyT yn LL) from HOK.out.filter (fun t => !numT yn t))
              have HLT := Lib.hid ((left_only (m := ⟨-7, -7⟩) h7 LL).trans HLF.out)
              have HCL := Lib.hid (HPX.out.only HOK.out yn)
              have HNT := Lib.hid (And.intro hNN0 hNN1)
              clear HP heq
              generalize onlyT yn LL = LT at *
              go_wp2_with (go_at_call 15; (with_reducible refine HCL.out.mono ?_); rintro e w6 ⟨rfl, hp⟩; have HP6 := Lib.hid hp; clear hp)
              go_roundw
              case rel => exact ⟨j + 1, LT, NN, hlt, by go_num, by go_num, HNT.out.1, by have := HNT.out.2; omega, Lib.hid ⟨HOKT.out, HLT.out, HP6.out.forget⟩⟩
              case measure => simp [intOf]; omega
          · by_cases hc0 : yc = 0
            · subst hc0
              have HPX := Lib.hid (HP.out.box [.int .i64 0, .int .i64 yt, .int .i64 yk, .int .i64 yn] 33)
              go_upto_region 14 with (fail)
              generalize wr.alloc (.cells #[.int .i64 0, .int .i64 yt, .int .i64 yk, .int .i64 yn] 33) = wm at *
              generalize wr.heap.size = m at *
              have b0 := (HPX.out.row (.head _)).cell 0 rfl
              have b1 := (HPX.out.row (.head _)).cell 1 rfl
              have b2 := (HPX.out.row (.head _)).cell 2 rfl
              have b3 := (HPX.out.row (.head _)).cell 3 rfl
              have m0 := (HPX.out.row (.tail _ (.head _))).cell 0 rfl
              have m1 := (HPX.out.row (.tail _ (.head _))).cell 1 rfl
              have he := fun W => run_eq_nm yk yn (-7) (-7) W false heq.symm
              have HOKT := Lib.hid (HOK.out.set ⟨yk, yn⟩ yt)
              have HLT := Lib.hid ((left_set heq yt LL).trans HLF.out)
              have HCL := Lib.hid (HPX.out.set HOK.out ⟨yk, yn⟩ yt)
              have HNT := Lib.hid (And.intro hNN0 hNN1)
              simp only at HCL
              clear HP heq
              generalize (setT ⟨yk, yn⟩ yt LL).1 = LT at *
              go_wp2_with (go_at_call 8; (with_reducible refine HCL.out.mono ?_); rintro e w6 ⟨rfl, hp⟩; have HP6 := Lib.hid hp; clear hp)
              go_roundw
              case rel => exact ⟨j + 1, LT, NN, hlt, by go_num, by go_num, HNT.out.1, by have := HNT.out.2; omega, Lib.hid ⟨HOKT.out, HLT.out, HP6.out.forget⟩⟩
              case measure => simp [intOf]; omega
            · skip
              by_cases hc1 : yc = 1
              · subst hc1
                have HPX := Lib.hid (HP.out.box [.int .i64 1, .int .i64 yt, .int .i64 yk, .int .i64 yn] 33)
                go_upto_region 14 with (fail)
                generalize wr.alloc (.cells #[.int .i64 1, .int .i64 yt, .int .i64 yk, .int .i64 yn] 33) = wm at *
                generalize wr.heap.size = m at *
                have b0 := (HPX.out.row (.head _)).cell 0 rfl
                have b1 := (HPX.out.row (.head _)).cell 1 rfl
                have b2 := (HPX.out.row (.head _)).cell 2 rfl
                have b3 := (HPX.out.row (.head _)).cell 3 rfl
                have m0 := (HPX.out.row (.tail _ (.head _))).cell 0 rfl
                have m1 := (HPX.out.row (.tail _ (.head _))).cell 1 rfl
                have he := fun W => run_eq_nm yk yn (-7) (-7) W false heq.symm
                have HOKT := Lib.hid (show ClkOk (stopT ⟨yk, yn⟩ LL) from HOK.out.filter (fun t => !isT ⟨yk, yn⟩ t))
                have HLT := Lib.hid ((left_stop heq LL).trans HLF.out)
                have HCL := Lib.hid (HPX.out.stopN HOK.out ⟨yk, yn⟩)
                have HNT := Lib.hid (And.intro hNN0 hNN1)
                simp only at HCL
                clear HP heq
                generalize stopT ⟨yk, yn⟩ LL = LT at *
                go_wp2_with (go_at_call 10; (with_reducible refine HCL.out.mono ?_); rintro e w6 ⟨rfl, hp⟩; have HP6 := Lib.hid hp; clear hp)
                go_roundw
                case rel => exact ⟨j + 1, LT, NN, hlt, by go_num, by go_num, HNT.out.1, by have := HNT.out.2; omega, Lib.hid ⟨HOKT.out, HLT.out, HP6.out.forget⟩⟩
                case measure => simp [intOf]; omega
              · skip
                by_cases hc2 : yc = 2
                · subst hc2
                  have HPX := Lib.hid (HP.out.box [.int .i64 2, .int .i64 yt, .int .i64 yk, .int .i64 yn] 33)
                  go_upto_region 14 with (fail)
                  generalize wr.alloc (.cells #[.int .i64 2, .int .i64 yt, .int .i64 yk, .int .i64 yn] 33) = wm at *
                  generalize wr.heap.size = m at *
                  have b0 := (HPX.out.row (.head _)).cell 0 rfl
                  have b1 := (HPX.out.row (.head _)).cell 1 rfl
                  have b2 := (HPX.out.row (.head _)).cell 2 rfl
                  have b3 := (HPX.out.row (.head _)).cell 3 rfl
                  have m0 := (HPX.out.row (.tail _ (.head _))).cell 0 rfl
                  have m1 := (HPX.out.row (.tail _ (.head _))).cell 1 rfl
                  have he := fun W => run_eq_nm yk yn (-7) (-7) W false heq.symm
                  have HOKT := Lib.hid HOK.out.tick
                  obtain ⟨NT, hNT⟩ : ∃ NT, NN + 1 = NT := ⟨_, rfl⟩
                  have HNT := Lib.hid (show 0 ≤ NT ∧ NT ≤ (j : Int) + 1 from by omega)
                  have htl := tick_left ⟨-7, -7⟩ LL (fun t ht => (HOK.out.left t ht).1) HOK.out.one
                  rw [HLF.out, rest_tick, hNT] at htl
                  have HLT := Lib.hid htl.1
                  have hcnt := htl.2
                  have hro : (restN N NN = 1) ↔ NN + 1 = N := rest_one
                  rw [hNT] at hro
                  have hTL : (toldT LL).length ≤ 1000 := by
                    unfold toldT
                    rw [List.length_map]
                    refine Nat.le_trans (List.length_filter_le _ _) ?_
                    rw [List.length_map]
                    have := HOK.out.len
                    omega
                  have HCL := Lib.hid (HPX.out.tick HOK.out)
                  generalize tickT LL = LT at *
                  generalize toldT LL = TT at *
                  have z1 : wrap64 (NN + 1) = NT := by rw [← IntWalk.i64_left, hNT]; exact i64_near _ (by omega) (by omega)
                  clear HP heq htl HOK
                  go_upto_region 26 with (go_at_call 13; (with_reducible refine HCL.out.mono ?_); rintro e w5 ⟨tv, rfl, ho, hp⟩; obtain ⟨va, vc, hv⟩ := OwnL.form2 ho; subst hv; have HOT := Lib.hid ho.see; have HP5 := Lib.hid hp; clear ho hp)
                  clear HCL HPX b0 b1 b2 b3 m0 m1 he
                  obtain ⟨nt, hnt⟩ : ∃ nt, TT.length = nt := ⟨_, rfl⟩
                  rw [hnt] at hTL HOT
                  have HNTT := Lib.hid hnt
                  try rw [hnt]
                  clear hnt
                  have HAT := Lib.hid (show AtL encN w5 va TT from by
                    obtain ⟨a', c', hv, hA⟩ := HOT.out
                    simp only [Value.slice.injEq] at hv
                    rw [hv.1]
                    exact hA)
                  clear HOT
                  go_loopw [11, 82] (fun t v wx => ∃ k : Nat, k ≤ nt ∧ v = .int .i64 k ∧ t = .int .i64 (cntN ⟨-7, -7⟩ (TT.take k) : Nat) ∧ Hid (Below w5.heap.size w5 wx)) (fun _ v _ => nt - (intOf v).toNat)
                  case atStart => exact ⟨0, Nat.zero_le _, rfl, rfl, Below.refl _ _⟩
                  case round =>
                    obtain ⟨k, hk, rfl, rfl, HKK⟩ := hrel
                    have HM := Lib.hid ((HP5.out.row (.tail _ (.head _))).below HKK.out)
                    have m0 := HM.out.cell 0 rfl
                    have m1 := HM.out.cell 1 rfl
                    have hml := (HM.out.get 0 rfl).lt
                    by_cases hkt : k < nt
                    · have hK : k < TT.length := by rw [HNTT.out]; exact hkt
                      obtain ⟨g2, o2, rfl, _⟩ := HAT.out.some_ (by omega)
                      obtain ⟨x0, x1⟩ := (HAT.out.below HKK.out).nm k hK
                      have HCT := Lib.hid (cntN_take ⟨-7, -7⟩ TT k hK)
                      have hcl : (cntN ⟨-7, -7⟩ (TT.take k) : Nat) ≤ 1000 := by
                        unfold cntN
                        refine Nat.le_trans (List.length_filter_le _ _) ?_
                        rw [List.length_take]
                        omega
                      generalize TT[k] = x at *
                      obtain ⟨xk, xn⟩ := x
                      have HB2 := Lib.hid (HKK.out.alloc HKK.out.size (.cells #[.int .i64 xk, .int .i64 xn] 31))
                      generalize cntN ⟨-7, -7⟩ (TT.take k) = ck at *
                      cases hq : eqN ⟨xk, xn⟩ ⟨-7, -7⟩ with
                      | true =>
                        have he := fun W => run_eq_nm xk xn (-7) (-7) W true hq.symm
                        rw [hq, if_pos rfl] at HCT
                        clear hq HKK
                        go_wp2_with fail
                        go_roundw
                        case rel => exact ⟨k + 1, hkt, by go_num, by rw [HCT.out]; go_num, HB2⟩
                        case measure => simp [intOf]; omega
                      | false =>
                        have he := fun W => run_eq_nm xk xn (-7) (-7) W false hq.symm
                        rw [hq, if_neg (by simp)] at HCT
                        clear hq HKK
                        go_wp2_with fail
                        go_roundw
                        case rel => exact ⟨k + 1, hkt, by go_num, by rw [HCT.out]; rfl, HB2⟩
                        case measure => simp [intOf]; omega
                    · have e : TT.take k = TT := List.take_of_length_le (by rw [HNTT.out]; omega)
                      rw [e, hcnt]
                      have HP6 := Lib.hid (HP5.out.below HKK.out)
                      clear e HKK m0 m1 hml HAT HP5
                      by_cases hon : NT = N
                      · have hr1 := hro.2 hon
                        rw [if_pos hr1]
                        have dn : (NT == N) = true := by simpa using hon
                        clear hro hcnt hr1
                        go_wp2_with fail
                        go_roundw
                        case rel => exact ⟨j + 1, LT, NT, hlt, by go_num, by go_num, HNT.out.1, by have := HNT.out.2; omega, Lib.hid ⟨HOKT.out, HLT.out, HP6.out.forget⟩⟩
                        case measure => simp [intOf]; omega
                      · have hr1 := fun q => hon (hro.1 q)
                        rw [if_neg hr1]
                        have dn : (NT == N) = false := by simpa using hon
                        clear hro hcnt hr1
                        go_wp2_with fail
                        go_roundw
                        case rel => exact ⟨j + 1, LT, NT, hlt, by go_num, by go_num, HNT.out.1, by have := HNT.out.2; omega, Lib.hid ⟨HOKT.out, HLT.out, HP6.out.forget⟩⟩
                        case measure => simp [intOf]; omega
                · skip
                  have dc0 : (yc == 0) = false := by simpa using hc0
                  have dc1 : (yc == 1) = false := by simpa using hc1
                  have dc2 : (yc == 2) = false := by simpa using hc2
                  have dc3 : (yc == 3) = false := by simpa using hc3
                  clear hc0 hc1 hc2 hc3
                  have HPX := Lib.hid (HP.out.box [.int .i64 yc, .int .i64 yt, .int .i64 yk, .int .i64 yn] 33)
                  go_upto_region 14 with (fail)
                  generalize wr.alloc (.cells #[.int .i64 yc, .int .i64 yt, .int .i64 yk, .int .i64 yn] 33) = wm at *
                  generalize wr.heap.size = m at *
                  have b0 := (HPX.out.row (.head _)).cell 0 rfl
                  have b1 := (HPX.out.row (.head _)).cell 1 rfl
                  have b2 := (HPX.out.row (.head _)).cell 2 rfl
                  have b3 := (HPX.out.row (.head _)).cell 3 rfl
                  have m0 := (HPX.out.row (.tail _ (.head _))).cell 0 rfl
                  have m1 := (HPX.out.row (.tail _ (.head _))).cell 1 rfl
                  have he := fun W => run_eq_nm yk yn (-7) (-7) W false heq.symm
                  have HOKT := HOK
                  have HLT := HLF
                  have HP6 := HPX
                  have HNT := Lib.hid (And.intro hNN0 hNN1)
                  clear HP heq
                  go_wp2_with fail
                  go_roundw
                  case rel => exact ⟨j + 1, LL, NN, hlt, by go_num, by go_num, HNT.out.1, by have := HNT.out.2; omega, Lib.hid ⟨HOKT.out, HLT.out, HP6.out.forget⟩⟩
                  case measure => simp [intOf]; omega
      · have e : j = n := by omega
        subst e
        have HBE := Lib.hid HP.out.bel
        have HLE := Lib.hid (HP.out.left HOK.out ⟨-7, -7⟩)
        rw [HLF.out] at HLE
        simp only at HLE
        have hrp := @rest_pos N NN
        generalize restN N NN = rr at *
        have m0 := (HP.out.row (.head _)).cell 0 rfl
        have m1 := (HP.out.row (.head _)).cell 1 rfl
        by_cases hnn : NN < N
        · have d1 : decide (NN < N) = true := decide_eq_true hnn
          rw [d1] at hrp
          clear hnn
          go_wp2_with (go_at_call 19; (with_reducible refine HLE.out.mono ?_); rintro e w6 ⟨rfl, hb⟩; have HB6 := Lib.hid (HBE.out.trans (hb.mono HBE.out.size)); clear hb)
          exact bodyPost_ret (v := .bool true) (by simp [results, Try.results4, go_sem]) rfl ⟨rfl, HB6.out⟩
        · have d1 : decide (NN < N) = false := decide_eq_false hnn
          rw [d1] at hrp
          clear hnn
          go_wp2_with (go_at_call 19; (with_reducible refine HLE.out.mono ?_); rintro e w6 ⟨rfl, hb⟩; have HB6 := Lib.hid (HBE.out.trans (hb.mono HBE.out.size)); clear hb)
          exact bodyPost_ret (v := .bool true) (by simp [results, Try.results4, go_sem]) rfl ⟨rfl, HB6.out⟩
end Go.Proofs.Ytchhaolgmdhnmaa
