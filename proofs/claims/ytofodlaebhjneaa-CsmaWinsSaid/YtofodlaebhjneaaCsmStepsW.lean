/-
The walk of CsmaSteps.
-/
import Derived.Test.YtofodlaebhjneaaCsmNoneW
import Derived.Lib.QuietBelow
import Derived.Deep.QuietTactic
namespace Go.Proofs.Ytofodlaebhjneaa
open Go.RowKit Go.Sort
set_option maxRecDepth 20000
/-- eight cells of an op -/
theorem AtL.op17 {w : World} {g o : Nat} {L : List Op17} (h : AtL encO17 w (some ⟨g, o, none⟩) L) (i : Nat) (hi : i < L.length) :
    w.cell? ⟨g, o + i * 8, none⟩ = some (.int .i64 L[i].p.a) ∧ w.cell? ⟨g, o + i * 8 + 1, none⟩ = some (.int .i64 L[i].p.b) ∧ w.cell? ⟨g, o + i * 8 + 2, none⟩ = some (.int .i64 L[i].p.c) ∧ w.cell? ⟨g, o + i * 8 + 3, none⟩ = some (.int .i64 L[i].p.d) ∧
    w.cell? ⟨g, o + i * 8 + 4, none⟩ = some (.bool L[i].p.f) ∧ w.cell? ⟨g, o + i * 8 + 5, none⟩ = some (.bool L[i].w) ∧ w.cell? ⟨g, o + i * 8 + 6, none⟩ = some (.bool L[i].b) ∧ w.cell? ⟨g, o + i * 8 + 7, none⟩ = some (.int .i64 L[i].d) := by
  have h0 := h.get i hi 0 (u := .int .i64 L[i].p.a) rfl
  have h1 := h.get i hi 1 (u := .int .i64 L[i].p.b) rfl
  have h2 := h.get i hi 2 (u := .int .i64 L[i].p.c) rfl
  have h3 := h.get i hi 3 (u := .int .i64 L[i].p.d) rfl
  have h4 := h.get i hi 4 (u := .bool L[i].p.f) rfl
  have h5 := h.get i hi 5 (u := .bool L[i].w) rfl
  have h6 := h.get i hi 6 (u := .bool L[i].b) rfl
  have h7 := h.get i hi 7 (u := .int .i64 L[i].d) rfl
  simp only [Nat.add_zero] at h0
  exact ⟨h0, h1, h2, h3, h4, h5, h6, h7⟩
set_option maxHeartbeats 2000000 in
theorem cssteps_any {G : GaP} (hC : GaC G) (a : Option Addr) (n c : Nat) (Ops : List Op17) (w : World) (hn : Ops.length = n) (hA : AtL encO17 w a Ops) : Calls Try.prog 3 #[.slice a n c] w fun e w' => e = .returned (.bool true) ∧ Below w.heap.size w w' := by
  have HC := Lib.hid hC
  have HAW := Lib.hid (fun W => cawake17 hC W)
  have HNW := Lib.hid (fun W => hC.new W)
  by_cases hg : 200 < n
  · have dg : decide (200 < n) = true := decide_eq_true hg
    clear hC hn hA
    go_enter Try.func3, Try.ntmps3
    go_wp2_with (go_at_call 6; (with_reducible refine (HAW.out _).mono ?_); rintro e w1 ⟨rfl, hb⟩; have HB1 := Lib.hid hb; clear hb)
    exact bodyPost_ret (v := .bool true) (by simp [results, Try.results3, go_sem]) rfl ⟨rfl, HB1.out⟩
  · have dg : decide (200 < n) = false := decide_eq_false hg
    have hl : n ≤ 200 := by omega
    have HN := Lib.hid hn
    have HA := Lib.hid hA
    clear hC hn hA hg
    go_enter Try.func3, Try.ntmps3
    go_wp2_with (first
      | (go_at_call 6; (with_reducible refine (HAW.out _).mono ?_); rintro e w1 ⟨rfl, hb⟩; have HB1 := Lib.hid hb; clear hb)
      | (go_at_call 7; (with_reducible refine (HNW.out _).mono ?_); rintro e w2 ⟨g, F, rfl, h1, h2, h3⟩; have HQ0 := Lib.hid (show GaO G w g 0 (fun _ => False) w2 from ⟨F, h1, fun b hb => Nat.le_trans HB1.out.size (h2 b hb), HB1.out.trans (h3.mono HB1.out.size), fun b hb => hb.elim⟩); clear h1 h2 h3))
    clear dg HAW HNW
    go_loopw [4, 18] (fun nv iv wx => ∃ (i : Nat) (m : Int), i ≤ n ∧ iv = .int .i64 i ∧ nv = .int .i64 m ∧ Hid ((0 ≤ m ∧ m ≤ 255) ∧ GaO G w g m (fun _ => False) wx)) (fun _ iv _ => n - (intOf iv).toNat)
    case atStart => exact ⟨0, 0, Nat.zero_le _, rfl, rfl, Lib.hid ⟨⟨by decide, by decide⟩, HQ0.out⟩⟩
    case round =>
      obtain ⟨i, m, hi, rfl, rfl, HK⟩ := hrel
      clear HQ0 HB1
      by_cases hlt : i < n
      · have dk : decide (i < n) = true := decide_eq_true hlt
        have hL : i < Ops.length := by rw [HN.out]; exact hlt
        obtain ⟨ga, oa, rfl, -⟩ := HA.out.some_ (by omega)
        have hbel := HK.out.2.bel
        obtain ⟨e0, e1, e2, e3, e4, e5, e6, e7⟩ := (HA.out.below hbel).op17 i hL
        generalize Ops[i] = x at *
        obtain ⟨⟨xa, xb, xc, xd, xf⟩, ow, ob, od⟩ := x
        simp only at e0 e1 e2 e3 e4 e5 e6 e7
        have HM := Lib.hid HK.out.1
        have HQ := Lib.hid (HK.out.2.alloc HC.out (.cells #[.int .i64 xa, .int .i64 xb, .int .i64 xc, .int .i64 xd, .bool xf, .bool ow, .bool ob, .int .i64 od] 29))
        have HR := Lib.hid (RowAt.new wr wr.heap.size rfl [.int .i64 xa, .int .i64 xb, .int .i64 xc, .int .i64 xd, .bool xf, .bool ow, .bool ob, .int .i64 od] 29)
        have HS := Lib.hid (HQ.out.step HC.out HM.out ⟨xa, xb, xc, xd, xf⟩ ow ob od)
        have HRS := Lib.hid (fun W => rstep17 m ⟨xa, xb, xc, xd, xf⟩ ow ob od W HM.out)
        have HPL := Lib.hid (fun W => plain_par ⟨xa, xb, xc, xd, xf⟩ W)
        have HNOW := Lib.hid (stepG_now m ⟨xa, xb, xc, xd, xf⟩ ow ob od)
        have HIN := Lib.hid (stepG_in m ⟨xa, xb, xc, xd, xf⟩ ow ob od HM.out)
        simp only [Par.v] at HS HRS HPL
        generalize stepG m ⟨xa, xb, xc, xd, xf⟩ ow ob od = r at *
        obtain ⟨r1, r2⟩ := r
        simp only at HS HNOW HIN
        simp only [stepV] at HRS
        have x0 := HR.out.cell 0 rfl
        have x1 := HR.out.cell 1 rfl
        have x2 := HR.out.cell 2 rfl
        have x3 := HR.out.cell 3 rfl
        have x4 := HR.out.cell 4 rfl
        have x5 := HR.out.cell 5 rfl
        have x6 := HR.out.cell 6 rfl
        have x7 := HR.out.cell 7 rfl
        clear hbel
        go_upto_region 11 with (go_at_call 8; (with_reducible refine HS.out.mono ?_); rintro e wS ⟨rfl, hq, hs⟩; have HQ2 := Lib.hid hq; have HR2 := Lib.hid (HR.out.block (hs.2 _ (Or.inr rfl)) hs.1); clear hq hs)
        have z0 := fun d os => cell_regrown (HR2.out.cell 0 rfl) d os
        have z1 := fun d os => cell_regrown (HR2.out.cell 1 rfl) d os
        have z2 := fun d os => cell_regrown (HR2.out.cell 2 rfl) d os
        have z3 := fun d os => cell_regrown (HR2.out.cell 3 rfl) d os
        have z4 := fun d os => cell_regrown (HR2.out.cell 4 rfl) d os
        have z5 := fun d os => cell_regrown (HR2.out.cell 5 rfl) d os
        have z6 := fun d os => cell_regrown (HR2.out.cell 6 rfl) d os
        have z7 := fun d os => cell_regrown (HR2.out.cell 7 rfl) d os
        clear x0 x1 x2 x3 x4 x5 x6 x7 e0 e1 e2 e3 e4 e5 e6 e7 HQ HR HS HK
        refine wp_region_quiet_below (by kernel_rfl) (by kernel_rfl) ?_
        repeat (quiet_step (first
          | (go_at_call 10; with_reducible exact Calls.regrown_of (HPL.out _))
          | (go_at_call 9; with_reducible exact Calls.regrown_of (HRS.out _))))
        refine wpQuiet_nil ?_
        intro _ hw'
        obtain ⟨pg, hw''⟩ := hw'
        subst hw''
        have hbe := below_regrown wS pg.d pg.os
        have HQ3 := Lib.hid (HQ2.out.below HC.out hbe)
        have HR3 := Lib.hid (HR2.out.below hbe)
        clear z0 z1 z2 z3 z4 z5 z6 z7 hbe HQ2 HR2
        generalize grow (redrawn wS pg.d) pg.os = w9 at *
        have HCT := Lib.hid (HQ3.out.count HC.out)
        have y4 := HR3.out.cell 4 rfl
        have y5 := HR3.out.cell 5 rfl
        have y6 := HR3.out.cell 6 rfl
        have d2 : (r2 != r2) = false := by cases r2 <;> rfl
        have d1 : (r1 != r1) = false := by simp
        go_upto_region 13 with fail
        cases r2 with
        | false =>
          go_wp2_with (go_at_call 11; (with_reducible refine HCT.out.mono ?_); rintro e wC ⟨rfl, hq, hb⟩; have HQ4 := Lib.hid (hq.less (K' := fun _ => False) fun b hb => hb.elim); have HR4 := Lib.hid (HR3.out.below hb); have v4 := HR4.out.cell 4 rfl; have v5 := HR4.out.cell 5 rfl; have v6 := HR4.out.cell 6 rfl; clear hq hb)
          go_roundw
          case rel => exact ⟨i + 1, r1, by omega, rfl, rfl, Lib.hid ⟨HIN.out, HQ4.out⟩⟩
          case measure => simp [intOf]; omega
        | true =>
          obtain ⟨hw, hbf⟩ := HNOW.out rfl
          subst hw
          cases ob with
          | false =>
            clear hbf
            go_wp2_with (go_at_call 11; (with_reducible refine HCT.out.mono ?_); rintro e wC ⟨rfl, hq, hb⟩; have HQ4 := Lib.hid (hq.less (K' := fun _ => False) fun b hb => hb.elim); have HR4 := Lib.hid (HR3.out.below hb); have v4 := HR4.out.cell 4 rfl; have v5 := HR4.out.cell 5 rfl; have v6 := HR4.out.cell 6 rfl; clear hq hb)
            go_roundw
            case rel => exact ⟨i + 1, r1, by omega, rfl, rfl, Lib.hid ⟨HIN.out, HQ4.out⟩⟩
            case measure => simp [intOf]; omega
          | true =>
            have hf : xf = true := by
              rcases hbf with h | h
              · cases h
              · exact h
            subst hf
            clear hbf
            go_wp2_with (go_at_call 11; (with_reducible refine HCT.out.mono ?_); rintro e wC ⟨rfl, hq, hb⟩; have HQ4 := Lib.hid (hq.less (K' := fun _ => False) fun b hb => hb.elim); have HR4 := Lib.hid (HR3.out.below hb); have v4 := HR4.out.cell 4 rfl; have v5 := HR4.out.cell 5 rfl; have v6 := HR4.out.cell 6 rfl; clear hq hb)
            go_roundw
            case rel => exact ⟨i + 1, r1, by omega, rfl, rfl, Lib.hid ⟨HIN.out, HQ4.out⟩⟩
            case measure => simp [intOf]; omega
      · have dk : decide (i < n) = false := decide_eq_false hlt
        have HRE := Lib.hid (HK.out.2.reset HC.out)
        go_wp2_with (first
          | (go_at_call 12; (with_reducible refine HRE.out.mono ?_); rintro e wR ⟨rfl, hq, -⟩; have HQ5 := Lib.hid hq; have HCT := Lib.hid (hq.count HC.out); clear hq)
          | (go_at_call 11; (with_reducible refine HCT.out.mono ?_); rintro e wC ⟨rfl, hq, -⟩; have HE := Lib.hid hq.bel; clear hq))
        exact bodyPost_ret (v := .bool true) (by simp [results, Try.results3, go_sem]) rfl ⟨rfl, HE.out⟩
end Go.Proofs.Ytofodlaebhjneaa
