/-
The walk of UiBeacons.
-/
import Derived.Test.YtadhiknmkiogjaaDoorMix34
import Derived.Deep.DeepCutAuto
import Derived.Deep.QuietTactic
import Derived.Lib.QuietBelow
namespace Go.Proofs.YtadhiknmkiogjaaDoor
open Go.RowKit Go.Sort
set_option maxRecDepth 20000
set_option maxHeartbeats 4000000 in
theorem uibeacons_any (b : ByteArray) (n : Int) (l0 : Option Addr) (lc : Nat) (L : List Op22) (w : World) (hCo : CodesOk w) (hL : AtL encOp w l0 L) (hok : ∀ o ∈ L, o.ok w) :
    Calls Tryd.prog 4 #[.agg #[.string b, .int .i64 n], .slice l0 L.length lc] w fun e w' => e = .returned (.bool true) ∧ Below w.heap.size w w' := by
  have hb0 := (Below.refl w.heap.size w).alloc (Nat.le_refl _) (.cells #[.string b, .int .i64 n] 23)
  have HB0 := Lib.hid hb0
  have HR0 := Lib.hid (RowAt.new w w.heap.size rfl [.string b, .int .i64 n] 23)
  have HAW := Lib.hid (fun W (hb : Below w.heap.size w W) => cawake22 W (hCo.below hb))
  have x0 := HR0.out.cell 0 rfl
  have x1 := HR0.out.cell 1 rfl
  by_cases h200 : 200 < L.length
  · have d1 : decide ((200 : Int) < (L.length : Int)) = true := decide_eq_true (by omega)
    clear h200 hCo hL hok hb0
    go_enter Tryd.func4, Tryd.ntmps4
    go_wp2_with (go_at_call 6; (with_reducible refine (HAW.out _ HB0.out).mono ?_); rintro e w1 ⟨rfl, hb⟩; have HB1 := Lib.hid (HB0.out.trans (hb.mono HB0.out.size)); have HR1 := Lib.hid (HR0.out.below hb); clear hb x0 x1; have x0 := HR1.out.cell 0 rfl; have x1 := HR1.out.cell 1 rfl)
    exact bodyPost_ret (v := .bool true) (by simp [results, Tryd.results4, go_sem]) rfl ⟨rfl, HB1.out⟩
  have d1 : decide ((200 : Int) < (L.length : Int)) = false := decide_eq_false (by omega)
  by_cases h100 : 100 < b.size
  · have d2 : decide ((100 : Int) < (b.size : Int)) = true := decide_eq_true (by omega)
    clear h200 h100 hCo hL hok hb0
    go_enter Tryd.func4, Tryd.ntmps4
    go_wp2_with (go_at_call 6; (with_reducible refine (HAW.out _ HB0.out).mono ?_); rintro e w1 ⟨rfl, hb⟩; have HB1 := Lib.hid (HB0.out.trans (hb.mono HB0.out.size)); have HR1 := Lib.hid (HR0.out.below hb); clear hb x0 x1; have x0 := HR1.out.cell 0 rfl; have x1 := HR1.out.cell 1 rfl)
    exact bodyPost_ret (v := .bool true) (by simp [results, Tryd.results4, go_sem]) rfl ⟨rfl, HB1.out⟩
  have d2 : decide ((100 : Int) < (b.size : Int)) = false := decide_eq_false (by omega)
  have hne := fun W => cnew22 b n W (by omega)
  have HRR := Lib.hid (fun W => rcright_any b n W)
  cases hr : rightD b n with
  | false =>
    rw [hr] at hne HRR
    simp only [Bool.false_eq_true, if_false] at hne
    have HNE := Lib.hid hne
    clear h200 h100 hCo hL hok hb0 hne hr
    go_enter Tryd.func4, Tryd.ntmps4
    go_wp2_with (first
      | (go_at_call 6; (with_reducible refine (HAW.out _ HB0.out).mono ?_); rintro e w1 ⟨rfl, hb⟩; have HB1 := Lib.hid (HB0.out.trans (hb.mono HB0.out.size)); have HR1 := Lib.hid (HR0.out.below hb); clear hb x0 x1; have x0 := HR1.out.cell 0 rfl; have x1 := HR1.out.cell 1 rfl)
      | (go_at_call 13; (with_reducible refine (HNE.out _).mono ?_); rintro e w2 ⟨rfl, hb⟩; have HB2 := Lib.hid (HB1.out.trans (hb.mono HB1.out.size)); have HR2 := Lib.hid (HR1.out.below hb); clear hb x0 x1; have x0 := HR2.out.cell 0 rfl; have x1 := HR2.out.cell 1 rfl)
      | (go_at_call 14; (with_reducible refine (HRR.out _).mono ?_); rintro e w3 ⟨rfl, hb⟩; have HB3 := Lib.hid (HB2.out.trans (hb.mono HB2.out.size)); clear hb))
    exact bodyPost_ret (v := .bool true) (by simp [results, Tryd.results4, go_sem]) rfl ⟨rfl, HB3.out⟩
  | true =>
    rw [hr] at hne HRR
    simp only [if_true] at hne
    have HNE := Lib.hid hne
    have HCO := Lib.hid hCo
    have HL := Lib.hid hL
    have HOK := Lib.hid hok
    have hbz : b.size ≤ 100 := by omega
    have hll : L.length ≤ 200 := by omega
    clear h200 h100 hCo hL hok hb0 hne hr
    go_enter Tryd.func4, Tryd.ntmps4
    go_wp2_with (first
      | (go_at_call 6; (with_reducible refine (HAW.out _ HB0.out).mono ?_); rintro e w1 ⟨rfl, hb⟩; have HB1 := Lib.hid (HB0.out.trans (hb.mono HB0.out.size)); have HR1 := Lib.hid (HR0.out.below hb); clear hb x0 x1; have x0 := HR1.out.cell 0 rfl; have x1 := HR1.out.cell 1 rfl)
      | (go_at_call 13; (with_reducible refine (HNE.out _).mono ?_); rintro e w2 ⟨⟨p, rfl, hpl, hrp⟩, hb⟩; have HPL := Lib.hid (show w.heap.size < p from by (have h1 := HR1.out.lt; have h2 := hpl; omega)); have HP2 := Lib.hid hrp; have HB2 := Lib.hid (HB1.out.trans (hb.mono HB1.out.size)); have HR2 := Lib.hid (HR1.out.below hb); clear hb x0 x1 hpl hrp; have x0 := HR2.out.cell 0 rfl; have x1 := HR2.out.cell 1 rfl)
      | (go_at_call 14; (with_reducible refine (HRR.out _).mono ?_); rintro e w3 ⟨rfl, hb⟩; have HB3 := Lib.hid (HB2.out.trans (hb.mono HB2.out.size)); have HR3 := Lib.hid (HR2.out.below hb); have HP3 := Lib.hid (HP2.out.below hb); clear hb x0 x1))
    have HU := Lib.hid (show BeU w (w3.alloc (.cells #[.int .i64 0, .int .i64 0, .string ⟨#[]⟩] 47)) p w3.heap.size b n 0 (leftD22 0 0) 0 ⟨#[]⟩ from ⟨HR3.out.alloc _, HP3.out.alloc _, RowAt.new w3 w3.heap.size rfl [.int .i64 0, .int .i64 0, .string ⟨#[]⟩] 47, HB3.out.alloc HB3.out.size _, HPL.out, HP3.out.lt⟩)
    clear HB1 HR1 HB2 HR2 HP2 HB3 HR3 HP3 HB0 HR0
    generalize w3.alloc (.cells #[.int .i64 0, .int .i64 0, .string ⟨#[]⟩] 47) = w4 at *
    generalize w3.heap.size = q at *
    go_loopw [52] (fun iv wx => ∃ j : Nat, j ≤ L.length ∧ iv = .int .i64 j ∧ Hid (∃ ev went s, BeU w wx p q b n ev (leftD22 ev went) went s ∧ (0 ≤ ev ∧ ev ≤ 10000) ∧ (0 ≤ went ∧ went ≤ j) ∧ s.size ≤ 1000)) (fun iv _ => L.length - (intOf iv).toNat)
    case atStart => exact ⟨0, Nat.zero_le _, rfl, Lib.hid ⟨0, 0, ⟨#[]⟩, HU.out, by decide, by decide, by decide⟩⟩
    case round =>
      obtain ⟨j, hj, rfl, HQ⟩ := hrel
      clear HU
      obtain ⟨ev, went, s, hu, hev, hwe, hsz⟩ := HQ.out
      have HU := Lib.hid hu
      by_cases hlt : j < L.length
      · have dj : decide (j < L.length) = true := decide_eq_true hlt
        obtain ⟨g, o, rfl, -⟩ := HL.out.some_ (by omega)
        have hat := HL.out.below hu.bel
        have hokj := HOK.out L[j] (List.getElem_mem hlt)
        have c0 : wr.cell? ⟨g, o + j * 9, none⟩ = some (.int .i64 L[j].k) := hat.get j hlt 0 rfl
        have c1 : wr.cell? ⟨g, o + j * 9 + 1, none⟩ = some (.int .i64 L[j].N) := hat.get j hlt 1 rfl
        have c2 : wr.cell? ⟨g, o + j * 9 + 2, none⟩ = some (.string L[j].fb) := hat.get j hlt 2 rfl
        have c3 : wr.cell? ⟨g, o + j * 9 + 3, none⟩ = some (.int .i64 L[j].fn) := hat.get j hlt 3 rfl
        have c4 : wr.cell? ⟨g, o + j * 9 + 4, none⟩ = some (.string L[j].tb) := hat.get j hlt 4 rfl
        have c5 : wr.cell? ⟨g, o + j * 9 + 5, none⟩ = some (.int .i64 L[j].tn) := hat.get j hlt 5 rfl
        have c6 : wr.cell? ⟨g, o + j * 9 + 6, none⟩ = some (.slice L[j].a L[j].C.length L[j].cap) := hat.get j hlt 6 rfl
        have c7 : wr.cell? ⟨g, o + j * 9 + 7, none⟩ = some (.int .i64 L[j].pid) := hat.get j hlt 7 rfl
        have c8 : wr.cell? ⟨g, o + j * 9 + 8, none⟩ = some (.string L[j].t) := hat.get j hlt 8 rfl
        generalize L[j] = op at *
        obtain ⟨K, N, fb, fn, tb, tn, a, cap, C, pid, t⟩ := op
        obtain ⟨hca, htb, hcs⟩ := hokj
        simp only at c0 c1 c2 c3 c4 c5 c6 c7 c8 hca htb hcs
        have HCA := Lib.hid hca
        have HGR := Lib.hid (fun W => great22_any fb tb fn tn a C.length cap pid t W)
        clear hat hca hu HQ
        have hqr : q ≠ wr.heap.size := by have := RowAt.lt HU.out.ref; omega
        have HNQ := Lib.hid (show w.heap.size ≤ q ∧ q ≠ w.heap.size ∧ q ≠ p from by have := HU.out.lt; omega)
        cases hg : great22 C.length t.size with
        | true =>
          rw [hg] at HGR
          clear hg htb hcs
          have HBL := Lib.hid HU.out.bel
          go_wp2_with (go_at_call 7; (with_reducible refine (HGR.out _).mono ?_); rintro e w5 ⟨rfl, hb⟩; have HB5 := Lib.hid ((HBL.out.alloc HBL.out.size (.cells #[.int .i64 K, .int .i64 N, .string fb, .int .i64 fn, .string tb, .int .i64 tn, .slice a C.length cap, .int .i64 pid, .string t] 49)).trans (hb.mono (by have := HBL.out.size; simp; omega))); clear hb)
          exact bodyPost_ret (v := .bool true) (by simp [results, Tryd.results4, go_sem]) rfl ⟨rfl, HB5.out⟩
        | false =>
          obtain ⟨hg1, hg2⟩ := great22_no hg
          rw [hg] at HGR
          clear hg
          by_cases hk1 : K = 1
          · have hk : (K != 1) = false := by rw [hk1]; rfl
            have hr0 : ∀ W, Below w.heap.size w W → CallsAt W a C := fun W hb => HCA.out.below hb
            obtain ⟨S, hS⟩ : ∃ S, S = gramS b tb n tn C 240 t := ⟨_, rfl⟩
            obtain ⟨E, hE⟩ : ∃ E, E = gramE b tb n tn C 240 t.size := ⟨_, rfl⟩
            clear hk1
            by_cases hbad : N < 0 ∨ 10000 < N
            · have HSB := Lib.hid (fun W h => cset_bad W p b n ev (leftD22 ev went) s h N hbad a C.length cap fb tb t fn tn pid)
              have HEV := Lib.hid hev
              have HWE := Lib.hid (show 0 ≤ went ∧ went ≤ ((j + 1 : Nat) : Int) by omega)
              have HSZ := Lib.hid hsz
              have HBAD := Lib.hid hbad
              clear hev hwe hsz htb hcs hg1 hg2 hS hE hbad hr0
              have hb2 : decide (N < 0) = true ∨ (decide (N < 0) = false ∧ decide (10000 < N) = true) := by
                rcases HBAD.out with h | h
                · exact Or.inl (decide_eq_true h)
                · by_cases h1 : N < 0
                  · exact Or.inl (decide_eq_true h1)
                  · exact Or.inr ⟨decide_eq_false h1, decide_eq_true h⟩
              rcases hb2 with d3 | ⟨d3, d4⟩
              · go_upto_region 34 with (first
                  | (go_at_call 7; (with_reducible refine (HGR.out _).mono ?_); rintro e w5 ⟨rfl, hb⟩; have HU5 := Lib.hid ((HU.out.below ((Below.refl _ wr).alloc (Nat.le_refl _) (.cells #[.int .i64 K, .int .i64 N, .string fb, .int .i64 fn, .string tb, .int .i64 tn, .slice a C.length cap, .int .i64 pid, .string t] 49))).below hb); have HO5 := Lib.hid ((RowAt.new wr wr.heap.size rfl [.int .i64 K, .int .i64 N, .string fb, .int .i64 fn, .string tb, .int .i64 tn, .slice a C.length cap, .int .i64 pid, .string t] 49).below hb); have hrl : wr.heap.size < w5.heap.size := Nat.lt_of_lt_of_le (by simp) hb.size; have hnl : w.heap.size < w5.heap.size := RowAt.lt HU5.out.box; have hql : q < w5.heap.size := RowAt.lt HU5.out.ref; have hpl : p < w5.heap.size := RowAt.lt HU5.out.bea; clear hb c0 c1 c2 c3 c4 c5 c6 c7 c8; have y0 := HO5.out.cell 0 rfl; have y1 := HO5.out.cell 1 rfl; have y2 := HO5.out.cell 2 rfl; have y3 := HO5.out.cell 3 rfl; have y4 := HO5.out.cell 4 rfl; have y5 := HO5.out.cell 5 rfl; have y6 := HO5.out.cell 6 rfl; have y7 := HO5.out.cell 7 rfl; have y8 := HO5.out.cell 8 rfl; have n0 := HU5.out.box.cell 0 rfl; have n1 := HU5.out.box.cell 1 rfl)
                  | (go_at_call 17; (with_reducible refine (HSB.out _ (HU5.out.below ((Below.refl _ w5).alloc (Nat.le_refl _) (.cells #[.string b, .int .i64 n, .string tb, .int .i64 tn, .slice a C.length cap, .int .i64 240, .string t] 34))).bea).mono ?_); rintro e w8 ⟨rfl, hr, ht⟩; obtain ⟨k1, k2, k3⟩ := (HU5.out.below ((Below.refl _ w5).alloc (Nat.le_refl _) (.cells #[.string b, .int .i64 n, .string tb, .int .i64 tn, .slice a C.length cap, .int .i64 240, .string t] 34))).turnP ht; have HUT := Lib.hid (show BeU w w8 p q b n ev (leftD22 ev went) went s from ⟨k1, hr, k2, k3, HU5.out.lt⟩); clear hr ht k1 k2 k3; clear y0 y1 y2 y3 y4 y5 y6 y7 y8; clear n0 n1))
                generalize w8 = Wt at *

                generalize hlf : leftD22 ev went = lf1 at *
                have HLF := Lib.hid hlf
                clear hlf
                have hee := HEV.out
                have hww := HWE.out
                have HCE := Lib.hid (fun W h => cevery22 W p b n ev lf1 s h)
                have HCL := Lib.hid (fun W h => cleft22 W p b n ev lf1 s h)
                have z0 := HUT.out.ref.cell 0 rfl
                have z1 := HUT.out.ref.cell 1 rfl
                by_cases he0 : ev = 0
                · have dz : decide ((0 : Int) < ev) = false := decide_eq_false (by omega)
                  have hl0 : lf1 = 0 := by rw [← HLF.out]; unfold leftD22; rw [if_pos he0]
                  have hl1 : ((lf1 : Int) != 0) = false := by rw [hl0]; rfl
                  have X1 := Lib.hid (fun k => HCE.out ((Wt).drewN k) (HUT.out.drewN k).bea)
                  have X2 := Lib.hid (fun k => HCL.out ((Wt).drewN k) (HUT.out.drewN k).bea)
                  have hcc : (ev != ev) = false := bne_self_eq_false _
                  clear he0 hl0
                  go_upto_region 37 with fail
                  go_quiet ((first
                    | (go_at_call 18; exact Calls.quiet_of_same (X1.out _))
                    | (go_at_call 19; exact Calls.quiet_of_same (X2.out _))))
                  have HUE := Lib.hid (HUT.out.drewN nq)
                  clear z0 z1
                  go_wp2
                  go_roundw
                  case rel => exact ⟨j + 1, by omega, by go_num, Lib.hid ⟨ev, went, s, by rw [HLF.out]; exact HUE.out, HEV.out, HWE.out, HSZ.out⟩⟩
                  case measure => simp [intOf]; omega
                · have dz : decide ((0 : Int) < ev) = true := decide_eq_true (by omega)
                  obtain ⟨m, hm⟩ : ∃ m, m = went % ev := ⟨_, rfl⟩
                  have hm0 : 0 ≤ m ∧ m < ev := by rw [hm]; exact ⟨Int.emod_nonneg _ he0, Int.emod_lt_of_pos _ (by omega)⟩
                  have m1 : (went).tmod ev = m := by rw [hm]; exact Int.tmod_eq_emod_of_nonneg (by omega)
                  have m2 : (went : Int) % ev = m := hm.symm
                  have m3 : wrap64 m = m := IntWalk.wrap64_in _ (by omega)
                  have hlm : ev - m = lf1 := by rw [← HLF.out]; unfold leftD22; rw [if_neg he0, hm]
                  have m5 : wrap64 lf1 = lf1 := IntWalk.wrap64_in _ (by omega)
                  have m6 : wrap64 (ev - m) = lf1 := by rw [hlm]; exact m5
                  have hev0 : (ev == 0) = false := by rw [beq_eq_false_iff_ne]; exact he0
                  have hcc : (ev != ev) = false := bne_self_eq_false _
                  have hcc2 : (lf1 != lf1) = false := bne_self_eq_false _
                  clear hm hm0
                  go_upto_region 36 with fail
                  go_quiet (fail)
                  have HUU := Lib.hid (HUT.out.drewN nq)
                  clear z0 z1
                  generalize (Wt).drewN nq = Wu at *
                  have z0 := HUU.out.ref.cell 0 rfl
                  have X1 := Lib.hid (fun k => HCE.out ((Wu).drewN k) (HUU.out.drewN k).bea)
                  have X2 := Lib.hid (fun k => HCL.out ((Wu).drewN k) (HUU.out.drewN k).bea)
                  go_upto_region 37 with fail
                  go_quiet ((first
                    | (go_at_call 18; exact Calls.quiet_of_same (X1.out _))
                    | (go_at_call 19; exact Calls.quiet_of_same (X2.out _))))
                  clear z0
                  go_wp2
                  go_roundw
                  case rel => exact ⟨j + 1, by omega, by go_num, Lib.hid ⟨ev, went, s, by rw [HLF.out]; exact HUU.out.drewN _, HEV.out, HWE.out, HSZ.out⟩⟩
                  case measure => simp [intOf]; omega
              · go_upto_region 34 with (first
                  | (go_at_call 7; (with_reducible refine (HGR.out _).mono ?_); rintro e w5 ⟨rfl, hb⟩; have HU5 := Lib.hid ((HU.out.below ((Below.refl _ wr).alloc (Nat.le_refl _) (.cells #[.int .i64 K, .int .i64 N, .string fb, .int .i64 fn, .string tb, .int .i64 tn, .slice a C.length cap, .int .i64 pid, .string t] 49))).below hb); have HO5 := Lib.hid ((RowAt.new wr wr.heap.size rfl [.int .i64 K, .int .i64 N, .string fb, .int .i64 fn, .string tb, .int .i64 tn, .slice a C.length cap, .int .i64 pid, .string t] 49).below hb); have hrl : wr.heap.size < w5.heap.size := Nat.lt_of_lt_of_le (by simp) hb.size; have hnl : w.heap.size < w5.heap.size := RowAt.lt HU5.out.box; have hql : q < w5.heap.size := RowAt.lt HU5.out.ref; have hpl : p < w5.heap.size := RowAt.lt HU5.out.bea; clear hb c0 c1 c2 c3 c4 c5 c6 c7 c8; have y0 := HO5.out.cell 0 rfl; have y1 := HO5.out.cell 1 rfl; have y2 := HO5.out.cell 2 rfl; have y3 := HO5.out.cell 3 rfl; have y4 := HO5.out.cell 4 rfl; have y5 := HO5.out.cell 5 rfl; have y6 := HO5.out.cell 6 rfl; have y7 := HO5.out.cell 7 rfl; have y8 := HO5.out.cell 8 rfl; have n0 := HU5.out.box.cell 0 rfl; have n1 := HU5.out.box.cell 1 rfl)
                  | (go_at_call 17; (with_reducible refine (HSB.out _ (HU5.out.below ((Below.refl _ w5).alloc (Nat.le_refl _) (.cells #[.string b, .int .i64 n, .string tb, .int .i64 tn, .slice a C.length cap, .int .i64 240, .string t] 34))).bea).mono ?_); rintro e w8 ⟨rfl, hr, ht⟩; obtain ⟨k1, k2, k3⟩ := (HU5.out.below ((Below.refl _ w5).alloc (Nat.le_refl _) (.cells #[.string b, .int .i64 n, .string tb, .int .i64 tn, .slice a C.length cap, .int .i64 240, .string t] 34))).turnP ht; have HUT := Lib.hid (show BeU w w8 p q b n ev (leftD22 ev went) went s from ⟨k1, hr, k2, k3, HU5.out.lt⟩); clear hr ht k1 k2 k3; clear y0 y1 y2 y3 y4 y5 y6 y7 y8; clear n0 n1))
                generalize w8 = Wt at *

                generalize hlf : leftD22 ev went = lf1 at *
                have HLF := Lib.hid hlf
                clear hlf
                have hee := HEV.out
                have hww := HWE.out
                have HCE := Lib.hid (fun W h => cevery22 W p b n ev lf1 s h)
                have HCL := Lib.hid (fun W h => cleft22 W p b n ev lf1 s h)
                have z0 := HUT.out.ref.cell 0 rfl
                have z1 := HUT.out.ref.cell 1 rfl
                by_cases he0 : ev = 0
                · have dz : decide ((0 : Int) < ev) = false := decide_eq_false (by omega)
                  have hl0 : lf1 = 0 := by rw [← HLF.out]; unfold leftD22; rw [if_pos he0]
                  have hl1 : ((lf1 : Int) != 0) = false := by rw [hl0]; rfl
                  have X1 := Lib.hid (fun k => HCE.out ((Wt).drewN k) (HUT.out.drewN k).bea)
                  have X2 := Lib.hid (fun k => HCL.out ((Wt).drewN k) (HUT.out.drewN k).bea)
                  have hcc : (ev != ev) = false := bne_self_eq_false _
                  clear he0 hl0
                  go_upto_region 37 with fail
                  go_quiet ((first
                    | (go_at_call 18; exact Calls.quiet_of_same (X1.out _))
                    | (go_at_call 19; exact Calls.quiet_of_same (X2.out _))))
                  have HUE := Lib.hid (HUT.out.drewN nq)
                  clear z0 z1
                  go_wp2
                  go_roundw
                  case rel => exact ⟨j + 1, by omega, by go_num, Lib.hid ⟨ev, went, s, by rw [HLF.out]; exact HUE.out, HEV.out, HWE.out, HSZ.out⟩⟩
                  case measure => simp [intOf]; omega
                · have dz : decide ((0 : Int) < ev) = true := decide_eq_true (by omega)
                  obtain ⟨m, hm⟩ : ∃ m, m = went % ev := ⟨_, rfl⟩
                  have hm0 : 0 ≤ m ∧ m < ev := by rw [hm]; exact ⟨Int.emod_nonneg _ he0, Int.emod_lt_of_pos _ (by omega)⟩
                  have m1 : (went).tmod ev = m := by rw [hm]; exact Int.tmod_eq_emod_of_nonneg (by omega)
                  have m2 : (went : Int) % ev = m := hm.symm
                  have m3 : wrap64 m = m := IntWalk.wrap64_in _ (by omega)
                  have hlm : ev - m = lf1 := by rw [← HLF.out]; unfold leftD22; rw [if_neg he0, hm]
                  have m5 : wrap64 lf1 = lf1 := IntWalk.wrap64_in _ (by omega)
                  have m6 : wrap64 (ev - m) = lf1 := by rw [hlm]; exact m5
                  have hev0 : (ev == 0) = false := by rw [beq_eq_false_iff_ne]; exact he0
                  have hcc : (ev != ev) = false := bne_self_eq_false _
                  have hcc2 : (lf1 != lf1) = false := bne_self_eq_false _
                  clear hm hm0
                  go_upto_region 36 with fail
                  go_quiet (fail)
                  have HUU := Lib.hid (HUT.out.drewN nq)
                  clear z0 z1
                  generalize (Wt).drewN nq = Wu at *
                  have z0 := HUU.out.ref.cell 0 rfl
                  have X1 := Lib.hid (fun k => HCE.out ((Wu).drewN k) (HUU.out.drewN k).bea)
                  have X2 := Lib.hid (fun k => HCL.out ((Wu).drewN k) (HUU.out.drewN k).bea)
                  go_upto_region 37 with fail
                  go_quiet ((first
                    | (go_at_call 18; exact Calls.quiet_of_same (X1.out _))
                    | (go_at_call 19; exact Calls.quiet_of_same (X2.out _))))
                  clear z0
                  go_wp2
                  go_roundw
                  case rel => exact ⟨j + 1, by omega, by go_num, Lib.hid ⟨ev, went, s, by rw [HLF.out]; exact HUU.out.drewN _, HEV.out, HWE.out, HSZ.out⟩⟩
                  case measure => simp [intOf]; omega
            · have d3 : decide (N < 0) = false := decide_eq_false (by omega)
              have d4 : decide (10000 < N) = false := decide_eq_false (by omega)
              by_cases hN0 : N = 0
              · have d5 : (N == 0) = true := by rw [hN0]; rfl
                have HSO := Lib.hid (show ∀ W, RowAt W p (bcV b n ev (leftD22 ev went) s) → Calls Tryd.prog 17 #[ptrB p, .int .i64 N, .agg #[.string fb, .int .i64 fn, .string tb, .int .i64 tn, .slice a C.length cap, .int .i64 pid, .string t]] W fun e w' => e = .returned (.int .i64 0) ∧ RowAt w' p (bcV b n 0 0 ⟨#[]⟩) ∧ Turn (fun k => k = p) W w' from fun W h => by rw [hN0]; exact cset_off W p b n ev (leftD22 ev went) s h a C.length cap fb tb t fn tn pid)
                have HEV := Lib.hid (show (0 : Int) ≤ 0 ∧ (0 : Int) ≤ 10000 by decide)
                have HWE := Lib.hid (show (0 : Int) ≤ 0 ∧ (0 : Int) ≤ ((j + 1 : Nat) : Int) by omega)
                have HSZ := Lib.hid (show (⟨#[]⟩ : ByteArray).size ≤ 1000 by decide)
                clear hev hwe hsz htb hcs hg1 hg2 hS hE hbad hr0
                clear hN0

                go_upto_region 28 with (go_at_call 7; (with_reducible refine (HGR.out _).mono ?_); rintro e w5 ⟨rfl, hb⟩; have HU5 := Lib.hid ((HU.out.below ((Below.refl _ wr).alloc (Nat.le_refl _) (.cells #[.int .i64 K, .int .i64 N, .string fb, .int .i64 fn, .string tb, .int .i64 tn, .slice a C.length cap, .int .i64 pid, .string t] 49))).below hb); have HO5 := Lib.hid ((RowAt.new wr wr.heap.size rfl [.int .i64 K, .int .i64 N, .string fb, .int .i64 fn, .string tb, .int .i64 tn, .slice a C.length cap, .int .i64 pid, .string t] 49).below hb); have hrl : wr.heap.size < w5.heap.size := Nat.lt_of_lt_of_le (by simp) hb.size; have hnl : w.heap.size < w5.heap.size := RowAt.lt HU5.out.box; have hql : q < w5.heap.size := RowAt.lt HU5.out.ref; have hpl : p < w5.heap.size := RowAt.lt HU5.out.bea; clear hb c0 c1 c2 c3 c4 c5 c6 c7 c8; have y0 := HO5.out.cell 0 rfl; have y1 := HO5.out.cell 1 rfl; have y2 := HO5.out.cell 2 rfl; have y3 := HO5.out.cell 3 rfl; have y4 := HO5.out.cell 4 rfl; have y5 := HO5.out.cell 5 rfl; have y6 := HO5.out.cell 6 rfl; have y7 := HO5.out.cell 7 rfl; have y8 := HO5.out.cell 8 rfl; have n0 := HU5.out.box.cell 0 rfl; have n1 := HU5.out.box.cell 1 rfl)
                have HU6 := Lib.hid (HU5.out.below ((Below.refl _ w5).alloc (Nat.le_refl _) (.cells #[.string b, .int .i64 n, .string tb, .int .i64 tn, .slice a C.length cap, .int .i64 240, .string t] 34)))
                have HO6 := Lib.hid (HO5.out.alloc (.cells #[.string b, .int .i64 n, .string tb, .int .i64 tn, .slice a C.length cap, .int .i64 240, .string t] 34))
                clear y0 y1 y2 y3 y4 y5 y6 y7 y8
                clear n0 n1
                generalize (w5.alloc (.cells #[.string b, .int .i64 n, .string tb, .int .i64 tn, .slice a C.length cap, .int .i64 240, .string t] 34)) = w6 at *
                have y0 := HO6.out.cell 0 rfl; have y1 := HO6.out.cell 1 rfl; have y2 := HO6.out.cell 2 rfl; have y3 := HO6.out.cell 3 rfl; have y4 := HO6.out.cell 4 rfl; have y5 := HO6.out.cell 5 rfl; have y6 := HO6.out.cell 6 rfl; have y7 := HO6.out.cell 7 rfl; have y8 := HO6.out.cell 8 rfl
                obtain ⟨q0, q0f, q0l⟩ := (HU6.out).ref.get 0 rfl; obtain ⟨q1, q1f, q1l⟩ := (HU6.out).ref.get 1 rfl; obtain ⟨q2, q2f, q2l⟩ := (HU6.out).ref.get 2 rfl; have HOS := Lib.hid ((((HO6.out).other (g := q) (p := 0) (.int .i64 0) hqr).other (g := q) (p := 1) (.int .i64 0) hqr).other (g := q) (p := 2) (.string ⟨#[]⟩) hqr); have HXS := Lib.hid ((((HU6.out).box.other (g := q) (p := 0) (.int .i64 0) HNQ.out.2.1).other (g := q) (p := 1) (.int .i64 0) HNQ.out.2.1).other (g := q) (p := 2) (.string ⟨#[]⟩) HNQ.out.2.1); have HBS := Lib.hid ((((HU6.out).bea.other (g := q) (p := 0) (.int .i64 0) HNQ.out.2.2).other (g := q) (p := 1) (.int .i64 0) HNQ.out.2.2).other (g := q) (p := 2) (.string ⟨#[]⟩) HNQ.out.2.2); have HRS := Lib.hid ((((HU6.out).ref.put 0 (.int .i64 0) [.int .i64 0, .int .i64 went, .string s] rfl).put 1 (.int .i64 0) [.int .i64 0, .int .i64 0, .string s] rfl).put 2 (.string ⟨#[]⟩) [.int .i64 0, .int .i64 0, .string ⟨#[]⟩] rfl); have HLS := Lib.hid ((((HU6.out).bel.setCell (p := ⟨q, 0, none⟩) HNQ.out.1 (.int .i64 0)).setCell (p := ⟨q, 1, none⟩) HNQ.out.1 (.int .i64 0)).setCell (p := ⟨q, 2, none⟩) HNQ.out.1 (.string ⟨#[]⟩)); have s0 := HOS.out.cell 0 rfl; have s1 := HOS.out.cell 1 rfl; have s2 := HOS.out.cell 2 rfl; have s3 := HOS.out.cell 3 rfl; have s4 := HOS.out.cell 4 rfl; have s5 := HOS.out.cell 5 rfl; have s6 := HOS.out.cell 6 rfl; have s7 := HOS.out.cell 7 rfl; have s8 := HOS.out.cell 8 rfl
                go_upto_region 34 with (go_at_call 17; (with_reducible refine (HSO.out _ HBS.out).mono ?_); rintro e w8 ⟨rfl, hr, ht⟩; have HUT := Lib.hid (show BeU w w8 p q b n 0 (leftD22 0 0) 0 ⟨#[]⟩ from ⟨HXS.out.turn ht (by have := HU.out.lt; omega), hr, HRS.out.turn ht (by have := HU.out.lt; omega), HLS.out.trans (ht.below HLS.out.size (fun k hk => by have := HU.out.lt; omega)), HU.out.lt⟩); clear hr ht; clear s0 s1 s2 s3 s4 s5 s6 s7 s8 q0 q0f q0l q1 q1f q1l q2 q2f q2l; clear y0 y1 y2 y3 y4 y5 y6 y7 y8)
                generalize w8 = Wt at *

                generalize hlf : leftD22 0 0 = lf1 at *
                have HLF := Lib.hid hlf
                clear hlf
                have hee := HEV.out
                have hww := HWE.out
                have HCE := Lib.hid (fun W h => cevery22 W p b n 0 lf1 ⟨#[]⟩ h)
                have HCL := Lib.hid (fun W h => cleft22 W p b n 0 lf1 ⟨#[]⟩ h)
                have z0 := HUT.out.ref.cell 0 rfl
                have z1 := HUT.out.ref.cell 1 rfl
                have he0 : (0 : Int) = 0 := rfl
                have dz : decide ((0 : Int) < 0) = false := decide_eq_false (by omega)
                have hl0 : lf1 = 0 := by rw [← HLF.out]; unfold leftD22; rw [if_pos he0]
                have hl1 : ((lf1 : Int) != 0) = false := by rw [hl0]; rfl
                have X1 := Lib.hid (fun k => HCE.out ((Wt).drewN k) (HUT.out.drewN k).bea)
                have X2 := Lib.hid (fun k => HCL.out ((Wt).drewN k) (HUT.out.drewN k).bea)
                have hcc : (0 != 0) = false := bne_self_eq_false _
                clear he0 hl0
                go_upto_region 37 with fail
                go_quiet ((first
                  | (go_at_call 18; exact Calls.quiet_of_same (X1.out _))
                  | (go_at_call 19; exact Calls.quiet_of_same (X2.out _))))
                have HUE := Lib.hid (HUT.out.drewN nq)
                clear z0 z1
                go_wp2
                go_roundw
                case rel => exact ⟨j + 1, by omega, by go_num, Lib.hid ⟨0, 0, ⟨#[]⟩, by rw [HLF.out]; exact HUE.out, HEV.out, HWE.out, HSZ.out⟩⟩
                case measure => simp [intOf]; omega
              · have d5 : (N == 0) = false := by rw [beq_eq_false_iff_ne]; exact hN0
                have hN1 : 0 < N ∧ N ≤ 10000 := by omega
                have HRP := Lib.hid (show ∀ W, Below w.heap.size w W → Calls Tryd.prog 9 #[.agg #[.string b, .int .i64 n, .string tb, .int .i64 tn, .slice a C.length cap, .int .i64 240, .string t]] W fun e w' => e = .returned (.tuple #[.string S, .int .i64 (E : Nat)]) ∧ Below W.heap.size W w' from fun W hb => by rw [hS, hE]; exact rput22_any b tb n tn a cap C 240 t W (by omega) (hr0 W hb))
                have hsg := fun W (hb : Below w.heap.size w W) h => cset_go W p b n ev (leftD22 ev went) s h (HCO.out.below hb) N hN1 fb tb fn tn a cap C pid t (by omega) (hr0 W hb) (by omega) htb hcs E hE S hS
                have hEE : ((E : Int) != (E : Int)) = false := bne_self_eq_false _
                by_cases h0 : E = 0
                · have hz : ((E : Int) == 0) = true := by rw [h0]; rfl
                  have hl : leftD22 N 0 = N := by unfold leftD22; rw [if_neg hN0, Int.zero_emod]; omega
                  have hsz2 : S.size ≤ 1000 := by rw [hS]; exact (got_put22 b tb n tn C 240 t (hE.symm.trans h0)).2.2
                  simp only [if_pos h0] at hsg
                  have HSG := Lib.hid hsg
                  have HEV := Lib.hid (show 0 ≤ N ∧ N ≤ 10000 by omega)
                  have HWE := Lib.hid (show (0 : Int) ≤ 0 ∧ (0 : Int) ≤ ((j + 1 : Nat) : Int) by omega)
                  have HSZ := Lib.hid hsz2
                  have HNL := Lib.hid hl
                  have HNP := Lib.hid hN1.1
                  clear hev hwe hsz htb hcs hg1 hg2 hS hE hbad hr0 hsg h0 hl hsz2 hN0 hN1
                  go_upto_region 34 with (first
                    | (go_at_call 7; (with_reducible refine (HGR.out _).mono ?_); rintro e w5 ⟨rfl, hb⟩; have HU5 := Lib.hid ((HU.out.below ((Below.refl _ wr).alloc (Nat.le_refl _) (.cells #[.int .i64 K, .int .i64 N, .string fb, .int .i64 fn, .string tb, .int .i64 tn, .slice a C.length cap, .int .i64 pid, .string t] 49))).below hb); have HO5 := Lib.hid ((RowAt.new wr wr.heap.size rfl [.int .i64 K, .int .i64 N, .string fb, .int .i64 fn, .string tb, .int .i64 tn, .slice a C.length cap, .int .i64 pid, .string t] 49).below hb); have hrl : wr.heap.size < w5.heap.size := Nat.lt_of_lt_of_le (by simp) hb.size; have hnl : w.heap.size < w5.heap.size := RowAt.lt HU5.out.box; have hql : q < w5.heap.size := RowAt.lt HU5.out.ref; have hpl : p < w5.heap.size := RowAt.lt HU5.out.bea; clear hb c0 c1 c2 c3 c4 c5 c6 c7 c8; have y0 := HO5.out.cell 0 rfl; have y1 := HO5.out.cell 1 rfl; have y2 := HO5.out.cell 2 rfl; have y3 := HO5.out.cell 3 rfl; have y4 := HO5.out.cell 4 rfl; have y5 := HO5.out.cell 5 rfl; have y6 := HO5.out.cell 6 rfl; have y7 := HO5.out.cell 7 rfl; have y8 := HO5.out.cell 8 rfl; have n0 := HU5.out.box.cell 0 rfl; have n1 := HU5.out.box.cell 1 rfl)
                    | (go_at_call 9; (with_reducible refine (HRP.out _ (HU5.out.below ((Below.refl _ w5).alloc (Nat.le_refl _) (.cells #[.string b, .int .i64 n, .string tb, .int .i64 tn, .slice a C.length cap, .int .i64 240, .string t] 34))).bel).mono ?_); rintro e w6 ⟨rfl, hb⟩; have HU6 := Lib.hid ((HU5.out.below ((Below.refl _ w5).alloc (Nat.le_refl _) (.cells #[.string b, .int .i64 n, .string tb, .int .i64 tn, .slice a C.length cap, .int .i64 240, .string t] 34))).below hb); have HO6 := Lib.hid ((HO5.out.alloc (.cells #[.string b, .int .i64 n, .string tb, .int .i64 tn, .slice a C.length cap, .int .i64 240, .string t] 34)).below hb); clear hb n0 n1; clear y0 y1 y2 y3 y4 y5 y6 y7 y8; have y0 := HO6.out.cell 0 rfl; have y1 := HO6.out.cell 1 rfl; have y2 := HO6.out.cell 2 rfl; have y3 := HO6.out.cell 3 rfl; have y4 := HO6.out.cell 4 rfl; have y5 := HO6.out.cell 5 rfl; have y6 := HO6.out.cell 6 rfl; have y7 := HO6.out.cell 7 rfl; have y8 := HO6.out.cell 8 rfl; obtain ⟨q0, q0f, q0l⟩ := (HU6.out).ref.get 0 rfl; obtain ⟨q1, q1f, q1l⟩ := (HU6.out).ref.get 1 rfl; obtain ⟨q2, q2f, q2l⟩ := (HU6.out).ref.get 2 rfl; have HOS := Lib.hid ((((HO6.out).other (g := q) (p := 0) (.int .i64 N) hqr).other (g := q) (p := 1) (.int .i64 0) hqr).other (g := q) (p := 2) (.string S) hqr); have HXS := Lib.hid ((((HU6.out).box.other (g := q) (p := 0) (.int .i64 N) HNQ.out.2.1).other (g := q) (p := 1) (.int .i64 0) HNQ.out.2.1).other (g := q) (p := 2) (.string S) HNQ.out.2.1); have HBS := Lib.hid ((((HU6.out).bea.other (g := q) (p := 0) (.int .i64 N) HNQ.out.2.2).other (g := q) (p := 1) (.int .i64 0) HNQ.out.2.2).other (g := q) (p := 2) (.string S) HNQ.out.2.2); have HRS := Lib.hid ((((HU6.out).ref.put 0 (.int .i64 N) [.int .i64 N, .int .i64 went, .string s] rfl).put 1 (.int .i64 0) [.int .i64 N, .int .i64 0, .string s] rfl).put 2 (.string S) [.int .i64 N, .int .i64 0, .string S] rfl); have HLS := Lib.hid ((((HU6.out).bel.setCell (p := ⟨q, 0, none⟩) HNQ.out.1 (.int .i64 N)).setCell (p := ⟨q, 1, none⟩) HNQ.out.1 (.int .i64 0)).setCell (p := ⟨q, 2, none⟩) HNQ.out.1 (.string S)); have s0 := HOS.out.cell 0 rfl; have s1 := HOS.out.cell 1 rfl; have s2 := HOS.out.cell 2 rfl; have s3 := HOS.out.cell 3 rfl; have s4 := HOS.out.cell 4 rfl; have s5 := HOS.out.cell 5 rfl; have s6 := HOS.out.cell 6 rfl; have s7 := HOS.out.cell 7 rfl; have s8 := HOS.out.cell 8 rfl)
                    | (go_at_call 17; (with_reducible refine (HSG.out _ HLS.out HBS.out).mono ?_); rintro e w8 ⟨rfl, hr, ht⟩; have HUT := Lib.hid (show BeU w w8 p q b n N N 0 S from ⟨HXS.out.turn ht (by have := HU.out.lt; omega), hr, HRS.out.turn ht (by have := HU.out.lt; omega), HLS.out.trans (ht.below HLS.out.size (fun k hk => by have := HU.out.lt; omega)), HU.out.lt⟩); clear hr ht; clear s0 s1 s2 s3 s4 s5 s6 s7 s8 q0 q0f q0l q1 q1f q1l q2 q2f q2l; clear y0 y1 y2 y3 y4 y5 y6 y7 y8))
                  generalize w8 = Wt at *

                  have hww := HWE.out
                  have HCE := Lib.hid (fun W h => cevery22 W p b n N N S h)
                  have HCL := Lib.hid (fun W h => cleft22 W p b n N N S h)
                  have z0 := HUT.out.ref.cell 0 rfl
                  have z1 := HUT.out.ref.cell 1 rfl
                  have hee := HEV.out
                  have he0 : ¬ N = 0 := by have := HNP.out; omega
                  have dz : decide ((0 : Int) < N) = true := decide_eq_true HNP.out
                  have m5 : wrap64 N = N := IntWalk.wrap64_in _ (by omega)
                  have hev0 : (N == 0) = false := by rw [beq_eq_false_iff_ne]; exact he0
                  have hcc : (N != N) = false := bne_self_eq_false _
                  go_upto_region 36 with fail
                  go_quiet (fail)
                  have HUU := Lib.hid (HUT.out.drewN nq)
                  clear z0 z1
                  generalize (Wt).drewN nq = Wu at *
                  have z0 := HUU.out.ref.cell 0 rfl
                  have X1 := Lib.hid (fun k => HCE.out ((Wu).drewN k) (HUU.out.drewN k).bea)
                  have X2 := Lib.hid (fun k => HCL.out ((Wu).drewN k) (HUU.out.drewN k).bea)
                  go_upto_region 37 with fail
                  go_quiet ((first
                    | (go_at_call 18; exact Calls.quiet_of_same (X1.out _))
                    | (go_at_call 19; exact Calls.quiet_of_same (X2.out _))))
                  clear z0
                  go_wp2
                  go_roundw
                  case rel => exact ⟨j + 1, by omega, by go_num, Lib.hid ⟨N, 0, S, by rw [HNL.out]; exact HUU.out.drewN _, HEV.out, HWE.out, HSZ.out⟩⟩
                  case measure => simp [intOf]; omega
                · have hz : ((E : Int) == 0) = false := by rw [beq_eq_false_iff_ne]; omega
                  simp only [if_neg h0] at hsg
                  have HSG := Lib.hid hsg
                  have HEV := Lib.hid hev
                  have HWE := Lib.hid (show 0 ≤ went ∧ went ≤ ((j + 1 : Nat) : Int) by omega)
                  have HSZ := Lib.hid hsz
                  clear hev hwe hsz htb hcs hg1 hg2 hS hE hbad hr0 hsg h0
                  go_upto_region 34 with (first
                    | (go_at_call 7; (with_reducible refine (HGR.out _).mono ?_); rintro e w5 ⟨rfl, hb⟩; have HU5 := Lib.hid ((HU.out.below ((Below.refl _ wr).alloc (Nat.le_refl _) (.cells #[.int .i64 K, .int .i64 N, .string fb, .int .i64 fn, .string tb, .int .i64 tn, .slice a C.length cap, .int .i64 pid, .string t] 49))).below hb); have HO5 := Lib.hid ((RowAt.new wr wr.heap.size rfl [.int .i64 K, .int .i64 N, .string fb, .int .i64 fn, .string tb, .int .i64 tn, .slice a C.length cap, .int .i64 pid, .string t] 49).below hb); have hrl : wr.heap.size < w5.heap.size := Nat.lt_of_lt_of_le (by simp) hb.size; have hnl : w.heap.size < w5.heap.size := RowAt.lt HU5.out.box; have hql : q < w5.heap.size := RowAt.lt HU5.out.ref; have hpl : p < w5.heap.size := RowAt.lt HU5.out.bea; clear hb c0 c1 c2 c3 c4 c5 c6 c7 c8; have y0 := HO5.out.cell 0 rfl; have y1 := HO5.out.cell 1 rfl; have y2 := HO5.out.cell 2 rfl; have y3 := HO5.out.cell 3 rfl; have y4 := HO5.out.cell 4 rfl; have y5 := HO5.out.cell 5 rfl; have y6 := HO5.out.cell 6 rfl; have y7 := HO5.out.cell 7 rfl; have y8 := HO5.out.cell 8 rfl; have n0 := HU5.out.box.cell 0 rfl; have n1 := HU5.out.box.cell 1 rfl)
                    | (go_at_call 9; (with_reducible refine (HRP.out _ (HU5.out.below ((Below.refl _ w5).alloc (Nat.le_refl _) (.cells #[.string b, .int .i64 n, .string tb, .int .i64 tn, .slice a C.length cap, .int .i64 240, .string t] 34))).bel).mono ?_); rintro e w6 ⟨rfl, hb⟩; have HU6 := Lib.hid ((HU5.out.below ((Below.refl _ w5).alloc (Nat.le_refl _) (.cells #[.string b, .int .i64 n, .string tb, .int .i64 tn, .slice a C.length cap, .int .i64 240, .string t] 34))).below hb); have HO6 := Lib.hid ((HO5.out.alloc (.cells #[.string b, .int .i64 n, .string tb, .int .i64 tn, .slice a C.length cap, .int .i64 240, .string t] 34)).below hb); clear hb n0 n1; clear y0 y1 y2 y3 y4 y5 y6 y7 y8; have y0 := HO6.out.cell 0 rfl; have y1 := HO6.out.cell 1 rfl; have y2 := HO6.out.cell 2 rfl; have y3 := HO6.out.cell 3 rfl; have y4 := HO6.out.cell 4 rfl; have y5 := HO6.out.cell 5 rfl; have y6 := HO6.out.cell 6 rfl; have y7 := HO6.out.cell 7 rfl; have y8 := HO6.out.cell 8 rfl)
                    | (go_at_call 17; (with_reducible refine (HSG.out _ HU6.out.bel HU6.out.bea).mono ?_); rintro e w8 ⟨rfl, hr, ht⟩; obtain ⟨k1, k2, k3⟩ := HU6.out.turnP ht; have HUT := Lib.hid (show BeU w w8 p q b n ev (leftD22 ev went) went s from ⟨k1, hr, k2, k3, HU6.out.lt⟩); clear hr ht k1 k2 k3; clear y0 y1 y2 y3 y4 y5 y6 y7 y8))
                  generalize w8 = Wt at *

                  generalize hlf : leftD22 ev went = lf1 at *
                  have HLF := Lib.hid hlf
                  clear hlf
                  have hee := HEV.out
                  have hww := HWE.out
                  have HCE := Lib.hid (fun W h => cevery22 W p b n ev lf1 s h)
                  have HCL := Lib.hid (fun W h => cleft22 W p b n ev lf1 s h)
                  have z0 := HUT.out.ref.cell 0 rfl
                  have z1 := HUT.out.ref.cell 1 rfl
                  by_cases he0 : ev = 0
                  · have dz : decide ((0 : Int) < ev) = false := decide_eq_false (by omega)
                    have hl0 : lf1 = 0 := by rw [← HLF.out]; unfold leftD22; rw [if_pos he0]
                    have hl1 : ((lf1 : Int) != 0) = false := by rw [hl0]; rfl
                    have X1 := Lib.hid (fun k => HCE.out ((Wt).drewN k) (HUT.out.drewN k).bea)
                    have X2 := Lib.hid (fun k => HCL.out ((Wt).drewN k) (HUT.out.drewN k).bea)
                    have hcc : (ev != ev) = false := bne_self_eq_false _
                    clear he0 hl0
                    go_upto_region 37 with fail
                    go_quiet ((first
                      | (go_at_call 18; exact Calls.quiet_of_same (X1.out _))
                      | (go_at_call 19; exact Calls.quiet_of_same (X2.out _))))
                    have HUE := Lib.hid (HUT.out.drewN nq)
                    clear z0 z1
                    go_wp2
                    go_roundw
                    case rel => exact ⟨j + 1, by omega, by go_num, Lib.hid ⟨ev, went, s, by rw [HLF.out]; exact HUE.out, HEV.out, HWE.out, HSZ.out⟩⟩
                    case measure => simp [intOf]; omega
                  · have dz : decide ((0 : Int) < ev) = true := decide_eq_true (by omega)
                    obtain ⟨m, hm⟩ : ∃ m, m = went % ev := ⟨_, rfl⟩
                    have hm0 : 0 ≤ m ∧ m < ev := by rw [hm]; exact ⟨Int.emod_nonneg _ he0, Int.emod_lt_of_pos _ (by omega)⟩
                    have m1 : (went).tmod ev = m := by rw [hm]; exact Int.tmod_eq_emod_of_nonneg (by omega)
                    have m2 : (went : Int) % ev = m := hm.symm
                    have m3 : wrap64 m = m := IntWalk.wrap64_in _ (by omega)
                    have hlm : ev - m = lf1 := by rw [← HLF.out]; unfold leftD22; rw [if_neg he0, hm]
                    have m5 : wrap64 lf1 = lf1 := IntWalk.wrap64_in _ (by omega)
                    have m6 : wrap64 (ev - m) = lf1 := by rw [hlm]; exact m5
                    have hev0 : (ev == 0) = false := by rw [beq_eq_false_iff_ne]; exact he0
                    have hcc : (ev != ev) = false := bne_self_eq_false _
                    have hcc2 : (lf1 != lf1) = false := bne_self_eq_false _
                    clear hm hm0
                    go_upto_region 36 with fail
                    go_quiet (fail)
                    have HUU := Lib.hid (HUT.out.drewN nq)
                    clear z0 z1
                    generalize (Wt).drewN nq = Wu at *
                    have z0 := HUU.out.ref.cell 0 rfl
                    have X1 := Lib.hid (fun k => HCE.out ((Wu).drewN k) (HUU.out.drewN k).bea)
                    have X2 := Lib.hid (fun k => HCL.out ((Wu).drewN k) (HUU.out.drewN k).bea)
                    go_upto_region 37 with fail
                    go_quiet ((first
                      | (go_at_call 18; exact Calls.quiet_of_same (X1.out _))
                      | (go_at_call 19; exact Calls.quiet_of_same (X2.out _))))
                    clear z0
                    go_wp2
                    go_roundw
                    case rel => exact ⟨j + 1, by omega, by go_num, Lib.hid ⟨ev, went, s, by rw [HLF.out]; exact HUU.out.drewN _, HEV.out, HWE.out, HSZ.out⟩⟩
                    case measure => simp [intOf]; omega
          · have hk : (K != 1) = true := by rw [bne_iff_ne]; exact hk1
            have hbo := tick_both ev went hev.1
            obtain ⟨B, hB⟩ : ∃ B, B = (decide (ev ≠ 0) && decide ((went + 1) % ev = 0)) := ⟨_, rfl⟩
            obtain ⟨wn, hwn⟩ : ∃ wn, wn = (if ev = 0 then went else went + 1) := ⟨_, rfl⟩
            rw [← hB, ← hwn] at hbo
            obtain ⟨TS, hTS⟩ : ∃ TS : ByteArray, TS = (if B then s else ⟨#[]⟩) := ⟨_, rfl⟩
            have htk := fun W h => ctick22 W p b n ev (leftD22 ev went) s h (by omega) (left_in ev went hev)
            rw [hbo.1, hbo.2, ← hTS] at htk
            have hrt := fun W h => rtick22 W q ev went s h (by omega) hev B hB
            rw [← hTS, ← hwn] at hrt
            have HTK := Lib.hid htk
            have HRT := Lib.hid hrt
            have htt : (TS.toList == TS.toList) = true := beq_self_eq_true _
            have hbb : (B != B) = false := bne_self_eq_false _
            have hbb2 : (B == B) = true := beq_self_eq_true _
            have HEV := Lib.hid hev
            have HWE := Lib.hid (show 0 ≤ wn ∧ wn ≤ ((j + 1 : Nat) : Int) by rw [hwn]; split <;> omega)
            have HSZ := Lib.hid hsz
            clear hev hwe hsz htb hcs hg1 hg2 hbo hB hwn hTS htk hrt hk1
            go_upto_region 34 with (first
              | (go_at_call 7; (with_reducible refine (HGR.out _).mono ?_); rintro e w5 ⟨rfl, hb⟩; have HU5 := Lib.hid ((HU.out.below ((Below.refl _ wr).alloc (Nat.le_refl _) (.cells #[.int .i64 K, .int .i64 N, .string fb, .int .i64 fn, .string tb, .int .i64 tn, .slice a C.length cap, .int .i64 pid, .string t] 49))).below hb); have HO5 := Lib.hid ((RowAt.new wr wr.heap.size rfl [.int .i64 K, .int .i64 N, .string fb, .int .i64 fn, .string tb, .int .i64 tn, .slice a C.length cap, .int .i64 pid, .string t] 49).below hb); have hrl : wr.heap.size < w5.heap.size := Nat.lt_of_lt_of_le (by simp) hb.size; have hnl : w.heap.size < w5.heap.size := RowAt.lt HU5.out.box; have hql : q < w5.heap.size := RowAt.lt HU5.out.ref; have hpl : p < w5.heap.size := RowAt.lt HU5.out.bea; clear hb c0 c1 c2 c3 c4 c5 c6 c7 c8; have y0 := HO5.out.cell 0 rfl; have y1 := HO5.out.cell 1 rfl; have y2 := HO5.out.cell 2 rfl; have y3 := HO5.out.cell 3 rfl; have y4 := HO5.out.cell 4 rfl; have y5 := HO5.out.cell 5 rfl; have y6 := HO5.out.cell 6 rfl; have y7 := HO5.out.cell 7 rfl; have y8 := HO5.out.cell 8 rfl; have n0 := HU5.out.box.cell 0 rfl; have n1 := HU5.out.box.cell 1 rfl)
              | (go_at_call 15; (with_reducible refine (HTK.out _ HU5.out.bea).mono ?_); rintro e w6 ⟨rfl, hr, ht⟩; obtain ⟨k1, k2, k3⟩ := HU5.out.turnP ht; have HU6 := Lib.hid (And.intro k1 (And.intro hr (And.intro k2 k3))); clear hr ht k1 k2 k3; clear y0 y1 y2 y3 y4 y5 y6 y7 y8; clear n0 n1)
              | (go_at_call 16; (with_reducible refine (HRT.out _ HU6.out.2.2.1).mono ?_); rintro e w7 ⟨rfl, hr, ht⟩; have HUT := Lib.hid (show BeU w w7 p q b n ev (leftD22 ev wn) wn s from ⟨HU6.out.1.turn ht (by have := HU5.out.lt; omega), HU6.out.2.1.turn ht (by have := HU5.out.lt; omega), hr, HU6.out.2.2.2.trans (ht.below HU6.out.2.2.2.size (fun k hk => by have := HU5.out.lt; omega)), HU5.out.lt⟩); clear hr ht))
            generalize w7 = Wt at *

            generalize hlf : leftD22 ev wn = lf1 at *
            have HLF := Lib.hid hlf
            clear hlf
            have hee := HEV.out
            have hww := HWE.out
            have HCE := Lib.hid (fun W h => cevery22 W p b n ev lf1 s h)
            have HCL := Lib.hid (fun W h => cleft22 W p b n ev lf1 s h)
            have z0 := HUT.out.ref.cell 0 rfl
            have z1 := HUT.out.ref.cell 1 rfl
            by_cases he0 : ev = 0
            · have dz : decide ((0 : Int) < ev) = false := decide_eq_false (by omega)
              have hl0 : lf1 = 0 := by rw [← HLF.out]; unfold leftD22; rw [if_pos he0]
              have hl1 : ((lf1 : Int) != 0) = false := by rw [hl0]; rfl
              have X1 := Lib.hid (fun k => HCE.out ((Wt).drewN k) (HUT.out.drewN k).bea)
              have X2 := Lib.hid (fun k => HCL.out ((Wt).drewN k) (HUT.out.drewN k).bea)
              have hcc : (ev != ev) = false := bne_self_eq_false _
              clear he0 hl0
              go_upto_region 37 with fail
              go_quiet ((first
                | (go_at_call 18; exact Calls.quiet_of_same (X1.out _))
                | (go_at_call 19; exact Calls.quiet_of_same (X2.out _))))
              have HUE := Lib.hid (HUT.out.drewN nq)
              clear z0 z1
              go_wp2
              go_roundw
              case rel => exact ⟨j + 1, by omega, by go_num, Lib.hid ⟨ev, wn, s, by rw [HLF.out]; exact HUE.out, HEV.out, HWE.out, HSZ.out⟩⟩
              case measure => simp [intOf]; omega
            · have dz : decide ((0 : Int) < ev) = true := decide_eq_true (by omega)
              obtain ⟨m, hm⟩ : ∃ m, m = wn % ev := ⟨_, rfl⟩
              have hm0 : 0 ≤ m ∧ m < ev := by rw [hm]; exact ⟨Int.emod_nonneg _ he0, Int.emod_lt_of_pos _ (by omega)⟩
              have m1 : (wn).tmod ev = m := by rw [hm]; exact Int.tmod_eq_emod_of_nonneg (by omega)
              have m2 : (wn : Int) % ev = m := hm.symm
              have m3 : wrap64 m = m := IntWalk.wrap64_in _ (by omega)
              have hlm : ev - m = lf1 := by rw [← HLF.out]; unfold leftD22; rw [if_neg he0, hm]
              have m5 : wrap64 lf1 = lf1 := IntWalk.wrap64_in _ (by omega)
              have m6 : wrap64 (ev - m) = lf1 := by rw [hlm]; exact m5
              have hev0 : (ev == 0) = false := by rw [beq_eq_false_iff_ne]; exact he0
              have hcc : (ev != ev) = false := bne_self_eq_false _
              have hcc2 : (lf1 != lf1) = false := bne_self_eq_false _
              clear hm hm0
              go_upto_region 36 with fail
              go_quiet (fail)
              have HUU := Lib.hid (HUT.out.drewN nq)
              clear z0 z1
              generalize (Wt).drewN nq = Wu at *
              have z0 := HUU.out.ref.cell 0 rfl
              have X1 := Lib.hid (fun k => HCE.out ((Wu).drewN k) (HUU.out.drewN k).bea)
              have X2 := Lib.hid (fun k => HCL.out ((Wu).drewN k) (HUU.out.drewN k).bea)
              go_upto_region 37 with fail
              go_quiet ((first
                | (go_at_call 18; exact Calls.quiet_of_same (X1.out _))
                | (go_at_call 19; exact Calls.quiet_of_same (X2.out _))))
              clear z0
              go_wp2
              go_roundw
              case rel => exact ⟨j + 1, by omega, by go_num, Lib.hid ⟨ev, wn, s, by rw [HLF.out]; exact HUU.out.drewN _, HEV.out, HWE.out, HSZ.out⟩⟩
              case measure => simp [intOf]; omega
      · obtain rfl : j = L.length := by omega
        have dj : decide (L.length < L.length) = false := decide_eq_false hlt
        go_wp2
        exact bodyPost_ret (v := .bool true) (by simp [results, Tryd.results4, go_sem]) rfl ⟨rfl, HU.out.bel⟩
end Go.Proofs.YtadhiknmkiogjaaDoor
