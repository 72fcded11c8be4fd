/-
The law of refused calls to a table of links, walked.
-/
import Derived.Test.YtgoaepjjegblnaaGreatDoorMix44
namespace Go.Proofs.YtgoaepjjegblnaaGreatDoor
open Go.RowKit Go.Sort
set_option maxRecDepth 20000
theorem wrap_k (k m : Nat) (h : k < m) (hm : m ≤ 1000) : wrap64 ((k : Int) + 1) = ((k + 1 : Nat) : Int) := IntWalk.wrap64_in _ (by omega)
theorem meas_k (k m : Nat) (h : k < m) : m - (intOf (.int .i64 ((k + 1 : Nat) : Int))).toNat < m - (intOf (.int .i64 (k : Int))).toNat := by
  simp only [intOf]
  omega
theorem dec_lt (k m : Nat) (h : k < m) : decide ((k : Int) < (m : Int)) = true := decide_eq_true (by omega)
theorem dec_ge (m : Nat) : decide ((m : Int) < (m : Int)) = false := decide_eq_false (by omega)
theorem dec_8 (m : Nat) : decide ((m : Int) ≤ 8) = decide (m ≤ 8) := by
  by_cases e : m ≤ 8
  · rw [decide_eq_true e, decide_eq_true (by omega)]
  · rw [decide_eq_false e, decide_eq_false (by omega)]
section
variable (w : World) (cb : ByteArray) (cn : Int) (a : Option Addr) (cap : Nat) (C : List (ByteArray × Int)) (n : Int)
variable (hC : CodesOk w) (hE : CallsAt w a C) (hs : ∀ x ∈ C, x.1.size ≤ 140737488351232)
include hC hE hs
set_option maxHeartbeats 2000000 in
theorem err_great (hg : 30 < C.length ∨ 100 < cb.size) : Calls Tryz.prog 10 #[clV cb cn, .slice a C.length cap, .int .i64 n] w fun e w' => e = .returned (.bool true) ∧ Below w.heap.size w w' := by
  obtain ⟨w1, hw1⟩ : ∃ w1, w1 = w.alloc (.cells #[.string cb, .int .i64 cn] 54) := ⟨_, rfl⟩
  have hb1 : Below w.heap.size w w1 := by rw [hw1]; exact (Below.refl _ w).alloc (Nat.le_refl _) _
  have hr1 : RowAt w1 w.heap.size [.string cb, .int .i64 cn] := by rw [hw1]; exact RowAt.new w w.heap.size rfl [.string cb, .int .i64 cn] 54
  have HB1 := Lib.hid hb1
  have HR1 := Lib.hid hr1
  have HAW := Lib.hid (cawake21 w1 (hC.below hb1))
  have HOW := Lib.hid (fun W => cown21 W)
  have HUS := Lib.hid (fun W => usual_any W)
  have HNW := Lib.hid (fun W => cnew21_law W)
  have HRI := Lib.hid (fun b n W => rcright_any b n W)
  have HE1 := Lib.hid (hE.below hb1)
  have HS := Lib.hid hs
  clear hC hE hs hb1 hr1
  generalize C.length = m at *
  by_cases h30 : 30 < m
  · have d30 : decide ((30 : Int) < (m : Int)) = true := decide_eq_true (by omega)
    clear hg h30
    go_enter Tryz.func10, Tryz.ntmps10
    go_upto_region 1 with fail
    rw [← hw1]
    clear hw1
    go_wp2_with (go_at_call 41; (with_reducible refine HAW.out.mono ?_); rintro e w2 ⟨rfl, hb⟩; have HB2 := Lib.hid (HB1.out.trans (hb.mono HB1.out.size)); clear hb)
    exact bodyPost_ret (v := .bool true) (by simp [results, Tryz.results10, go_sem]) rfl ⟨rfl, HB2.out⟩
  · have h100 : 100 < cb.size := hg.resolve_left h30
    have d30 : decide ((30 : Int) < (m : Int)) = false := decide_eq_false (by omega)
    have d100 : decide ((100 : Int) < (cb.size : Int)) = true := decide_eq_true (by omega)
    clear hg h30 h100
    go_enter Tryz.func10, Tryz.ntmps10
    go_upto_region 1 with fail
    rw [← hw1]
    clear hw1
    go_wp2_with (go_at_call 41; (with_reducible refine HAW.out.mono ?_); rintro e w2 ⟨rfl, hb⟩; have HB2 := Lib.hid (HB1.out.trans (hb.mono HB1.out.size)); have HR2 := Lib.hid (HR1.out.below hb); clear hb; have c0 := HR2.out.cell 0 rfl; have c1 := HR2.out.cell 1 rfl)
    exact bodyPost_ret (v := .bool true) (by simp [results, Tryz.results10, go_sem]) rfl ⟨rfl, HB2.out⟩
set_option maxHeartbeats 8000000 in
theorem err_call (h30 : C.length ≤ 30) (h100 : cb.size ≤ 100) (hk : okPeer exT21 cb cn = false) : Calls Tryz.prog 10 #[clV cb cn, .slice a C.length cap, .int .i64 n] w fun e w' => e = .returned (.bool true) ∧ Below w.heap.size w w' := by
  obtain ⟨w1, hw1⟩ : ∃ w1, w1 = w.alloc (.cells #[.string cb, .int .i64 cn] 54) := ⟨_, rfl⟩
  have hb1 : Below w.heap.size w w1 := by rw [hw1]; exact (Below.refl _ w).alloc (Nat.le_refl _) _
  have hr1 : RowAt w1 w.heap.size [.string cb, .int .i64 cn] := by rw [hw1]; exact RowAt.new w w.heap.size rfl [.string cb, .int .i64 cn] 54
  have HB1 := Lib.hid hb1
  have HR1 := Lib.hid hr1
  have HAW := Lib.hid (cawake21 w1 (hC.below hb1))
  have HOW := Lib.hid (fun W => cown21 W)
  have HUS := Lib.hid (fun W => usual_any W)
  have HNW := Lib.hid (fun W => cnew21_law W)
  have HRI := Lib.hid (fun b n W => rcright_any b n W)
  have HE1 := Lib.hid (hE.below hb1)
  have HS := Lib.hid hs
  -- up to the table; then the call's own test
  have d30 : decide ((30 : Int) < (C.length : Int)) = false := decide_eq_false (by omega)
  have d100 : decide ((100 : Int) < (cb.size : Int)) = false := decide_eq_false (by omega)
  have HCB := Lib.hid (show cb.size ≤ 140737488351232 by omega)
  have HCL := Lib.hid (show C.length ≤ 1000 by omega)
  obtain ⟨r1, hr1'⟩ : ∃ r, r = rightD cb cn := ⟨_, rfl⟩
  have hcr := fun W => rcright_any cb cn W
  rw [← hr1'] at hcr
  have HCR := Lib.hid hcr
  obtain ⟨q1, hq1⟩ : ∃ q, q = decide ((cb, cn) = ((⟨#[77, 69]⟩ : ByteArray), (1 : Int))) := ⟨_, rfl⟩
  have heq := fun W => run_eq_call18 cb ⟨#[77, 69]⟩ cn 1 W q1 hq1
  have HOK := Lib.hid (show okPeer exT21 cb cn = (r1 && !q1) by rw [hr1', hq1]; rfl)
  have HFW := Lib.hid (show r1 = true → okWay exT21 cb cn C = (decide (C.length ≤ 8) && C.all rdC) from fun h => okWay_eq C (hr1'.symm.trans h) (by decide +kernel))
  have HFN := Lib.hid (fine_next C)
  clear hC hE hs hb1 hr1 hr1' hq1 hcr h30 h100
  go_enter Tryz.func10, Tryz.ntmps10
  go_upto_region 1 with fail
  rw [← hw1]
  clear hw1
  go_upto_region 9 with (first
    | (go_at_call 41; (with_reducible refine HAW.out.mono ?_); rintro e w2 ⟨rfl, hb⟩; have HB2 := Lib.hid hb; have HR2 := Lib.hid (HR1.out.below hb); clear hb; have c0 := HR2.out.cell 0 rfl; have c1 := HR2.out.cell 1 rfl)
    | (go_at_call 43; (with_reducible refine (HOW.out _).mono ?_); rintro e w3 ⟨rfl, hb⟩; have HB3 := Lib.hid (HB2.out.trans (hb.mono HB2.out.size)); clear hb)
    | (go_at_call 44; (with_reducible refine (HUS.out _).mono ?_); rintro e w4 ⟨rfl, hb⟩; have HB4 := Lib.hid (HB3.out.trans (hb.mono HB3.out.size)); clear hb)
    | (go_at_call 42; (with_reducible refine (HNW.out _).mono ?_); rintro e w5 ⟨p, rfl, tv, hT, hF, hb⟩; have HB5 := Lib.hid (HB4.out.trans (hb.mono HB4.out.size)); have HT5 := Lib.hid hT; have HF5 := Lib.hid (show ∀ k, footT p tv [] k → w1.heap.size ≤ k from fun k hk => Nat.le_trans HB4.out.size (hF k hk)); clear hb hT hF c0 c1))
  clear HB2 HB3 HB4 HR2 HAW
  have z0 := fun d os => cell_regrown ((HR1.out.below HB5.out).cell 0 rfl) d os
  have z1 := fun d os => cell_regrown ((HR1.out.below HB5.out).cell 1 rfl) d os
  have HCO := Lib.hid (fun W tv (hT : TbAt W p tv [] exT21) (hE' : CallsAt W a C) => cconn21_call W p tv [] exT21 cb cn a cap C hT (by simp) (by decide) HCB.out HCL.out hE' HS.out usual_ok21 ⟨by decide, by decide⟩ hk)
  rw [hk] at HOK
  have hk' := HOK.out
  clear HOK hk
  replace HCO := Lib.hid (HCO.out · tv)
  cases r1
  focus
    clear hk'
  rotate_left
  focus
    have hq : q1 = true := by simpa using hk'.symm
    clear hk'
    subst hq
  all_goals
    refine wp_region_quiet_below (by kernel_rfl) (by kernel_rfl) ?_
    repeat (go_big_quiet_step (first
      | (go_at_call 45; with_reducible exact Calls.regrown_of (HCR.out _))
      | (go_at_call 43; with_reducible exact Calls.regrown_of (HOW.out _))))
    refine wpQuiet_nil ?_
    intro _ hw'
    obtain ⟨pg, hw''⟩ := hw'
    subst hw''
    clear z0 z1
    have HG6 := Lib.hid (below_regrown w5 pg.d pg.os)
    have HB6 := Lib.hid (HB5.out.trans (HG6.out.mono HB5.out.size))
    have HT6 := Lib.hid (HT5.out.below HG6.out)
    clear HG6 HB5 HT5
    generalize grow (redrawn w5 pg.d) pg.os = w6 at *
    have d8 := dec_8 C.length
    go_wp2_with fail
    go_loopw [11, 64] (fun fv iv wx => ∃ k : Nat, k ≤ C.length ∧ iv = .int .i64 k ∧ fv = .bool (decide (C.length ≤ 8) && (C.take k).all rdC) ∧ Hid (Below w6.heap.size w6 wx)) (fun _ iv _ => C.length - (intOf iv).toNat)
    case atStart => exact ⟨0, Nat.zero_le _, rfl, by simp, Lib.hid (Below.refl _ _)⟩
    case round =>
      obtain ⟨k, hk, rfl, rfl, HWX⟩ := hrel
      by_cases hlt : k < C.length
      · have dk := dec_lt k C.length hlt
        have HZK := Lib.hid (wrap_k k C.length hlt HCL.out)
        have HME := Lib.hid (meas_k k C.length hlt)
        have HLE := Lib.hid (Nat.succ_le_of_lt hlt)
        obtain ⟨g, o, hao, hg, c0, c1⟩ := HE1.out.below (HB6.out.trans (HWX.out.mono HB6.out.size)) k hlt
        have HN := Lib.hid (HFN.out k hlt)
        have HAO := Lib.hid hao
        subst hao
        generalize C[k] = d at *
        obtain ⟨db, dn⟩ := d
        simp only at c0 c1
        have HRC := Lib.hid (fun W => rcright_any db dn W)
        have HNN := Lib.hid (show rdC (db, dn) = rightD db dn from rfl)
        rw [HNN.out] at HN
        generalize rightD db dn = rd at *
        generalize (decide (C.length ≤ 8) && (C.take k).all rdC) = b0 at *
        have hbx := (Below.refl wr.heap.size wr).alloc (Nat.le_refl _) (.cells #[.string db, .int .i64 dn] 54)
        have HBX := Lib.hid (HWX.out.trans (hbx.mono HWX.out.size))
        clear hbx
        cases b0 with
        | false =>
          go_wp2_with fail
          go_roundw
          case rel => exact ⟨k + 1, HLE.out, by rw [HZK.out], by rw [HN.out]; rfl, HBX⟩
          case measure => rw [HZK.out]; exact HME.out
        | true =>
          go_wp2_with (go_at_call 45; (with_reducible refine (HRC.out _).mono ?_); rintro e w8 ⟨rfl, hb⟩; have HB8 := Lib.hid (HBX.out.trans (hb.mono HBX.out.size)); clear hb)
          go_roundw
          case rel => exact ⟨k + 1, HLE.out, by rw [HZK.out], by rw [HN.out]; rfl, HB8⟩
          case measure => rw [HZK.out]; exact HME.out
      · obtain rfl : k = C.length := Nat.le_antisymm hk (Nat.le_of_not_lt hlt)
        have dk := dec_ge C.length
        rw [List.take_length]
        generalize hfb : (decide (C.length ≤ 8) && C.all rdC) = fb at *
        clear HFN d8
        have HTr := Lib.hid (HT6.out.below HWX.out)
        have HBr := Lib.hid (HB6.out.trans (HWX.out.mono HB6.out.size))
        have HEr := Lib.hid (HE1.out.below HBr.out)
        have c0 := (HR1.out.below HBr.out).cell 0 rfl
        have c1 := (HR1.out.below HBr.out).cell 1 rfl
        go_upto_region 36 with (first
          | (go_at_call 46; (with_reducible refine (HCO.out _ HTr.out HEr.out).mono ?_); rintro e wz ⟨rfl, hb⟩; have HTz := Lib.hid (HTr.out.below hb); have HBz := Lib.hid (HBr.out.trans (hb.mono HBr.out.size)); clear hb c0 c1))
        have HLz := Lib.hid (show ([] : List En).length ≤ 16 from Nat.zero_le _)
        have HAB := Lib.hid (show ∀ m : Int, ¬ (1 ≤ m ∧ m ≤ 4) → ([] : List En).find? (isNo m) = none from fun _ _ => rfl)
        by_cases h14 : 1 ≤ n ∧ n ≤ 4
        · have dn1 : decide ((1 : Int) ≤ n) = true := decide_eq_true h14.1
          have dn4 : decide (n ≤ (4 : Int)) = true := decide_eq_true h14.2
          clear h14
          go_wp2_with fail
          exact bodyPost_ret (v := .bool true) (by simp [results, Tryz.results10, go_sem]) rfl ⟨rfl, HB1.out.trans (HBz.out.mono HB1.out.size)⟩
        · have hab := HAB.out n h14
          by_cases h1 : 1 ≤ n
          focus
            have dn1 : decide ((1 : Int) ≤ n) = true := decide_eq_true h1
            have dn4 : decide (n ≤ (4 : Int)) = false := decide_eq_false fun h4 => h14 ⟨h1, h4⟩
            clear h14 h1
          rotate_left
          focus
            have dn1 : decide ((1 : Int) ≤ n) = false := decide_eq_false h1
            clear h14 h1
          all_goals
            have HDI := Lib.hid (fun W (hb : Below wz.heap.size wz W) => cdisc21_none W p _ _ _ n (HTz.out.below hb) HLz.out hab)
            have HSE := Lib.hid (fun W (hb : Below wz.heap.size wz W) pid t => csend21_none W p _ _ _ n (HTz.out.below hb) HLz.out hab pid t)
            have HHO := Lib.hid (fun W (hb : Below wz.heap.size wz W) on => chold21_none W p _ _ _ n (HTz.out.below hb) HLz.out hab on)
            have HPE := Lib.hid (fun W (hb : Below wz.heap.size wz W) => cpeer21_none W p _ _ _ n (HTz.out.below hb) HLz.out hab)
            have hst := fun W (hb : Below wz.heap.size wz W) => cstate21 W p _ _ _ n (HTz.out.below hb) HLz.out
            unfold stateT at hst
            rw [hab] at hst
            have HST := Lib.hid hst
            have HWI := Lib.hid (fun W (hb : Below wz.heap.size wz W) => cwide21_none W p _ _ _ n (HTz.out.below hb) HLz.out hab)
            have HWA := Lib.hid (fun W (hb : Below wz.heap.size wz W) => cwaits21_none W p _ _ _ n (HTz.out.below hb) HLz.out hab)
            have heq0 := fun W => run_eq_call18 ⟨#[]⟩ ⟨#[]⟩ 0 0 W true (by decide)
            clear hst hab
            go_wp2_with (first
              | (go_at_call 48; (with_reducible refine (HDI.out _ (Below.refl _ _)).mono ?_); rintro e a1 ⟨rfl, hb⟩; have HA1 := Lib.hid hb; clear hb)
              | (go_at_call 49; (with_reducible refine (HSE.out _ HA1.out _ _).mono ?_); rintro e a2 ⟨rfl, hb⟩; have HA2 := Lib.hid (HA1.out.trans (hb.mono HA1.out.size)); clear hb)
              | (go_at_call 50; (with_reducible refine (HHO.out _ HA2.out _).mono ?_); rintro e a3 ⟨rfl, hb⟩; have HA3 := Lib.hid (HA2.out.trans (hb.mono HA2.out.size)); clear hb)
              | (go_at_call 51; (with_reducible refine (HPE.out _ HA3.out).mono ?_); rintro e a4 ⟨rfl, hb⟩; have HA4 := Lib.hid (HA3.out.trans (hb.mono HA3.out.size)); have HA5 := Lib.hid (HA4.out.alloc HA4.out.size (.cells #[.string ⟨#[]⟩, .int .i64 0] 54)); clear hb)
              | (go_at_call 47; (with_reducible refine (HST.out _ HA5.out).mono ?_); rintro e a6 ⟨rfl, hb⟩; have HA6 := Lib.hid (HA5.out.trans (hb.mono HA5.out.size)); clear hb)
              | (go_at_call 52; (with_reducible refine (HWI.out _ HA6.out).mono ?_); rintro e a7 ⟨rfl, hb⟩; have HA7 := Lib.hid (HA6.out.trans (hb.mono HA6.out.size)); clear hb)
              | (go_at_call 53; (with_reducible refine (HWA.out _ HA7.out).mono ?_); rintro e a8 ⟨rfl, hb⟩; have HA8 := Lib.hid (HA7.out.trans (hb.mono HA7.out.size)); clear hb))
            exact bodyPost_ret (v := .bool true) (by simp [results, Tryz.results10, go_sem]) rfl ⟨rfl, HB1.out.trans ((HBz.out.trans (HA8.out.mono HBz.out.size)).mono HB1.out.size)⟩
set_option maxHeartbeats 8000000 in
theorem err_path (h30 : C.length ≤ 30) (h100 : cb.size ≤ 100) (hk : okPeer exT21 cb cn = true) (hF : (decide (C.length ≤ 8) && C.all rdC) = false) : Calls Tryz.prog 10 #[clV cb cn, .slice a C.length cap, .int .i64 n] w fun e w' => e = .returned (.bool true) ∧ Below w.heap.size w w' := by
  obtain ⟨w1, hw1⟩ : ∃ w1, w1 = w.alloc (.cells #[.string cb, .int .i64 cn] 54) := ⟨_, rfl⟩
  have hb1 : Below w.heap.size w w1 := by rw [hw1]; exact (Below.refl _ w).alloc (Nat.le_refl _) _
  have hr1 : RowAt w1 w.heap.size [.string cb, .int .i64 cn] := by rw [hw1]; exact RowAt.new w w.heap.size rfl [.string cb, .int .i64 cn] 54
  have HB1 := Lib.hid hb1
  have HR1 := Lib.hid hr1
  have HAW := Lib.hid (cawake21 w1 (hC.below hb1))
  have HOW := Lib.hid (fun W => cown21 W)
  have HUS := Lib.hid (fun W => usual_any W)
  have HNW := Lib.hid (fun W => cnew21_law W)
  have HRI := Lib.hid (fun b n W => rcright_any b n W)
  have HE1 := Lib.hid (hE.below hb1)
  have HS := Lib.hid hs
  have HFF := Lib.hid hF
  clear hF
  -- up to the table; then the call's own test
  have d30 : decide ((30 : Int) < (C.length : Int)) = false := decide_eq_false (by omega)
  have d100 : decide ((100 : Int) < (cb.size : Int)) = false := decide_eq_false (by omega)
  have HCB := Lib.hid (show cb.size ≤ 140737488351232 by omega)
  have HCL := Lib.hid (show C.length ≤ 1000 by omega)
  obtain ⟨r1, hr1'⟩ : ∃ r, r = rightD cb cn := ⟨_, rfl⟩
  have hcr := fun W => rcright_any cb cn W
  rw [← hr1'] at hcr
  have HCR := Lib.hid hcr
  obtain ⟨q1, hq1⟩ : ∃ q, q = decide ((cb, cn) = ((⟨#[77, 69]⟩ : ByteArray), (1 : Int))) := ⟨_, rfl⟩
  have heq := fun W => run_eq_call18 cb ⟨#[77, 69]⟩ cn 1 W q1 hq1
  have HOK := Lib.hid (show okPeer exT21 cb cn = (r1 && !q1) by rw [hr1', hq1]; rfl)
  have HFW := Lib.hid (show r1 = true → okWay exT21 cb cn C = (decide (C.length ≤ 8) && C.all rdC) from fun h => okWay_eq C (hr1'.symm.trans h) (by decide +kernel))
  have HFN := Lib.hid (fine_next C)
  clear hC hE hs hb1 hr1 hr1' hq1 hcr h30 h100
  go_enter Tryz.func10, Tryz.ntmps10
  go_upto_region 1 with fail
  rw [← hw1]
  clear hw1
  go_upto_region 9 with (first
    | (go_at_call 41; (with_reducible refine HAW.out.mono ?_); rintro e w2 ⟨rfl, hb⟩; have HB2 := Lib.hid hb; have HR2 := Lib.hid (HR1.out.below hb); clear hb; have c0 := HR2.out.cell 0 rfl; have c1 := HR2.out.cell 1 rfl)
    | (go_at_call 43; (with_reducible refine (HOW.out _).mono ?_); rintro e w3 ⟨rfl, hb⟩; have HB3 := Lib.hid (HB2.out.trans (hb.mono HB2.out.size)); clear hb)
    | (go_at_call 44; (with_reducible refine (HUS.out _).mono ?_); rintro e w4 ⟨rfl, hb⟩; have HB4 := Lib.hid (HB3.out.trans (hb.mono HB3.out.size)); clear hb)
    | (go_at_call 42; (with_reducible refine (HNW.out _).mono ?_); rintro e w5 ⟨p, rfl, tv, hT, hF, hb⟩; have HB5 := Lib.hid (HB4.out.trans (hb.mono HB4.out.size)); have HT5 := Lib.hid hT; have HF5 := Lib.hid (show ∀ k, footT p tv [] k → w1.heap.size ≤ k from fun k hk => Nat.le_trans HB4.out.size (hF k hk)); clear hb hT hF c0 c1))
  clear HB2 HB3 HB4 HR2 HAW
  have z0 := fun d os => cell_regrown ((HR1.out.below HB5.out).cell 0 rfl) d os
  have z1 := fun d os => cell_regrown ((HR1.out.below HB5.out).cell 1 rfl) d os
  rw [hk] at HOK
  have hk' := HOK.out
  obtain ⟨hr1, hq1⟩ : r1 = true ∧ q1 = false := by simpa using hk'.symm
  have hw : okWay exT21 cb cn C = false := (HFW.out hr1).trans HFF.out
  have HCO := Lib.hid (fun W tv (hT : TbAt W p tv [] exT21) (hE' : CallsAt W a C) => cconn21_path W p tv [] exT21 cb cn a cap C hT (by simp) (by decide) HCB.out HCL.out hE' HS.out usual_ok21 ⟨by decide, by decide⟩ hk hw)
  replace HCO := Lib.hid (HCO.out · tv)
  clear HOK hk hk' hw
  subst hr1
  subst hq1
  refine wp_region_quiet_below (by kernel_rfl) (by kernel_rfl) ?_
  repeat (go_big_quiet_step (first
    | (go_at_call 45; with_reducible exact Calls.regrown_of (HCR.out _))
    | (go_at_call 43; with_reducible exact Calls.regrown_of (HOW.out _))))
  refine wpQuiet_nil ?_
  intro _ hw'
  obtain ⟨pg, hw''⟩ := hw'
  subst hw''
  clear z0 z1
  have HG6 := Lib.hid (below_regrown w5 pg.d pg.os)
  have HB6 := Lib.hid (HB5.out.trans (HG6.out.mono HB5.out.size))
  have HT6 := Lib.hid (HT5.out.below HG6.out)
  clear HG6 HB5 HT5
  generalize grow (redrawn w5 pg.d) pg.os = w6 at *
  have d8 := dec_8 C.length
  go_wp2_with fail
  go_loopw [11, 64] (fun fv iv wx => ∃ k : Nat, k ≤ C.length ∧ iv = .int .i64 k ∧ fv = .bool (decide (C.length ≤ 8) && (C.take k).all rdC) ∧ Hid (Below w6.heap.size w6 wx)) (fun _ iv _ => C.length - (intOf iv).toNat)
  case atStart => exact ⟨0, Nat.zero_le _, rfl, by simp, Lib.hid (Below.refl _ _)⟩
  case round =>
    obtain ⟨k, hk, rfl, rfl, HWX⟩ := hrel
    by_cases hlt : k < C.length
    · have dk := dec_lt k C.length hlt
      have HZK := Lib.hid (wrap_k k C.length hlt HCL.out)
      have HME := Lib.hid (meas_k k C.length hlt)
      have HLE := Lib.hid (Nat.succ_le_of_lt hlt)
      obtain ⟨g, o, hao, hg, c0, c1⟩ := HE1.out.below (HB6.out.trans (HWX.out.mono HB6.out.size)) k hlt
      have HN := Lib.hid (HFN.out k hlt)
      have HAO := Lib.hid hao
      subst hao
      generalize C[k] = d at *
      obtain ⟨db, dn⟩ := d
      simp only at c0 c1
      have HRC := Lib.hid (fun W => rcright_any db dn W)
      have HNN := Lib.hid (show rdC (db, dn) = rightD db dn from rfl)
      rw [HNN.out] at HN
      generalize rightD db dn = rd at *
      generalize (decide (C.length ≤ 8) && (C.take k).all rdC) = b0 at *
      have hbx := (Below.refl wr.heap.size wr).alloc (Nat.le_refl _) (.cells #[.string db, .int .i64 dn] 54)
      have HBX := Lib.hid (HWX.out.trans (hbx.mono HWX.out.size))
      clear hbx
      cases b0 with
      | false =>
        go_wp2_with fail
        go_roundw
        case rel => exact ⟨k + 1, HLE.out, by rw [HZK.out], by rw [HN.out]; rfl, HBX⟩
        case measure => rw [HZK.out]; exact HME.out
      | true =>
        go_wp2_with (go_at_call 45; (with_reducible refine (HRC.out _).mono ?_); rintro e w8 ⟨rfl, hb⟩; have HB8 := Lib.hid (HBX.out.trans (hb.mono HBX.out.size)); clear hb)
        go_roundw
        case rel => exact ⟨k + 1, HLE.out, by rw [HZK.out], by rw [HN.out]; rfl, HB8⟩
        case measure => rw [HZK.out]; exact HME.out
    · obtain rfl : k = C.length := Nat.le_antisymm hk (Nat.le_of_not_lt hlt)
      have dk := dec_ge C.length
      rw [List.take_length]
      generalize hfb : (decide (C.length ≤ 8) && C.all rdC) = fb at *
      clear HFN d8
      have HTr := Lib.hid (HT6.out.below HWX.out)
      have HBr := Lib.hid (HB6.out.trans (HWX.out.mono HB6.out.size))
      have HEr := Lib.hid (HE1.out.below HBr.out)
      have c0 := (HR1.out.below HBr.out).cell 0 rfl
      have c1 := (HR1.out.below HBr.out).cell 1 rfl
      obtain rfl : fb = false := HFF.out
      clear hfb HFF HFW
      go_upto_region 36 with (first
        | (go_at_call 46; (with_reducible refine (HCO.out _ HTr.out HEr.out).mono ?_); rintro e wz ⟨rfl, hb⟩; have HTz := Lib.hid (HTr.out.below hb); have HBz := Lib.hid (HBr.out.trans (hb.mono HBr.out.size)); clear hb c0 c1))
      have HLz := Lib.hid (show ([] : List En).length ≤ 16 from Nat.zero_le _)
      have HAB := Lib.hid (show ∀ m : Int, ¬ (1 ≤ m ∧ m ≤ 4) → ([] : List En).find? (isNo m) = none from fun _ _ => rfl)
      by_cases h14 : 1 ≤ n ∧ n ≤ 4
      · have dn1 : decide ((1 : Int) ≤ n) = true := decide_eq_true h14.1
        have dn4 : decide (n ≤ (4 : Int)) = true := decide_eq_true h14.2
        clear h14
        go_wp2_with fail
        exact bodyPost_ret (v := .bool true) (by simp [results, Tryz.results10, go_sem]) rfl ⟨rfl, HB1.out.trans (HBz.out.mono HB1.out.size)⟩
      · have hab := HAB.out n h14
        by_cases h1 : 1 ≤ n
        focus
          have dn1 : decide ((1 : Int) ≤ n) = true := decide_eq_true h1
          have dn4 : decide (n ≤ (4 : Int)) = false := decide_eq_false fun h4 => h14 ⟨h1, h4⟩
          clear h14 h1
        rotate_left
        focus
          have dn1 : decide ((1 : Int) ≤ n) = false := decide_eq_false h1
          clear h14 h1
        all_goals
          have HDI := Lib.hid (fun W (hb : Below wz.heap.size wz W) => cdisc21_none W p _ _ _ n (HTz.out.below hb) HLz.out hab)
          have HSE := Lib.hid (fun W (hb : Below wz.heap.size wz W) pid t => csend21_none W p _ _ _ n (HTz.out.below hb) HLz.out hab pid t)
          have HHO := Lib.hid (fun W (hb : Below wz.heap.size wz W) on => chold21_none W p _ _ _ n (HTz.out.below hb) HLz.out hab on)
          have HPE := Lib.hid (fun W (hb : Below wz.heap.size wz W) => cpeer21_none W p _ _ _ n (HTz.out.below hb) HLz.out hab)
          have hst := fun W (hb : Below wz.heap.size wz W) => cstate21 W p _ _ _ n (HTz.out.below hb) HLz.out
          unfold stateT at hst
          rw [hab] at hst
          have HST := Lib.hid hst
          have HWI := Lib.hid (fun W (hb : Below wz.heap.size wz W) => cwide21_none W p _ _ _ n (HTz.out.below hb) HLz.out hab)
          have HWA := Lib.hid (fun W (hb : Below wz.heap.size wz W) => cwaits21_none W p _ _ _ n (HTz.out.below hb) HLz.out hab)
          have heq0 := fun W => run_eq_call18 ⟨#[]⟩ ⟨#[]⟩ 0 0 W true (by decide)
          clear hst hab
          go_wp2_with (first
            | (go_at_call 48; (with_reducible refine (HDI.out _ (Below.refl _ _)).mono ?_); rintro e a1 ⟨rfl, hb⟩; have HA1 := Lib.hid hb; clear hb)
            | (go_at_call 49; (with_reducible refine (HSE.out _ HA1.out _ _).mono ?_); rintro e a2 ⟨rfl, hb⟩; have HA2 := Lib.hid (HA1.out.trans (hb.mono HA1.out.size)); clear hb)
            | (go_at_call 50; (with_reducible refine (HHO.out _ HA2.out _).mono ?_); rintro e a3 ⟨rfl, hb⟩; have HA3 := Lib.hid (HA2.out.trans (hb.mono HA2.out.size)); clear hb)
            | (go_at_call 51; (with_reducible refine (HPE.out _ HA3.out).mono ?_); rintro e a4 ⟨rfl, hb⟩; have HA4 := Lib.hid (HA3.out.trans (hb.mono HA3.out.size)); have HA5 := Lib.hid (HA4.out.alloc HA4.out.size (.cells #[.string ⟨#[]⟩, .int .i64 0] 54)); clear hb)
            | (go_at_call 47; (with_reducible refine (HST.out _ HA5.out).mono ?_); rintro e a6 ⟨rfl, hb⟩; have HA6 := Lib.hid (HA5.out.trans (hb.mono HA5.out.size)); clear hb)
            | (go_at_call 52; (with_reducible refine (HWI.out _ HA6.out).mono ?_); rintro e a7 ⟨rfl, hb⟩; have HA7 := Lib.hid (HA6.out.trans (hb.mono HA6.out.size)); clear hb)
            | (go_at_call 53; (with_reducible refine (HWA.out _ HA7.out).mono ?_); rintro e a8 ⟨rfl, hb⟩; have HA8 := Lib.hid (HA7.out.trans (hb.mono HA7.out.size)); clear hb))
          exact bodyPost_ret (v := .bool true) (by simp [results, Tryz.results10, go_sem]) rfl ⟨rfl, HB1.out.trans ((HBz.out.trans (HA8.out.mono HBz.out.size)).mono HB1.out.size)⟩
set_option maxHeartbeats 16000000 in
theorem err_ok (h30 : C.length ≤ 30) (h100 : cb.size ≤ 100) (hk : okPeer exT21 cb cn = true) (hF : (decide (C.length ≤ 8) && C.all rdC) = true) : Calls Tryz.prog 10 #[clV cb cn, .slice a C.length cap, .int .i64 n] w fun e w' => e = .returned (.bool true) ∧ Below w.heap.size w w' := by
  obtain ⟨w1, hw1⟩ : ∃ w1, w1 = w.alloc (.cells #[.string cb, .int .i64 cn] 54) := ⟨_, rfl⟩
  have hb1 : Below w.heap.size w w1 := by rw [hw1]; exact (Below.refl _ w).alloc (Nat.le_refl _) _
  have hr1 : RowAt w1 w.heap.size [.string cb, .int .i64 cn] := by rw [hw1]; exact RowAt.new w w.heap.size rfl [.string cb, .int .i64 cn] 54
  have HB1 := Lib.hid hb1
  have HR1 := Lib.hid hr1
  have HAW := Lib.hid (cawake21 w1 (hC.below hb1))
  have HOW := Lib.hid (fun W => cown21 W)
  have HUS := Lib.hid (fun W => usual_any W)
  have HNW := Lib.hid (fun W => cnew21_law W)
  have HRI := Lib.hid (fun b n W => rcright_any b n W)
  have HE1 := Lib.hid (hE.below hb1)
  have HS := Lib.hid hs
  have HFF := Lib.hid hF
  clear hF
  -- up to the table; then the call's own test
  have d30 : decide ((30 : Int) < (C.length : Int)) = false := decide_eq_false (by omega)
  have d100 : decide ((100 : Int) < (cb.size : Int)) = false := decide_eq_false (by omega)
  have HCB := Lib.hid (show cb.size ≤ 140737488351232 by omega)
  have HCL := Lib.hid (show C.length ≤ 1000 by omega)
  obtain ⟨r1, hr1'⟩ : ∃ r, r = rightD cb cn := ⟨_, rfl⟩
  have hcr := fun W => rcright_any cb cn W
  rw [← hr1'] at hcr
  have HCR := Lib.hid hcr
  obtain ⟨q1, hq1⟩ : ∃ q, q = decide ((cb, cn) = ((⟨#[77, 69]⟩ : ByteArray), (1 : Int))) := ⟨_, rfl⟩
  have heq := fun W => run_eq_call18 cb ⟨#[77, 69]⟩ cn 1 W q1 hq1
  have HOK := Lib.hid (show okPeer exT21 cb cn = (r1 && !q1) by rw [hr1', hq1]; rfl)
  have HFW := Lib.hid (show r1 = true → okWay exT21 cb cn C = (decide (C.length ≤ 8) && C.all rdC) from fun h => okWay_eq C (hr1'.symm.trans h) (by decide +kernel))
  have HFN := Lib.hid (fine_next C)
  clear hC hE hs hb1 hr1 hr1' hq1 hcr h30 h100
  go_enter Tryz.func10, Tryz.ntmps10
  go_upto_region 1 with fail
  rw [← hw1]
  clear hw1
  go_upto_region 9 with (first
    | (go_at_call 41; (with_reducible refine HAW.out.mono ?_); rintro e w2 ⟨rfl, hb⟩; have HB2 := Lib.hid hb; have HR2 := Lib.hid (HR1.out.below hb); clear hb; have c0 := HR2.out.cell 0 rfl; have c1 := HR2.out.cell 1 rfl)
    | (go_at_call 43; (with_reducible refine (HOW.out _).mono ?_); rintro e w3 ⟨rfl, hb⟩; have HB3 := Lib.hid (HB2.out.trans (hb.mono HB2.out.size)); clear hb)
    | (go_at_call 44; (with_reducible refine (HUS.out _).mono ?_); rintro e w4 ⟨rfl, hb⟩; have HB4 := Lib.hid (HB3.out.trans (hb.mono HB3.out.size)); clear hb)
    | (go_at_call 42; (with_reducible refine (HNW.out _).mono ?_); rintro e w5 ⟨p, rfl, tv, hT, hF, hb⟩; have HB5 := Lib.hid (HB4.out.trans (hb.mono HB4.out.size)); have HT5 := Lib.hid hT; have HF5 := Lib.hid (show ∀ k, footT p tv [] k → w1.heap.size ≤ k from fun k hk => Nat.le_trans HB4.out.size (hF k hk)); clear hb hT hF c0 c1))
  clear HB2 HB3 HB4 HR2 HAW
  have z0 := fun d os => cell_regrown ((HR1.out.below HB5.out).cell 0 rfl) d os
  have z1 := fun d os => cell_regrown ((HR1.out.below HB5.out).cell 1 rfl) d os
  rw [hk] at HOK
  have hk' := HOK.out
  obtain ⟨hr1, hq1⟩ : r1 = true ∧ q1 = false := by simpa using hk'.symm
  have hw : okWay exT21 cb cn C = true := (HFW.out hr1).trans HFF.out
  have HCO := Lib.hid (fun W (hT : TbAt W p tv [] exT21) (hb : Below w1.heap.size w1 W) (hE' : CallsAt W a C) => conn_first w1 W p tv cb cn a cap C hT hb HF5.out HCB.out HCL.out hE' HS.out hk hw)
  have HCA := Lib.hid (fun W tv' u ep (hZ : ZAt w1.heap.size w1 p cb cn 0 tv' [u] { exT21 with given := 1, ents := ep } W) (hE' : CallsAt W a C) (hf : findT [u] cb cn ≠ 0) => conn_again w1 W p tv' u ep cb cn a cap C hZ HCB.out HCL.out hE' HS.out hk hw hf)
  have HCZ := Lib.hid (fun W tv' i L T (hZ : ZAt w1.heap.size w1 p cb cn i tv' L T W) (hi : i < 6) hne => conn_z w1 W p tv' cb cn i L T hZ hi hne)
  have HCF := Lib.hid (fun W tv' i L T (hZ : ZAt w1.heap.size w1 p cb cn i tv' L T W) (hi : i < 6) hne => conn_zfull w1 W p tv' cb cn i L T hZ hi hne)
  clear HOK hk hk' hw
  subst hr1
  subst hq1
  refine wp_region_quiet_below (by kernel_rfl) (by kernel_rfl) ?_
  repeat (go_big_quiet_step (first
    | (go_at_call 45; with_reducible exact Calls.regrown_of (HCR.out _))
    | (go_at_call 43; with_reducible exact Calls.regrown_of (HOW.out _))))
  refine wpQuiet_nil ?_
  intro _ hw'
  obtain ⟨pg, hw''⟩ := hw'
  subst hw''
  clear z0 z1
  have HG6 := Lib.hid (below_regrown w5 pg.d pg.os)
  have HB6 := Lib.hid (HB5.out.trans (HG6.out.mono HB5.out.size))
  have HT6 := Lib.hid (HT5.out.below HG6.out)
  clear HG6 HB5 HT5
  generalize grow (redrawn w5 pg.d) pg.os = w6 at *
  have d8 := dec_8 C.length
  go_wp2_with fail
  go_loopw [11, 64] (fun fv iv wx => ∃ k : Nat, k ≤ C.length ∧ iv = .int .i64 k ∧ fv = .bool (decide (C.length ≤ 8) && (C.take k).all rdC) ∧ Hid (Below w6.heap.size w6 wx)) (fun _ iv _ => C.length - (intOf iv).toNat)
  case atStart => exact ⟨0, Nat.zero_le _, rfl, by simp, Lib.hid (Below.refl _ _)⟩
  case round =>
    obtain ⟨k, hk, rfl, rfl, HWX⟩ := hrel
    by_cases hlt : k < C.length
    · have dk := dec_lt k C.length hlt
      have HZK := Lib.hid (wrap_k k C.length hlt HCL.out)
      have HME := Lib.hid (meas_k k C.length hlt)
      have HLE := Lib.hid (Nat.succ_le_of_lt hlt)
      obtain ⟨g, o, hao, hg, c0, c1⟩ := HE1.out.below (HB6.out.trans (HWX.out.mono HB6.out.size)) k hlt
      have HN := Lib.hid (HFN.out k hlt)
      have HAO := Lib.hid hao
      subst hao
      generalize C[k] = d at *
      obtain ⟨db, dn⟩ := d
      simp only at c0 c1
      have HRC := Lib.hid (fun W => rcright_any db dn W)
      have HNN := Lib.hid (show rdC (db, dn) = rightD db dn from rfl)
      rw [HNN.out] at HN
      generalize rightD db dn = rd at *
      generalize (decide (C.length ≤ 8) && (C.take k).all rdC) = b0 at *
      have hbx := (Below.refl wr.heap.size wr).alloc (Nat.le_refl _) (.cells #[.string db, .int .i64 dn] 54)
      have HBX := Lib.hid (HWX.out.trans (hbx.mono HWX.out.size))
      clear hbx
      cases b0 with
      | false =>
        go_wp2_with fail
        go_roundw
        case rel => exact ⟨k + 1, HLE.out, by rw [HZK.out], by rw [HN.out]; rfl, HBX⟩
        case measure => rw [HZK.out]; exact HME.out
      | true =>
        go_wp2_with (go_at_call 45; (with_reducible refine (HRC.out _).mono ?_); rintro e w8 ⟨rfl, hb⟩; have HB8 := Lib.hid (HBX.out.trans (hb.mono HBX.out.size)); clear hb)
        go_roundw
        case rel => exact ⟨k + 1, HLE.out, by rw [HZK.out], by rw [HN.out]; rfl, HB8⟩
        case measure => rw [HZK.out]; exact HME.out
    · obtain rfl : k = C.length := Nat.le_antisymm hk (Nat.le_of_not_lt hlt)
      have dk := dec_ge C.length
      rw [List.take_length]
      generalize hfb : (decide (C.length ≤ 8) && C.all rdC) = fb at *
      clear HFN d8
      have HTr := Lib.hid (HT6.out.below HWX.out)
      have HBr := Lib.hid (HB6.out.trans (HWX.out.mono HB6.out.size))
      have HEr := Lib.hid (HE1.out.below HBr.out)
      have c0 := (HR1.out.below HBr.out).cell 0 rfl
      have c1 := (HR1.out.below HBr.out).cell 1 rfl
      obtain rfl : fb = true := HFF.out
      clear hfb HFF HFW
      go_upto_region 21 with (first
        | (go_at_call 46; (with_reducible refine (HCO.out _ HTr.out HBr.out HEr.out).mono ?_); rintro e w9 ⟨g9, u, tv', rfl, ep, hZ, hst, hfi⟩; have HZ9 := Lib.hid hZ; have HST := Lib.hid hst; have HFI := Lib.hid hfi; clear hZ hst hfi c0 c1))
      have hs1 := fun W (hb : Below w9.heap.size w9 W) => cstate21 W p tv' [u] _ 1 (HZ9.out.tab.below hb) (by simp)
      rw [HST.out] at hs1
      have HS1 := Lib.hid hs1
      clear hs1
      go_upto_region 24 with (first
        | (go_at_call 47; (with_reducible refine (HS1.out _ (Below.refl _ _)).mono ?_); rintro e w10 ⟨rfl, hb⟩; have HZ10 := Lib.hid (HZ9.out.below (Nat.le_refl _) hb); clear hb))
      have HE10 := Lib.hid (HE1.out.below HZ10.out.bel)
      have c0 := (HR1.out.below HZ10.out.bel).cell 0 rfl
      have c1 := (HR1.out.below HZ10.out.bel).cell 1 rfl
      go_upto_region 27 with (first
        | (go_at_call 46; (with_reducible refine (HCA.out _ _ _ _ HZ10.out HE10.out HFI.out).mono ?_); rintro e w11 ⟨rfl, hZ⟩; have HZ11 := Lib.hid hZ; clear hZ c0 c1))
      clear HZ9 HZ10 HE10 HCO HCA HS1 HST HFI HTr HBr HEr
      go_wp2_with fail
      go_loopw [20] (fun iv wx => ∃ i : Nat, i ≤ 6 ∧ iv = .int .i64 i ∧ Hid (∃ tv L T, ZAt w1.heap.size w1 p cb cn i tv L T wx)) (fun iv _ => 6 - (intOf iv).toNat)
      case atStart => exact ⟨0, Nat.zero_le _, rfl, Lib.hid ⟨_, _, _, HZ11.out⟩⟩
      case round =>
        obtain ⟨i, hi, rfl, HZ⟩ := hrel
        clear HZ11
        obtain ⟨tz, Lz, Tz, hz⟩ := HZ.out
        have HZr := Lib.hid hz
        clear hz HZ
        by_cases h6 : i < 6
        · have d6 := dec_lt i 6 h6
          rw [show ((6 : Nat) : Int) = 6 from rfl] at d6
          have HZK := Lib.hid (wrap_k i 6 h6 (by decide))
          have HME := Lib.hid (meas_k i 6 h6)
          have HLE := Lib.hid (Nat.succ_le_of_lt h6)
          have hbx := (Below.refl wr.heap.size wr).alloc (Nat.le_refl _) (.cells #[.string zB, .int .i64 (i : Int)] 54)
          have HZX := Lib.hid (HZr.out.below (Nat.le_refl _) hbx)
          have c0 := (HR1.out.below HZr.out.bel).cell 0 rfl
          have c1 := (HR1.out.below HZr.out.bel).cell 1 rfl
          have hzl : w.heap.size < wr.heap.size := RowAt.lt (HR1.out.below HZr.out.bel)
          clear hbx HZr
          by_cases hq : (zB, (i : Int)) = (cb, cn)
          · have heqz := fun W => run_eq_call18 zB cb (i : Int) cn W true (decide_eq_true hq).symm
            have HBX := Lib.hid HZX.out.bel
            clear hq h6
            go_wp2_with fail
            exact bodyPost_ret (v := .bool true) (by simp [results, Tryz.results10, go_sem]) rfl ⟨rfl, HB1.out.trans (HBX.out.mono HB1.out.size)⟩
          · have heqz := fun W => run_eq_call18 zB cb (i : Int) cn W false (decide_eq_false hq).symm
            have HCZ1 := Lib.hid (HCZ.out _ tz i Lz Tz HZX.out h6 hq)
            have HCF1 := Lib.hid (HCF.out _ tz i Lz Tz HZX.out h6 hq)
            clear hq h6
            by_cases h3 : i < 3
            · have d3 : decide ((i : Int) < 3) = true := decide_eq_true (by omega)
              have d33 : decide ((3 : Int) ≤ (i : Int)) = false := decide_eq_false (by omega)
              have HCC := Lib.hid (HCZ1.out h3)
              clear h3 HCZ1 HCF1
              go_wp2_with (go_at_call 46; (with_reducible refine HCC.out.mono ?_); rintro e w12 ⟨m, v, rfl, tv2, L2, T2, hz⟩; have HZN := Lib.hid hz; clear hz)
              go_roundw
              case rel => exact ⟨i + 1, HLE.out, by first | rw [HZK.out] | rfl, Lib.hid ⟨_, _, _, HZN.out⟩⟩
              case measure => first | (rw [HZK.out]; exact HME.out) | exact HME.out
            · have d3 : decide ((i : Int) < 3) = false := decide_eq_false (by omega)
              have d33 : decide ((3 : Int) ≤ (i : Int)) = true := decide_eq_true (by omega)
              have HCC := Lib.hid (HCF1.out (Nat.le_of_not_lt h3))
              clear h3 HCZ1 HCF1
              go_wp2_with (go_at_call 46; (with_reducible refine HCC.out.mono ?_); rintro e w12 ⟨rfl, tv2, L2, T2, hz⟩; have HZN := Lib.hid hz; clear hz)
              go_roundw
              case rel => exact ⟨i + 1, HLE.out, by first | rw [HZK.out] | rfl, Lib.hid ⟨_, _, _, HZN.out⟩⟩
              case measure => first | (rw [HZK.out]; exact HME.out) | exact HME.out
        · obtain rfl : i = 6 := Nat.le_antisymm hi (Nat.le_of_not_lt h6)
          have HTz := Lib.hid HZr.out.tab
          have HBz := Lib.hid HZr.out.bel
          have HLz := Lib.hid (show Lz.length ≤ 16 by rw [HZr.out.inv.len]; decide)
          have HAB := Lib.hid (fun m hm => ids_absent HZr.out.inv.ids (n := m) hm)
          clear HZr HCZ HCF
          generalize wr = wz at *
          by_cases h14 : 1 ≤ n ∧ n ≤ 4
          · have dn1 : decide ((1 : Int) ≤ n) = true := decide_eq_true h14.1
            have dn4 : decide (n ≤ (4 : Int)) = true := decide_eq_true h14.2
            clear h14
            go_wp2_with fail
            exact bodyPost_ret (v := .bool true) (by simp [results, Tryz.results10, go_sem]) rfl ⟨rfl, HB1.out.trans (HBz.out.mono HB1.out.size)⟩
          · have hab := HAB.out n h14
            by_cases h1 : 1 ≤ n
            focus
              have dn1 : decide ((1 : Int) ≤ n) = true := decide_eq_true h1
              have dn4 : decide (n ≤ (4 : Int)) = false := decide_eq_false fun h4 => h14 ⟨h1, h4⟩
              clear h14 h1
            rotate_left
            focus
              have dn1 : decide ((1 : Int) ≤ n) = false := decide_eq_false h1
              clear h14 h1
            all_goals
              have HDI := Lib.hid (fun W (hb : Below wz.heap.size wz W) => cdisc21_none W p _ _ _ n (HTz.out.below hb) HLz.out hab)
              have HSE := Lib.hid (fun W (hb : Below wz.heap.size wz W) pid t => csend21_none W p _ _ _ n (HTz.out.below hb) HLz.out hab pid t)
              have HHO := Lib.hid (fun W (hb : Below wz.heap.size wz W) on => chold21_none W p _ _ _ n (HTz.out.below hb) HLz.out hab on)
              have HPE := Lib.hid (fun W (hb : Below wz.heap.size wz W) => cpeer21_none W p _ _ _ n (HTz.out.below hb) HLz.out hab)
              have hst := fun W (hb : Below wz.heap.size wz W) => cstate21 W p _ _ _ n (HTz.out.below hb) HLz.out
              unfold stateT at hst
              rw [hab] at hst
              have HST := Lib.hid hst
              have HWI := Lib.hid (fun W (hb : Below wz.heap.size wz W) => cwide21_none W p _ _ _ n (HTz.out.below hb) HLz.out hab)
              have HWA := Lib.hid (fun W (hb : Below wz.heap.size wz W) => cwaits21_none W p _ _ _ n (HTz.out.below hb) HLz.out hab)
              have heq0 := fun W => run_eq_call18 ⟨#[]⟩ ⟨#[]⟩ 0 0 W true (by decide)
              clear hst hab
              go_wp2_with (first
                | (go_at_call 48; (with_reducible refine (HDI.out _ (Below.refl _ _)).mono ?_); rintro e a1 ⟨rfl, hb⟩; have HA1 := Lib.hid hb; clear hb)
                | (go_at_call 49; (with_reducible refine (HSE.out _ HA1.out _ _).mono ?_); rintro e a2 ⟨rfl, hb⟩; have HA2 := Lib.hid (HA1.out.trans (hb.mono HA1.out.size)); clear hb)
                | (go_at_call 50; (with_reducible refine (HHO.out _ HA2.out _).mono ?_); rintro e a3 ⟨rfl, hb⟩; have HA3 := Lib.hid (HA2.out.trans (hb.mono HA2.out.size)); clear hb)
                | (go_at_call 51; (with_reducible refine (HPE.out _ HA3.out).mono ?_); rintro e a4 ⟨rfl, hb⟩; have HA4 := Lib.hid (HA3.out.trans (hb.mono HA3.out.size)); have HA5 := Lib.hid (HA4.out.alloc HA4.out.size (.cells #[.string ⟨#[]⟩, .int .i64 0] 54)); clear hb)
                | (go_at_call 47; (with_reducible refine (HST.out _ HA5.out).mono ?_); rintro e a6 ⟨rfl, hb⟩; have HA6 := Lib.hid (HA5.out.trans (hb.mono HA5.out.size)); clear hb)
                | (go_at_call 52; (with_reducible refine (HWI.out _ HA6.out).mono ?_); rintro e a7 ⟨rfl, hb⟩; have HA7 := Lib.hid (HA6.out.trans (hb.mono HA6.out.size)); clear hb)
                | (go_at_call 53; (with_reducible refine (HWA.out _ HA7.out).mono ?_); rintro e a8 ⟨rfl, hb⟩; have HA8 := Lib.hid (HA7.out.trans (hb.mono HA7.out.size)); clear hb))
              exact bodyPost_ret (v := .bool true) (by simp [results, Tryz.results10, go_sem]) rfl ⟨rfl, HB1.out.trans ((HBz.out.trans (HA8.out.mono HBz.out.size)).mono HB1.out.size)⟩
end
end Go.Proofs.YtgoaepjjegblnaaGreatDoor
