/-
The landed air's Tick.
-/
import Derived.Test.YtgfipndilngfbaaAirCTickP
namespace Go.Proofs.Ytgfipndilngfbaa
open Go.RowKit
set_option maxRecDepth 20000
/-- a delete that runs so, as the next operation -/
theorem wpList_delete_run {P : Program} {t k : TypeId} (w : World) {ops : Array Oper} {rest : List Oper} {o : Oper} {a : Act} {Q : Exit → Act → World → Prop} (hgd : o.guard = none) (s x : Operand) (ho : o.op = .call { callee := .builtin .delete, args := #[s, x], argTypes := #[t, k] })
    {vs vx v' : Value} {w' : World} (hs : a.eval s = vs) (hx : a.eval x = vx) (hr : (Builtin.delete_ #[t, k] o.type #[vs, vx]).run P w = .ok v' w') (h : wpList P ops Q rest (a.put o.dst v') w') : wpList P ops Q (o :: rest) a w := by
  refine wpList_plain hgd fun K hK => ?_
  unfold Oper.wp execOp
  simp only [ho, resolve, invoke, builtin, Sem.run_bind, Sem.run_pure, Result.andThen_ok, List.map_toArray, List.map_cons, List.map_nil, hs, hx, hr]
  exact hK _ _ h
set_option maxHeartbeats 4000000 in
theorem ctick15 (w : World) (a n : Nat) (H : Nat → Nat → Bool) (S : Ai) (F : Nat → Prop) (h : AirL w a n H S F) :
    Calls Try.prog 12 #[ptrV a] w fun e w' => ∃ F' v, e = .returned v ∧ AirL w' a n H (tickS H n S) F' ∧ Turn F w w' ∧ Grew F F' w ∧ SeeL encG w' v (toldS H n S) := by
  obtain ⟨p, m, hh, Fp, M, G, T, hA, hT, rfl⟩ := h
  have hn := hA.many
  have HA := Lib.hid hA
  have HT := Lib.hid hT
  have HLT := Lib.hid (show a < w.heap.size ∧ m < w.heap.size ∧ hh < w.heap.size ∧ ∀ y, Fp y → y < w.heap.size from ⟨hA.row.lt, hA.on.lt, hA.said.lt, hA.plane.mem⟩)
  have h0 : S 0 = none := (hA.off 0 (hA.inside 0 (by omega))).1
  have HO := Lib.hid h0
  have HIN := Lib.hid (show ∀ j, n < j → S j = none from fun j hj => (hA.off j (hA.inside j (by omega))).1)
  have HST := Lib.hid (show TiA w a n H S p m hh Fp M G T 0 (.slice none 0 0) G T w from ⟨hA, fun _ _ => ⟨rfl, rfl⟩, (fun j B hj hB _ => absurd ((show S 0 = some B from (show j = 0 by omega) ▸ hB).symm.trans h0) (fun q => by cases q)), Turn.refl _ _, fun _ => Grew.refl _ _, OwnL.nil _ _ _ _, fun g e => by cases e⟩)
  have HTL := Lib.hid (told_le H n S hn.2)
  clear hA hT h0
  go_enter Try.func12, Try.ntmps12
  go_wp2_with fail
  go_loopw [3, 4] (fun lv iv wx => ∃ (k : Nat) (lv' : Value), k ≤ n ∧ iv = .int .i64 ((k : Int) + 1) ∧ lv' = lv ∧ Hid (∃ G' T', TiA w a n H S p m hh Fp M G T k lv' G' T' wx)) (fun _ iv _ => n + 1 - (intOf iv).toNat)
  case atStart => exact ⟨0, _, Nat.zero_le _, rfl, rfl, Lib.hid ⟨G, T, HST.out⟩⟩
  case round =>
    obtain ⟨k, lv, hk, rfl, rfl, HK⟩ := hrel
    clear HST
    obtain ⟨G', T', hI⟩ := HK.out
    have HI := Lib.hid hI
    have c0 := HI.out.air.row.cell 0 rfl
    have c1 := HI.out.air.row.cell 1 rfl
    have HL := Lib.hid HI.out.air.plane.len
    clear HK hI
    by_cases hlt : k < n
    · have dk : decide ((k : Int) + 1 ≤ (n : Int)) = true := decide_eq_true (by omega)
      have HZ := Lib.hid (show wrap64 ((k : Int) + 1 + 1) = (k : Int) + 1 + 1 from IntWalk.wrap64_in _ (by omega))
      have hlk : (Instr.lookup 65 (.map (some m)) (.int .i64 ((k : Int) + 1)) true).run Try.prog wr = .ok (.tuple #[ptrO (M (k + 1)), .bool (M (k + 1)).isSome]) wr := HI.out.air.on.look (k + 1) (by omega)
      cases hM : M (k + 1) with
      | none =>
        rw [hM] at hlk
        simp only [ptrO, Option.map, Option.isSome_none] at hlk
        have HN := Lib.hid (HI.out.none_ (HA.out.off (k + 1) hM).1)
        clear hM
        go_wp2_with (go_at_call 26; (with_reducible refine HL.out.mono ?_); rintro e w1 ⟨rfl, rfl⟩)
        go_roundw
        case rel => exact ⟨k + 1, _, by omega, by (try rw [HZ.out]); exact congrArg (Value.int .i64) (by omega), rfl, Lib.hid ⟨_, _, HN.out⟩⟩
        case measure =>
          try rw [HZ.out]
          simp [intOf]
          omega
      | some b =>
        obtain ⟨B, hS, -, hb, -⟩ := HI.out.air.bu (k + 1) b hM
        rw [hM] at hlk
        simp only [ptrO, Option.map, Option.isSome_some] at hlk
        have HS := Lib.hid (csending15 wr b B _ _ hb)
        cases hs : sendB B with
        | false =>
          rw [hs] at HS
          have HN := Lib.hid (HI.out.still B hS hs)
          clear hM hS hb hs
          go_wp2_with (first
            | (go_at_call 26; (with_reducible refine HL.out.mono ?_); rintro e w1 ⟨rfl, rfl⟩)
            | (go_at_call 27; (with_reducible refine HS.out.mono ?_); rintro e w1 ⟨rfl, rfl⟩))
          go_roundw
          case rel => exact ⟨k + 1, _, by omega, by (try rw [HZ.out]); exact congrArg (Value.int .i64) (by omega), rfl, Lib.hid ⟨_, _, HN.out⟩⟩
          case measure =>
            try rw [HZ.out]
            simp [intOf]
            omega
        | true =>
          rw [hs] at HS
          have HC := Lib.hid (show Calls Try.prog 28 #[ptrV a, .int .i64 ((k : Int) + 1), ptrV b] wr (SoundTo wr a n H S p m hh Fp M G' T' (k + 1) (takersL n (clearB H n S (k + 1) B)) (comesB H n S (k + 1) B)) from
            csound15 HI.out.air (k + 1) b B hM hS hs fun q => (HI.out.rest (k + 1) (Nat.lt_succ_self k)).2.trans ((HT.out (k + 1) B hS).1 q))
          unfold SoundTo at HC
          have HTK := Lib.hid (HTL.out k)
          have HCL := Lib.hid (comes_le H n S (k + 1) B)
          have HSS := Lib.hid hS
          clear hM hS hb hs
          go_wp2_with (first
            | (go_at_call 26; (with_reducible refine HL.out.mono ?_); rintro e w1 ⟨rfl, rfl⟩)
            | (go_at_call 27; (with_reducible refine HS.out.mono ?_); rintro e w1 ⟨rfl, rfl⟩)
            | (go_at_call 28; (with_reducible refine HC.out.mono ?_); rintro e w5 ⟨v5, G5, rfl, ha5, ht5, hg5, ho5⟩
               obtain ⟨q1, q2, q3, q4⟩ := HI.out.sent HLT.out B HSS.out ha5 ht5 hg5 ho5
               obtain ⟨v6, w6, hrun, r1, r2, r3⟩ := append_gots15 w5 34 lv v5 w.heap.size _ _ q1 q2 (by have := HTK.out; have := HCL.out; omega) q3
               have HX := Lib.hid (q4 _ _ r1 r2 r3)
               clear ha5 ht5 hg5 ho5 q1 q2 q3 q4 r1 r2 r3)
            | (at_builtin; refine wpList_append_run _ rfl (.tmp 35) (.tmp 39) rfl rfl rfl hrun ?_))
          go_roundw
          case rel => exact ⟨k + 1, _, by omega, by (try rw [HZ.out]); exact congrArg (Value.int .i64) (by omega), rfl, Lib.hid ⟨_, _, HX.out⟩⟩
          case measure =>
            try rw [HZ.out]
            simp [intOf]
            omega
    · have e : k = n := by omega
      have dk : decide ((k : Int) + 1 ≤ (n : Int)) = false := decide_eq_false (by omega)
      have HTI := Lib.hid (show TiA w a n H S p m hh Fp M G T n lv G' T' wr from e ▸ HI.out)
      have HB0 := Lib.hid (show TiB w a n H S p m hh Fp M G T' lv 0 M G' wr from ⟨by rw [mid_start H n S HO.out]; exact HTI.out.air, fun _ _ q => q, HTI.out.turn, HTI.out.grew, HTI.out.told⟩)
      have HTD := Lib.hid (fun j B hj hS hs => HTI.out.done j B hj hS hs)
      clear HI e
      go_wp2_with (go_at_call 26; (with_reducible refine HL.out.mono ?_); rintro e w1 ⟨rfl, rfl⟩)
      clear HL c0 c1 dk HTI hlt hk
      go_loopw [7] (fun iv wx => ∃ k2 : Nat, k2 ≤ n ∧ iv = .int .i64 ((k2 : Int) + 1) ∧ Hid (∃ M' G2, TiB w a n H S p m hh Fp M G T' lv k2 M' G2 wx)) (fun iv _ => n + 1 - (intOf iv).toNat)
      case atStart => exact ⟨0, Nat.zero_le _, rfl, Lib.hid ⟨_, _, HB0.out⟩⟩
      case round =>
        obtain ⟨k2, hk2, rfl, HK⟩ := hrel
        clear HB0
        obtain ⟨M2, G2, hI⟩ := HK.out
        have HI := Lib.hid hI
        have c0 := HI.out.air.row.cell 0 rfl
        have c1 := HI.out.air.row.cell 1 rfl
        have HL := Lib.hid HI.out.air.plane.len
        clear HK hI
        by_cases hlt2 : k2 < n
        · have dk : decide ((k2 : Int) + 1 ≤ (n : Int)) = true := decide_eq_true (by omega)
          have HZ := Lib.hid (show wrap64 ((k2 : Int) + 1 + 1) = (k2 : Int) + 1 + 1 from IntWalk.wrap64_in _ (by omega))
          have hlk : (Instr.lookup 65 (.map (some m)) (.int .i64 ((k2 : Int) + 1)) true).run Try.prog wr = .ok (.tuple #[ptrO (M2 (k2 + 1)), .bool (M2 (k2 + 1)).isSome]) wr := HI.out.air.on.look (k2 + 1) (by omega)
          have hmid : midS H n S k2 (k2 + 1) = S (k2 + 1) := by unfold midS; rw [if_neg (by omega)]
          cases hM : M2 (k2 + 1) with
          | none =>
            rw [hM] at hlk
            simp only [ptrO, Option.map, Option.isSome_none] at hlk
            have HN := Lib.hid (HI.out.none_ (hmid ▸ (HI.out.air.off (k2 + 1) hM).1))
            clear hM hmid
            go_wp2_with (go_at_call 26; (with_reducible refine HL.out.mono ?_); rintro e w1 ⟨rfl, rfl⟩)
            go_roundw
            case rel => exact ⟨k2 + 1, by omega, by (try rw [HZ.out]); exact congrArg (Value.int .i64) (by omega), Lib.hid ⟨_, _, HN.out⟩⟩
            case measure =>
              try rw [HZ.out]
              simp [intOf]
              omega
          | some b =>
            obtain ⟨B, hS, -, hb, hok⟩ := HI.out.air.bu (k2 + 1) b hM
            rw [hmid] at hS
            rw [hM] at hlk
            simp only [ptrO, Option.map, Option.isSome_some] at hlk
            have HP := Lib.hid (cpass15 wr b B _ _ hb hok (HT.out (k2 + 1) B hS).2 H n S (k2 + 1))
            unfold PassTo at HP
            have HPS := Lib.hid (fun W1 q1 q2 => HI.out.pass (W1 := W1) HA.out b B hM hok q1 q2)
            have hsk := step_ok hok H n S (k2 + 1)
            have HLF := Lib.hid (fun W q => cbleft15 W b (stepB H n S (k2 + 1) B) (T' (k2 + 1)) (G2 (k2 + 1)) q hsk.lead hsk.tail hsk.many hsk.size (by have := hsk.in_; omega))
            by_cases hl : (stepB H n S (k2 + 1) B).left = 0
            · have dl : (((stepB H n S (k2 + 1) B).left : Int) == 0) = true := by rw [hl]; rfl
              have HGO := Lib.hid (fun W1 W2 q1 q2 q3 q4 q5 => HI.out.goes (W1 := W1) (W2 := W2) HLT.out.2.1 B hS hl q1 q2 q3 q4 q5)
              generalize (stepB H n S (k2 + 1) B).left = sl at *
              generalize stepB H n S (k2 + 1) B = SB at *
              clear hM hS hb hok hsk hmid hl
              go_wp2_with (first
                | (go_at_call 26; (with_reducible refine HL.out.mono ?_); rintro e w1 ⟨rfl, rfl⟩)
                | (go_at_call 29; (with_reducible refine HP.out.mono ?_); rintro e w5 ⟨rfl, hb5, ht5⟩
                   have HX := Lib.hid (HPS.out _ hb5 ht5)
                   have HB5 := Lib.hid hb5
                   clear hb5 ht5)
                | (go_at_call 24; (with_reducible refine (HLF.out _ HB5.out).mono ?_); rintro e w6 ⟨rfl, hb6⟩
                   have d1 := (HX.out.1.below hb6).row.cell 1 rfl
                   obtain ⟨w7, hrun, hon, hmt⟩ := (HX.out.1.below hb6).on.del (k2 + 1) (by omega) 0
                   have hdel : (Builtin.delete_ #[65, 3] 0 #[.map (some m), .int .i64 ((k2 : Int) + 1)]).run Try.prog w6 = .ok (.tuple #[]) w7 := hrun
                   have HN := Lib.hid (HGO.out w6 w7 (HX.out.1.below hb6) (HX.out.2.1.then_ hb6) (OwnL.below HX.out.2.2 hb6) hon hmt)
                   clear hb6 hrun hon hmt)
                | (at_delete; refine wpList_delete_run _ rfl (.tmp 68) (.tmp 69) rfl rfl rfl hdel ?_))
              go_roundw
              case rel => exact ⟨k2 + 1, by omega, by (try rw [HZ.out]); exact congrArg (Value.int .i64) (by omega), Lib.hid ⟨_, _, HN.out⟩⟩
              case measure =>
                try rw [HZ.out]
                simp [intOf]
                omega
            · have dl : (((stepB H n S (k2 + 1) B).left : Int) == 0) = false := by rw [beq_eq_false_iff_ne]; omega
              have HGO := Lib.hid (fun W1 W2 q1 q2 q3 q4 => HI.out.stays (W1 := W1) (W2 := W2) B hS hl q1 q2 q3 q4)
              generalize (stepB H n S (k2 + 1) B).left = sl at *
              generalize stepB H n S (k2 + 1) B = SB at *
              clear hM hS hb hok hsk hmid hl
              go_wp2_with (first
                | (go_at_call 26; (with_reducible refine HL.out.mono ?_); rintro e w1 ⟨rfl, rfl⟩)
                | (go_at_call 29; (with_reducible refine HP.out.mono ?_); rintro e w5 ⟨rfl, hb5, ht5⟩
                   have HX := Lib.hid (HPS.out _ hb5 ht5)
                   have HB5 := Lib.hid hb5
                   clear hb5 ht5)
                | (go_at_call 24; (with_reducible refine (HLF.out _ HB5.out).mono ?_); rintro e w6 ⟨rfl, hb6⟩
                   have HN := Lib.hid (HGO.out _ w6 HX.out.1 HX.out.2.1 HX.out.2.2 hb6)
                   clear hb6))
              go_roundw
              case rel => exact ⟨k2 + 1, by omega, by (try rw [HZ.out]); exact congrArg (Value.int .i64) (by omega), Lib.hid ⟨_, _, HN.out⟩⟩
              case measure =>
                try rw [HZ.out]
                simp [intOf]
                omega
        · have e : k2 = n := by omega
          have dk : decide ((k2 : Int) + 1 ≤ (n : Int)) = false := decide_eq_false (by omega)
          have HE := Lib.hid (show TiB w a n H S p m hh Fp M G T' lv n M2 G2 wr from e ▸ HI.out)
          clear HI e
          go_wp2_with (go_at_call 26; (with_reducible refine HL.out.mono ?_); rintro e w1 ⟨rfl, rfl⟩)
          have hair := HE.out.air
          rw [mid_end H n S HIN.out] at hair
          refine bodyPost_ret (v := lv) (by simp [results, Try.results12, go_sem]) rfl ⟨_, lv, rfl, ⟨p, m, hh, Fp, M2, G2, T', hair, fun i B' hB' => ?_, rfl⟩, HE.out.turn, foot_grew HE.out.grew, HE.out.told.see⟩
          have hB2 := hB'
          unfold tickS at hB'
          cases hS : S i with
          | none => rw [hS] at hB'; cases hB'
          | some B =>
            rw [hS] at hB'
            simp only [Option.bind] at hB'
            by_cases hl : (stepB H n S i B).left = 0
            · rw [if_pos hl] at hB'; cases hB'
            · rw [if_neg hl] at hB'
              cases hB'
              refine ⟨fun hw => ?_, by omega⟩
              have hi : i ≤ n := by
                by_cases hi : i ≤ n
                · exact hi
                · rw [HIN.out i (by omega)] at hS; cases hS
              have hokB : BuOk B := by
                cases hM : M i with
                | none => rw [(HA.out.off i hM).1] at hS; cases hS
                | some b =>
                  obtain ⟨B0, h1, -, -, h4⟩ := HA.out.bu i b hM
                  rw [hS] at h1
                  cases h1
                  exact h4
              obtain ⟨q1, q2⟩ := step_clear H n S i B hokB hw
              rw [q2]
              exact HTD.out i B hi hS q1
end Go.Proofs.Ytgfipndilngfbaa
