/-
The document's own Get of controls, wide, of two bytes and more, where one is enough: the walk.
-/
import Derived.Test.YtadhiknmkiogjaaDoorCtlRGetA
namespace Go.Proofs.YtadhiknmkiogjaaDoor
open Go.RowKit Go.Sort
set_option maxRecDepth 20000
set_option maxHeartbeats 4000000 in
theorem r6get_wide3 (s : ByteArray) (b : UInt8) (y : UInt8) (t : List UInt8) (w : World) (ht : s.data.toList = b :: y :: t) (h3 : (b.toNat % 4 != 3) = false) :
    Calls Tryd.prog 45 #[.string s, .bool true] w fun e w' => e = .returned (gotU (refGet s.data.toList true)) ∧ Below w.heap.size w w' := by
  have hz : s.size = s.data.toList.length := by simp
  have n0 : 0 < s.size := by rw [hz, ht]; simp
  have e0 := head_at s b (y :: t) ht n0
  have n1 : 1 < s.size := by rw [hz, ht]; simp
  have e1 := next_at s b y t ht n1
  have dl : decide ((s.size : Int) < 2) = false := decide_eq_false (by omega)
  have dl2 : decide ((2 : Int) ≤ (s.size : Int)) = true := decide_eq_true (by omega)
  have dl1 : decide ((1 : Int) ≤ (s.size : Int)) = true := decide_eq_true (by omega)
  have HB0 := Lib.hid ((Below.refl _ w).alloc (Nat.le_refl _) (.cells #[.int .i64 0, .int .i64 0, .int .i64 0, .bool false] 71))
  have HR0 := Lib.hid (C4.new w w.heap.size rfl (.int .i64 0) (.int .i64 0) (.int .i64 0) (.bool false) 71)
  have he := txt_full s n0
  have HG := Lib.hid (show refGet s.data.toList true = match seekD true b.toNat (y :: t) 28 0 with | none => (0, 0, 0, false, 0, 2) | some (k, p) => (k, tryNr k b.toNat (sndN (y :: t)) true, tryNs k b.toNat true, p, (if true && decide (k ≤ 5) then 2 else 1), 0) from by rw [ht]; exact get_seek _ _ _ (by simp))
  have HS := Lib.hid (fun k p => seek_step true b.toNat (y :: t) k p)
  have HTL := Lib.hid (fun k p (h1 : 1 ≤ k) (h2 : k ≤ 14) => hit_doc k p true b (y :: t) h1 h2)
  have HTP := Lib.hid (fun k p (h1 : 1 ≤ k) (h2 : k ≤ 14) W => try_put k b.toNat (sndN (y :: t)) p true h1 h2 b.toNat_lt (snd_lt (y :: t)) W)
  obtain ⟨PX, hpx, hsl0⟩ := pick_text s 1 (by omega)
  have hsl : ∀ W, (Instr.slice 9 (.string s) none (some (.int .i64 1)) none).run Tryd.prog W = .ok (.string PX) W := hsl0
  have HPX := Lib.hid (show PX.data.toList = List.take 1 (b :: (y :: t)) from by rw [hpx, ht])
  obtain ⟨PY, hpy, hsl3⟩ := pick_text s 2 (by omega)
  have hsl2 : ∀ W, (Instr.slice 9 (.string s) none (some (.int .i64 2)) none).run Tryd.prog W = .ok (.string PY) W := hsl3
  have HPY := Lib.hid (show PY.data.toList = List.take 2 (b :: y :: t) from by rw [hpy, ht])
  clear hpy hsl3
  obtain ⟨G, hG⟩ : ∃ G, G = refGet s.data.toList true := ⟨_, rfl⟩
  rw [← hG] at HG ⊢
  obtain ⟨B, hB⟩ : ∃ B, B = b.toNat := ⟨_, rfl⟩
  have HBN := Lib.hid hB.symm
  have hBl : B < 256 := by rw [hB]; exact b.toNat_lt
  obtain ⟨X, hX⟩ : ∃ X : Int, X = (B : Int) := ⟨_, rfl⟩
  have e8 : (((s[0]'n0).toNat : Nat) : Int) = X := by rw [e0, hX, hB]
  have hw0 := wrap_num B hBl
  rw [← hX] at hw0
  obtain ⟨B2, hB2⟩ : ∃ n, n = B / 2 := ⟨_, rfl⟩
  have hq2 := quo2_num B hBl
  rw [← hB2, ← hX] at hq2
  have hq2w : wrap64 ((wrap64 X).tdiv 2) = (B2 : Int) := by rw [hw0]; exact hq2
  have hq2' : wrap64 X / 2 = (B2 : Int) := by rw [hw0, hX, hB2]; omega
  clear hq2
  have HB2N := Lib.hid hB2.symm
  clear hB2
  obtain ⟨hm3, hm4⟩ := rem4_num B hBl _ (hB ▸ h3)
  rw [← hX] at hm3 hm4
  rw [← hw0] at hm3 hm4
  have hm5 : wrap64 X % 4 = 3 := by rw [hw0, hX]; have k9 := bne_eq_false_iff_eq.1 (hB ▸ h3); omega
  obtain ⟨Y, hY⟩ : ∃ Y, Y = y.toNat := ⟨_, rfl⟩
  have HYN := Lib.hid (show sndN (y :: t) = Y from hY.symm)
  have hYl : Y < 256 := by rw [hY]; exact y.toNat_lt
  obtain ⟨Z, hZ⟩ : ∃ Z : Int, Z = (Y : Int) := ⟨_, rfl⟩
  have e9 : (((s[1]'n1).toNat : Nat) : Int) = Z := by rw [e1, hZ, hY]
  have hwY := wrap_num Y hYl
  rw [← hZ] at hwY
  obtain ⟨Y2, hY2⟩ : ∃ n, n = Y / 2 := ⟨_, rfl⟩
  have hqY := quo2_num Y hYl
  rw [← hY2, ← hZ] at hqY
  have hqY' : Z / 2 = (Y2 : Int) := by rw [hZ, hY2]; omega
  have hqYw : wrap64 Z / 2 = (Y2 : Int) := by rw [hwY]; exact hqY'
  have hqYv : wrap64 ((wrap64 Z).tdiv 2) = (Y2 : Int) := by rw [hwY]; exact hqY
  have HY2 := Lib.hid hY2.symm
  clear hY e1 hY2 hZ
  clear hG hpx hsl0 ht e0 hB hX hz hBl hw0 hYl h3
  go_enter Tryd.func45, Tryd.ntmps45
  go_wp2_with fail
  clear hm3 hm4 hm5
  go_loopw [8] (fun kv wx => ∃ k : Nat, 1 ≤ k ∧ k ≤ 15 ∧ kv = .int .i64 k ∧ Hid (Below w.heap.size w wx ∧ C4 wx w.heap.size (.int .i64 0) (.int .i64 0) (.int .i64 0) (.bool false) ∧ seekD true b.toNat (y :: t) 28 0 = seekD true b.toNat (y :: t) (28 - 2 * (k - 1)) (2 * (k - 1)))) (fun kv _ => 15 - (intOf kv).toNat)
  case atStart => exact ⟨1, by omega, by omega, rfl, Lib.hid ⟨HB0.out, HR0.out, rfl⟩⟩
  case round =>
    obtain ⟨k, hk1, hk, rfl, HQ⟩ := hrel
    by_cases hlt : k ≤ 14
    · have dk : decide ((k : Int) ≤ 14) = true := decide_eq_true (by omega)
      go_wp2_with fail
      go_loopw [9] (fun pv wx => ∃ p : Nat, p ≤ 2 ∧ pv = .int .i64 p ∧ Hid (Below w.heap.size w wx ∧ C4 wx w.heap.size (.int .i64 0) (.int .i64 0) (.int .i64 0) (.bool false) ∧ seekD true b.toNat (y :: t) 28 0 = seekD true b.toNat (y :: t) (28 - (2 * (k - 1) + p)) (2 * (k - 1) + p))) (fun pv _ => 2 - (intOf pv).toNat)
      case atStart => exact ⟨0, by omega, rfl, HQ⟩
      case round =>
        obtain ⟨p, hp, rfl, HP⟩ := hrel
        by_cases hpl : p < 2
        · have dp : decide ((p : Int) < 2) = true := decide_eq_true (by omega)
          clear HQ
          obtain ⟨r0, r1, r2, r3, f0, f1, f2, f3, rl⟩ := HP.out.2.1
          obtain ⟨pb, hpb⟩ : ∃ pb, pb = (p == 1) := ⟨_, rfl⟩
          have hb1 : ((p : Int) == 1) = pb := by rw [hpb, Bool.eq_iff_iff, beq_iff_eq, beq_iff_eq]; omega
          have hb2 : (p == 1) = pb := hpb.symm
          clear hpb
          by_cases h1 : k = 1
          · have d1 : (k == 1) = true := by simpa using h1
            have d1' : ((k : Int) == 1) = true := by rw [beq_iff_eq]; omega
            have d5 : decide (k ≤ 5) = true := decide_eq_true (by omega)
            have d5' : decide ((k : Int) ≤ 5) = true := decide_eq_true (by omega)
            have HK1 := Lib.hid h1
            clear h1
            have hL : (tryL k pb true b (y :: t)).length = 2 := by
              unfold tryL
              have := HK1.out; rw [doc_len, decide_eq_true (by omega)]; rfl
            obtain ⟨hH, -, hX⟩ := HTL.out k pb hk1 hlt (by intro _; simp)
            have hS := HS.out k p hk1 hlt hpl
            rw [hb2] at hS
            have hTP := HTP.out k pb hk1 hlt
            obtain ⟨L, hLL⟩ : ∃ L, L = tryL k pb true b (y :: t) := ⟨_, rfl⟩
            rw [← hLL] at hL hH hX
            have hPU : ∀ W, Calls Tryd.prog 41 #[.agg #[.int .i64 (k : Int), .int .i64 (Y2 : Int), .int .i64 (B2 : Int), .bool pb], .bool true] W fun e w' => (∃ g c, e = .returned (.slice (some ⟨g, 0, none⟩) 2 c) ∧ IntsAt w' g L) ∧ Below W.heap.size W w' := fun W => by
              have k9 := hTP W
              unfold Put6To at k9
              rw [show docN k (tryNr k b.toNat (sndN (y :: t)) true) (tryNs k b.toNat true) pb true = L from hLL.symm, hL] at k9
              rw [show ((tryNr k b.toNat (sndN (y :: t)) true : Nat) : Int) = (Y2 : Int) from by have := HK1.out; unfold tryNr; rw [if_pos (by omega), if_pos rfl, HYN.out, HY2.out], show ((tryNs k b.toNat true : Nat) : Int) = (B2 : Int) from by unfold tryNs; rw [if_pos HK1.out, if_pos rfl, HBN.out, HB2N.out]] at k9
              exact k9
            obtain ⟨TT, hTT⟩ : ∃ TT : ByteArray, TT = ⟨(L.map UInt8.ofNat).toArray⟩ := ⟨_, rfl⟩
            have hTX : ∀ g c W, IntsAt W g L → Calls Tryd.prog 40 #[.slice (some ⟨g, 0, none⟩) 2 c] W fun e w' => e = .returned (.string TT) ∧ Below W.heap.size W w' := fun g c W h => by
              have k9 := text6_any g c L W hX (by omega) h
              rw [hL] at k9
              rw [hTT]
              exact k9
            have heq : (TT.toList == PY.toList) = hitD k pb true b.toNat (y :: t) := by
              rw [hTT, hH, ← back_arr PY, HPY.out]
              refine seq_bytes _ _ _ ?_
              rw [hL]
            have HPU := Lib.hid hPU
            have HTX := Lib.hid hTX
            have HCN := Lib.hid (C4.new wr wr.heap.size rfl (.int .i64 (k : Int)) (.int .i64 (Y2 : Int)) (.int .i64 (B2 : Int)) (.bool pb) 71)
            have HB1 := Lib.hid (HP.out.1.alloc HP.out.1.size (.cells #[.int .i64 (k : Int), .int .i64 (Y2 : Int), .int .i64 (B2 : Int), .bool pb] 71))
            have HR1 := Lib.hid (HP.out.2.1.alloc (.cells #[.int .i64 (k : Int), .int .i64 (Y2 : Int), .int .i64 (B2 : Int), .bool pb] 71))
            have HSS := Lib.hid hS
            have HSQ := Lib.hid HP.out.2.2
            have hrw : w.heap.size < wr.heap.size := HP.out.2.1.lt
            clear hPU hTX hTT hLL hL hH hS hTP hX HP
            cases hh : hitD k pb true b.toNat (y :: t)
            · rw [hh] at heq
              go_wp2_with (go_at_call 41; (with_reducible refine (HPU.out _).mono ?_); rintro e w1 ⟨⟨g, c, rfl, hI⟩, hb9⟩; have HI := Lib.hid hI; have HC1 := Lib.hid (HCN.out.below hb9); have HB2 := Lib.hid (HB1.out.trans (hb9.mono HB1.out.size)); have HR2 := Lib.hid (HR1.out.below hb9); clear hI hb9 HB1 HR1 HCN HPU)
              refine wp_region_quiet_below (by kernel_rfl) (by kernel_rfl) ?_
              repeat (quiet_step (first | (go_at_call 40; with_reducible exact Calls.regrown_of (HTX.out g c _ (HI.out.below (below_regrown _ _ _))))))
              refine wpQuiet_nil ?_
              intro _ hw'
              obtain ⟨pg, hw''⟩ := hw'
              subst hw''
              have hb9 := below_regrown w1 pg.d pg.os
              have HC := Lib.hid (HC1.out.below hb9)
              have HB3 := Lib.hid (HB2.out.trans (hb9.mono HB2.out.size))
              have HR3 := Lib.hid (HR2.out.below hb9)
              generalize grow (redrawn w1 pg.d) pg.os = w2 at *
              clear hb9 HB2 HR2 HC1 HI
              obtain ⟨c0, c1, c2, c3, -, -, -, -, cl⟩ := HC.out
              clear r0 r1 r2 r3 f0 f1 f2 f3 rl
              obtain ⟨r0, r1, r2, r3, f0, f1, f2, f3, rl⟩ := HR3.out
              go_wp2_with fail
              go_roundw
              case rel => exact ⟨p + 1, by omega, by go_num, Lib.hid ⟨HB3.out, HR3.out, by rw [HSQ.out, HSS.out, hh]; rfl⟩⟩
              case measure => simp [intOf]; omega
            · rw [hh] at heq
              go_wp2_with (go_at_call 41; (with_reducible refine (HPU.out _).mono ?_); rintro e w1 ⟨⟨g, c, rfl, hI⟩, hb9⟩; have HI := Lib.hid hI; have HC1 := Lib.hid (HCN.out.below hb9); have HB2 := Lib.hid (HB1.out.trans (hb9.mono HB1.out.size)); have HR2 := Lib.hid (HR1.out.below hb9); clear hI hb9 HB1 HR1 HCN HPU)
              refine wp_region_quiet_below (by kernel_rfl) (by kernel_rfl) ?_
              repeat (quiet_step (first | (go_at_call 40; with_reducible exact Calls.regrown_of (HTX.out g c _ (HI.out.below (below_regrown _ _ _))))))
              refine wpQuiet_nil ?_
              intro _ hw'
              obtain ⟨pg, hw''⟩ := hw'
              subst hw''
              have hb9 := below_regrown w1 pg.d pg.os
              have HC := Lib.hid (HC1.out.below hb9)
              have HB3 := Lib.hid (HB2.out.trans (hb9.mono HB2.out.size))
              have HR3 := Lib.hid (HR2.out.below hb9)
              generalize grow (redrawn w1 pg.d) pg.os = w2 at *
              clear hb9 HB2 HR2 HC1 HI
              obtain ⟨c0, c1, c2, c3, -, -, -, -, cl⟩ := HC.out
              clear r0 r1 r2 r3 f0 f1 f2 f3 rl
              obtain ⟨r0, r1, r2, r3, f0, f1, f2, f3, rl⟩ := HR3.out
              go_wp2_with fail
              have S4 := stored4 (.int .i64 (k : Int)) (.int .i64 (Y2 : Int)) (.int .i64 (B2 : Int)) (.bool pb) HR3.out
              have HBF := Lib.hid (set4_below HB3.out (Nat.le_refl _) (.int .i64 (k : Int)) (.int .i64 (Y2 : Int)) (.int .i64 (B2 : Int)) (.bool pb))
              exact bodyPost_ret (v := .tuple #[.agg #[.int .i64 (k : Int), .int .i64 (Y2 : Int), .int .i64 (B2 : Int), .bool pb], .int .i64 2, .int .i64 0]) (by simp [results, Tryd.results45, go_sem, S4.c0, S4.c1, S4.c2, S4.c3]) rfl ⟨by
                rw [HG.out, HSQ.out, HSS.out, hh, if_pos rfl]
                dsimp only
                unfold gotU
                dsimp only
                rw [show ((tryNr k b.toNat (sndN (y :: t)) true : Nat) : Int) = (Y2 : Int) from by have := HK1.out; unfold tryNr; rw [if_pos (by omega), if_pos rfl, HYN.out, HY2.out], show ((tryNs k b.toNat true : Nat) : Int) = (B2 : Int) from by unfold tryNs; rw [if_pos HK1.out, if_pos rfl, HBN.out, HB2N.out]]
                have := HK1.out; rw [if_pos (by rw [decide_eq_true (by omega)]; rfl)]
                rfl, HBF.out⟩
          · have d1 : (k == 1) = false := by simpa using h1
            have d1' : ((k : Int) == 1) = false := by rw [beq_eq_false_iff_ne]; omega
            by_cases h5 : k ≤ 5
            · have d5 : decide (k ≤ 5) = true := decide_eq_true h5
              have d5' : decide ((k : Int) ≤ 5) = true := decide_eq_true (by omega)
              have hL : (tryL k pb true b (y :: t)).length = 2 := by
                unfold tryL
                rw [doc_len, decide_eq_true (by omega)]; rfl
              obtain ⟨hH, -, hX⟩ := HTL.out k pb hk1 hlt (by intro _; simp)
              have hS := HS.out k p hk1 hlt hpl
              rw [hb2] at hS
              have hTP := HTP.out k pb hk1 hlt
              obtain ⟨L, hLL⟩ : ∃ L, L = tryL k pb true b (y :: t) := ⟨_, rfl⟩
              rw [← hLL] at hL hH hX
              have hPU : ∀ W, Calls Tryd.prog 41 #[.agg #[.int .i64 (k : Int), .int .i64 (Y2 : Int), .int .i64 0, .bool pb], .bool true] W fun e w' => (∃ g c, e = .returned (.slice (some ⟨g, 0, none⟩) 2 c) ∧ IntsAt w' g L) ∧ Below W.heap.size W w' := fun W => by
                have k9 := hTP W
                unfold Put6To at k9
                rw [show docN k (tryNr k b.toNat (sndN (y :: t)) true) (tryNs k b.toNat true) pb true = L from hLL.symm, hL] at k9
                rw [show ((tryNr k b.toNat (sndN (y :: t)) true : Nat) : Int) = (Y2 : Int) from by unfold tryNr; rw [if_pos (by omega), if_pos rfl, HYN.out, HY2.out], show ((tryNs k b.toNat true : Nat) : Int) = 0 from by unfold tryNs; rw [if_neg (by omega)]; rfl] at k9
                exact k9
              obtain ⟨TT, hTT⟩ : ∃ TT : ByteArray, TT = ⟨(L.map UInt8.ofNat).toArray⟩ := ⟨_, rfl⟩
              have hTX : ∀ g c W, IntsAt W g L → Calls Tryd.prog 40 #[.slice (some ⟨g, 0, none⟩) 2 c] W fun e w' => e = .returned (.string TT) ∧ Below W.heap.size W w' := fun g c W h => by
                have k9 := text6_any g c L W hX (by omega) h
                rw [hL] at k9
                rw [hTT]
                exact k9
              have heq : (TT.toList == PY.toList) = hitD k pb true b.toNat (y :: t) := by
                rw [hTT, hH, ← back_arr PY, HPY.out]
                refine seq_bytes _ _ _ ?_
                rw [hL]
              have HPU := Lib.hid hPU
              have HTX := Lib.hid hTX
              have HCN := Lib.hid (C4.new wr wr.heap.size rfl (.int .i64 (k : Int)) (.int .i64 (Y2 : Int)) (.int .i64 0) (.bool pb) 71)
              have HB1 := Lib.hid (HP.out.1.alloc HP.out.1.size (.cells #[.int .i64 (k : Int), .int .i64 (Y2 : Int), .int .i64 0, .bool pb] 71))
              have HR1 := Lib.hid (HP.out.2.1.alloc (.cells #[.int .i64 (k : Int), .int .i64 (Y2 : Int), .int .i64 0, .bool pb] 71))
              have HSS := Lib.hid hS
              have HSQ := Lib.hid HP.out.2.2
              have hrw : w.heap.size < wr.heap.size := HP.out.2.1.lt
              clear hPU hTX hTT hLL hL hH hS hTP hX HP
              cases hh : hitD k pb true b.toNat (y :: t)
              · rw [hh] at heq
                go_wp2_with (go_at_call 41; (with_reducible refine (HPU.out _).mono ?_); rintro e w1 ⟨⟨g, c, rfl, hI⟩, hb9⟩; have HI := Lib.hid hI; have HC1 := Lib.hid (HCN.out.below hb9); have HB2 := Lib.hid (HB1.out.trans (hb9.mono HB1.out.size)); have HR2 := Lib.hid (HR1.out.below hb9); clear hI hb9 HB1 HR1 HCN HPU)
                refine wp_region_quiet_below (by kernel_rfl) (by kernel_rfl) ?_
                repeat (quiet_step (first | (go_at_call 40; with_reducible exact Calls.regrown_of (HTX.out g c _ (HI.out.below (below_regrown _ _ _))))))
                refine wpQuiet_nil ?_
                intro _ hw'
                obtain ⟨pg, hw''⟩ := hw'
                subst hw''
                have hb9 := below_regrown w1 pg.d pg.os
                have HC := Lib.hid (HC1.out.below hb9)
                have HB3 := Lib.hid (HB2.out.trans (hb9.mono HB2.out.size))
                have HR3 := Lib.hid (HR2.out.below hb9)
                generalize grow (redrawn w1 pg.d) pg.os = w2 at *
                clear hb9 HB2 HR2 HC1 HI
                obtain ⟨c0, c1, c2, c3, -, -, -, -, cl⟩ := HC.out
                clear r0 r1 r2 r3 f0 f1 f2 f3 rl
                obtain ⟨r0, r1, r2, r3, f0, f1, f2, f3, rl⟩ := HR3.out
                go_wp2_with fail
                go_roundw
                case rel => exact ⟨p + 1, by omega, by go_num, Lib.hid ⟨HB3.out, HR3.out, by rw [HSQ.out, HSS.out, hh]; rfl⟩⟩
                case measure => simp [intOf]; omega
              · rw [hh] at heq
                go_wp2_with (go_at_call 41; (with_reducible refine (HPU.out _).mono ?_); rintro e w1 ⟨⟨g, c, rfl, hI⟩, hb9⟩; have HI := Lib.hid hI; have HC1 := Lib.hid (HCN.out.below hb9); have HB2 := Lib.hid (HB1.out.trans (hb9.mono HB1.out.size)); have HR2 := Lib.hid (HR1.out.below hb9); clear hI hb9 HB1 HR1 HCN HPU)
                refine wp_region_quiet_below (by kernel_rfl) (by kernel_rfl) ?_
                repeat (quiet_step (first | (go_at_call 40; with_reducible exact Calls.regrown_of (HTX.out g c _ (HI.out.below (below_regrown _ _ _))))))
                refine wpQuiet_nil ?_
                intro _ hw'
                obtain ⟨pg, hw''⟩ := hw'
                subst hw''
                have hb9 := below_regrown w1 pg.d pg.os
                have HC := Lib.hid (HC1.out.below hb9)
                have HB3 := Lib.hid (HB2.out.trans (hb9.mono HB2.out.size))
                have HR3 := Lib.hid (HR2.out.below hb9)
                generalize grow (redrawn w1 pg.d) pg.os = w2 at *
                clear hb9 HB2 HR2 HC1 HI
                obtain ⟨c0, c1, c2, c3, -, -, -, -, cl⟩ := HC.out
                clear r0 r1 r2 r3 f0 f1 f2 f3 rl
                obtain ⟨r0, r1, r2, r3, f0, f1, f2, f3, rl⟩ := HR3.out
                go_wp2_with fail
                have S4 := stored4 (.int .i64 (k : Int)) (.int .i64 (Y2 : Int)) (.int .i64 0) (.bool pb) HR3.out
                have HBF := Lib.hid (set4_below HB3.out (Nat.le_refl _) (.int .i64 (k : Int)) (.int .i64 (Y2 : Int)) (.int .i64 0) (.bool pb))
                exact bodyPost_ret (v := .tuple #[.agg #[.int .i64 (k : Int), .int .i64 (Y2 : Int), .int .i64 0, .bool pb], .int .i64 2, .int .i64 0]) (by simp [results, Tryd.results45, go_sem, S4.c0, S4.c1, S4.c2, S4.c3]) rfl ⟨by
                  rw [HG.out, HSQ.out, HSS.out, hh, if_pos rfl]
                  dsimp only
                  unfold gotU
                  dsimp only
                  rw [show ((tryNr k b.toNat (sndN (y :: t)) true : Nat) : Int) = (Y2 : Int) from by unfold tryNr; rw [if_pos (by omega), if_pos rfl, HYN.out, HY2.out], show ((tryNs k b.toNat true : Nat) : Int) = 0 from by unfold tryNs; rw [if_neg (by omega)]; rfl]
                  rw [if_pos (by rw [decide_eq_true (by omega)]; rfl)]
                  rfl, HBF.out⟩
            · have d5 : decide (k ≤ 5) = false := decide_eq_false h5
              have d5' : decide ((k : Int) ≤ 5) = false := decide_eq_false (by omega)
              have hL : (tryL k pb true b (y :: t)).length = 1 := by
                unfold tryL
                rw [doc_len, decide_eq_false (by omega)]; rfl
              obtain ⟨hH, -, hX⟩ := HTL.out k pb hk1 hlt (by intro _; simp)
              have hS := HS.out k p hk1 hlt hpl
              rw [hb2] at hS
              have hTP := HTP.out k pb hk1 hlt
              obtain ⟨L, hLL⟩ : ∃ L, L = tryL k pb true b (y :: t) := ⟨_, rfl⟩
              rw [← hLL] at hL hH hX
              have hPU : ∀ W, Calls Tryd.prog 41 #[.agg #[.int .i64 (k : Int), .int .i64 0, .int .i64 0, .bool pb], .bool true] W fun e w' => (∃ g c, e = .returned (.slice (some ⟨g, 0, none⟩) 1 c) ∧ IntsAt w' g L) ∧ Below W.heap.size W w' := fun W => by
                have k9 := hTP W
                unfold Put6To at k9
                rw [show docN k (tryNr k b.toNat (sndN (y :: t)) true) (tryNs k b.toNat true) pb true = L from hLL.symm, hL] at k9
                rw [show ((tryNr k b.toNat (sndN (y :: t)) true : Nat) : Int) = 0 from by unfold tryNr; rw [if_neg (by omega)]; rfl, show ((tryNs k b.toNat true : Nat) : Int) = 0 from by unfold tryNs; rw [if_neg (by omega)]; rfl] at k9
                exact k9
              obtain ⟨TT, hTT⟩ : ∃ TT : ByteArray, TT = ⟨(L.map UInt8.ofNat).toArray⟩ := ⟨_, rfl⟩
              have hTX : ∀ g c W, IntsAt W g L → Calls Tryd.prog 40 #[.slice (some ⟨g, 0, none⟩) 1 c] W fun e w' => e = .returned (.string TT) ∧ Below W.heap.size W w' := fun g c W h => by
                have k9 := text6_any g c L W hX (by omega) h
                rw [hL] at k9
                rw [hTT]
                exact k9
              have heq : (TT.toList == PX.toList) = hitD k pb true b.toNat (y :: t) := by
                rw [hTT, hH, ← back_arr PX, HPX.out]
                refine seq_bytes _ _ _ ?_
                rw [hL]
              have HPU := Lib.hid hPU
              have HTX := Lib.hid hTX
              have HCN := Lib.hid (C4.new wr wr.heap.size rfl (.int .i64 (k : Int)) (.int .i64 0) (.int .i64 0) (.bool pb) 71)
              have HB1 := Lib.hid (HP.out.1.alloc HP.out.1.size (.cells #[.int .i64 (k : Int), .int .i64 0, .int .i64 0, .bool pb] 71))
              have HR1 := Lib.hid (HP.out.2.1.alloc (.cells #[.int .i64 (k : Int), .int .i64 0, .int .i64 0, .bool pb] 71))
              have HSS := Lib.hid hS
              have HSQ := Lib.hid HP.out.2.2
              have hrw : w.heap.size < wr.heap.size := HP.out.2.1.lt
              clear hPU hTX hTT hLL hL hH hS hTP hX HP
              cases hh : hitD k pb true b.toNat (y :: t)
              · rw [hh] at heq
                go_wp2_with (go_at_call 41; (with_reducible refine (HPU.out _).mono ?_); rintro e w1 ⟨⟨g, c, rfl, hI⟩, hb9⟩; have HI := Lib.hid hI; have HC1 := Lib.hid (HCN.out.below hb9); have HB2 := Lib.hid (HB1.out.trans (hb9.mono HB1.out.size)); have HR2 := Lib.hid (HR1.out.below hb9); clear hI hb9 HB1 HR1 HCN HPU)
                refine wp_region_quiet_below (by kernel_rfl) (by kernel_rfl) ?_
                repeat (quiet_step (first | (go_at_call 40; with_reducible exact Calls.regrown_of (HTX.out g c _ (HI.out.below (below_regrown _ _ _))))))
                refine wpQuiet_nil ?_
                intro _ hw'
                obtain ⟨pg, hw''⟩ := hw'
                subst hw''
                have hb9 := below_regrown w1 pg.d pg.os
                have HC := Lib.hid (HC1.out.below hb9)
                have HB3 := Lib.hid (HB2.out.trans (hb9.mono HB2.out.size))
                have HR3 := Lib.hid (HR2.out.below hb9)
                generalize grow (redrawn w1 pg.d) pg.os = w2 at *
                clear hb9 HB2 HR2 HC1 HI
                obtain ⟨c0, c1, c2, c3, -, -, -, -, cl⟩ := HC.out
                clear r0 r1 r2 r3 f0 f1 f2 f3 rl
                obtain ⟨r0, r1, r2, r3, f0, f1, f2, f3, rl⟩ := HR3.out
                go_wp2_with fail
                go_roundw
                case rel => exact ⟨p + 1, by omega, by go_num, Lib.hid ⟨HB3.out, HR3.out, by rw [HSQ.out, HSS.out, hh]; rfl⟩⟩
                case measure => simp [intOf]; omega
              · rw [hh] at heq
                go_wp2_with (go_at_call 41; (with_reducible refine (HPU.out _).mono ?_); rintro e w1 ⟨⟨g, c, rfl, hI⟩, hb9⟩; have HI := Lib.hid hI; have HC1 := Lib.hid (HCN.out.below hb9); have HB2 := Lib.hid (HB1.out.trans (hb9.mono HB1.out.size)); have HR2 := Lib.hid (HR1.out.below hb9); clear hI hb9 HB1 HR1 HCN HPU)
                refine wp_region_quiet_below (by kernel_rfl) (by kernel_rfl) ?_
                repeat (quiet_step (first | (go_at_call 40; with_reducible exact Calls.regrown_of (HTX.out g c _ (HI.out.below (below_regrown _ _ _))))))
                refine wpQuiet_nil ?_
                intro _ hw'
                obtain ⟨pg, hw''⟩ := hw'
                subst hw''
                have hb9 := below_regrown w1 pg.d pg.os
                have HC := Lib.hid (HC1.out.below hb9)
                have HB3 := Lib.hid (HB2.out.trans (hb9.mono HB2.out.size))
                have HR3 := Lib.hid (HR2.out.below hb9)
                generalize grow (redrawn w1 pg.d) pg.os = w2 at *
                clear hb9 HB2 HR2 HC1 HI
                obtain ⟨c0, c1, c2, c3, -, -, -, -, cl⟩ := HC.out
                clear r0 r1 r2 r3 f0 f1 f2 f3 rl
                obtain ⟨r0, r1, r2, r3, f0, f1, f2, f3, rl⟩ := HR3.out
                go_wp2_with fail
                have S4 := stored4 (.int .i64 (k : Int)) (.int .i64 0) (.int .i64 0) (.bool pb) HR3.out
                have HBF := Lib.hid (set4_below HB3.out (Nat.le_refl _) (.int .i64 (k : Int)) (.int .i64 0) (.int .i64 0) (.bool pb))
                exact bodyPost_ret (v := .tuple #[.agg #[.int .i64 (k : Int), .int .i64 0, .int .i64 0, .bool pb], .int .i64 1, .int .i64 0]) (by simp [results, Tryd.results45, go_sem, S4.c0, S4.c1, S4.c2, S4.c3]) rfl ⟨by
                  rw [HG.out, HSQ.out, HSS.out, hh, if_pos rfl]
                  dsimp only
                  unfold gotU
                  dsimp only
                  rw [show ((tryNr k b.toNat (sndN (y :: t)) true : Nat) : Int) = 0 from by unfold tryNr; rw [if_neg (by omega)]; rfl, show ((tryNs k b.toNat true : Nat) : Int) = 0 from by unfold tryNs; rw [if_neg (by omega)]; rfl]
                  rw [if_neg (by rw [decide_eq_false (by omega)]; decide)]
                  rfl, HBF.out⟩
        · obtain rfl : p = 2 := by omega
          have dp : decide ((2 : Int) < 2) = false := rfl
          go_wp2_with fail
          go_roundw
          case rel => exact ⟨k + 1, by omega, by omega, by go_num, Lib.hid ⟨HP.out.1, HP.out.2.1, by rw [HP.out.2.2, show 2 * (k + 1 - 1) = 2 * (k - 1) + 2 from by omega]⟩⟩
          case measure => simp [intOf]; omega
    · obtain rfl : k = 15 := by omega
      have dk : decide ((15 : Int) ≤ 14) = false := rfl
      have S4 := stored4 (.int .i64 0) (.int .i64 0) (.int .i64 0) (.bool false) HQ.out.2.1
      have HBF := Lib.hid (set4_below HQ.out.1 (Nat.le_refl _) (.int .i64 0) (.int .i64 0) (.int .i64 0) (.bool false))
      obtain ⟨r0, r1, r2, r3, f0, f1, f2, f3, rl⟩ := HQ.out.2.1
      go_wp2_with fail
      exact bodyPost_ret (v := gotU (0, 0, 0, false, 0, 2)) (by simp [results, Tryd.results45, go_sem, gotU, S4.c0, S4.c1, S4.c2, S4.c3]) rfl ⟨by rw [HG.out, HQ.out.2.2]; rfl, HBF.out⟩
end Go.Proofs.YtadhiknmkiogjaaDoor
