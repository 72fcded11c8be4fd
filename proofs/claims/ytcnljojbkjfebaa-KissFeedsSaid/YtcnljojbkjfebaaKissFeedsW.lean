/-
Walk of the statement KissFeeds, its rounds.
-/
import Derived.Test.YtcnljojbkjfebaaKissFeedsA
namespace Go.Proofs.Ytcnljojbkjfebaa
open Go.RowKit
set_option maxHeartbeats 4000000 in
set_option maxRecDepth 100000 in
theorem feeds_core (n : Int) (lb off cap : Nat) (ss : List ByteArray) (ra : Option Addr) (rcap : Nat) (rs : List Bool) (w : World) (hl : ss.length ≤ 60) (hfl : (flat ss).length ≤ 3000)
    (hlong : ∀ w1, Below w.heap.size w w1 → Calls Try.prog 11 #[.slice (some ⟨lb, off, none⟩) ss.length cap] w1 fun e w' => e = .returned (.bool false) ∧ w1 = w')
    (hc : ∀ w1, Below w.heap.size w w1 → ∀ j, j < ss.length → w1.cell? ⟨lb, off + j, none⟩ = some (.string (ss.getD j ByteArray.empty)))
    (hr : ∀ k, k < rs.length → ∃ rb roff, ra = some ⟨rb, roff, none⟩ ∧ ∀ w1, Below w.heap.size w w1 → w1.cell? ⟨rb, roff + k, none⟩ = some (.bool (rs.getD k false))) :
    Calls Try.prog 4 #[.int .i64 n, .slice (some ⟨lb, off, none⟩) ss.length cap, .slice ra rs.length rcap] w fun e w' => e = .returned (.bool true) ∧ Below w.heap.size w w' := by
  have H1 := Lib.hid hlong
  have HC := Lib.hid hc
  have HRS := Lib.hid hr
  have hm := (capD_bd n).2
  have HN := Lib.hid (fun W => cnew_any n W)
  have HRN := Lib.hid (fun W => rnew_any n W)
  generalize capD n = most at *
  clear hlong hc hr
  go_enter Try.func4, Try.ntmps4
  go_wp2_with (first
    | (go_at_call 8; refine (awake_any _).mono ?_; rintro e w1 ⟨rfl, hb1⟩; have HB := Lib.hid hb1; clear hb1)
    | (go_at_call 11; refine (H1.out _ HB.out).mono ?_; rintro e w2 ⟨rfl, rfl⟩)
    | (go_at_call 12; refine (HN.out _).mono ?_; rintro e w2 ⟨rfl, hD1, hB1, hz1⟩; have HD1 := Lib.hid hD1; have HZ1 := Lib.hid hz1; have HB1 := Lib.hid hB1; clear hD1 hB1 hz1)
    | (go_at_call 13; refine (HRN.out _).mono ?_; rintro e w3 ⟨rfl, hD2, hB2, hz2⟩; have HD2 := Lib.hid hD2; have HB2 := Lib.hid hB2; clear hD2 hB2 hz2))
  have hs0 := HB.out.size
  have h0 : FeedsRel w w1.heap.size w2.heap.size most 0 w3 := ⟨(0, 0, []), .slice none 0 0, by simp [InvD], by simp, HD1.out.below HB2.out, HD2.out _, (fun g h => by cases h), (HB.out.trans (HB1.out.mono hs0)).trans (HB2.out.mono (Nat.le_trans hs0 HB1.out.size))⟩
  have h12 : w1.heap.size < w2.heap.size := by have := HZ1.out; omega
  generalize w1.heap.size = b1 at *
  generalize w2.heap.size = b2 at *
  have H0 := Lib.hid h0
  have hlt12 := h12
  have hb1w := hs0
  clear h0 HB HB1 HB2 HD1 HD2 HZ1 H1 HN HRN hs0 h12
  go_loopw [21] (fun i wx => ∃ k : Nat, k ≤ ss.length ∧ i = .int .i64 k ∧ Hid (FeedsRel w b1 b2 most (flat (ss.take k)).length wx)) (fun i _ => ss.length - (intOf i).toNat)
  case atStart => exact ⟨0, by omega, rfl, H0.out⟩
  case round =>
    obtain ⟨k, hk, rfl, HR⟩ := hrel
    obtain ⟨st, vc, hi, hbn, hD, hR, hv, hB⟩ := HR.out
    by_cases hlt : k < ss.length
    · obtain ⟨s, hs⟩ : ∃ s, s = ss.getD k ByteArray.empty := ⟨_, rfl⟩
      have hcx := HC.out _ hB k hlt
      rw [← hs] at hcx
      have hfk := flat_take_len ss k hlt
      have hfle := flat_take_le ss (k + 1)
      rw [← hs] at hfk
      have hss : s.size ≤ 50000 := by omega
      have HNX := Lib.hid hfk
      have HBN := Lib.hid hbn
      have HBD := Lib.hid (show st.2.1 ≤ 100000 by omega)
      have HP : Hid (FeedsPre w b1 b2 most st vc wr) := Lib.hid ⟨hi, hD, hR, hv, hB⟩
      have HRK := Lib.hid (HRS.out k)
      clear hs hfk hfle hbn HC HR HRS H0 hi
      by_cases hrk : k < rs.length
      · obtain ⟨rb, roff, hra, hrc⟩ := HRK.out hrk
        subst hra
        have hcr := hrc _ hB
        cases hbit : rs.getD k false
        · rw [hbit] at hcr
          clear hrc HRK hbit hD hR hv hB
          go_wp2_with fail
          have hp := HP.out
          have hst := hp.2.2.1.lt
          obtain ⟨q, hq⟩ : ∃ q, q = fedD most st s.data.toList := ⟨_, rfl⟩
          have hinv := fedD_inv most st s.data.toList hp.1
          have hsl : s.data.toList.length = s.size := by simp
          have hfd := feed_one b1 most st vc s wr.heap.size 9 wr.drew rfl hm hp.1 HBD.out (by omega) (show DC wr.drew b1 _ most _ vc _ from hp.2.1)
          rw [← hq] at hinv hfd
          have HFD := Lib.hid hfd
          have HRF := Lib.hid (show ∀ av w', av < w'.heap.size → DefIs av w' b2 most (st : St).1 (st : St).2.1 (st : St).2.2 → Calls Try.prog 18 #[.pointer (some ⟨b2, 0, none⟩), .string s] w' (fun e w'' => RefTo av w' b2 most q e w'') from fun av w' h1 h2 => by rw [hq]; exact rfeed_any av b2 most st s w' h1 hm hp.1 HBD.out (by omega) h2)
          have HO := Lib.hid (And.intro hp.2.2.2.2 hb1w)
          have HR2 := Lib.hid (And.intro hp.2.2.1 hp.2.2.2.1)
          have HSZ := Lib.hid hst
          have HI2 := Lib.hid hinv.1
          have HBD2 := Lib.hid (show q.1.2.1 ≤ (flat (ss.take (k + 1))).length by rw [HNX.out]; have h1 : q.1.2.1 ≤ (st : St).2.1 + s.data.toList.length := hinv.2.1; have := HBN.out; omega)
          have hheld := hinv.1.2.1
          have HQL := Lib.hid (show q.2.length ≤ 1000000 by have := hinv.2.2; omega)
          clear hp hst hinv hsl hfd hq
          refine wp_region_any (by kernel_rfl) ?_
          try (change wpAny _ _ _ _ _ _ _ (World.drew _))
          refine wpAny_take (i := 0) (v := ?_) rfl (by kernel_rfl) (by kernel_rfl) (by kernel_rfl) (fun _ _ _ h => h) (Or.inl ⟨by rfl, ?_⟩) ?_
          rotate_left
          · intro w; go_simp; with_reducible rfl
          refine wpAny_take (i := 1) (v := ?_) rfl (by kernel_rfl) (by kernel_rfl) (by kernel_rfl) (fun _ _ _ h => h) (Or.inl ⟨by rfl, ?_⟩) ?_
          rotate_left
          · intro w; go_simp; with_reducible rfl
          refine wpAny_take (i := 5) (v := ?_) rfl (by kernel_rfl) (by kernel_rfl) (by kernel_rfl) (fun _ _ _ h => h) (Or.inl ⟨by rfl, ?_⟩) ?_
          rotate_left
          · intro w; go_simp; with_reducible rfl
          refine wpAny_take (i := 6) (v := ?_) rfl (by kernel_rfl) (by kernel_rfl) (by kernel_rfl) (fun _ _ _ h => h) (Or.inl ⟨by rfl, ?_⟩) ?_
          rotate_left
          · intro w; go_simp; with_reducible rfl
          refine wpAny_ready (rs := [2]) (by kernel_rfl) (by simp) ?_
          refine AllReady.cons rfl (fun K hK => ?_) AllReady.nil
          go_simp
          refine hK _ _ ?_
          clear hK K
          refine wpAny_ready (rs := [3]) (by kernel_rfl) (by simp) ?_
          refine AllReady.cons rfl (fun K hK => ?_) AllReady.nil
          go_simp
          go_wp2_with ((go_at_call 17; refine (HFD.out).mono ?_; rintro e w2 ⟨vc2, x, rfl, hD2, hW2, hF2⟩; have G2 := Lib.hid (feeds_2 HO.out hlt12 HR2.out hD2 hW2 hF2 HSZ.out); clear hD2 hW2 hF2))
          refine wpAny_ready (rs := [4]) (by kernel_rfl) (by simp) ?_
          refine AllReady.cons rfl (fun K hK => ?_) AllReady.nil
          go_simp
          go_wp2_with ((go_at_call 16; refine (plain_any _ _ _ HQL.out G2.out.2.2.1.frs).mono ?_; rintro e w3 ⟨p, rfl, hp, hb3⟩; have G3 := Lib.hid (feeds_3 G2.out hp hb3); clear hp hb3))
          refine wpAny_ready (rs := [7]) (by kernel_rfl) (by simp) ?_
          refine AllReady.cons rfl (fun K hK => ?_) AllReady.nil
          go_simp
          go_wp2_with ((go_at_call 18; refine (HRF.out _ _ (feeds_av G3.out) G3.out.2.1).mono ?_; rintro e w4 ⟨y, rfl, hD4, hF4, hG4⟩; have G4 := Lib.hid (feeds_4 hlt12 G3.out hD4 hF4 hG4 hb1w); clear hD4 hF4 hG4))
          refine wpAny_ready (rs := [8]) (by kernel_rfl) (by simp) ?_
          refine AllReady.cons rfl (fun K hK => ?_) AllReady.nil
          go_simp
          go_wp2_with ((go_at_call 15; refine (same_yes _ _ _ _ HQL.out G4.out.2.2.1 G4.out.2.2.2.1).mono ?_; rintro e w5 ⟨rfl, n5, rfl⟩))
          refine wpAny_ready (rs := [9]) (by kernel_rfl) (by simp) ?_
          refine AllReady.cons rfl (fun K hK => ?_) AllReady.nil
          go_simp
          refine hK _ _ ?_
          clear hK K
          refine wpAny_ready (rs := [10]) (by kernel_rfl) (by simp) ?_
          refine AllReady.cons rfl (fun K hK => ?_) AllReady.nil
          go_simp
          refine hK _ _ ?_
          clear hK K
          have G5 := feeds_5 G4.out n5
          clear G4
          generalize w4.drewN n5 = w5 at *
          obtain ⟨hDc, ⟨vr, hDr, hHr⟩, _, _, hvc, hB4⟩ := G5
          have X1 := Lib.hid (fun n => cbad_any b1 _ _ _ _ (w5.drewN n) hDc.1)
          have X2 := Lib.hid (fun n => cheld_any b1 _ _ _ _ _ (w5.drewN n) hDc)
          obtain ⟨ra, rcap, rfl⟩ := hHr.len
          obtain ⟨⟨r0, r1, r2, r3⟩, rz⟩ := hDr
          have HDR := Lib.hid (show DefIs (avoid vc2 b1) w5 b2 most q.1.1 q.1.2.1 q.1.2.2 from ⟨_, ⟨⟨r0, r1, r2, r3⟩, rz⟩, hHr⟩)
          have HDC := Lib.hid hDc
          have HB4 := Lib.hid hB4
          have HVC := Lib.hid hvc
          clear hDc hHr hvc hB4
          refine any_rest 11 (by kernel_rfl) (by kernel_rfl) (by kernel_rfl) ?_
          simp only [List.drop_succ_cons, List.drop_zero]
          repeat (quiet_step ((first
            | (go_at_call 19; exact Calls.quiet_of_same ((X1.out _).mono fun _ _ h => ⟨h.1, h.2.symm⟩))
            | (go_at_call 20; exact Calls.quiet_of_same ((X2.out _).mono fun _ _ h => ⟨h.1, h.2.symm⟩)))))
          refine wpQuiet_nil ?_
          intro _ hw'
          obtain ⟨nq, hw''⟩ := hw'
          subst hw''
          go_wp2
          go_roundw
          case rel => exact ⟨k + 1, by omega, by go_num, feeds_end HI2.out HBD2.out HDC.out HDR.out HVC.out HB4.out⟩
          case measure => simp [intOf]; omega
        · rw [hbit] at hcr
          obtain ⟨va0, vcap, rfl⟩ := hD.len
          have HRS1 := Lib.hid (show Calls Try.prog 14 #[.pointer (some ⟨b1, 0, none⟩)] wr (fun e w' => e = .returned (.tuple #[]) ∧ w' = (wr.setCell ⟨b1, 0, none⟩ (.int .i64 0)).setCell ⟨b1, 2, none⟩ (.slice va0 0 vcap)) from creset_any b1 _ _ _ _ _ wr hD)
          have hpr := feeds_reset (st := st) (vc := .slice va0 st.2.2.length vcap) hlt12 hb1w HP.out
          rw [show emptied (.slice va0 st.2.2.length vcap) = .slice va0 0 vcap from rfl] at hpr
          have HPR := Lib.hid hpr
          clear hpr
          obtain ⟨r, hRD, hRH⟩ := hR
          have hRD2 := (hRD.other (n := b1) (o := 0) (by omega) (.int .i64 0)).other (n := b1) (o := 2) (by omega) (.slice va0 0 vcap)
          obtain ⟨ra2, rcap2, rfl⟩ := hRH.len
          obtain ⟨⟨e0, e1, e2, e3⟩, y1, y2, y3⟩ := hRD2
          clear hrc HRK hbit hD hv hB HP hRD hRH
          go_wp2_with (first
            | (go_at_call 14; refine (HRS1.out).mono ?_; rintro e w' ⟨rfl, rfl⟩))
          clear HRS1 e0 e1 e2 e3 y1 y2 y3 hcx hcr
          have HP := HPR
          clear HPR
          generalize ((((wr.setCell ⟨b1, 0, none⟩ (.int .i64 0)).setCell ⟨b1, 2, none⟩ (.slice va0 0 vcap)).setCell ⟨b2, 1, none⟩ (.int .i64 0)).setCell ⟨b2, 3, none⟩ (.slice none 0 0)) = W at *
          obtain ⟨st2, hs2⟩ : ∃ s2 : St, s2 = (0, st.2.1, []) := ⟨_, rfl⟩
          rw [← hs2] at HP
          have hs21 : st2.2.1 = st.2.1 := by rw [hs2]
          rw [← hs21] at HBD HBN
          clear hs2 hs21
          have hp := HP.out
          have hst := hp.2.2.1.lt
          obtain ⟨q, hq⟩ : ∃ q, q = fedD most st2 s.data.toList := ⟨_, rfl⟩
          have hinv := fedD_inv most st2 s.data.toList hp.1
          have hsl : s.data.toList.length = s.size := by simp
          have hfd := feed_one b1 most st2 (.slice va0 0 vcap) s W.heap.size 9 W.drew rfl hm hp.1 HBD.out (by omega) (show DC W.drew b1 _ most _ (.slice va0 0 vcap) _ from hp.2.1)
          rw [← hq] at hinv hfd
          have HFD := Lib.hid hfd
          have HRF := Lib.hid (show ∀ av w', av < w'.heap.size → DefIs av w' b2 most (st2 : St).1 (st2 : St).2.1 (st2 : St).2.2 → Calls Try.prog 18 #[.pointer (some ⟨b2, 0, none⟩), .string s] w' (fun e w'' => RefTo av w' b2 most q e w'') from fun av w' h1 h2 => by rw [hq]; exact rfeed_any av b2 most st2 s w' h1 hm hp.1 HBD.out (by omega) h2)
          have HO := Lib.hid (And.intro hp.2.2.2.2 hb1w)
          have HR2 := Lib.hid (And.intro hp.2.2.1 hp.2.2.2.1)
          have HSZ := Lib.hid hst
          have HI2 := Lib.hid hinv.1
          have HBD2 := Lib.hid (show q.1.2.1 ≤ (flat (ss.take (k + 1))).length by rw [HNX.out]; have h1 : q.1.2.1 ≤ (st2 : St).2.1 + s.data.toList.length := hinv.2.1; have := HBN.out; omega)
          have hheld := hinv.1.2.1
          have HQL := Lib.hid (show q.2.length ≤ 1000000 by have := hinv.2.2; omega)
          clear hp hst hinv hsl hfd hq
          refine wp_region_any (by kernel_rfl) ?_
          try (change wpAny _ _ _ _ _ _ _ (World.drew _))
          refine wpAny_take (i := 0) (v := ?_) rfl (by kernel_rfl) (by kernel_rfl) (by kernel_rfl) (fun _ _ _ h => h) (Or.inl ⟨by rfl, ?_⟩) ?_
          rotate_left
          · intro w; go_simp; with_reducible rfl
          refine wpAny_take (i := 1) (v := ?_) rfl (by kernel_rfl) (by kernel_rfl) (by kernel_rfl) (fun _ _ _ h => h) (Or.inl ⟨by rfl, ?_⟩) ?_
          rotate_left
          · intro w; go_simp; with_reducible rfl
          refine wpAny_take (i := 5) (v := ?_) rfl (by kernel_rfl) (by kernel_rfl) (by kernel_rfl) (fun _ _ _ h => h) (Or.inl ⟨by rfl, ?_⟩) ?_
          rotate_left
          · intro w; go_simp; with_reducible rfl
          refine wpAny_take (i := 6) (v := ?_) rfl (by kernel_rfl) (by kernel_rfl) (by kernel_rfl) (fun _ _ _ h => h) (Or.inl ⟨by rfl, ?_⟩) ?_
          rotate_left
          · intro w; go_simp; with_reducible rfl
          refine wpAny_ready (rs := [2]) (by kernel_rfl) (by simp) ?_
          refine AllReady.cons rfl (fun K hK => ?_) AllReady.nil
          go_simp
          refine hK _ _ ?_
          clear hK K
          refine wpAny_ready (rs := [3]) (by kernel_rfl) (by simp) ?_
          refine AllReady.cons rfl (fun K hK => ?_) AllReady.nil
          go_simp
          go_wp2_with ((go_at_call 17; refine (HFD.out).mono ?_; rintro e w2 ⟨vc2, x, rfl, hD2, hW2, hF2⟩; have G2 := Lib.hid (feeds_2 HO.out hlt12 HR2.out hD2 hW2 hF2 HSZ.out); clear hD2 hW2 hF2))
          refine wpAny_ready (rs := [4]) (by kernel_rfl) (by simp) ?_
          refine AllReady.cons rfl (fun K hK => ?_) AllReady.nil
          go_simp
          go_wp2_with ((go_at_call 16; refine (plain_any _ _ _ HQL.out G2.out.2.2.1.frs).mono ?_; rintro e w3 ⟨p, rfl, hp, hb3⟩; have G3 := Lib.hid (feeds_3 G2.out hp hb3); clear hp hb3))
          refine wpAny_ready (rs := [7]) (by kernel_rfl) (by simp) ?_
          refine AllReady.cons rfl (fun K hK => ?_) AllReady.nil
          go_simp
          go_wp2_with ((go_at_call 18; refine (HRF.out _ _ (feeds_av G3.out) G3.out.2.1).mono ?_; rintro e w4 ⟨y, rfl, hD4, hF4, hG4⟩; have G4 := Lib.hid (feeds_4 hlt12 G3.out hD4 hF4 hG4 hb1w); clear hD4 hF4 hG4))
          refine wpAny_ready (rs := [8]) (by kernel_rfl) (by simp) ?_
          refine AllReady.cons rfl (fun K hK => ?_) AllReady.nil
          go_simp
          go_wp2_with ((go_at_call 15; refine (same_yes _ _ _ _ HQL.out G4.out.2.2.1 G4.out.2.2.2.1).mono ?_; rintro e w5 ⟨rfl, n5, rfl⟩))
          refine wpAny_ready (rs := [9]) (by kernel_rfl) (by simp) ?_
          refine AllReady.cons rfl (fun K hK => ?_) AllReady.nil
          go_simp
          refine hK _ _ ?_
          clear hK K
          refine wpAny_ready (rs := [10]) (by kernel_rfl) (by simp) ?_
          refine AllReady.cons rfl (fun K hK => ?_) AllReady.nil
          go_simp
          refine hK _ _ ?_
          clear hK K
          have G5 := feeds_5 G4.out n5
          clear G4
          generalize w4.drewN n5 = w5 at *
          obtain ⟨hDc, ⟨vr, hDr, hHr⟩, _, _, hvc, hB4⟩ := G5
          have X1 := Lib.hid (fun n => cbad_any b1 _ _ _ _ (w5.drewN n) hDc.1)
          have X2 := Lib.hid (fun n => cheld_any b1 _ _ _ _ _ (w5.drewN n) hDc)
          obtain ⟨ra, rcap, rfl⟩ := hHr.len
          obtain ⟨⟨r0, r1, r2, r3⟩, rz⟩ := hDr
          have HDR := Lib.hid (show DefIs (avoid vc2 b1) w5 b2 most q.1.1 q.1.2.1 q.1.2.2 from ⟨_, ⟨⟨r0, r1, r2, r3⟩, rz⟩, hHr⟩)
          have HDC := Lib.hid hDc
          have HB4 := Lib.hid hB4
          have HVC := Lib.hid hvc
          clear hDc hHr hvc hB4
          refine any_rest 11 (by kernel_rfl) (by kernel_rfl) (by kernel_rfl) ?_
          simp only [List.drop_succ_cons, List.drop_zero]
          repeat (quiet_step ((first
            | (go_at_call 19; exact Calls.quiet_of_same ((X1.out _).mono fun _ _ h => ⟨h.1, h.2.symm⟩))
            | (go_at_call 20; exact Calls.quiet_of_same ((X2.out _).mono fun _ _ h => ⟨h.1, h.2.symm⟩)))))
          refine wpQuiet_nil ?_
          intro _ hw'
          obtain ⟨nq, hw''⟩ := hw'
          subst hw''
          go_wp2
          go_roundw
          case rel => exact ⟨k + 1, by omega, by go_num, feeds_end HI2.out HBD2.out HDC.out HDR.out HVC.out HB4.out⟩
          case measure => simp [intOf]; omega
      · clear HRK hD hR hv hB
        go_wp2_with fail
        have hp := HP.out
        have hst := hp.2.2.1.lt
        obtain ⟨q, hq⟩ : ∃ q, q = fedD most st s.data.toList := ⟨_, rfl⟩
        have hinv := fedD_inv most st s.data.toList hp.1
        have hsl : s.data.toList.length = s.size := by simp
        have hfd := feed_one b1 most st vc s wr.heap.size 9 wr.drew rfl hm hp.1 HBD.out (by omega) (show DC wr.drew b1 _ most _ vc _ from hp.2.1)
        rw [← hq] at hinv hfd
        have HFD := Lib.hid hfd
        have HRF := Lib.hid (show ∀ av w', av < w'.heap.size → DefIs av w' b2 most (st : St).1 (st : St).2.1 (st : St).2.2 → Calls Try.prog 18 #[.pointer (some ⟨b2, 0, none⟩), .string s] w' (fun e w'' => RefTo av w' b2 most q e w'') from fun av w' h1 h2 => by rw [hq]; exact rfeed_any av b2 most st s w' h1 hm hp.1 HBD.out (by omega) h2)
        have HO := Lib.hid (And.intro hp.2.2.2.2 hb1w)
        have HR2 := Lib.hid (And.intro hp.2.2.1 hp.2.2.2.1)
        have HSZ := Lib.hid hst
        have HI2 := Lib.hid hinv.1
        have HBD2 := Lib.hid (show q.1.2.1 ≤ (flat (ss.take (k + 1))).length by rw [HNX.out]; have h1 : q.1.2.1 ≤ (st : St).2.1 + s.data.toList.length := hinv.2.1; have := HBN.out; omega)
        have hheld := hinv.1.2.1
        have HQL := Lib.hid (show q.2.length ≤ 1000000 by have := hinv.2.2; omega)
        clear hp hst hinv hsl hfd hq
        refine wp_region_any (by kernel_rfl) ?_
        try (change wpAny _ _ _ _ _ _ _ (World.drew _))
        refine wpAny_take (i := 0) (v := ?_) rfl (by kernel_rfl) (by kernel_rfl) (by kernel_rfl) (fun _ _ _ h => h) (Or.inl ⟨by rfl, ?_⟩) ?_
        rotate_left
        · intro w; go_simp; with_reducible rfl
        refine wpAny_take (i := 1) (v := ?_) rfl (by kernel_rfl) (by kernel_rfl) (by kernel_rfl) (fun _ _ _ h => h) (Or.inl ⟨by rfl, ?_⟩) ?_
        rotate_left
        · intro w; go_simp; with_reducible rfl
        refine wpAny_take (i := 5) (v := ?_) rfl (by kernel_rfl) (by kernel_rfl) (by kernel_rfl) (fun _ _ _ h => h) (Or.inl ⟨by rfl, ?_⟩) ?_
        rotate_left
        · intro w; go_simp; with_reducible rfl
        refine wpAny_take (i := 6) (v := ?_) rfl (by kernel_rfl) (by kernel_rfl) (by kernel_rfl) (fun _ _ _ h => h) (Or.inl ⟨by rfl, ?_⟩) ?_
        rotate_left
        · intro w; go_simp; with_reducible rfl
        refine wpAny_ready (rs := [2]) (by kernel_rfl) (by simp) ?_
        refine AllReady.cons rfl (fun K hK => ?_) AllReady.nil
        go_simp
        refine hK _ _ ?_
        clear hK K
        refine wpAny_ready (rs := [3]) (by kernel_rfl) (by simp) ?_
        refine AllReady.cons rfl (fun K hK => ?_) AllReady.nil
        go_simp
        go_wp2_with ((go_at_call 17; refine (HFD.out).mono ?_; rintro e w2 ⟨vc2, x, rfl, hD2, hW2, hF2⟩; have G2 := Lib.hid (feeds_2 HO.out hlt12 HR2.out hD2 hW2 hF2 HSZ.out); clear hD2 hW2 hF2))
        refine wpAny_ready (rs := [4]) (by kernel_rfl) (by simp) ?_
        refine AllReady.cons rfl (fun K hK => ?_) AllReady.nil
        go_simp
        go_wp2_with ((go_at_call 16; refine (plain_any _ _ _ HQL.out G2.out.2.2.1.frs).mono ?_; rintro e w3 ⟨p, rfl, hp, hb3⟩; have G3 := Lib.hid (feeds_3 G2.out hp hb3); clear hp hb3))
        refine wpAny_ready (rs := [7]) (by kernel_rfl) (by simp) ?_
        refine AllReady.cons rfl (fun K hK => ?_) AllReady.nil
        go_simp
        go_wp2_with ((go_at_call 18; refine (HRF.out _ _ (feeds_av G3.out) G3.out.2.1).mono ?_; rintro e w4 ⟨y, rfl, hD4, hF4, hG4⟩; have G4 := Lib.hid (feeds_4 hlt12 G3.out hD4 hF4 hG4 hb1w); clear hD4 hF4 hG4))
        refine wpAny_ready (rs := [8]) (by kernel_rfl) (by simp) ?_
        refine AllReady.cons rfl (fun K hK => ?_) AllReady.nil
        go_simp
        go_wp2_with ((go_at_call 15; refine (same_yes _ _ _ _ HQL.out G4.out.2.2.1 G4.out.2.2.2.1).mono ?_; rintro e w5 ⟨rfl, n5, rfl⟩))
        refine wpAny_ready (rs := [9]) (by kernel_rfl) (by simp) ?_
        refine AllReady.cons rfl (fun K hK => ?_) AllReady.nil
        go_simp
        refine hK _ _ ?_
        clear hK K
        refine wpAny_ready (rs := [10]) (by kernel_rfl) (by simp) ?_
        refine AllReady.cons rfl (fun K hK => ?_) AllReady.nil
        go_simp
        refine hK _ _ ?_
        clear hK K
        have G5 := feeds_5 G4.out n5
        clear G4
        generalize w4.drewN n5 = w5 at *
        obtain ⟨hDc, ⟨vr, hDr, hHr⟩, _, _, hvc, hB4⟩ := G5
        have X1 := Lib.hid (fun n => cbad_any b1 _ _ _ _ (w5.drewN n) hDc.1)
        have X2 := Lib.hid (fun n => cheld_any b1 _ _ _ _ _ (w5.drewN n) hDc)
        obtain ⟨ra, rcap, rfl⟩ := hHr.len
        obtain ⟨⟨r0, r1, r2, r3⟩, rz⟩ := hDr
        have HDR := Lib.hid (show DefIs (avoid vc2 b1) w5 b2 most q.1.1 q.1.2.1 q.1.2.2 from ⟨_, ⟨⟨r0, r1, r2, r3⟩, rz⟩, hHr⟩)
        have HDC := Lib.hid hDc
        have HB4 := Lib.hid hB4
        have HVC := Lib.hid hvc
        clear hDc hHr hvc hB4
        refine any_rest 11 (by kernel_rfl) (by kernel_rfl) (by kernel_rfl) ?_
        simp only [List.drop_succ_cons, List.drop_zero]
        repeat (quiet_step ((first
          | (go_at_call 19; exact Calls.quiet_of_same ((X1.out _).mono fun _ _ h => ⟨h.1, h.2.symm⟩))
          | (go_at_call 20; exact Calls.quiet_of_same ((X2.out _).mono fun _ _ h => ⟨h.1, h.2.symm⟩)))))
        refine wpQuiet_nil ?_
        intro _ hw'
        obtain ⟨nq, hw''⟩ := hw'
        subst hw''
        go_wp2
        go_roundw
        case rel => exact ⟨k + 1, by omega, by go_num, feeds_end HI2.out HBD2.out HDC.out HDR.out HVC.out HB4.out⟩
        case measure => simp [intOf]; omega
    · obtain rfl : k = ss.length := by omega
      have HB := Lib.hid hB
      clear hi hbn hD hR hv hB HC HR HRS H0
      go_wp2
      go_ret
      exact ⟨rfl, HB.out⟩
end Go.Proofs.Ytcnljojbkjfebaa
