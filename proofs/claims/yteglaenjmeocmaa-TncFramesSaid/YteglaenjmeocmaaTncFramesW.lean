/-
Of the statement TncFrames: the walk.
-/
import Derived.Test.YteglaenjmeocmaaTncFed
import Derived.Deep.RegionHeld
import Derived.BigQuiet
import Derived.Deep.QuietTactic
namespace Go.Proofs.Yteglaenjmeocmaa
open Go.RowKit Go.Sort
theorem frames_ok (p : Par) (P : Nat) (w : World) (h1 : P ≤ 15) (hok : p.ok = true) :
    Calls Try.prog 12 #[.int .i64 P, p.v] w fun e w' => ∃ g cap, e = .returned (.slice (some ⟨g, 0, none⟩) 5 cap) ∧ g < w'.heap.size ∧ w.heap.size ≤ g ∧ L5 w' g P p ∧ Below w.heap.size w w' :=
  (frames_yes p.a p.b p.c p.d p.f P w h1 hok).mono fun e w' ⟨v, he, hO, hb⟩ => by
    obtain ⟨g, cap, hv, hg, hge, h5⟩ := l5_own h1 hO
    exact ⟨g, cap, by rw [he, hv], hg, hge, h5, hb⟩
set_option maxHeartbeats 2000000 in
set_option maxRecDepth 100000 in
theorem tframes_core (p q : Par) (P : Nat) (w : World) (hP : P ≤ 15) (hok : p.ok = true) (hqk : q.ok = true) :
    Calls Try.prog 4 #[p.v, q.v, .int .i64 P] w fun e w' => e = .returned (.bool true) ∧ Below w.heap.size w w' := by
  have HAW := Lib.hid (fun W => tawake_any usual_ok apply_ok wins_ok W)
  have HFR := Lib.hid (fun W => frames_ok p P W hP hok)
  have HPL := Lib.hid (fun W => plain_par p W)
  have HQL := Lib.hid (fun W => plain_par q W)
  have HRP := Lib.hid (fun W => rright_any p W)
  have HRQ := Lib.hid (fun W => rright_any q W)
  have HA := Lib.hid (fra_start w p q)
  have HOP := Lib.hid hok
  have HOQ := Lib.hid hqk
  rw [hok] at HRP
  rw [hqk] at HRQ
  clear hok hqk
  obtain ⟨a, b, c, d, f⟩ := p
  obtain ⟨qa, qb, qc, qd, qf⟩ := q
  simp only [Par.v] at HPL HQL HRP HRQ HFR
  show Calls Try.prog 4 #[.agg #[.int .i64 a, .int .i64 b, .int .i64 c, .int .i64 d, .bool f], .agg #[.int .i64 qa, .int .i64 qb, .int .i64 qc, .int .i64 qd, .bool qf], .int .i64 P] w _
  go_enter Try.func4, Try.ntmps4
  go_wp2_with (first
    | (go_at_call 6; go_loud (refine (HAW.out _).mono ?_; rintro e w1 ⟨rfl, hb⟩; replace HA := Lib.hid (HA.out.step hb); clear hb; obtain ⟨⟨y0, y1, y2, y3, y4⟩, ⟨z0, z1, z2, z3, z4⟩, kf, hbw, hsz⟩ := HA.out; simp only at y0 y1 y2 y3 y4 z0 z1 z2 z3 z4))
    | (go_at_call 12; go_loud (refine (HFR.out _).mono ?_; rintro e w2 ⟨g, cap, rfl, hg, hge, h5, hb⟩; have HGL := Lib.hid (show w.heap.size + 1 < g from Nat.lt_of_lt_of_le hsz hge); clear hge; replace HA := Lib.hid (HA.out.step hb); clear hb; have HL := Lib.hid h5; have HG := Lib.hid hg; clear h5 hg; clear y0 y1 y2 y3 y4 z0 z1 z2 z3 z4 kf hbw hsz; obtain ⟨⟨y0, y1, y2, y3, y4⟩, ⟨z0, z1, z2, z3, z4⟩, kf, hbw, hsz⟩ := HA.out; simp only at y0 y1 y2 y3 y4 z0 z1 z2 z3 z4))
    | (go_at_call 9; ((with_reducible refine (HPL.out _).mono ?_); rintro e w3 ⟨rfl, hb⟩; replace HA := Lib.hid (HA.out.step hb); replace HL := Lib.hid (HL.out.below HG.out hb); replace HG := Lib.hid (Nat.lt_of_lt_of_le HG.out hb.size); clear hb; clear y0 y1 y2 y3 y4 z0 z1 z2 z3 z4 kf hbw hsz; obtain ⟨⟨y0, y1, y2, y3, y4⟩, ⟨z0, z1, z2, z3, z4⟩, kf, hbw, hsz⟩ := HA.out; simp only at y0 y1 y2 y3 y4 z0 z1 z2 z3 z4))
    | (go_at_call 9; ((with_reducible refine (HQL.out _).mono ?_); rintro e w3 ⟨rfl, hb⟩; replace HA := Lib.hid (HA.out.step hb); replace HL := Lib.hid (HL.out.below HG.out hb); replace HG := Lib.hid (Nat.lt_of_lt_of_le HG.out hb.size); clear hb; clear y0 y1 y2 y3 y4 z0 z1 z2 z3 z4 kf hbw hsz; obtain ⟨⟨y0, y1, y2, y3, y4⟩, ⟨z0, z1, z2, z3, z4⟩, kf, hbw, hsz⟩ := HA.out; simp only at y0 y1 y2 y3 y4 z0 z1 z2 z3 z4))
    | (go_at_call 11; ((with_reducible refine (HRP.out _).mono ?_); rintro e w4 ⟨rfl, hb⟩; replace HA := Lib.hid (HA.out.step hb); replace HL := Lib.hid (HL.out.below HG.out hb); replace HG := Lib.hid (Nat.lt_of_lt_of_le HG.out hb.size); clear hb; clear y0 y1 y2 y3 y4 z0 z1 z2 z3 z4 kf hbw hsz; obtain ⟨⟨y0, y1, y2, y3, y4⟩, ⟨z0, z1, z2, z3, z4⟩, kf, hbw, hsz⟩ := HA.out; simp only at y0 y1 y2 y3 y4 z0 z1 z2 z3 z4))
    | (go_at_call 11; ((with_reducible refine (HRQ.out _).mono ?_); rintro e w4 ⟨rfl, hb⟩; replace HA := Lib.hid (HA.out.step hb); replace HL := Lib.hid (HL.out.below HG.out hb); replace HG := Lib.hid (Nat.lt_of_lt_of_le HG.out hb.size); clear hb; clear y0 y1 y2 y3 y4 z0 z1 z2 z3 z4 kf hbw hsz; obtain ⟨⟨y0, y1, y2, y3, y4⟩, ⟨z0, z1, z2, z3, z4⟩, kf, hbw, hsz⟩ := HA.out; simp only at y0 y1 y2 y3 y4 z0 z1 z2 z3 z4))
    | (go_at_call 13; go_loud (refine (cnew_any 10 _).mono ?_; rintro e w7 ⟨rfl, hD, hb, hz⟩; replace HA := Lib.hid (HA.out.step hb); replace HL := Lib.hid (HL.out.below HG.out hb); have HGB := Lib.hid HG.out; have HAB := Lib.hid (hsz); have HD := Lib.hid hD; clear hb hD hz; clear y0 y1 y2 y3 y4 z0 z1 z2 z3 z4 kf hbw hsz)))
  generalize w4.heap.size = bd at *
  clear HAW HFR HPL HRP HQL HRQ
  go_loopw [49] (fun i wx => ∃ k : Nat, k ≤ 5 ∧ i = .int .i64 k ∧ Hid (∃ pl vc, pl ≤ 1 ∧ DC wx bd ((pl : Nat) : Int) 10 0 vc [] ∧ Fra w wx ⟨a, b, c, d, f⟩ (mixK ⟨a, b, c, d, f⟩ ⟨qa, qb, qc, qd, qf⟩ k) ∧ L5 wx g P ⟨a, b, c, d, f⟩)) (fun i _ => 5 - (intOf i).toNat)
  case atStart => exact ⟨0, by omega, rfl, 0, _, by omega, HD.out, HA.out, HL.out⟩
  case round =>
    obtain ⟨k, hk, rfl, HR⟩ := hrel
    clear HD HA HL HG
    by_cases hlt : k < 5
    · obtain ⟨pl, vc, hpl, hD, hA, h5⟩ := HR.out
      have HD := Lib.hid hD
      have HA := Lib.hid hA
      have HL := Lib.hid h5
      obtain ⟨l0, l1, l2⟩ := h5 k hlt
      clear HR hD hA h5
      have HMX := Lib.hid (appD_mix ⟨a, b, c, d, f⟩ ⟨qa, qb, qc, qd, qf⟩ P k hP hlt HOP.out HOQ.out)
      obtain ⟨sx, hsx⟩ : ∃ sx : ByteArray, sx = ⟨#[UInt8.ofNat (parN ⟨a, b, c, d, f⟩ k).toNat]⟩ := ⟨_, rfl⟩
      have HSX := Lib.hid (show sx.data.toList = [UInt8.ofNat (parN ⟨a, b, c, d, f⟩ k).toNat] from by rw [hsx])
      have HFR := Lib.hid (rawK_frV P ⟨a, b, c, d, f⟩ k hP hlt)
      have HE := Lib.hid (fun W => enc_ok P (k + 1) sx W hP (by omega) (by rw [hsx]; show (1 : Nat) ≤ 3000; omega))
      have hfb := raw_fb P (k + 1) sx
      have hfe : (⟨(P : Int), ((k + 1 : Nat) : Int), sx⟩ : Raw).fr = (rawK P ⟨a, b, c, d, f⟩ k).fr := by rw [hsx]; rfl
      have hfl : ((rawK P ⟨a, b, c, d, f⟩ k).fr).2.length = 1 := rfl
      rw [hfe] at hfb
      rw [← hsx] at HFR l2
      generalize (rawK P ⟨a, b, c, d, f⟩ k).fr = fr at *
      obtain ⟨X, hX⟩ : ∃ X : ByteArray, X = ⟨(frameBytes P (k + 1) sx).toArray⟩ := ⟨_, rfl⟩
      rw [← hX] at HE
      have HX := Lib.hid (show X.data.toList = fb fr from by rw [hX]; exact hfb)
      have HFL := Lib.hid hfl
      clear hfb hfe hX hsx hfl
      go_wp2_with (first
        | (go_at_call 14; go_loud (refine (HE.out _).mono ?_; rintro e w5 ⟨rfl, hb⟩; have HB5 := Lib.hid hb; have HFD := Lib.hid (feed_fr bd pl vc X fr w5 HX.out hpl HFL.out ((HD.out.alloc _).below hb)); clear hb))
        | (go_at_call 15; go_loud (refine (HFD.out).mono ?_; rintro e w6 ⟨vc6, tv, rfl, hD6, hW6, hF6⟩; obtain ⟨hA6, hL6, hf6, hz6, g2, cap2, rfl, hg2, hf2⟩ := fr_feed HA.out HL.out HGB.out HAB.out HD.out HB5.out hW6 hF6 HFR.out; have HD6 := Lib.hid hD6; have HA6 := Lib.hid hA6; have HL6 := Lib.hid hL6; have HF6 := Lib.hid hf6; have HG6 := Lib.hid hf2; have HZ6 := Lib.hid hz6; have HZ2 := Lib.hid hg2; clear hD6 hW6 hF6 hA6 hL6 hf6 hz6 hg2 hf2 HFD HB5)))
      obtain ⟨f0, f1, f2⟩ := HF6.out
      obtain ⟨e0, e1, e2⟩ := HG6.out
      have hef := run_eq_frame (P : Int) ((k : Int) + 1) sx
      clear l0 l1 l2 HE HFR HX HFL HD HA HL
      go_quiet (fail)
      go_wp2
      clear f0 f1 f2 e0 e1 e2 hef
      have HRN := Lib.hid ((show Rnd w w6 ⟨a, b, c, d, f⟩ (mixK ⟨a, b, c, d, f⟩ ⟨qa, qb, qc, qd, qf⟩ k) g bd P 1 vc6 from ⟨HD6.out, HA6.out, HL6.out⟩).drewN nq)
      have HGF := Lib.hid (show FrAt (w6.drewN nq) g2 P ((k : Int) + 1) sx from HG6.out)
      have HAP := Lib.hid (fun W => apply_ok (mixK ⟨a, b, c, d, f⟩ ⟨qa, qb, qc, qd, qf⟩ k) (P : Int) ((k + 1 : Nat) : Int) sx W)
      rw [HSX.out, HMX.out, show ((k + 1 : Nat) : Int) = (k : Int) + 1 by omega] at HAP
      obtain ⟨M', hM'⟩ : ∃ M', M' = mixK ⟨a, b, c, d, f⟩ ⟨qa, qb, qc, qd, qf⟩ (k + 1) := ⟨_, rfl⟩
      rw [← hM'] at HAP
      have HM' := Lib.hid hM'
      obtain ⟨M, hM⟩ : ∃ M, M = mixK ⟨a, b, c, d, f⟩ ⟨qa, qb, qc, qd, qf⟩ k := ⟨_, rfl⟩
      rw [← hM] at HAP HRN
      clear hM hM' HMX HSX HA6 HD6 HL6 HF6 HG6 HZ6 HZ2
      generalize w6.drewN nq = w8 at *
      obtain ⟨ma, mb, mc, md, mf⟩ := M
      obtain ⟨na, nb, nc, nd, nf⟩ := M'
      simp only [Par.v, parE] at HAP
      refine wp_region_any (by kernel_rfl) ?_
      try (change wpAny _ _ _ _ _ _ _ (World.drew _))
      have HRN := Lib.hid HRN.out.drew
      have HGF := Lib.hid (show FrAt w8.drew g2 P ((k : Int) + 1) sx from HGF.out)
      generalize w8.drew = w9 at *
      obtain ⟨f0, f1, f2⟩ := HGF.out
      obtain ⟨_, ⟨_, ⟨z0, z1, z2, z3, z4⟩, kf, _, hsz⟩, _⟩ := HRN.out
      simp only at z0 z1 z2 z3 z4
      refine wpAny_take (i := 1) (v := ?_) rfl (by kernel_rfl) (by kernel_rfl) (by kernel_rfl) (fun _ _ _ h => h) (Or.inl ⟨by rfl, ?_⟩) ?_
      rotate_left
      · intro w; go_simp; with_reducible rfl
      refine wpAny_take (i := 2) (v := ?_) rfl (by kernel_rfl) (by kernel_rfl) (by kernel_rfl) (fun _ _ _ h => h) (Or.inl ⟨by rfl, ?_⟩) ?_
      rotate_left
      · intro w; go_simp; with_reducible rfl
      refine wpAny_ready (rs := [0, 3]) (by kernel_rfl) (by simp) ?_
      refine AllReady.cons rfl (fun K hK => ?_) (AllReady.cons rfl (fun K hK => ?_) AllReady.nil)
      · go_simp
        refine hK _ _ ?_
        clear hK K
        refine wpAny_ready (rs := [3]) (by kernel_rfl) (by simp) ?_
        refine AllReady.cons rfl (fun K hK => ?_) AllReady.nil
        go_simp
        refine hK _ _ ?_
        clear hK K
        refine wpAny_ready (rs := [4]) (by kernel_rfl) (by simp) ?_
        refine AllReady.cons rfl (fun K hK => ?_) AllReady.nil
        go_simp
        go_wp2_with ((go_at_call 7; refine (HAP.out _).mono ?_; rintro e w10 ⟨rfl, hb⟩; have HRN := Lib.hid (HRN.out.step HGB.out hb); clear hb; obtain ⟨_, ⟨_, ⟨z0, z1, z2, z3, z4⟩, kf, _, hsz⟩, _⟩ := HRN.out; simp only at z0 z1 z2 z3 z4))
        refine wpAny_take (i := 5) (v := ?_) rfl (by kernel_rfl) (by kernel_rfl) (by kernel_rfl) (fun _ _ _ h => h) (Or.inl ⟨by rfl, ?_⟩) ?_
        rotate_left
        · intro w; go_simp; with_reducible rfl
        refine wpAny_take (i := 6) (v := ?_) rfl (by kernel_rfl) (by kernel_rfl) (by kernel_rfl) (fun _ _ _ h => h) (Or.inl ⟨by rfl, ?_⟩) ?_
        rotate_left
        · intro w; go_simp; with_reducible rfl
        refine wpAny_take (i := 7) (v := ?_) rfl (by kernel_rfl) (by kernel_rfl) (by kernel_rfl) (fun _ _ _ h => h) (Or.inl ⟨by rfl, ?_⟩) ?_
        rotate_left
        · intro w; go_simp; with_reducible rfl
        refine wpAny_ready (rs := [8]) (by kernel_rfl) (by simp) ?_
        refine AllReady.cons rfl (fun K hK => ?_) AllReady.nil
        go_simp
        refine hK _ _ ?_
        clear hK K
        refine wpAny_ready (rs := [9]) (by kernel_rfl) (by simp) ?_
        refine AllReady.cons rfl (fun K hK => ?_) AllReady.nil
        go_simp
        refine hK _ _ ?_
        clear hK K
        refine wpAny_done (by kernel_rfl) ?_ _
        have HST := Lib.hid (HRN.out.stored ⟨na, nb, nc, nd, nf⟩ HGL.out HAB.out)
        clear HRN HGF HAP HGB HAB HGL HOP HOQ
        go_wp2
        go_roundw
        case rel => exact ⟨k + 1, by omega, by go_num, 1, vc6, by omega, HST.out.1, by rw [← HM'.out]; exact HST.out.2.1, HST.out.2.2⟩
        case measure => simp [intOf]; omega
      · go_simp
        refine hK _ _ ?_
        clear hK K
        refine wpAny_ready (rs := [0]) (by kernel_rfl) (by simp) ?_
        refine AllReady.cons rfl (fun K hK => ?_) AllReady.nil
        go_simp
        refine hK _ _ ?_
        clear hK K
        refine wpAny_ready (rs := [4]) (by kernel_rfl) (by simp) ?_
        refine AllReady.cons rfl (fun K hK => ?_) AllReady.nil
        go_simp
        go_wp2_with ((go_at_call 7; refine (HAP.out _).mono ?_; rintro e w10 ⟨rfl, hb⟩; have HRN := Lib.hid (HRN.out.step HGB.out hb); clear hb; obtain ⟨_, ⟨_, ⟨z0, z1, z2, z3, z4⟩, kf, _, hsz⟩, _⟩ := HRN.out; simp only at z0 z1 z2 z3 z4))
        refine wpAny_take (i := 5) (v := ?_) rfl (by kernel_rfl) (by kernel_rfl) (by kernel_rfl) (fun _ _ _ h => h) (Or.inl ⟨by rfl, ?_⟩) ?_
        rotate_left
        · intro w; go_simp; with_reducible rfl
        refine wpAny_take (i := 6) (v := ?_) rfl (by kernel_rfl) (by kernel_rfl) (by kernel_rfl) (fun _ _ _ h => h) (Or.inl ⟨by rfl, ?_⟩) ?_
        rotate_left
        · intro w; go_simp; with_reducible rfl
        refine wpAny_take (i := 7) (v := ?_) rfl (by kernel_rfl) (by kernel_rfl) (by kernel_rfl) (fun _ _ _ h => h) (Or.inl ⟨by rfl, ?_⟩) ?_
        rotate_left
        · intro w; go_simp; with_reducible rfl
        refine wpAny_ready (rs := [8]) (by kernel_rfl) (by simp) ?_
        refine AllReady.cons rfl (fun K hK => ?_) AllReady.nil
        go_simp
        refine hK _ _ ?_
        clear hK K
        refine wpAny_ready (rs := [9]) (by kernel_rfl) (by simp) ?_
        refine AllReady.cons rfl (fun K hK => ?_) AllReady.nil
        go_simp
        refine hK _ _ ?_
        clear hK K
        refine wpAny_done (by kernel_rfl) ?_ _
        have HST := Lib.hid (HRN.out.stored ⟨na, nb, nc, nd, nf⟩ HGL.out HAB.out)
        clear HRN HGF HAP HGB HAB HGL HOP HOQ
        go_wp2
        go_roundw
        case rel => exact ⟨k + 1, by omega, by go_num, 1, vc6, by omega, HST.out.1, by rw [← HM'.out]; exact HST.out.2.1, HST.out.2.2⟩
        case measure => simp [intOf]; omega
    · obtain rfl : k = 5 := by omega
      obtain ⟨pl, vc, hpl, hD, hA, h5⟩ := HR.out
      rw [mixK_five] at hA
      obtain ⟨⟨y0, y1, y2, y3, y4⟩, ⟨z0, z1, z2, z3, z4⟩, _, hbw, _⟩ := hA
      simp only at y0 y1 y2 y3 y4 z0 z1 z2 z3 z4
      have HBW := Lib.hid hbw
      have hep := run_eq_par a b c d f
      clear HR hD h5 hbw
      go_wp2
      go_ret
      exact ⟨rfl, HBW.out⟩
end Go.Proofs.Yteglaenjmeocmaa
