/-
The walk of SeqThrough over the contracts of both windows (written by tools/gen11/gen_through.py).
-/
import Derived.Test.YtmokibjeanbabaaSeqLawO
namespace Go.Proofs.Ytmokibjeanbabaa
open Go.RowKit
set_option maxRecDepth 20000
/-- how a step on the way lies -/
def encS11 : Enc (Int × Int) := ⟨2, by omega, fun o => [.int .i64 o.1, .int .i64 o.2], fun _ => rfl, fun o u hu => by
  rcases List.mem_cons.1 hu with rfl | hu
  · rfl
  · rw [List.mem_singleton.1 hu]; rfl⟩
theorem step_at {w : World} {g o : Nat} {L : List (Int × Int)} (h : AtL encS11 w (some ⟨g, o, none⟩) L) (k : Nat) (hk : k < L.length) :
    w.cell? ⟨g, o + k * 2, none⟩ = some (.int .i64 L[k].1) ∧ w.cell? ⟨g, o + k * 2 + 1, none⟩ = some (.int .i64 L[k].2) :=
  ⟨h.get k hk 0 rfl, h.get k hk 1 rfl⟩
set_option maxHeartbeats 2000000 in
theorem seqthrough_8 {RO : OutR} {RI : InR} (hO : OutC RO) (hI : InC RI) (k : Int) (a : Option Addr) (n c : Nat) (L : List (Int × Int)) (w : World) (hn : L.length = n) (hA : AtL encS11 w a L) : Calls Try.prog 6 #[.bool false, .int .i64 k, .slice a n c] w fun e w' => e = .returned (.bool true) ∧ Below w.heap.size w w' := by
  have HAW := Lib.hid (fun W => seqawake_of hI W)
  by_cases hg : (1 ≤ k ∧ 2 * k ≤ 8) ∧ n ≤ 400
  · obtain ⟨hk, hn4⟩ := hg
    have d0 : decide (k < 1) = false := decide_eq_false (by omega)
    have d1 : decide (4 < k) = false := decide_eq_false (by omega)
    have d2 : decide ((400 : Int) < (n : Int)) = false := decide_eq_false (by omega)
    have HNO := Lib.hid (fun W => hO.new 8 k W (by decide) (by omega))
    have HNI := Lib.hid (fun W => hI.new 8 k W (by decide) hk)
    have HA := Lib.hid hA
    have HN := Lib.hid hn
    have HK := Lib.hid hk
    clear hA hn
    go_enter Try.func6, Try.ntmps6
    go_upto_region 10 with (first | (go_at_call 8; (with_reducible refine (HAW.out _).mono ?_); rintro e w2 ⟨rfl, hb2⟩; have HB1 := Lib.hid hb2; clear hb2) | (go_at_call 13; (with_reducible refine (HNO.out _).mono ?_); rintro e w3 ⟨p, FO, rfl, hR, hF, hb⟩; have HO3 := Lib.hid (And.intro hR (And.intro (fun b h => Nat.le_trans HB1.out.size (hF b h)) (HB1.out.trans (hb.mono HB1.out.size)))); clear hR hF hb) | (go_at_call 25; (with_reducible refine (HNI.out _).mono ?_); rintro e w4 ⟨q, FI, rfl, hR, hF, hb⟩; have HT4 := Lib.hid (TwoAt.new (w0 := w) hO (by decide) HK.out HO3.out.1 HO3.out.2.1 HO3.out.2.2 hR hF hb); clear hR hF hb))
    clear HNO HNI HB1 HO3 HAW d0 d1 d2
    go_wp2_with fail
    go_loopw [12, 13, 62] (fun se ca ix wx => ∃ (j : Nat) (s : So) (t : Ti), j ≤ n ∧ ix = .int .i64 j ∧ se = .int .i64 s.opened ∧ ca = .int .i64 t.vr ∧ s.opened ≤ (j : Int) ∧ Hid (TwoAt RO RI w wx p q 8 k s t)) (fun _ _ ix _ => n - (intOf ix).toNat)
    case atStart => exact ⟨0, ⟨0, 0⟩, ⟨0, List.replicate 128 false⟩, Nat.zero_le _, rfl, rfl, rfl, by simp, HT4⟩
    case round =>
      obtain ⟨j, s, t, hj, rfl, rfl, rfl, hso, HT⟩ := hrel
      clear HT4
      by_cases hlt : j < n
      · have hL : j < L.length := by rw [HN.out]; exact hlt
        obtain ⟨g, o, rfl, _⟩ := HA.out.some_ (by omega)
        have ⟨x0, x1⟩ := step_at (HA.out.below HT.out.base) j hL
        obtain ⟨⟨KO, AT⟩, hq⟩ : ∃ q, L[j] = q := ⟨_, rfl⟩
        rw [hq] at x0 x1
        simp only at x0 x1
        clear hq
        have HX := Lib.hid (RowAt.new wr wr.heap.size rfl [.int .i64 KO, .int .i64 AT] 58)
        have HT2 := Lib.hid (HT.out.below hO hI ((Below.refl _ _).alloc (Nat.le_refl _) (.cells #[.int .i64 KO, .int .i64 AT] 58)))
        have hov := HT.out.th.hi
        have hvb := HT.out.th.ti.vb
        have hab := HT.out.th.so.ab
        clear HT
        go_upto_region 16 with (fail)
        clear x0 x1
        generalize (wr.alloc (.cells #[.int .i64 KO, .int .i64 AT] 58)) = wb at *
        generalize wr.heap.size = nb at *
        have x0 := HX.out.cell 0 rfl
        have x1 := HX.out.cell 1 rfl
        by_cases h0 : KO = 0
        · subst h0
          by_cases hf : s.opened - s.acked = k
          · have HX2 := Lib.hid (fun W h => next_two (w := W) (w0 := w) (p := p) (q := q) (m := 8) (k := k) (s := s) (t := t) hO hI h (by omega))
            rw [show nextS 8 k s = (s, 0, 6) from if_pos hf] at HX2
            clear hf
            go_upto_region 41 with (go_at_call 15; (with_reducible refine (HX2.out _ HT2.out).mono ?_); rintro e w6 ⟨rfl, hz⟩)
            clear HT2 HX2 x0 x1
            have HZ := Lib.hid hz
            obtain ⟨r, hr⟩ : ∃ r, (t.vr) % 8 = r := ⟨_, rfl⟩
            have HRR := Lib.hid hr
            have HVL := Lib.hid hz.th.hi
            have HY := Lib.hid (show (t.vr).tmod 8 = r ∧ IntKind.i64.wrap r = r from ⟨by rw [Int.tmod_eq_emod_of_nonneg hz.th.ti.vb.1]; exact hr, i64_small' _ (by omega) (by omega)⟩)
            have hvo : decide (s.opened < t.vr) = false := decide_eq_false (by have h : t.vr ≤ s.opened := HVL.out; omega)
            have HDV := Lib.hid hvo
            clear hz hr hvo
            refine wp_region_facts (fun W W' => Below W.heap.size W W') (fun W => TwoAt RO RI w W p q 8 k s t)
              (factsOf [.is (.int .i64 (t.vr)), .is (.int .i64 (s.opened)), .is (.bool false), .is (.bool false), .is (.pointer (some ⟨q, 0, none⟩)), .is (.int .i64 r), .is (.int .i64 (t.vr)), .is (.int .i64 8), .is (.int .i64 r), .is (.bool false), .is (.bool false)])
              (by kernel_rfl) (by kernel_rfl) (facts_stay _) (fun W W' hb h => h.below hO hI hb) (fun i => [u135, u136, u137, u138, u139, u140, u141, u142, u143, u144, u145].getD i undef) (by kernel_rfl) (HZ.out.below hO hI ((Below.refl _ _).drew)) ?Fa ?hFa ?hstepa ?henda
            case hFa =>
              intro u
              simp only [fillAct]
              go_simp
              rfl
            case hstepa =>
              clear HZ
              refine FSteps.cons ?_ ?_
              · intro u W hS hd K hK
                clear hd
                simp only [upd, reduceIte, Nat.reduceEqDiff] at hK
                go_simp
                exact hK.out _ _ (Below.refl _ _) rfl
              refine FSteps.cons ?_ ?_
              · intro u W hS hd K hK
                clear hd
                simp only [upd, reduceIte, Nat.reduceEqDiff] at hK
                go_simp
                exact hK.out _ _ (Below.refl _ _) rfl
              refine FSteps.cons ?_ ?_
              · intro u W hS hd K hK
                have h0 : u 0 = _ := hd 0 rfl
                have h1 : u 1 = _ := hd 1 rfl
                clear hd
                simp only [upd, h0, h1, reduceIte, Nat.reduceEqDiff] at hK
                have dv := HDV.out
                go_simp
                exact hK.out _ _ (Below.refl _ _) rfl
              refine FSteps.cons ?_ ?_
              · intro u W hS hd K hK
                have h2 : u 2 = _ := hd 2 rfl
                clear hd
                simp only [upd, h2, reduceIte, Nat.reduceEqDiff] at hK
                go_simp
                exact hK.out _ _ (Below.refl _ _) rfl
              refine FSteps.cons ?_ ?_
              · intro u W hS hd K hK
                have h3 : u 3 = _ := hd 3 rfl
                clear hd
                simp only [upd, h3, reduceIte, Nat.reduceEqDiff] at hK
                go_simp
                exact hK.out _ _ (Below.refl _ _) rfl
              refine FSteps.cons ?_ ?_
              · intro u W hS hd K hK
                have h3 : u 3 = _ := hd 3 rfl
                have h4 : u 4 = _ := hd 4 rfl
                clear hd
                simp only [upd, h3, h4, reduceIte, Nat.reduceEqDiff] at hK
                go_simp
                go_at_call 28
                refine (vr_two hI hS).mono ?_
                rintro e wc ⟨rfl, hb⟩
                exact hK.out _ _ hb (congrArg (Value.int .i64) HRR.out)
              refine FSteps.cons ?_ ?_
              · intro u W hS hd K hK
                have h3 : u 3 = _ := hd 3 rfl
                clear hd
                simp only [upd, h3, reduceIte, Nat.reduceEqDiff] at hK
                go_simp
                exact hK.out _ _ (Below.refl _ _) rfl
              refine FSteps.cons ?_ ?_
              · intro u W hS hd K hK
                have h3 : u 3 = _ := hd 3 rfl
                clear hd
                simp only [upd, h3, reduceIte, Nat.reduceEqDiff] at hK
                go_simp
                exact hK.out _ _ (Below.refl _ _) rfl
              refine FSteps.cons ?_ ?_
              · intro u W hS hd K hK
                have h3 : u 3 = _ := hd 3 rfl
                have h6 : u 6 = _ := hd 6 rfl
                have h7 : u 7 = _ := hd 7 rfl
                clear hd
                simp only [upd, h3, h6, h7, reduceIte, Nat.reduceEqDiff] at hK
                have y1 := HY.out.1
                have y2 := HY.out.2
                go_simp
                exact hK.out _ _ (Below.refl _ _) rfl
              refine FSteps.cons ?_ ?_
              · intro u W hS hd K hK
                have h3 : u 3 = _ := hd 3 rfl
                have h5 : u 5 = _ := hd 5 rfl
                have h8 : u 8 = _ := hd 8 rfl
                clear hd
                simp only [upd, h3, h5, h8, reduceIte, Nat.reduceEqDiff] at hK
                go_simp
                exact hK.out _ _ (Below.refl _ _) rfl
              refine FSteps.cons ?_ ?_
              · intro u W hS hd K hK
                have h3 : u 3 = _ := hd 3 rfl
                have h9 : u 9 = _ := hd 9 rfl
                clear hd
                simp only [upd, h3, h9, reduceIte, Nat.reduceEqDiff] at hK
                go_simp
                exact hK.out _ _ (Below.refl _ _) rfl
              exact trivial
            case henda =>
              intro u w9 hS hd
              have h10 : u 10 = _ := hd 10 rfl
              have HT9 := Lib.hid hS
              clear hd hS HZ
              rw [h10]
              go_wp2_with fail
              go_roundw
              case rel => exact ⟨j + 1, s, t, hlt, by go_num, rfl, rfl, by show s.opened ≤ ((j + 1 : Nat) : Int); omega, HT9⟩
              case measure => simp [intOf]; omega
          · have HX2 := Lib.hid (fun W h => next_two (w := W) (w0 := w) (p := p) (q := q) (m := 8) (k := k) (s := s) (t := t) hO hI h (by omega))
            rw [show nextS 8 k s = (⟨s.opened + 1, s.acked⟩, s.opened % 8, 0) from if_neg hf] at HX2
            have y1 : s.opened.tmod 8 = s.opened % 8 := Int.tmod_eq_emod_of_nonneg (by omega)
            have y2 : IntKind.i64.wrap (s.opened % 8) = s.opened % 8 := i64_small' _ (by omega) (by omega)
            have z1 : IntKind.i64.wrap (s.opened + 1) = s.opened + 1 := i64_small' _ (by omega) (by omega)
            generalize s.opened % 8 = r0 at *
            clear hf
            go_upto_region 41 with (go_at_call 15; (with_reducible refine (HX2.out _ HT2.out).mono ?_); rintro e w6 ⟨rfl, hz⟩)
            clear HT2 HX2 x0 x1 y1 y2 z1
            have HZ := Lib.hid hz
            obtain ⟨r, hr⟩ : ∃ r, (t.vr) % 8 = r := ⟨_, rfl⟩
            have HRR := Lib.hid hr
            have HVL := Lib.hid hz.th.hi
            have HY := Lib.hid (show (t.vr).tmod 8 = r ∧ IntKind.i64.wrap r = r from ⟨by rw [Int.tmod_eq_emod_of_nonneg hz.th.ti.vb.1]; exact hr, i64_small' _ (by omega) (by omega)⟩)
            have hvo : decide (s.opened + 1 < t.vr) = false := decide_eq_false (by have h : t.vr ≤ s.opened + 1 := HVL.out; omega)
            have HDV := Lib.hid hvo
            clear hz hr hvo
            refine wp_region_facts (fun W W' => Below W.heap.size W W') (fun W => TwoAt RO RI w W p q 8 k ⟨s.opened + 1, s.acked⟩ t)
              (factsOf [.is (.int .i64 (t.vr)), .is (.int .i64 (s.opened + 1)), .is (.bool false), .is (.bool false), .is (.pointer (some ⟨q, 0, none⟩)), .is (.int .i64 r), .is (.int .i64 (t.vr)), .is (.int .i64 8), .is (.int .i64 r), .is (.bool false), .is (.bool false)])
              (by kernel_rfl) (by kernel_rfl) (facts_stay _) (fun W W' hb h => h.below hO hI hb) (fun i => [u135, u136, u137, u138, u139, u140, u141, u142, u143, u144, u145].getD i undef) (by kernel_rfl) (HZ.out.below hO hI ((Below.refl _ _).drew)) ?Fb ?hFb ?hstepb ?hendb
            case hFb =>
              intro u
              simp only [fillAct]
              go_simp
              rfl
            case hstepb =>
              clear HZ
              refine FSteps.cons ?_ ?_
              · intro u W hS hd K hK
                clear hd
                simp only [upd, reduceIte, Nat.reduceEqDiff] at hK
                go_simp
                exact hK.out _ _ (Below.refl _ _) rfl
              refine FSteps.cons ?_ ?_
              · intro u W hS hd K hK
                clear hd
                simp only [upd, reduceIte, Nat.reduceEqDiff] at hK
                go_simp
                exact hK.out _ _ (Below.refl _ _) rfl
              refine FSteps.cons ?_ ?_
              · intro u W hS hd K hK
                have h0 : u 0 = _ := hd 0 rfl
                have h1 : u 1 = _ := hd 1 rfl
                clear hd
                simp only [upd, h0, h1, reduceIte, Nat.reduceEqDiff] at hK
                have dv := HDV.out
                go_simp
                exact hK.out _ _ (Below.refl _ _) rfl
              refine FSteps.cons ?_ ?_
              · intro u W hS hd K hK
                have h2 : u 2 = _ := hd 2 rfl
                clear hd
                simp only [upd, h2, reduceIte, Nat.reduceEqDiff] at hK
                go_simp
                exact hK.out _ _ (Below.refl _ _) rfl
              refine FSteps.cons ?_ ?_
              · intro u W hS hd K hK
                have h3 : u 3 = _ := hd 3 rfl
                clear hd
                simp only [upd, h3, reduceIte, Nat.reduceEqDiff] at hK
                go_simp
                exact hK.out _ _ (Below.refl _ _) rfl
              refine FSteps.cons ?_ ?_
              · intro u W hS hd K hK
                have h3 : u 3 = _ := hd 3 rfl
                have h4 : u 4 = _ := hd 4 rfl
                clear hd
                simp only [upd, h3, h4, reduceIte, Nat.reduceEqDiff] at hK
                go_simp
                go_at_call 28
                refine (vr_two hI hS).mono ?_
                rintro e wc ⟨rfl, hb⟩
                exact hK.out _ _ hb (congrArg (Value.int .i64) HRR.out)
              refine FSteps.cons ?_ ?_
              · intro u W hS hd K hK
                have h3 : u 3 = _ := hd 3 rfl
                clear hd
                simp only [upd, h3, reduceIte, Nat.reduceEqDiff] at hK
                go_simp
                exact hK.out _ _ (Below.refl _ _) rfl
              refine FSteps.cons ?_ ?_
              · intro u W hS hd K hK
                have h3 : u 3 = _ := hd 3 rfl
                clear hd
                simp only [upd, h3, reduceIte, Nat.reduceEqDiff] at hK
                go_simp
                exact hK.out _ _ (Below.refl _ _) rfl
              refine FSteps.cons ?_ ?_
              · intro u W hS hd K hK
                have h3 : u 3 = _ := hd 3 rfl
                have h6 : u 6 = _ := hd 6 rfl
                have h7 : u 7 = _ := hd 7 rfl
                clear hd
                simp only [upd, h3, h6, h7, reduceIte, Nat.reduceEqDiff] at hK
                have y1 := HY.out.1
                have y2 := HY.out.2
                go_simp
                exact hK.out _ _ (Below.refl _ _) rfl
              refine FSteps.cons ?_ ?_
              · intro u W hS hd K hK
                have h3 : u 3 = _ := hd 3 rfl
                have h5 : u 5 = _ := hd 5 rfl
                have h8 : u 8 = _ := hd 8 rfl
                clear hd
                simp only [upd, h3, h5, h8, reduceIte, Nat.reduceEqDiff] at hK
                go_simp
                exact hK.out _ _ (Below.refl _ _) rfl
              refine FSteps.cons ?_ ?_
              · intro u W hS hd K hK
                have h3 : u 3 = _ := hd 3 rfl
                have h9 : u 9 = _ := hd 9 rfl
                clear hd
                simp only [upd, h3, h9, reduceIte, Nat.reduceEqDiff] at hK
                go_simp
                exact hK.out _ _ (Below.refl _ _) rfl
              exact trivial
            case hendb =>
              intro u w9 hS hd
              have h10 : u 10 = _ := hd 10 rfl
              have HT9 := Lib.hid hS
              clear hd hS HZ
              rw [h10]
              go_wp2_with fail
              go_roundw
              case rel => exact ⟨j + 1, ⟨s.opened + 1, s.acked⟩, t, hlt, by go_num, rfl, rfl, by show s.opened + 1 ≤ ((j + 1 : Nat) : Int); omega, HT9⟩
              case measure => simp [intOf]; omega
        · have k0 : (KO == 0) = false := by rw [beq_eq_false_iff_ne]; exact h0
          by_cases h2 : KO = 2
          · subst h2
            have HX1 := Lib.hid (fun W h => vr_two (RO := RO) (w := W) (w0 := w) (p := p) (q := q) (m := 8) (k := k) (s := s) (t := t) hI h)
            have HX2 := Lib.hid (fun W h => acks_two (w := W) (w0 := w) (p := p) (q := q) (m := 8) (k := k) (s := s) (t := t) hO hI h)
            go_upto_region 41 with (first | (go_at_call 28; (with_reducible refine (HX1.out _ HT2.out).mono ?_); rintro e w6 ⟨rfl, hb⟩; have HT3 := Lib.hid (HT2.out.below hO hI hb); clear hb) | (go_at_call 18; (with_reducible refine (HX2.out _ HT3.out).mono ?_); rintro e w7 ⟨rfl, hz⟩))
            clear HT2 HX2 HX1 HT3 x0 x1 k0 h0
            have HZ := Lib.hid hz
            obtain ⟨r, hr⟩ : ∃ r, (t.vr) % 8 = r := ⟨_, rfl⟩
            have HRR := Lib.hid hr
            have HVL := Lib.hid hz.th.hi
            have HY := Lib.hid (show (t.vr).tmod 8 = r ∧ IntKind.i64.wrap r = r from ⟨by rw [Int.tmod_eq_emod_of_nonneg hz.th.ti.vb.1]; exact hr, i64_small' _ (by omega) (by omega)⟩)
            have hvo : decide (s.opened < t.vr) = false := decide_eq_false (by have h : t.vr ≤ s.opened := HVL.out; omega)
            have HDV := Lib.hid hvo
            clear hz hr hvo
            refine wp_region_facts (fun W W' => Below W.heap.size W W') (fun W => TwoAt RO RI w W p q 8 k ⟨s.opened, t.vr⟩ t)
              (factsOf [.is (.int .i64 (t.vr)), .is (.int .i64 (s.opened)), .is (.bool false), .is (.bool false), .is (.pointer (some ⟨q, 0, none⟩)), .is (.int .i64 r), .is (.int .i64 (t.vr)), .is (.int .i64 8), .is (.int .i64 r), .is (.bool false), .is (.bool false)])
              (by kernel_rfl) (by kernel_rfl) (facts_stay _) (fun W W' hb h => h.below hO hI hb) (fun i => [u135, u136, u137, u138, u139, u140, u141, u142, u143, u144, u145].getD i undef) (by kernel_rfl) (HZ.out.below hO hI ((Below.refl _ _).drew)) ?Fc ?hFc ?hstepc ?hendc
            case hFc =>
              intro u
              simp only [fillAct]
              go_simp
              rfl
            case hstepc =>
              clear HZ
              refine FSteps.cons ?_ ?_
              · intro u W hS hd K hK
                clear hd
                simp only [upd, reduceIte, Nat.reduceEqDiff] at hK
                go_simp
                exact hK.out _ _ (Below.refl _ _) rfl
              refine FSteps.cons ?_ ?_
              · intro u W hS hd K hK
                clear hd
                simp only [upd, reduceIte, Nat.reduceEqDiff] at hK
                go_simp
                exact hK.out _ _ (Below.refl _ _) rfl
              refine FSteps.cons ?_ ?_
              · intro u W hS hd K hK
                have h0 : u 0 = _ := hd 0 rfl
                have h1 : u 1 = _ := hd 1 rfl
                clear hd
                simp only [upd, h0, h1, reduceIte, Nat.reduceEqDiff] at hK
                have dv := HDV.out
                go_simp
                exact hK.out _ _ (Below.refl _ _) rfl
              refine FSteps.cons ?_ ?_
              · intro u W hS hd K hK
                have h2 : u 2 = _ := hd 2 rfl
                clear hd
                simp only [upd, h2, reduceIte, Nat.reduceEqDiff] at hK
                go_simp
                exact hK.out _ _ (Below.refl _ _) rfl
              refine FSteps.cons ?_ ?_
              · intro u W hS hd K hK
                have h3 : u 3 = _ := hd 3 rfl
                clear hd
                simp only [upd, h3, reduceIte, Nat.reduceEqDiff] at hK
                go_simp
                exact hK.out _ _ (Below.refl _ _) rfl
              refine FSteps.cons ?_ ?_
              · intro u W hS hd K hK
                have h3 : u 3 = _ := hd 3 rfl
                have h4 : u 4 = _ := hd 4 rfl
                clear hd
                simp only [upd, h3, h4, reduceIte, Nat.reduceEqDiff] at hK
                go_simp
                go_at_call 28
                refine (vr_two hI hS).mono ?_
                rintro e wc ⟨rfl, hb⟩
                exact hK.out _ _ hb (congrArg (Value.int .i64) HRR.out)
              refine FSteps.cons ?_ ?_
              · intro u W hS hd K hK
                have h3 : u 3 = _ := hd 3 rfl
                clear hd
                simp only [upd, h3, reduceIte, Nat.reduceEqDiff] at hK
                go_simp
                exact hK.out _ _ (Below.refl _ _) rfl
              refine FSteps.cons ?_ ?_
              · intro u W hS hd K hK
                have h3 : u 3 = _ := hd 3 rfl
                clear hd
                simp only [upd, h3, reduceIte, Nat.reduceEqDiff] at hK
                go_simp
                exact hK.out _ _ (Below.refl _ _) rfl
              refine FSteps.cons ?_ ?_
              · intro u W hS hd K hK
                have h3 : u 3 = _ := hd 3 rfl
                have h6 : u 6 = _ := hd 6 rfl
                have h7 : u 7 = _ := hd 7 rfl
                clear hd
                simp only [upd, h3, h6, h7, reduceIte, Nat.reduceEqDiff] at hK
                have y1 := HY.out.1
                have y2 := HY.out.2
                go_simp
                exact hK.out _ _ (Below.refl _ _) rfl
              refine FSteps.cons ?_ ?_
              · intro u W hS hd K hK
                have h3 : u 3 = _ := hd 3 rfl
                have h5 : u 5 = _ := hd 5 rfl
                have h8 : u 8 = _ := hd 8 rfl
                clear hd
                simp only [upd, h3, h5, h8, reduceIte, Nat.reduceEqDiff] at hK
                go_simp
                exact hK.out _ _ (Below.refl _ _) rfl
              refine FSteps.cons ?_ ?_
              · intro u W hS hd K hK
                have h3 : u 3 = _ := hd 3 rfl
                have h9 : u 9 = _ := hd 9 rfl
                clear hd
                simp only [upd, h3, h9, reduceIte, Nat.reduceEqDiff] at hK
                go_simp
                exact hK.out _ _ (Below.refl _ _) rfl
              exact trivial
            case hendc =>
              intro u w9 hS hd
              have h10 : u 10 = _ := hd 10 rfl
              have HT9 := Lib.hid hS
              clear hd hS HZ
              rw [h10]
              go_wp2_with fail
              go_roundw
              case rel => exact ⟨j + 1, ⟨s.opened, t.vr⟩, t, hlt, by go_num, rfl, rfl, by show s.opened ≤ ((j + 1 : Nat) : Int); omega, HT9⟩
              case measure => simp [intOf]; omega
          · have k2 : (KO == 2) = false := by rw [beq_eq_false_iff_ne]; exact h2
            by_cases h1 : KO = 1
            · subst h1
              have HXO := Lib.hid (fun W h => open_two (w := W) (w0 := w) (p := p) (q := q) (m := 8) (k := k) (s := s) (t := t) hO hI h)
              obtain ⟨D, hD⟩ : ∃ D : Nat, (D : Int) = s.opened - s.acked := ⟨(s.opened - s.acked).toNat, by omega⟩
              have HLE := Lib.hid (show (openS 8 s).length = D from by simp only [openS, List.length_map, List.length_range]; omega)
              go_upto_region 25 with (go_at_call 21; (with_reducible refine (HXO.out _ HT2.out).mono ?_); rintro e w6 ⟨v6, rfl, ho, hz, hb⟩; obtain ⟨a6, c6, hv, hA6⟩ := ho.see; rw [HLE.out] at hv; subst hv; have HA6 := Lib.hid hA6; have HT3 := Lib.hid hz; have HX6 := Lib.hid (HX.out.below hb); clear hz hA6 ho hb)
              clear HT2 HXO x0 x1 k0 k2 h0 h2
              have x1 := HX6.out.cell 1 rfl
              by_cases hD0 : D = 0
              · subst hD0
                go_wp2_with fail
                go_roundw
                case rel => exact ⟨j + 1, s, t, hlt, by go_num, rfl, rfl, by show s.opened ≤ ((j + 1 : Nat) : Int); omega, HT3⟩
                case measure => simp [intOf]; omega
              · have dl : ((D : Int) == 0) = false := by rw [beq_eq_false_iff_ne]; omega
                have HDD := Lib.hid hD
                obtain ⟨g6, o6, rfl, _⟩ := HA6.out.some_ (by rw [HLE.out]; omega)
                by_cases hA0 : AT < 0
                · have dA : decide (AT < 0) = true := decide_eq_true hA0
                  have HXT := Lib.hid (fun W h => take_two (w := W) (w0 := w) (p := p) (q := q) (m := 8) (k := k) (s := s) (t := t) hO hI h 0 (by omega) (by omega))
                  have x3 : w6.cell? ⟨g6, o6, none⟩ = some (.int .i64 ((s.acked + (0 : Nat)) % 8)) := by
                    have h3 := int_at HA6.out 0 (by rw [HLE.out]; omega)
                    rw [show (openS 8 s)[0]'(by rw [HLE.out]; omega) = (s.acked + (0 : Nat)) % 8 from by simp [openS]] at h3
                    exact h3
                  generalize (s.acked + (0 : Nat)) % 8 = r1 at *
                  go_upto_region 30 with (go_at_call 26; (with_reducible refine (HXT.out _ HT3.out).mono ?_); rintro e w7 ⟨v7, x7, r7, t7, rfl, ho, hv7, hr7, hz⟩; obtain ⟨a7, c7, hv, hA7⟩ := ho.see; rw [outT_len] at hv; subst hv; have HA7 := Lib.hid hA7; have HT7 := Lib.hid hz; have HV7 := Lib.hid hv7; clear hz hv7 hA7 ho)
                  clear x3 HXT HT3 HA6 x1
                  go_wp2_with fail
                  go_loopw [13, 112] (fun ca ix wx => ∃ i : Nat, i ≤ r7 ∧ ix = .int .i64 i ∧ ca = .int .i64 (t.vr + i) ∧ w7 = wx) (fun _ ix _ => r7 - (intOf ix).toNat)
                  case atStart => exact ⟨0, Nat.zero_le _, rfl, by simp, rfl⟩
                  case round =>
                    obtain ⟨i, hi, rfl, rfl, rfl⟩ := hrel
                    by_cases hil : i < r7
                    · obtain ⟨g7, o7, rfl, _⟩ := HA7.out.some_ (by rw [outT_len]; omega)
                      have x4 : w7.cell? ⟨g7, o7 + i, none⟩ = some (.int .i64 ((t.vr + (i : Nat)) % 8)) := by
                        have h3 := int_at HA7.out i (by rw [outT_len]; omega)
                        rw [show (outT 8 t.vr r7)[i]'(by rw [outT_len]; omega) = (t.vr + (i : Nat)) % 8 from by simp [outT]] at h3
                        exact h3
                      obtain ⟨n2, hn2⟩ : ∃ n2 : Int, t.vr + (i : Nat) = n2 := ⟨_, rfl⟩
                      rw [hn2] at x4 ⊢
                      have y1 : n2.tmod 8 = n2 % 8 := Int.tmod_eq_emod_of_nonneg (by omega)
                      have y2 : IntKind.i64.wrap (n2 % 8) = n2 % 8 := i64_small' _ (by omega) (by omega)
                      have z1 : IntKind.i64.wrap (n2 + 1) = n2 + 1 := i64_small' _ (by omega) (by omega)
                      have HN1 := Lib.hid (show t.vr + ((i + 1 : Nat) : Int) = n2 + 1 from by omega)
                      clear hn2
                      generalize n2 % 8 = r2 at *
                      go_wp2_with fail
                      go_roundw
                      case rel => exact ⟨i + 1, by omega, by go_num, by rw [HN1.out], by first | rfl | trivial⟩
                      case measure => simp [intOf]; omega
                    · have hie : i = r7 := by omega
                      subst hie
                      rw [← HV7.out]
                      go_upto_region 41 with (fail)
                      have hz := HT7.out
                      clear HT7 HA7 HV7
                      have HZ := Lib.hid hz
                      obtain ⟨r, hr⟩ : ∃ r, (t7.vr) % 8 = r := ⟨_, rfl⟩
                      have HRR := Lib.hid hr
                      have HVL := Lib.hid hz.th.hi
                      have HY := Lib.hid (show (t7.vr).tmod 8 = r ∧ IntKind.i64.wrap r = r from ⟨by rw [Int.tmod_eq_emod_of_nonneg hz.th.ti.vb.1]; exact hr, i64_small' _ (by omega) (by omega)⟩)
                      have hvo : decide (s.opened < t7.vr) = false := decide_eq_false (by have h : t7.vr ≤ s.opened := HVL.out; omega)
                      have HDV := Lib.hid hvo
                      clear hz hr hvo
                      refine wp_region_facts (fun W W' => Below W.heap.size W W') (fun W => TwoAt RO RI w W p q 8 k s t7)
                        (factsOf [.is (.int .i64 (t7.vr)), .is (.int .i64 (s.opened)), .is (.bool false), .is (.bool false), .is (.pointer (some ⟨q, 0, none⟩)), .is (.int .i64 r), .is (.int .i64 (t7.vr)), .is (.int .i64 8), .is (.int .i64 r), .is (.bool false), .is (.bool false)])
                        (by kernel_rfl) (by kernel_rfl) (facts_stay _) (fun W W' hb h => h.below hO hI hb) (fun i => [u135, u136, u137, u138, u139, u140, u141, u142, u143, u144, u145].getD i undef) (by kernel_rfl) (HZ.out.below hO hI ((Below.refl _ _).drew)) ?Fe ?hFe ?hstepe ?hende
                      case hFe =>
                        intro u
                        simp only [fillAct]
                        go_simp
                        rfl
                      case hstepe =>
                        clear HZ
                        refine FSteps.cons ?_ ?_
                        · intro u W hS hd K hK
                          clear hd
                          simp only [upd, reduceIte, Nat.reduceEqDiff] at hK
                          go_simp
                          exact hK.out _ _ (Below.refl _ _) rfl
                        refine FSteps.cons ?_ ?_
                        · intro u W hS hd K hK
                          clear hd
                          simp only [upd, reduceIte, Nat.reduceEqDiff] at hK
                          go_simp
                          exact hK.out _ _ (Below.refl _ _) rfl
                        refine FSteps.cons ?_ ?_
                        · intro u W hS hd K hK
                          have h0 : u 0 = _ := hd 0 rfl
                          have h1 : u 1 = _ := hd 1 rfl
                          clear hd
                          simp only [upd, h0, h1, reduceIte, Nat.reduceEqDiff] at hK
                          have dv := HDV.out
                          go_simp
                          exact hK.out _ _ (Below.refl _ _) rfl
                        refine FSteps.cons ?_ ?_
                        · intro u W hS hd K hK
                          have h2 : u 2 = _ := hd 2 rfl
                          clear hd
                          simp only [upd, h2, reduceIte, Nat.reduceEqDiff] at hK
                          go_simp
                          exact hK.out _ _ (Below.refl _ _) rfl
                        refine FSteps.cons ?_ ?_
                        · intro u W hS hd K hK
                          have h3 : u 3 = _ := hd 3 rfl
                          clear hd
                          simp only [upd, h3, reduceIte, Nat.reduceEqDiff] at hK
                          go_simp
                          exact hK.out _ _ (Below.refl _ _) rfl
                        refine FSteps.cons ?_ ?_
                        · intro u W hS hd K hK
                          have h3 : u 3 = _ := hd 3 rfl
                          have h4 : u 4 = _ := hd 4 rfl
                          clear hd
                          simp only [upd, h3, h4, reduceIte, Nat.reduceEqDiff] at hK
                          go_simp
                          go_at_call 28
                          refine (vr_two hI hS).mono ?_
                          rintro e wc ⟨rfl, hb⟩
                          exact hK.out _ _ hb (congrArg (Value.int .i64) HRR.out)
                        refine FSteps.cons ?_ ?_
                        · intro u W hS hd K hK
                          have h3 : u 3 = _ := hd 3 rfl
                          clear hd
                          simp only [upd, h3, reduceIte, Nat.reduceEqDiff] at hK
                          go_simp
                          exact hK.out _ _ (Below.refl _ _) rfl
                        refine FSteps.cons ?_ ?_
                        · intro u W hS hd K hK
                          have h3 : u 3 = _ := hd 3 rfl
                          clear hd
                          simp only [upd, h3, reduceIte, Nat.reduceEqDiff] at hK
                          go_simp
                          exact hK.out _ _ (Below.refl _ _) rfl
                        refine FSteps.cons ?_ ?_
                        · intro u W hS hd K hK
                          have h3 : u 3 = _ := hd 3 rfl
                          have h6 : u 6 = _ := hd 6 rfl
                          have h7 : u 7 = _ := hd 7 rfl
                          clear hd
                          simp only [upd, h3, h6, h7, reduceIte, Nat.reduceEqDiff] at hK
                          have y1 := HY.out.1
                          have y2 := HY.out.2
                          go_simp
                          exact hK.out _ _ (Below.refl _ _) rfl
                        refine FSteps.cons ?_ ?_
                        · intro u W hS hd K hK
                          have h3 : u 3 = _ := hd 3 rfl
                          have h5 : u 5 = _ := hd 5 rfl
                          have h8 : u 8 = _ := hd 8 rfl
                          clear hd
                          simp only [upd, h3, h5, h8, reduceIte, Nat.reduceEqDiff] at hK
                          go_simp
                          exact hK.out _ _ (Below.refl _ _) rfl
                        refine FSteps.cons ?_ ?_
                        · intro u W hS hd K hK
                          have h3 : u 3 = _ := hd 3 rfl
                          have h9 : u 9 = _ := hd 9 rfl
                          clear hd
                          simp only [upd, h3, h9, reduceIte, Nat.reduceEqDiff] at hK
                          go_simp
                          exact hK.out _ _ (Below.refl _ _) rfl
                        exact trivial
                      case hende =>
                        intro u w9 hS hd
                        have h10 : u 10 = _ := hd 10 rfl
                        have HT9 := Lib.hid hS
                        clear hd hS HZ
                        rw [h10]
                        go_wp2_with fail
                        go_roundw
                        case rel => exact ⟨j + 1, s, t7, hlt, by go_num, rfl, rfl, by show s.opened ≤ ((j + 1 : Nat) : Int); omega, HT9⟩
                        case measure => simp [intOf]; omega
                · have dA : decide (AT < 0) = false := decide_eq_false hA0
                  by_cases hB : (D : Int) ≤ AT
                  · have dB : decide ((D : Int) ≤ AT) = true := decide_eq_true hB
                    have HXT := Lib.hid (fun W h => take_two (w := W) (w0 := w) (p := p) (q := q) (m := 8) (k := k) (s := s) (t := t) hO hI h 0 (by omega) (by omega))
                    have x3 : w6.cell? ⟨g6, o6, none⟩ = some (.int .i64 ((s.acked + (0 : Nat)) % 8)) := by
                      have h3 := int_at HA6.out 0 (by rw [HLE.out]; omega)
                      rw [show (openS 8 s)[0]'(by rw [HLE.out]; omega) = (s.acked + (0 : Nat)) % 8 from by simp [openS]] at h3
                      exact h3
                    generalize (s.acked + (0 : Nat)) % 8 = r1 at *
                    go_upto_region 30 with (go_at_call 26; (with_reducible refine (HXT.out _ HT3.out).mono ?_); rintro e w7 ⟨v7, x7, r7, t7, rfl, ho, hv7, hr7, hz⟩; obtain ⟨a7, c7, hv, hA7⟩ := ho.see; rw [outT_len] at hv; subst hv; have HA7 := Lib.hid hA7; have HT7 := Lib.hid hz; have HV7 := Lib.hid hv7; clear hz hv7 hA7 ho)
                    clear x3 HXT HT3 HA6 x1
                    go_wp2_with fail
                    go_loopw [13, 112] (fun ca ix wx => ∃ i : Nat, i ≤ r7 ∧ ix = .int .i64 i ∧ ca = .int .i64 (t.vr + i) ∧ w7 = wx) (fun _ ix _ => r7 - (intOf ix).toNat)
                    case atStart => exact ⟨0, Nat.zero_le _, rfl, by simp, rfl⟩
                    case round =>
                      obtain ⟨i, hi, rfl, rfl, rfl⟩ := hrel
                      by_cases hil : i < r7
                      · obtain ⟨g7, o7, rfl, _⟩ := HA7.out.some_ (by rw [outT_len]; omega)
                        have x4 : w7.cell? ⟨g7, o7 + i, none⟩ = some (.int .i64 ((t.vr + (i : Nat)) % 8)) := by
                          have h3 := int_at HA7.out i (by rw [outT_len]; omega)
                          rw [show (outT 8 t.vr r7)[i]'(by rw [outT_len]; omega) = (t.vr + (i : Nat)) % 8 from by simp [outT]] at h3
                          exact h3
                        obtain ⟨n2, hn2⟩ : ∃ n2 : Int, t.vr + (i : Nat) = n2 := ⟨_, rfl⟩
                        rw [hn2] at x4 ⊢
                        have y1 : n2.tmod 8 = n2 % 8 := Int.tmod_eq_emod_of_nonneg (by omega)
                        have y2 : IntKind.i64.wrap (n2 % 8) = n2 % 8 := i64_small' _ (by omega) (by omega)
                        have z1 : IntKind.i64.wrap (n2 + 1) = n2 + 1 := i64_small' _ (by omega) (by omega)
                        have HN1 := Lib.hid (show t.vr + ((i + 1 : Nat) : Int) = n2 + 1 from by omega)
                        clear hn2
                        generalize n2 % 8 = r2 at *
                        go_wp2_with fail
                        go_roundw
                        case rel => exact ⟨i + 1, by omega, by go_num, by rw [HN1.out], by first | rfl | trivial⟩
                        case measure => simp [intOf]; omega
                      · have hie : i = r7 := by omega
                        subst hie
                        rw [← HV7.out]
                        go_upto_region 41 with (fail)
                        have hz := HT7.out
                        clear HT7 HA7 HV7
                        have HZ := Lib.hid hz
                        obtain ⟨r, hr⟩ : ∃ r, (t7.vr) % 8 = r := ⟨_, rfl⟩
                        have HRR := Lib.hid hr
                        have HVL := Lib.hid hz.th.hi
                        have HY := Lib.hid (show (t7.vr).tmod 8 = r ∧ IntKind.i64.wrap r = r from ⟨by rw [Int.tmod_eq_emod_of_nonneg hz.th.ti.vb.1]; exact hr, i64_small' _ (by omega) (by omega)⟩)
                        have hvo : decide (s.opened < t7.vr) = false := decide_eq_false (by have h : t7.vr ≤ s.opened := HVL.out; omega)
                        have HDV := Lib.hid hvo
                        clear hz hr hvo
                        refine wp_region_facts (fun W W' => Below W.heap.size W W') (fun W => TwoAt RO RI w W p q 8 k s t7)
                          (factsOf [.is (.int .i64 (t7.vr)), .is (.int .i64 (s.opened)), .is (.bool false), .is (.bool false), .is (.pointer (some ⟨q, 0, none⟩)), .is (.int .i64 r), .is (.int .i64 (t7.vr)), .is (.int .i64 8), .is (.int .i64 r), .is (.bool false), .is (.bool false)])
                          (by kernel_rfl) (by kernel_rfl) (facts_stay _) (fun W W' hb h => h.below hO hI hb) (fun i => [u135, u136, u137, u138, u139, u140, u141, u142, u143, u144, u145].getD i undef) (by kernel_rfl) (HZ.out.below hO hI ((Below.refl _ _).drew)) ?Fg ?hFg ?hstepg ?hendg
                        case hFg =>
                          intro u
                          simp only [fillAct]
                          go_simp
                          rfl
                        case hstepg =>
                          clear HZ
                          refine FSteps.cons ?_ ?_
                          · intro u W hS hd K hK
                            clear hd
                            simp only [upd, reduceIte, Nat.reduceEqDiff] at hK
                            go_simp
                            exact hK.out _ _ (Below.refl _ _) rfl
                          refine FSteps.cons ?_ ?_
                          · intro u W hS hd K hK
                            clear hd
                            simp only [upd, reduceIte, Nat.reduceEqDiff] at hK
                            go_simp
                            exact hK.out _ _ (Below.refl _ _) rfl
                          refine FSteps.cons ?_ ?_
                          · intro u W hS hd K hK
                            have h0 : u 0 = _ := hd 0 rfl
                            have h1 : u 1 = _ := hd 1 rfl
                            clear hd
                            simp only [upd, h0, h1, reduceIte, Nat.reduceEqDiff] at hK
                            have dv := HDV.out
                            go_simp
                            exact hK.out _ _ (Below.refl _ _) rfl
                          refine FSteps.cons ?_ ?_
                          · intro u W hS hd K hK
                            have h2 : u 2 = _ := hd 2 rfl
                            clear hd
                            simp only [upd, h2, reduceIte, Nat.reduceEqDiff] at hK
                            go_simp
                            exact hK.out _ _ (Below.refl _ _) rfl
                          refine FSteps.cons ?_ ?_
                          · intro u W hS hd K hK
                            have h3 : u 3 = _ := hd 3 rfl
                            clear hd
                            simp only [upd, h3, reduceIte, Nat.reduceEqDiff] at hK
                            go_simp
                            exact hK.out _ _ (Below.refl _ _) rfl
                          refine FSteps.cons ?_ ?_
                          · intro u W hS hd K hK
                            have h3 : u 3 = _ := hd 3 rfl
                            have h4 : u 4 = _ := hd 4 rfl
                            clear hd
                            simp only [upd, h3, h4, reduceIte, Nat.reduceEqDiff] at hK
                            go_simp
                            go_at_call 28
                            refine (vr_two hI hS).mono ?_
                            rintro e wc ⟨rfl, hb⟩
                            exact hK.out _ _ hb (congrArg (Value.int .i64) HRR.out)
                          refine FSteps.cons ?_ ?_
                          · intro u W hS hd K hK
                            have h3 : u 3 = _ := hd 3 rfl
                            clear hd
                            simp only [upd, h3, reduceIte, Nat.reduceEqDiff] at hK
                            go_simp
                            exact hK.out _ _ (Below.refl _ _) rfl
                          refine FSteps.cons ?_ ?_
                          · intro u W hS hd K hK
                            have h3 : u 3 = _ := hd 3 rfl
                            clear hd
                            simp only [upd, h3, reduceIte, Nat.reduceEqDiff] at hK
                            go_simp
                            exact hK.out _ _ (Below.refl _ _) rfl
                          refine FSteps.cons ?_ ?_
                          · intro u W hS hd K hK
                            have h3 : u 3 = _ := hd 3 rfl
                            have h6 : u 6 = _ := hd 6 rfl
                            have h7 : u 7 = _ := hd 7 rfl
                            clear hd
                            simp only [upd, h3, h6, h7, reduceIte, Nat.reduceEqDiff] at hK
                            have y1 := HY.out.1
                            have y2 := HY.out.2
                            go_simp
                            exact hK.out _ _ (Below.refl _ _) rfl
                          refine FSteps.cons ?_ ?_
                          · intro u W hS hd K hK
                            have h3 : u 3 = _ := hd 3 rfl
                            have h5 : u 5 = _ := hd 5 rfl
                            have h8 : u 8 = _ := hd 8 rfl
                            clear hd
                            simp only [upd, h3, h5, h8, reduceIte, Nat.reduceEqDiff] at hK
                            go_simp
                            exact hK.out _ _ (Below.refl _ _) rfl
                          refine FSteps.cons ?_ ?_
                          · intro u W hS hd K hK
                            have h3 : u 3 = _ := hd 3 rfl
                            have h9 : u 9 = _ := hd 9 rfl
                            clear hd
                            simp only [upd, h3, h9, reduceIte, Nat.reduceEqDiff] at hK
                            go_simp
                            exact hK.out _ _ (Below.refl _ _) rfl
                          exact trivial
                        case hendg =>
                          intro u w9 hS hd
                          have h10 : u 10 = _ := hd 10 rfl
                          have HT9 := Lib.hid hS
                          clear hd hS HZ
                          rw [h10]
                          go_wp2_with fail
                          go_roundw
                          case rel => exact ⟨j + 1, s, t7, hlt, by go_num, rfl, rfl, by show s.opened ≤ ((j + 1 : Nat) : Int); omega, HT9⟩
                          case measure => simp [intOf]; omega
                  · have dB : decide ((D : Int) ≤ AT) = false := decide_eq_false hB
                    obtain ⟨i0, hi0⟩ : ∃ i0 : Nat, AT = i0 := ⟨AT.toNat, by omega⟩
                    subst hi0
                    have HXT := Lib.hid (fun W h => take_two (w := W) (w0 := w) (p := p) (q := q) (m := 8) (k := k) (s := s) (t := t) hO hI h i0 (by omega) (by omega))
                    have x3 : w6.cell? ⟨g6, o6 + i0, none⟩ = some (.int .i64 ((s.acked + (i0 : Nat)) % 8)) := by
                      have h3 := int_at HA6.out i0 (by rw [HLE.out]; omega)
                      rw [show (openS 8 s)[i0]'(by rw [HLE.out]; omega) = (s.acked + (i0 : Nat)) % 8 from by simp [openS]] at h3
                      exact h3
                    generalize (s.acked + (i0 : Nat)) % 8 = r1 at *
                    go_upto_region 30 with (go_at_call 26; (with_reducible refine (HXT.out _ HT3.out).mono ?_); rintro e w7 ⟨v7, x7, r7, t7, rfl, ho, hv7, hr7, hz⟩; obtain ⟨a7, c7, hv, hA7⟩ := ho.see; rw [outT_len] at hv; subst hv; have HA7 := Lib.hid hA7; have HT7 := Lib.hid hz; have HV7 := Lib.hid hv7; clear hz hv7 hA7 ho)
                    clear x3 HXT HT3 HA6 x1
                    go_wp2_with fail
                    go_loopw [13, 112] (fun ca ix wx => ∃ i : Nat, i ≤ r7 ∧ ix = .int .i64 i ∧ ca = .int .i64 (t.vr + i) ∧ w7 = wx) (fun _ ix _ => r7 - (intOf ix).toNat)
                    case atStart => exact ⟨0, Nat.zero_le _, rfl, by simp, rfl⟩
                    case round =>
                      obtain ⟨i, hi, rfl, rfl, rfl⟩ := hrel
                      by_cases hil : i < r7
                      · obtain ⟨g7, o7, rfl, _⟩ := HA7.out.some_ (by rw [outT_len]; omega)
                        have x4 : w7.cell? ⟨g7, o7 + i, none⟩ = some (.int .i64 ((t.vr + (i : Nat)) % 8)) := by
                          have h3 := int_at HA7.out i (by rw [outT_len]; omega)
                          rw [show (outT 8 t.vr r7)[i]'(by rw [outT_len]; omega) = (t.vr + (i : Nat)) % 8 from by simp [outT]] at h3
                          exact h3
                        obtain ⟨n2, hn2⟩ : ∃ n2 : Int, t.vr + (i : Nat) = n2 := ⟨_, rfl⟩
                        rw [hn2] at x4 ⊢
                        have y1 : n2.tmod 8 = n2 % 8 := Int.tmod_eq_emod_of_nonneg (by omega)
                        have y2 : IntKind.i64.wrap (n2 % 8) = n2 % 8 := i64_small' _ (by omega) (by omega)
                        have z1 : IntKind.i64.wrap (n2 + 1) = n2 + 1 := i64_small' _ (by omega) (by omega)
                        have HN1 := Lib.hid (show t.vr + ((i + 1 : Nat) : Int) = n2 + 1 from by omega)
                        clear hn2
                        generalize n2 % 8 = r2 at *
                        go_wp2_with fail
                        go_roundw
                        case rel => exact ⟨i + 1, by omega, by go_num, by rw [HN1.out], by first | rfl | trivial⟩
                        case measure => simp [intOf]; omega
                      · have hie : i = r7 := by omega
                        subst hie
                        rw [← HV7.out]
                        go_upto_region 41 with (fail)
                        have hz := HT7.out
                        clear HT7 HA7 HV7
                        have HZ := Lib.hid hz
                        obtain ⟨r, hr⟩ : ∃ r, (t7.vr) % 8 = r := ⟨_, rfl⟩
                        have HRR := Lib.hid hr
                        have HVL := Lib.hid hz.th.hi
                        have HY := Lib.hid (show (t7.vr).tmod 8 = r ∧ IntKind.i64.wrap r = r from ⟨by rw [Int.tmod_eq_emod_of_nonneg hz.th.ti.vb.1]; exact hr, i64_small' _ (by omega) (by omega)⟩)
                        have hvo : decide (s.opened < t7.vr) = false := decide_eq_false (by have h : t7.vr ≤ s.opened := HVL.out; omega)
                        have HDV := Lib.hid hvo
                        clear hz hr hvo
                        refine wp_region_facts (fun W W' => Below W.heap.size W W') (fun W => TwoAt RO RI w W p q 8 k s t7)
                          (factsOf [.is (.int .i64 (t7.vr)), .is (.int .i64 (s.opened)), .is (.bool false), .is (.bool false), .is (.pointer (some ⟨q, 0, none⟩)), .is (.int .i64 r), .is (.int .i64 (t7.vr)), .is (.int .i64 8), .is (.int .i64 r), .is (.bool false), .is (.bool false)])
                          (by kernel_rfl) (by kernel_rfl) (facts_stay _) (fun W W' hb h => h.below hO hI hb) (fun i => [u135, u136, u137, u138, u139, u140, u141, u142, u143, u144, u145].getD i undef) (by kernel_rfl) (HZ.out.below hO hI ((Below.refl _ _).drew)) ?Ff ?hFf ?hstepf ?hendf
                        case hFf =>
                          intro u
                          simp only [fillAct]
                          go_simp
                          rfl
                        case hstepf =>
                          clear HZ
                          refine FSteps.cons ?_ ?_
                          · intro u W hS hd K hK
                            clear hd
                            simp only [upd, reduceIte, Nat.reduceEqDiff] at hK
                            go_simp
                            exact hK.out _ _ (Below.refl _ _) rfl
                          refine FSteps.cons ?_ ?_
                          · intro u W hS hd K hK
                            clear hd
                            simp only [upd, reduceIte, Nat.reduceEqDiff] at hK
                            go_simp
                            exact hK.out _ _ (Below.refl _ _) rfl
                          refine FSteps.cons ?_ ?_
                          · intro u W hS hd K hK
                            have h0 : u 0 = _ := hd 0 rfl
                            have h1 : u 1 = _ := hd 1 rfl
                            clear hd
                            simp only [upd, h0, h1, reduceIte, Nat.reduceEqDiff] at hK
                            have dv := HDV.out
                            go_simp
                            exact hK.out _ _ (Below.refl _ _) rfl
                          refine FSteps.cons ?_ ?_
                          · intro u W hS hd K hK
                            have h2 : u 2 = _ := hd 2 rfl
                            clear hd
                            simp only [upd, h2, reduceIte, Nat.reduceEqDiff] at hK
                            go_simp
                            exact hK.out _ _ (Below.refl _ _) rfl
                          refine FSteps.cons ?_ ?_
                          · intro u W hS hd K hK
                            have h3 : u 3 = _ := hd 3 rfl
                            clear hd
                            simp only [upd, h3, reduceIte, Nat.reduceEqDiff] at hK
                            go_simp
                            exact hK.out _ _ (Below.refl _ _) rfl
                          refine FSteps.cons ?_ ?_
                          · intro u W hS hd K hK
                            have h3 : u 3 = _ := hd 3 rfl
                            have h4 : u 4 = _ := hd 4 rfl
                            clear hd
                            simp only [upd, h3, h4, reduceIte, Nat.reduceEqDiff] at hK
                            go_simp
                            go_at_call 28
                            refine (vr_two hI hS).mono ?_
                            rintro e wc ⟨rfl, hb⟩
                            exact hK.out _ _ hb (congrArg (Value.int .i64) HRR.out)
                          refine FSteps.cons ?_ ?_
                          · intro u W hS hd K hK
                            have h3 : u 3 = _ := hd 3 rfl
                            clear hd
                            simp only [upd, h3, reduceIte, Nat.reduceEqDiff] at hK
                            go_simp
                            exact hK.out _ _ (Below.refl _ _) rfl
                          refine FSteps.cons ?_ ?_
                          · intro u W hS hd K hK
                            have h3 : u 3 = _ := hd 3 rfl
                            clear hd
                            simp only [upd, h3, reduceIte, Nat.reduceEqDiff] at hK
                            go_simp
                            exact hK.out _ _ (Below.refl _ _) rfl
                          refine FSteps.cons ?_ ?_
                          · intro u W hS hd K hK
                            have h3 : u 3 = _ := hd 3 rfl
                            have h6 : u 6 = _ := hd 6 rfl
                            have h7 : u 7 = _ := hd 7 rfl
                            clear hd
                            simp only [upd, h3, h6, h7, reduceIte, Nat.reduceEqDiff] at hK
                            have y1 := HY.out.1
                            have y2 := HY.out.2
                            go_simp
                            exact hK.out _ _ (Below.refl _ _) rfl
                          refine FSteps.cons ?_ ?_
                          · intro u W hS hd K hK
                            have h3 : u 3 = _ := hd 3 rfl
                            have h5 : u 5 = _ := hd 5 rfl
                            have h8 : u 8 = _ := hd 8 rfl
                            clear hd
                            simp only [upd, h3, h5, h8, reduceIte, Nat.reduceEqDiff] at hK
                            go_simp
                            exact hK.out _ _ (Below.refl _ _) rfl
                          refine FSteps.cons ?_ ?_
                          · intro u W hS hd K hK
                            have h3 : u 3 = _ := hd 3 rfl
                            have h9 : u 9 = _ := hd 9 rfl
                            clear hd
                            simp only [upd, h3, h9, reduceIte, Nat.reduceEqDiff] at hK
                            go_simp
                            exact hK.out _ _ (Below.refl _ _) rfl
                          exact trivial
                        case hendf =>
                          intro u w9 hS hd
                          have h10 : u 10 = _ := hd 10 rfl
                          have HT9 := Lib.hid hS
                          clear hd hS HZ
                          rw [h10]
                          go_wp2_with fail
                          go_roundw
                          case rel => exact ⟨j + 1, s, t7, hlt, by go_num, rfl, rfl, by show s.opened ≤ ((j + 1 : Nat) : Int); omega, HT9⟩
                          case measure => simp [intOf]; omega
            · have k1 : (KO == 1) = false := by rw [beq_eq_false_iff_ne]; exact h1
              go_upto_region 41 with (fail)
              clear x0 x1 k0 k1 k2 h0 h1 h2
              have hz := HT2.out
              have HZ := Lib.hid hz
              obtain ⟨r, hr⟩ : ∃ r, (t.vr) % 8 = r := ⟨_, rfl⟩
              have HRR := Lib.hid hr
              have HVL := Lib.hid hz.th.hi
              have HY := Lib.hid (show (t.vr).tmod 8 = r ∧ IntKind.i64.wrap r = r from ⟨by rw [Int.tmod_eq_emod_of_nonneg hz.th.ti.vb.1]; exact hr, i64_small' _ (by omega) (by omega)⟩)
              have hvo : decide (s.opened < t.vr) = false := decide_eq_false (by have h : t.vr ≤ s.opened := HVL.out; omega)
              have HDV := Lib.hid hvo
              clear hz hr hvo
              refine wp_region_facts (fun W W' => Below W.heap.size W W') (fun W => TwoAt RO RI w W p q 8 k s t)
                (factsOf [.is (.int .i64 (t.vr)), .is (.int .i64 (s.opened)), .is (.bool false), .is (.bool false), .is (.pointer (some ⟨q, 0, none⟩)), .is (.int .i64 r), .is (.int .i64 (t.vr)), .is (.int .i64 8), .is (.int .i64 r), .is (.bool false), .is (.bool false)])
                (by kernel_rfl) (by kernel_rfl) (facts_stay _) (fun W W' hb h => h.below hO hI hb) (fun i => [u135, u136, u137, u138, u139, u140, u141, u142, u143, u144, u145].getD i undef) (by kernel_rfl) (HZ.out.below hO hI ((Below.refl _ _).drew)) ?Fd ?hFd ?hstepd ?hendd
              case hFd =>
                intro u
                simp only [fillAct]
                go_simp
                rfl
              case hstepd =>
                clear HZ
                refine FSteps.cons ?_ ?_
                · intro u W hS hd K hK
                  clear hd
                  simp only [upd, reduceIte, Nat.reduceEqDiff] at hK
                  go_simp
                  exact hK.out _ _ (Below.refl _ _) rfl
                refine FSteps.cons ?_ ?_
                · intro u W hS hd K hK
                  clear hd
                  simp only [upd, reduceIte, Nat.reduceEqDiff] at hK
                  go_simp
                  exact hK.out _ _ (Below.refl _ _) rfl
                refine FSteps.cons ?_ ?_
                · intro u W hS hd K hK
                  have h0 : u 0 = _ := hd 0 rfl
                  have h1 : u 1 = _ := hd 1 rfl
                  clear hd
                  simp only [upd, h0, h1, reduceIte, Nat.reduceEqDiff] at hK
                  have dv := HDV.out
                  go_simp
                  exact hK.out _ _ (Below.refl _ _) rfl
                refine FSteps.cons ?_ ?_
                · intro u W hS hd K hK
                  have h2 : u 2 = _ := hd 2 rfl
                  clear hd
                  simp only [upd, h2, reduceIte, Nat.reduceEqDiff] at hK
                  go_simp
                  exact hK.out _ _ (Below.refl _ _) rfl
                refine FSteps.cons ?_ ?_
                · intro u W hS hd K hK
                  have h3 : u 3 = _ := hd 3 rfl
                  clear hd
                  simp only [upd, h3, reduceIte, Nat.reduceEqDiff] at hK
                  go_simp
                  exact hK.out _ _ (Below.refl _ _) rfl
                refine FSteps.cons ?_ ?_
                · intro u W hS hd K hK
                  have h3 : u 3 = _ := hd 3 rfl
                  have h4 : u 4 = _ := hd 4 rfl
                  clear hd
                  simp only [upd, h3, h4, reduceIte, Nat.reduceEqDiff] at hK
                  go_simp
                  go_at_call 28
                  refine (vr_two hI hS).mono ?_
                  rintro e wc ⟨rfl, hb⟩
                  exact hK.out _ _ hb (congrArg (Value.int .i64) HRR.out)
                refine FSteps.cons ?_ ?_
                · intro u W hS hd K hK
                  have h3 : u 3 = _ := hd 3 rfl
                  clear hd
                  simp only [upd, h3, reduceIte, Nat.reduceEqDiff] at hK
                  go_simp
                  exact hK.out _ _ (Below.refl _ _) rfl
                refine FSteps.cons ?_ ?_
                · intro u W hS hd K hK
                  have h3 : u 3 = _ := hd 3 rfl
                  clear hd
                  simp only [upd, h3, reduceIte, Nat.reduceEqDiff] at hK
                  go_simp
                  exact hK.out _ _ (Below.refl _ _) rfl
                refine FSteps.cons ?_ ?_
                · intro u W hS hd K hK
                  have h3 : u 3 = _ := hd 3 rfl
                  have h6 : u 6 = _ := hd 6 rfl
                  have h7 : u 7 = _ := hd 7 rfl
                  clear hd
                  simp only [upd, h3, h6, h7, reduceIte, Nat.reduceEqDiff] at hK
                  have y1 := HY.out.1
                  have y2 := HY.out.2
                  go_simp
                  exact hK.out _ _ (Below.refl _ _) rfl
                refine FSteps.cons ?_ ?_
                · intro u W hS hd K hK
                  have h3 : u 3 = _ := hd 3 rfl
                  have h5 : u 5 = _ := hd 5 rfl
                  have h8 : u 8 = _ := hd 8 rfl
                  clear hd
                  simp only [upd, h3, h5, h8, reduceIte, Nat.reduceEqDiff] at hK
                  go_simp
                  exact hK.out _ _ (Below.refl _ _) rfl
                refine FSteps.cons ?_ ?_
                · intro u W hS hd K hK
                  have h3 : u 3 = _ := hd 3 rfl
                  have h9 : u 9 = _ := hd 9 rfl
                  clear hd
                  simp only [upd, h3, h9, reduceIte, Nat.reduceEqDiff] at hK
                  go_simp
                  exact hK.out _ _ (Below.refl _ _) rfl
                exact trivial
              case hendd =>
                intro u w9 hS hd
                have h10 : u 10 = _ := hd 10 rfl
                have HT9 := Lib.hid hS
                clear hd hS HZ
                rw [h10]
                go_wp2_with fail
                go_roundw
                case rel => exact ⟨j + 1, s, t, hlt, by go_num, rfl, rfl, by show s.opened ≤ ((j + 1 : Nat) : Int); omega, HT9⟩
                case measure => simp [intOf]; omega
      · go_wp2_with fail
        exact bodyPost_ret (v := .bool true) (by simp [results, Try.results6, go_sem]) rfl ⟨rfl, HT.out.base⟩
  · have hd : k < 1 ∨ 4 < k ∨ 400 < n := by omega
    clear hg hA
    by_cases h0 : k < 1
    · have d0 : decide (k < 1) = true := decide_eq_true h0
      clear h0 hd
      go_enter Try.func6, Try.ntmps6
      go_wp2_with (go_at_call 8; (with_reducible refine (HAW.out _).mono ?_); rintro e w2 ⟨rfl, hb2⟩; have HB1 := Lib.hid hb2; clear hb2)
      exact bodyPost_ret (v := .bool true) (by simp [results, Try.results6, go_sem]) rfl ⟨rfl, HB1.out⟩
    · have d0 : decide (k < 1) = false := decide_eq_false h0
      by_cases h1 : 4 < k
      · have d1 : decide (4 < k) = true := decide_eq_true h1
        clear h0 h1 hd
        go_enter Try.func6, Try.ntmps6
        go_wp2_with (go_at_call 8; (with_reducible refine (HAW.out _).mono ?_); rintro e w2 ⟨rfl, hb2⟩; have HB1 := Lib.hid hb2; clear hb2)
        exact bodyPost_ret (v := .bool true) (by simp [results, Try.results6, go_sem]) rfl ⟨rfl, HB1.out⟩
      · have d1 : decide (4 < k) = false := decide_eq_false h1
        have d2 : decide ((400 : Int) < (n : Int)) = true := decide_eq_true (by omega)
        clear h0 h1 hd
        go_enter Try.func6, Try.ntmps6
        go_wp2_with (go_at_call 8; (with_reducible refine (HAW.out _).mono ?_); rintro e w2 ⟨rfl, hb2⟩; have HB1 := Lib.hid hb2; clear hb2)
        exact bodyPost_ret (v := .bool true) (by simp [results, Try.results6, go_sem]) rfl ⟨rfl, HB1.out⟩
set_option maxHeartbeats 2000000 in
theorem seqthrough_128 {RO : OutR} {RI : InR} (hO : OutC RO) (hI : InC RI) (k : Int) (a : Option Addr) (n c : Nat) (L : List (Int × Int)) (w : World) (hn : L.length = n) (hA : AtL encS11 w a L) : Calls Try.prog 6 #[.bool true, .int .i64 k, .slice a n c] w fun e w' => e = .returned (.bool true) ∧ Below w.heap.size w w' := by
  have HAW := Lib.hid (fun W => seqawake_of hI W)
  by_cases hg : (1 ≤ k ∧ 2 * k ≤ 128) ∧ n ≤ 400
  · obtain ⟨hk, hn4⟩ := hg
    have d0 : decide (k < 1) = false := decide_eq_false (by omega)
    have d1 : decide (64 < k) = false := decide_eq_false (by omega)
    have d2 : decide ((400 : Int) < (n : Int)) = false := decide_eq_false (by omega)
    have HNO := Lib.hid (fun W => hO.new 128 k W (by decide) (by omega))
    have HNI := Lib.hid (fun W => hI.new 128 k W (by decide) hk)
    have HA := Lib.hid hA
    have HN := Lib.hid hn
    have HK := Lib.hid hk
    clear hA hn
    go_enter Try.func6, Try.ntmps6
    go_upto_region 10 with (first | (go_at_call 8; (with_reducible refine (HAW.out _).mono ?_); rintro e w2 ⟨rfl, hb2⟩; have HB1 := Lib.hid hb2; clear hb2) | (go_at_call 13; (with_reducible refine (HNO.out _).mono ?_); rintro e w3 ⟨p, FO, rfl, hR, hF, hb⟩; have HO3 := Lib.hid (And.intro hR (And.intro (fun b h => Nat.le_trans HB1.out.size (hF b h)) (HB1.out.trans (hb.mono HB1.out.size)))); clear hR hF hb) | (go_at_call 25; (with_reducible refine (HNI.out _).mono ?_); rintro e w4 ⟨q, FI, rfl, hR, hF, hb⟩; have HT4 := Lib.hid (TwoAt.new (w0 := w) hO (by decide) HK.out HO3.out.1 HO3.out.2.1 HO3.out.2.2 hR hF hb); clear hR hF hb))
    clear HNO HNI HB1 HO3 HAW d0 d1 d2
    go_wp2_with fail
    go_loopw [12, 13, 62] (fun se ca ix wx => ∃ (j : Nat) (s : So) (t : Ti), j ≤ n ∧ ix = .int .i64 j ∧ se = .int .i64 s.opened ∧ ca = .int .i64 t.vr ∧ s.opened ≤ (j : Int) ∧ Hid (TwoAt RO RI w wx p q 128 k s t)) (fun _ _ ix _ => n - (intOf ix).toNat)
    case atStart => exact ⟨0, ⟨0, 0⟩, ⟨0, List.replicate 128 false⟩, Nat.zero_le _, rfl, rfl, rfl, by simp, HT4⟩
    case round =>
      obtain ⟨j, s, t, hj, rfl, rfl, rfl, hso, HT⟩ := hrel
      clear HT4
      by_cases hlt : j < n
      · have hL : j < L.length := by rw [HN.out]; exact hlt
        obtain ⟨g, o, rfl, _⟩ := HA.out.some_ (by omega)
        have ⟨x0, x1⟩ := step_at (HA.out.below HT.out.base) j hL
        obtain ⟨⟨KO, AT⟩, hq⟩ : ∃ q, L[j] = q := ⟨_, rfl⟩
        rw [hq] at x0 x1
        simp only at x0 x1
        clear hq
        have HX := Lib.hid (RowAt.new wr wr.heap.size rfl [.int .i64 KO, .int .i64 AT] 58)
        have HT2 := Lib.hid (HT.out.below hO hI ((Below.refl _ _).alloc (Nat.le_refl _) (.cells #[.int .i64 KO, .int .i64 AT] 58)))
        have hov := HT.out.th.hi
        have hvb := HT.out.th.ti.vb
        have hab := HT.out.th.so.ab
        clear HT
        go_upto_region 16 with (fail)
        clear x0 x1
        generalize (wr.alloc (.cells #[.int .i64 KO, .int .i64 AT] 58)) = wb at *
        generalize wr.heap.size = nb at *
        have x0 := HX.out.cell 0 rfl
        have x1 := HX.out.cell 1 rfl
        by_cases h0 : KO = 0
        · subst h0
          by_cases hf : s.opened - s.acked = k
          · have HX2 := Lib.hid (fun W h => next_two (w := W) (w0 := w) (p := p) (q := q) (m := 128) (k := k) (s := s) (t := t) hO hI h (by omega))
            rw [show nextS 128 k s = (s, 0, 6) from if_pos hf] at HX2
            clear hf
            go_upto_region 41 with (go_at_call 15; (with_reducible refine (HX2.out _ HT2.out).mono ?_); rintro e w6 ⟨rfl, hz⟩)
            clear HT2 HX2 x0 x1
            have HZ := Lib.hid hz
            obtain ⟨r, hr⟩ : ∃ r, (t.vr) % 128 = r := ⟨_, rfl⟩
            have HRR := Lib.hid hr
            have HVL := Lib.hid hz.th.hi
            have HY := Lib.hid (show (t.vr).tmod 128 = r ∧ IntKind.i64.wrap r = r from ⟨by rw [Int.tmod_eq_emod_of_nonneg hz.th.ti.vb.1]; exact hr, i64_small' _ (by omega) (by omega)⟩)
            have hvo : decide (s.opened < t.vr) = false := decide_eq_false (by have h : t.vr ≤ s.opened := HVL.out; omega)
            have HDV := Lib.hid hvo
            clear hz hr hvo
            refine wp_region_facts (fun W W' => Below W.heap.size W W') (fun W => TwoAt RO RI w W p q 128 k s t)
              (factsOf [.is (.int .i64 (t.vr)), .is (.int .i64 (s.opened)), .is (.bool false), .is (.bool false), .is (.pointer (some ⟨q, 0, none⟩)), .is (.int .i64 r), .is (.int .i64 (t.vr)), .is (.int .i64 128), .is (.int .i64 r), .is (.bool false), .is (.bool false)])
              (by kernel_rfl) (by kernel_rfl) (facts_stay _) (fun W W' hb h => h.below hO hI hb) (fun i => [u135, u136, u137, u138, u139, u140, u141, u142, u143, u144, u145].getD i undef) (by kernel_rfl) (HZ.out.below hO hI ((Below.refl _ _).drew)) ?Fa ?hFa ?hstepa ?henda
            case hFa =>
              intro u
              simp only [fillAct]
              go_simp
              rfl
            case hstepa =>
              clear HZ
              refine FSteps.cons ?_ ?_
              · intro u W hS hd K hK
                clear hd
                simp only [upd, reduceIte, Nat.reduceEqDiff] at hK
                go_simp
                exact hK.out _ _ (Below.refl _ _) rfl
              refine FSteps.cons ?_ ?_
              · intro u W hS hd K hK
                clear hd
                simp only [upd, reduceIte, Nat.reduceEqDiff] at hK
                go_simp
                exact hK.out _ _ (Below.refl _ _) rfl
              refine FSteps.cons ?_ ?_
              · intro u W hS hd K hK
                have h0 : u 0 = _ := hd 0 rfl
                have h1 : u 1 = _ := hd 1 rfl
                clear hd
                simp only [upd, h0, h1, reduceIte, Nat.reduceEqDiff] at hK
                have dv := HDV.out
                go_simp
                exact hK.out _ _ (Below.refl _ _) rfl
              refine FSteps.cons ?_ ?_
              · intro u W hS hd K hK
                have h2 : u 2 = _ := hd 2 rfl
                clear hd
                simp only [upd, h2, reduceIte, Nat.reduceEqDiff] at hK
                go_simp
                exact hK.out _ _ (Below.refl _ _) rfl
              refine FSteps.cons ?_ ?_
              · intro u W hS hd K hK
                have h3 : u 3 = _ := hd 3 rfl
                clear hd
                simp only [upd, h3, reduceIte, Nat.reduceEqDiff] at hK
                go_simp
                exact hK.out _ _ (Below.refl _ _) rfl
              refine FSteps.cons ?_ ?_
              · intro u W hS hd K hK
                have h3 : u 3 = _ := hd 3 rfl
                have h4 : u 4 = _ := hd 4 rfl
                clear hd
                simp only [upd, h3, h4, reduceIte, Nat.reduceEqDiff] at hK
                go_simp
                go_at_call 28
                refine (vr_two hI hS).mono ?_
                rintro e wc ⟨rfl, hb⟩
                exact hK.out _ _ hb (congrArg (Value.int .i64) HRR.out)
              refine FSteps.cons ?_ ?_
              · intro u W hS hd K hK
                have h3 : u 3 = _ := hd 3 rfl
                clear hd
                simp only [upd, h3, reduceIte, Nat.reduceEqDiff] at hK
                go_simp
                exact hK.out _ _ (Below.refl _ _) rfl
              refine FSteps.cons ?_ ?_
              · intro u W hS hd K hK
                have h3 : u 3 = _ := hd 3 rfl
                clear hd
                simp only [upd, h3, reduceIte, Nat.reduceEqDiff] at hK
                go_simp
                exact hK.out _ _ (Below.refl _ _) rfl
              refine FSteps.cons ?_ ?_
              · intro u W hS hd K hK
                have h3 : u 3 = _ := hd 3 rfl
                have h6 : u 6 = _ := hd 6 rfl
                have h7 : u 7 = _ := hd 7 rfl
                clear hd
                simp only [upd, h3, h6, h7, reduceIte, Nat.reduceEqDiff] at hK
                have y1 := HY.out.1
                have y2 := HY.out.2
                go_simp
                exact hK.out _ _ (Below.refl _ _) rfl
              refine FSteps.cons ?_ ?_
              · intro u W hS hd K hK
                have h3 : u 3 = _ := hd 3 rfl
                have h5 : u 5 = _ := hd 5 rfl
                have h8 : u 8 = _ := hd 8 rfl
                clear hd
                simp only [upd, h3, h5, h8, reduceIte, Nat.reduceEqDiff] at hK
                go_simp
                exact hK.out _ _ (Below.refl _ _) rfl
              refine FSteps.cons ?_ ?_
              · intro u W hS hd K hK
                have h3 : u 3 = _ := hd 3 rfl
                have h9 : u 9 = _ := hd 9 rfl
                clear hd
                simp only [upd, h3, h9, reduceIte, Nat.reduceEqDiff] at hK
                go_simp
                exact hK.out _ _ (Below.refl _ _) rfl
              exact trivial
            case henda =>
              intro u w9 hS hd
              have h10 : u 10 = _ := hd 10 rfl
              have HT9 := Lib.hid hS
              clear hd hS HZ
              rw [h10]
              go_wp2_with fail
              go_roundw
              case rel => exact ⟨j + 1, s, t, hlt, by go_num, rfl, rfl, by show s.opened ≤ ((j + 1 : Nat) : Int); omega, HT9⟩
              case measure => simp [intOf]; omega
          · have HX2 := Lib.hid (fun W h => next_two (w := W) (w0 := w) (p := p) (q := q) (m := 128) (k := k) (s := s) (t := t) hO hI h (by omega))
            rw [show nextS 128 k s = (⟨s.opened + 1, s.acked⟩, s.opened % 128, 0) from if_neg hf] at HX2
            have y1 : s.opened.tmod 128 = s.opened % 128 := Int.tmod_eq_emod_of_nonneg (by omega)
            have y2 : IntKind.i64.wrap (s.opened % 128) = s.opened % 128 := i64_small' _ (by omega) (by omega)
            have z1 : IntKind.i64.wrap (s.opened + 1) = s.opened + 1 := i64_small' _ (by omega) (by omega)
            generalize s.opened % 128 = r0 at *
            clear hf
            go_upto_region 41 with (go_at_call 15; (with_reducible refine (HX2.out _ HT2.out).mono ?_); rintro e w6 ⟨rfl, hz⟩)
            clear HT2 HX2 x0 x1 y1 y2 z1
            have HZ := Lib.hid hz
            obtain ⟨r, hr⟩ : ∃ r, (t.vr) % 128 = r := ⟨_, rfl⟩
            have HRR := Lib.hid hr
            have HVL := Lib.hid hz.th.hi
            have HY := Lib.hid (show (t.vr).tmod 128 = r ∧ IntKind.i64.wrap r = r from ⟨by rw [Int.tmod_eq_emod_of_nonneg hz.th.ti.vb.1]; exact hr, i64_small' _ (by omega) (by omega)⟩)
            have hvo : decide (s.opened + 1 < t.vr) = false := decide_eq_false (by have h : t.vr ≤ s.opened + 1 := HVL.out; omega)
            have HDV := Lib.hid hvo
            clear hz hr hvo
            refine wp_region_facts (fun W W' => Below W.heap.size W W') (fun W => TwoAt RO RI w W p q 128 k ⟨s.opened + 1, s.acked⟩ t)
              (factsOf [.is (.int .i64 (t.vr)), .is (.int .i64 (s.opened + 1)), .is (.bool false), .is (.bool false), .is (.pointer (some ⟨q, 0, none⟩)), .is (.int .i64 r), .is (.int .i64 (t.vr)), .is (.int .i64 128), .is (.int .i64 r), .is (.bool false), .is (.bool false)])
              (by kernel_rfl) (by kernel_rfl) (facts_stay _) (fun W W' hb h => h.below hO hI hb) (fun i => [u135, u136, u137, u138, u139, u140, u141, u142, u143, u144, u145].getD i undef) (by kernel_rfl) (HZ.out.below hO hI ((Below.refl _ _).drew)) ?Fb ?hFb ?hstepb ?hendb
            case hFb =>
              intro u
              simp only [fillAct]
              go_simp
              rfl
            case hstepb =>
              clear HZ
              refine FSteps.cons ?_ ?_
              · intro u W hS hd K hK
                clear hd
                simp only [upd, reduceIte, Nat.reduceEqDiff] at hK
                go_simp
                exact hK.out _ _ (Below.refl _ _) rfl
              refine FSteps.cons ?_ ?_
              · intro u W hS hd K hK
                clear hd
                simp only [upd, reduceIte, Nat.reduceEqDiff] at hK
                go_simp
                exact hK.out _ _ (Below.refl _ _) rfl
              refine FSteps.cons ?_ ?_
              · intro u W hS hd K hK
                have h0 : u 0 = _ := hd 0 rfl
                have h1 : u 1 = _ := hd 1 rfl
                clear hd
                simp only [upd, h0, h1, reduceIte, Nat.reduceEqDiff] at hK
                have dv := HDV.out
                go_simp
                exact hK.out _ _ (Below.refl _ _) rfl
              refine FSteps.cons ?_ ?_
              · intro u W hS hd K hK
                have h2 : u 2 = _ := hd 2 rfl
                clear hd
                simp only [upd, h2, reduceIte, Nat.reduceEqDiff] at hK
                go_simp
                exact hK.out _ _ (Below.refl _ _) rfl
              refine FSteps.cons ?_ ?_
              · intro u W hS hd K hK
                have h3 : u 3 = _ := hd 3 rfl
                clear hd
                simp only [upd, h3, reduceIte, Nat.reduceEqDiff] at hK
                go_simp
                exact hK.out _ _ (Below.refl _ _) rfl
              refine FSteps.cons ?_ ?_
              · intro u W hS hd K hK
                have h3 : u 3 = _ := hd 3 rfl
                have h4 : u 4 = _ := hd 4 rfl
                clear hd
                simp only [upd, h3, h4, reduceIte, Nat.reduceEqDiff] at hK
                go_simp
                go_at_call 28
                refine (vr_two hI hS).mono ?_
                rintro e wc ⟨rfl, hb⟩
                exact hK.out _ _ hb (congrArg (Value.int .i64) HRR.out)
              refine FSteps.cons ?_ ?_
              · intro u W hS hd K hK
                have h3 : u 3 = _ := hd 3 rfl
                clear hd
                simp only [upd, h3, reduceIte, Nat.reduceEqDiff] at hK
                go_simp
                exact hK.out _ _ (Below.refl _ _) rfl
              refine FSteps.cons ?_ ?_
              · intro u W hS hd K hK
                have h3 : u 3 = _ := hd 3 rfl
                clear hd
                simp only [upd, h3, reduceIte, Nat.reduceEqDiff] at hK
                go_simp
                exact hK.out _ _ (Below.refl _ _) rfl
              refine FSteps.cons ?_ ?_
              · intro u W hS hd K hK
                have h3 : u 3 = _ := hd 3 rfl
                have h6 : u 6 = _ := hd 6 rfl
                have h7 : u 7 = _ := hd 7 rfl
                clear hd
                simp only [upd, h3, h6, h7, reduceIte, Nat.reduceEqDiff] at hK
                have y1 := HY.out.1
                have y2 := HY.out.2
                go_simp
                exact hK.out _ _ (Below.refl _ _) rfl
              refine FSteps.cons ?_ ?_
              · intro u W hS hd K hK
                have h3 : u 3 = _ := hd 3 rfl
                have h5 : u 5 = _ := hd 5 rfl
                have h8 : u 8 = _ := hd 8 rfl
                clear hd
                simp only [upd, h3, h5, h8, reduceIte, Nat.reduceEqDiff] at hK
                go_simp
                exact hK.out _ _ (Below.refl _ _) rfl
              refine FSteps.cons ?_ ?_
              · intro u W hS hd K hK
                have h3 : u 3 = _ := hd 3 rfl
                have h9 : u 9 = _ := hd 9 rfl
                clear hd
                simp only [upd, h3, h9, reduceIte, Nat.reduceEqDiff] at hK
                go_simp
                exact hK.out _ _ (Below.refl _ _) rfl
              exact trivial
            case hendb =>
              intro u w9 hS hd
              have h10 : u 10 = _ := hd 10 rfl
              have HT9 := Lib.hid hS
              clear hd hS HZ
              rw [h10]
              go_wp2_with fail
              go_roundw
              case rel => exact ⟨j + 1, ⟨s.opened + 1, s.acked⟩, t, hlt, by go_num, rfl, rfl, by show s.opened + 1 ≤ ((j + 1 : Nat) : Int); omega, HT9⟩
              case measure => simp [intOf]; omega
        · have k0 : (KO == 0) = false := by rw [beq_eq_false_iff_ne]; exact h0
          by_cases h2 : KO = 2
          · subst h2
            have HX1 := Lib.hid (fun W h => vr_two (RO := RO) (w := W) (w0 := w) (p := p) (q := q) (m := 128) (k := k) (s := s) (t := t) hI h)
            have HX2 := Lib.hid (fun W h => acks_two (w := W) (w0 := w) (p := p) (q := q) (m := 128) (k := k) (s := s) (t := t) hO hI h)
            go_upto_region 41 with (first | (go_at_call 28; (with_reducible refine (HX1.out _ HT2.out).mono ?_); rintro e w6 ⟨rfl, hb⟩; have HT3 := Lib.hid (HT2.out.below hO hI hb); clear hb) | (go_at_call 18; (with_reducible refine (HX2.out _ HT3.out).mono ?_); rintro e w7 ⟨rfl, hz⟩))
            clear HT2 HX2 HX1 HT3 x0 x1 k0 h0
            have HZ := Lib.hid hz
            obtain ⟨r, hr⟩ : ∃ r, (t.vr) % 128 = r := ⟨_, rfl⟩
            have HRR := Lib.hid hr
            have HVL := Lib.hid hz.th.hi
            have HY := Lib.hid (show (t.vr).tmod 128 = r ∧ IntKind.i64.wrap r = r from ⟨by rw [Int.tmod_eq_emod_of_nonneg hz.th.ti.vb.1]; exact hr, i64_small' _ (by omega) (by omega)⟩)
            have hvo : decide (s.opened < t.vr) = false := decide_eq_false (by have h : t.vr ≤ s.opened := HVL.out; omega)
            have HDV := Lib.hid hvo
            clear hz hr hvo
            refine wp_region_facts (fun W W' => Below W.heap.size W W') (fun W => TwoAt RO RI w W p q 128 k ⟨s.opened, t.vr⟩ t)
              (factsOf [.is (.int .i64 (t.vr)), .is (.int .i64 (s.opened)), .is (.bool false), .is (.bool false), .is (.pointer (some ⟨q, 0, none⟩)), .is (.int .i64 r), .is (.int .i64 (t.vr)), .is (.int .i64 128), .is (.int .i64 r), .is (.bool false), .is (.bool false)])
              (by kernel_rfl) (by kernel_rfl) (facts_stay _) (fun W W' hb h => h.below hO hI hb) (fun i => [u135, u136, u137, u138, u139, u140, u141, u142, u143, u144, u145].getD i undef) (by kernel_rfl) (HZ.out.below hO hI ((Below.refl _ _).drew)) ?Fc ?hFc ?hstepc ?hendc
            case hFc =>
              intro u
              simp only [fillAct]
              go_simp
              rfl
            case hstepc =>
              clear HZ
              refine FSteps.cons ?_ ?_
              · intro u W hS hd K hK
                clear hd
                simp only [upd, reduceIte, Nat.reduceEqDiff] at hK
                go_simp
                exact hK.out _ _ (Below.refl _ _) rfl
              refine FSteps.cons ?_ ?_
              · intro u W hS hd K hK
                clear hd
                simp only [upd, reduceIte, Nat.reduceEqDiff] at hK
                go_simp
                exact hK.out _ _ (Below.refl _ _) rfl
              refine FSteps.cons ?_ ?_
              · intro u W hS hd K hK
                have h0 : u 0 = _ := hd 0 rfl
                have h1 : u 1 = _ := hd 1 rfl
                clear hd
                simp only [upd, h0, h1, reduceIte, Nat.reduceEqDiff] at hK
                have dv := HDV.out
                go_simp
                exact hK.out _ _ (Below.refl _ _) rfl
              refine FSteps.cons ?_ ?_
              · intro u W hS hd K hK
                have h2 : u 2 = _ := hd 2 rfl
                clear hd
                simp only [upd, h2, reduceIte, Nat.reduceEqDiff] at hK
                go_simp
                exact hK.out _ _ (Below.refl _ _) rfl
              refine FSteps.cons ?_ ?_
              · intro u W hS hd K hK
                have h3 : u 3 = _ := hd 3 rfl
                clear hd
                simp only [upd, h3, reduceIte, Nat.reduceEqDiff] at hK
                go_simp
                exact hK.out _ _ (Below.refl _ _) rfl
              refine FSteps.cons ?_ ?_
              · intro u W hS hd K hK
                have h3 : u 3 = _ := hd 3 rfl
                have h4 : u 4 = _ := hd 4 rfl
                clear hd
                simp only [upd, h3, h4, reduceIte, Nat.reduceEqDiff] at hK
                go_simp
                go_at_call 28
                refine (vr_two hI hS).mono ?_
                rintro e wc ⟨rfl, hb⟩
                exact hK.out _ _ hb (congrArg (Value.int .i64) HRR.out)
              refine FSteps.cons ?_ ?_
              · intro u W hS hd K hK
                have h3 : u 3 = _ := hd 3 rfl
                clear hd
                simp only [upd, h3, reduceIte, Nat.reduceEqDiff] at hK
                go_simp
                exact hK.out _ _ (Below.refl _ _) rfl
              refine FSteps.cons ?_ ?_
              · intro u W hS hd K hK
                have h3 : u 3 = _ := hd 3 rfl
                clear hd
                simp only [upd, h3, reduceIte, Nat.reduceEqDiff] at hK
                go_simp
                exact hK.out _ _ (Below.refl _ _) rfl
              refine FSteps.cons ?_ ?_
              · intro u W hS hd K hK
                have h3 : u 3 = _ := hd 3 rfl
                have h6 : u 6 = _ := hd 6 rfl
                have h7 : u 7 = _ := hd 7 rfl
                clear hd
                simp only [upd, h3, h6, h7, reduceIte, Nat.reduceEqDiff] at hK
                have y1 := HY.out.1
                have y2 := HY.out.2
                go_simp
                exact hK.out _ _ (Below.refl _ _) rfl
              refine FSteps.cons ?_ ?_
              · intro u W hS hd K hK
                have h3 : u 3 = _ := hd 3 rfl
                have h5 : u 5 = _ := hd 5 rfl
                have h8 : u 8 = _ := hd 8 rfl
                clear hd
                simp only [upd, h3, h5, h8, reduceIte, Nat.reduceEqDiff] at hK
                go_simp
                exact hK.out _ _ (Below.refl _ _) rfl
              refine FSteps.cons ?_ ?_
              · intro u W hS hd K hK
                have h3 : u 3 = _ := hd 3 rfl
                have h9 : u 9 = _ := hd 9 rfl
                clear hd
                simp only [upd, h3, h9, reduceIte, Nat.reduceEqDiff] at hK
                go_simp
                exact hK.out _ _ (Below.refl _ _) rfl
              exact trivial
            case hendc =>
              intro u w9 hS hd
              have h10 : u 10 = _ := hd 10 rfl
              have HT9 := Lib.hid hS
              clear hd hS HZ
              rw [h10]
              go_wp2_with fail
              go_roundw
              case rel => exact ⟨j + 1, ⟨s.opened, t.vr⟩, t, hlt, by go_num, rfl, rfl, by show s.opened ≤ ((j + 1 : Nat) : Int); omega, HT9⟩
              case measure => simp [intOf]; omega
          · have k2 : (KO == 2) = false := by rw [beq_eq_false_iff_ne]; exact h2
            by_cases h1 : KO = 1
            · subst h1
              have HXO := Lib.hid (fun W h => open_two (w := W) (w0 := w) (p := p) (q := q) (m := 128) (k := k) (s := s) (t := t) hO hI h)
              obtain ⟨D, hD⟩ : ∃ D : Nat, (D : Int) = s.opened - s.acked := ⟨(s.opened - s.acked).toNat, by omega⟩
              have HLE := Lib.hid (show (openS 128 s).length = D from by simp only [openS, List.length_map, List.length_range]; omega)
              go_upto_region 25 with (go_at_call 21; (with_reducible refine (HXO.out _ HT2.out).mono ?_); rintro e w6 ⟨v6, rfl, ho, hz, hb⟩; obtain ⟨a6, c6, hv, hA6⟩ := ho.see; rw [HLE.out] at hv; subst hv; have HA6 := Lib.hid hA6; have HT3 := Lib.hid hz; have HX6 := Lib.hid (HX.out.below hb); clear hz hA6 ho hb)
              clear HT2 HXO x0 x1 k0 k2 h0 h2
              have x1 := HX6.out.cell 1 rfl
              by_cases hD0 : D = 0
              · subst hD0
                go_wp2_with fail
                go_roundw
                case rel => exact ⟨j + 1, s, t, hlt, by go_num, rfl, rfl, by show s.opened ≤ ((j + 1 : Nat) : Int); omega, HT3⟩
                case measure => simp [intOf]; omega
              · have dl : ((D : Int) == 0) = false := by rw [beq_eq_false_iff_ne]; omega
                have HDD := Lib.hid hD
                obtain ⟨g6, o6, rfl, _⟩ := HA6.out.some_ (by rw [HLE.out]; omega)
                by_cases hA0 : AT < 0
                · have dA : decide (AT < 0) = true := decide_eq_true hA0
                  have HXT := Lib.hid (fun W h => take_two (w := W) (w0 := w) (p := p) (q := q) (m := 128) (k := k) (s := s) (t := t) hO hI h 0 (by omega) (by omega))
                  have x3 : w6.cell? ⟨g6, o6, none⟩ = some (.int .i64 ((s.acked + (0 : Nat)) % 128)) := by
                    have h3 := int_at HA6.out 0 (by rw [HLE.out]; omega)
                    rw [show (openS 128 s)[0]'(by rw [HLE.out]; omega) = (s.acked + (0 : Nat)) % 128 from by simp [openS]] at h3
                    exact h3
                  generalize (s.acked + (0 : Nat)) % 128 = r1 at *
                  go_upto_region 30 with (go_at_call 26; (with_reducible refine (HXT.out _ HT3.out).mono ?_); rintro e w7 ⟨v7, x7, r7, t7, rfl, ho, hv7, hr7, hz⟩; obtain ⟨a7, c7, hv, hA7⟩ := ho.see; rw [outT_len] at hv; subst hv; have HA7 := Lib.hid hA7; have HT7 := Lib.hid hz; have HV7 := Lib.hid hv7; clear hz hv7 hA7 ho)
                  clear x3 HXT HT3 HA6 x1
                  go_wp2_with fail
                  go_loopw [13, 112] (fun ca ix wx => ∃ i : Nat, i ≤ r7 ∧ ix = .int .i64 i ∧ ca = .int .i64 (t.vr + i) ∧ w7 = wx) (fun _ ix _ => r7 - (intOf ix).toNat)
                  case atStart => exact ⟨0, Nat.zero_le _, rfl, by simp, rfl⟩
                  case round =>
                    obtain ⟨i, hi, rfl, rfl, rfl⟩ := hrel
                    by_cases hil : i < r7
                    · obtain ⟨g7, o7, rfl, _⟩ := HA7.out.some_ (by rw [outT_len]; omega)
                      have x4 : w7.cell? ⟨g7, o7 + i, none⟩ = some (.int .i64 ((t.vr + (i : Nat)) % 128)) := by
                        have h3 := int_at HA7.out i (by rw [outT_len]; omega)
                        rw [show (outT 128 t.vr r7)[i]'(by rw [outT_len]; omega) = (t.vr + (i : Nat)) % 128 from by simp [outT]] at h3
                        exact h3
                      obtain ⟨n2, hn2⟩ : ∃ n2 : Int, t.vr + (i : Nat) = n2 := ⟨_, rfl⟩
                      rw [hn2] at x4 ⊢
                      have y1 : n2.tmod 128 = n2 % 128 := Int.tmod_eq_emod_of_nonneg (by omega)
                      have y2 : IntKind.i64.wrap (n2 % 128) = n2 % 128 := i64_small' _ (by omega) (by omega)
                      have z1 : IntKind.i64.wrap (n2 + 1) = n2 + 1 := i64_small' _ (by omega) (by omega)
                      have HN1 := Lib.hid (show t.vr + ((i + 1 : Nat) : Int) = n2 + 1 from by omega)
                      clear hn2
                      generalize n2 % 128 = r2 at *
                      go_wp2_with fail
                      go_roundw
                      case rel => exact ⟨i + 1, by omega, by go_num, by rw [HN1.out], by first | rfl | trivial⟩
                      case measure => simp [intOf]; omega
                    · have hie : i = r7 := by omega
                      subst hie
                      rw [← HV7.out]
                      go_upto_region 41 with (fail)
                      have hz := HT7.out
                      clear HT7 HA7 HV7
                      have HZ := Lib.hid hz
                      obtain ⟨r, hr⟩ : ∃ r, (t7.vr) % 128 = r := ⟨_, rfl⟩
                      have HRR := Lib.hid hr
                      have HVL := Lib.hid hz.th.hi
                      have HY := Lib.hid (show (t7.vr).tmod 128 = r ∧ IntKind.i64.wrap r = r from ⟨by rw [Int.tmod_eq_emod_of_nonneg hz.th.ti.vb.1]; exact hr, i64_small' _ (by omega) (by omega)⟩)
                      have hvo : decide (s.opened < t7.vr) = false := decide_eq_false (by have h : t7.vr ≤ s.opened := HVL.out; omega)
                      have HDV := Lib.hid hvo
                      clear hz hr hvo
                      refine wp_region_facts (fun W W' => Below W.heap.size W W') (fun W => TwoAt RO RI w W p q 128 k s t7)
                        (factsOf [.is (.int .i64 (t7.vr)), .is (.int .i64 (s.opened)), .is (.bool false), .is (.bool false), .is (.pointer (some ⟨q, 0, none⟩)), .is (.int .i64 r), .is (.int .i64 (t7.vr)), .is (.int .i64 128), .is (.int .i64 r), .is (.bool false), .is (.bool false)])
                        (by kernel_rfl) (by kernel_rfl) (facts_stay _) (fun W W' hb h => h.below hO hI hb) (fun i => [u135, u136, u137, u138, u139, u140, u141, u142, u143, u144, u145].getD i undef) (by kernel_rfl) (HZ.out.below hO hI ((Below.refl _ _).drew)) ?Fe ?hFe ?hstepe ?hende
                      case hFe =>
                        intro u
                        simp only [fillAct]
                        go_simp
                        rfl
                      case hstepe =>
                        clear HZ
                        refine FSteps.cons ?_ ?_
                        · intro u W hS hd K hK
                          clear hd
                          simp only [upd, reduceIte, Nat.reduceEqDiff] at hK
                          go_simp
                          exact hK.out _ _ (Below.refl _ _) rfl
                        refine FSteps.cons ?_ ?_
                        · intro u W hS hd K hK
                          clear hd
                          simp only [upd, reduceIte, Nat.reduceEqDiff] at hK
                          go_simp
                          exact hK.out _ _ (Below.refl _ _) rfl
                        refine FSteps.cons ?_ ?_
                        · intro u W hS hd K hK
                          have h0 : u 0 = _ := hd 0 rfl
                          have h1 : u 1 = _ := hd 1 rfl
                          clear hd
                          simp only [upd, h0, h1, reduceIte, Nat.reduceEqDiff] at hK
                          have dv := HDV.out
                          go_simp
                          exact hK.out _ _ (Below.refl _ _) rfl
                        refine FSteps.cons ?_ ?_
                        · intro u W hS hd K hK
                          have h2 : u 2 = _ := hd 2 rfl
                          clear hd
                          simp only [upd, h2, reduceIte, Nat.reduceEqDiff] at hK
                          go_simp
                          exact hK.out _ _ (Below.refl _ _) rfl
                        refine FSteps.cons ?_ ?_
                        · intro u W hS hd K hK
                          have h3 : u 3 = _ := hd 3 rfl
                          clear hd
                          simp only [upd, h3, reduceIte, Nat.reduceEqDiff] at hK
                          go_simp
                          exact hK.out _ _ (Below.refl _ _) rfl
                        refine FSteps.cons ?_ ?_
                        · intro u W hS hd K hK
                          have h3 : u 3 = _ := hd 3 rfl
                          have h4 : u 4 = _ := hd 4 rfl
                          clear hd
                          simp only [upd, h3, h4, reduceIte, Nat.reduceEqDiff] at hK
                          go_simp
                          go_at_call 28
                          refine (vr_two hI hS).mono ?_
                          rintro e wc ⟨rfl, hb⟩
                          exact hK.out _ _ hb (congrArg (Value.int .i64) HRR.out)
                        refine FSteps.cons ?_ ?_
                        · intro u W hS hd K hK
                          have h3 : u 3 = _ := hd 3 rfl
                          clear hd
                          simp only [upd, h3, reduceIte, Nat.reduceEqDiff] at hK
                          go_simp
                          exact hK.out _ _ (Below.refl _ _) rfl
                        refine FSteps.cons ?_ ?_
                        · intro u W hS hd K hK
                          have h3 : u 3 = _ := hd 3 rfl
                          clear hd
                          simp only [upd, h3, reduceIte, Nat.reduceEqDiff] at hK
                          go_simp
                          exact hK.out _ _ (Below.refl _ _) rfl
                        refine FSteps.cons ?_ ?_
                        · intro u W hS hd K hK
                          have h3 : u 3 = _ := hd 3 rfl
                          have h6 : u 6 = _ := hd 6 rfl
                          have h7 : u 7 = _ := hd 7 rfl
                          clear hd
                          simp only [upd, h3, h6, h7, reduceIte, Nat.reduceEqDiff] at hK
                          have y1 := HY.out.1
                          have y2 := HY.out.2
                          go_simp
                          exact hK.out _ _ (Below.refl _ _) rfl
                        refine FSteps.cons ?_ ?_
                        · intro u W hS hd K hK
                          have h3 : u 3 = _ := hd 3 rfl
                          have h5 : u 5 = _ := hd 5 rfl
                          have h8 : u 8 = _ := hd 8 rfl
                          clear hd
                          simp only [upd, h3, h5, h8, reduceIte, Nat.reduceEqDiff] at hK
                          go_simp
                          exact hK.out _ _ (Below.refl _ _) rfl
                        refine FSteps.cons ?_ ?_
                        · intro u W hS hd K hK
                          have h3 : u 3 = _ := hd 3 rfl
                          have h9 : u 9 = _ := hd 9 rfl
                          clear hd
                          simp only [upd, h3, h9, reduceIte, Nat.reduceEqDiff] at hK
                          go_simp
                          exact hK.out _ _ (Below.refl _ _) rfl
                        exact trivial
                      case hende =>
                        intro u w9 hS hd
                        have h10 : u 10 = _ := hd 10 rfl
                        have HT9 := Lib.hid hS
                        clear hd hS HZ
                        rw [h10]
                        go_wp2_with fail
                        go_roundw
                        case rel => exact ⟨j + 1, s, t7, hlt, by go_num, rfl, rfl, by show s.opened ≤ ((j + 1 : Nat) : Int); omega, HT9⟩
                        case measure => simp [intOf]; omega
                · have dA : decide (AT < 0) = false := decide_eq_false hA0
                  by_cases hB : (D : Int) ≤ AT
                  · have dB : decide ((D : Int) ≤ AT) = true := decide_eq_true hB
                    have HXT := Lib.hid (fun W h => take_two (w := W) (w0 := w) (p := p) (q := q) (m := 128) (k := k) (s := s) (t := t) hO hI h 0 (by omega) (by omega))
                    have x3 : w6.cell? ⟨g6, o6, none⟩ = some (.int .i64 ((s.acked + (0 : Nat)) % 128)) := by
                      have h3 := int_at HA6.out 0 (by rw [HLE.out]; omega)
                      rw [show (openS 128 s)[0]'(by rw [HLE.out]; omega) = (s.acked + (0 : Nat)) % 128 from by simp [openS]] at h3
                      exact h3
                    generalize (s.acked + (0 : Nat)) % 128 = r1 at *
                    go_upto_region 30 with (go_at_call 26; (with_reducible refine (HXT.out _ HT3.out).mono ?_); rintro e w7 ⟨v7, x7, r7, t7, rfl, ho, hv7, hr7, hz⟩; obtain ⟨a7, c7, hv, hA7⟩ := ho.see; rw [outT_len] at hv; subst hv; have HA7 := Lib.hid hA7; have HT7 := Lib.hid hz; have HV7 := Lib.hid hv7; clear hz hv7 hA7 ho)
                    clear x3 HXT HT3 HA6 x1
                    go_wp2_with fail
                    go_loopw [13, 112] (fun ca ix wx => ∃ i : Nat, i ≤ r7 ∧ ix = .int .i64 i ∧ ca = .int .i64 (t.vr + i) ∧ w7 = wx) (fun _ ix _ => r7 - (intOf ix).toNat)
                    case atStart => exact ⟨0, Nat.zero_le _, rfl, by simp, rfl⟩
                    case round =>
                      obtain ⟨i, hi, rfl, rfl, rfl⟩ := hrel
                      by_cases hil : i < r7
                      · obtain ⟨g7, o7, rfl, _⟩ := HA7.out.some_ (by rw [outT_len]; omega)
                        have x4 : w7.cell? ⟨g7, o7 + i, none⟩ = some (.int .i64 ((t.vr + (i : Nat)) % 128)) := by
                          have h3 := int_at HA7.out i (by rw [outT_len]; omega)
                          rw [show (outT 128 t.vr r7)[i]'(by rw [outT_len]; omega) = (t.vr + (i : Nat)) % 128 from by simp [outT]] at h3
                          exact h3
                        obtain ⟨n2, hn2⟩ : ∃ n2 : Int, t.vr + (i : Nat) = n2 := ⟨_, rfl⟩
                        rw [hn2] at x4 ⊢
                        have y1 : n2.tmod 128 = n2 % 128 := Int.tmod_eq_emod_of_nonneg (by omega)
                        have y2 : IntKind.i64.wrap (n2 % 128) = n2 % 128 := i64_small' _ (by omega) (by omega)
                        have z1 : IntKind.i64.wrap (n2 + 1) = n2 + 1 := i64_small' _ (by omega) (by omega)
                        have HN1 := Lib.hid (show t.vr + ((i + 1 : Nat) : Int) = n2 + 1 from by omega)
                        clear hn2
                        generalize n2 % 128 = r2 at *
                        go_wp2_with fail
                        go_roundw
                        case rel => exact ⟨i + 1, by omega, by go_num, by rw [HN1.out], by first | rfl | trivial⟩
                        case measure => simp [intOf]; omega
                      · have hie : i = r7 := by omega
                        subst hie
                        rw [← HV7.out]
                        go_upto_region 41 with (fail)
                        have hz := HT7.out
                        clear HT7 HA7 HV7
                        have HZ := Lib.hid hz
                        obtain ⟨r, hr⟩ : ∃ r, (t7.vr) % 128 = r := ⟨_, rfl⟩
                        have HRR := Lib.hid hr
                        have HVL := Lib.hid hz.th.hi
                        have HY := Lib.hid (show (t7.vr).tmod 128 = r ∧ IntKind.i64.wrap r = r from ⟨by rw [Int.tmod_eq_emod_of_nonneg hz.th.ti.vb.1]; exact hr, i64_small' _ (by omega) (by omega)⟩)
                        have hvo : decide (s.opened < t7.vr) = false := decide_eq_false (by have h : t7.vr ≤ s.opened := HVL.out; omega)
                        have HDV := Lib.hid hvo
                        clear hz hr hvo
                        refine wp_region_facts (fun W W' => Below W.heap.size W W') (fun W => TwoAt RO RI w W p q 128 k s t7)
                          (factsOf [.is (.int .i64 (t7.vr)), .is (.int .i64 (s.opened)), .is (.bool false), .is (.bool false), .is (.pointer (some ⟨q, 0, none⟩)), .is (.int .i64 r), .is (.int .i64 (t7.vr)), .is (.int .i64 128), .is (.int .i64 r), .is (.bool false), .is (.bool false)])
                          (by kernel_rfl) (by kernel_rfl) (facts_stay _) (fun W W' hb h => h.below hO hI hb) (fun i => [u135, u136, u137, u138, u139, u140, u141, u142, u143, u144, u145].getD i undef) (by kernel_rfl) (HZ.out.below hO hI ((Below.refl _ _).drew)) ?Fg ?hFg ?hstepg ?hendg
                        case hFg =>
                          intro u
                          simp only [fillAct]
                          go_simp
                          rfl
                        case hstepg =>
                          clear HZ
                          refine FSteps.cons ?_ ?_
                          · intro u W hS hd K hK
                            clear hd
                            simp only [upd, reduceIte, Nat.reduceEqDiff] at hK
                            go_simp
                            exact hK.out _ _ (Below.refl _ _) rfl
                          refine FSteps.cons ?_ ?_
                          · intro u W hS hd K hK
                            clear hd
                            simp only [upd, reduceIte, Nat.reduceEqDiff] at hK
                            go_simp
                            exact hK.out _ _ (Below.refl _ _) rfl
                          refine FSteps.cons ?_ ?_
                          · intro u W hS hd K hK
                            have h0 : u 0 = _ := hd 0 rfl
                            have h1 : u 1 = _ := hd 1 rfl
                            clear hd
                            simp only [upd, h0, h1, reduceIte, Nat.reduceEqDiff] at hK
                            have dv := HDV.out
                            go_simp
                            exact hK.out _ _ (Below.refl _ _) rfl
                          refine FSteps.cons ?_ ?_
                          · intro u W hS hd K hK
                            have h2 : u 2 = _ := hd 2 rfl
                            clear hd
                            simp only [upd, h2, reduceIte, Nat.reduceEqDiff] at hK
                            go_simp
                            exact hK.out _ _ (Below.refl _ _) rfl
                          refine FSteps.cons ?_ ?_
                          · intro u W hS hd K hK
                            have h3 : u 3 = _ := hd 3 rfl
                            clear hd
                            simp only [upd, h3, reduceIte, Nat.reduceEqDiff] at hK
                            go_simp
                            exact hK.out _ _ (Below.refl _ _) rfl
                          refine FSteps.cons ?_ ?_
                          · intro u W hS hd K hK
                            have h3 : u 3 = _ := hd 3 rfl
                            have h4 : u 4 = _ := hd 4 rfl
                            clear hd
                            simp only [upd, h3, h4, reduceIte, Nat.reduceEqDiff] at hK
                            go_simp
                            go_at_call 28
                            refine (vr_two hI hS).mono ?_
                            rintro e wc ⟨rfl, hb⟩
                            exact hK.out _ _ hb (congrArg (Value.int .i64) HRR.out)
                          refine FSteps.cons ?_ ?_
                          · intro u W hS hd K hK
                            have h3 : u 3 = _ := hd 3 rfl
                            clear hd
                            simp only [upd, h3, reduceIte, Nat.reduceEqDiff] at hK
                            go_simp
                            exact hK.out _ _ (Below.refl _ _) rfl
                          refine FSteps.cons ?_ ?_
                          · intro u W hS hd K hK
                            have h3 : u 3 = _ := hd 3 rfl
                            clear hd
                            simp only [upd, h3, reduceIte, Nat.reduceEqDiff] at hK
                            go_simp
                            exact hK.out _ _ (Below.refl _ _) rfl
                          refine FSteps.cons ?_ ?_
                          · intro u W hS hd K hK
                            have h3 : u 3 = _ := hd 3 rfl
                            have h6 : u 6 = _ := hd 6 rfl
                            have h7 : u 7 = _ := hd 7 rfl
                            clear hd
                            simp only [upd, h3, h6, h7, reduceIte, Nat.reduceEqDiff] at hK
                            have y1 := HY.out.1
                            have y2 := HY.out.2
                            go_simp
                            exact hK.out _ _ (Below.refl _ _) rfl
                          refine FSteps.cons ?_ ?_
                          · intro u W hS hd K hK
                            have h3 : u 3 = _ := hd 3 rfl
                            have h5 : u 5 = _ := hd 5 rfl
                            have h8 : u 8 = _ := hd 8 rfl
                            clear hd
                            simp only [upd, h3, h5, h8, reduceIte, Nat.reduceEqDiff] at hK
                            go_simp
                            exact hK.out _ _ (Below.refl _ _) rfl
                          refine FSteps.cons ?_ ?_
                          · intro u W hS hd K hK
                            have h3 : u 3 = _ := hd 3 rfl
                            have h9 : u 9 = _ := hd 9 rfl
                            clear hd
                            simp only [upd, h3, h9, reduceIte, Nat.reduceEqDiff] at hK
                            go_simp
                            exact hK.out _ _ (Below.refl _ _) rfl
                          exact trivial
                        case hendg =>
                          intro u w9 hS hd
                          have h10 : u 10 = _ := hd 10 rfl
                          have HT9 := Lib.hid hS
                          clear hd hS HZ
                          rw [h10]
                          go_wp2_with fail
                          go_roundw
                          case rel => exact ⟨j + 1, s, t7, hlt, by go_num, rfl, rfl, by show s.opened ≤ ((j + 1 : Nat) : Int); omega, HT9⟩
                          case measure => simp [intOf]; omega
                  · have dB : decide ((D : Int) ≤ AT) = false := decide_eq_false hB
                    obtain ⟨i0, hi0⟩ : ∃ i0 : Nat, AT = i0 := ⟨AT.toNat, by omega⟩
                    subst hi0
                    have HXT := Lib.hid (fun W h => take_two (w := W) (w0 := w) (p := p) (q := q) (m := 128) (k := k) (s := s) (t := t) hO hI h i0 (by omega) (by omega))
                    have x3 : w6.cell? ⟨g6, o6 + i0, none⟩ = some (.int .i64 ((s.acked + (i0 : Nat)) % 128)) := by
                      have h3 := int_at HA6.out i0 (by rw [HLE.out]; omega)
                      rw [show (openS 128 s)[i0]'(by rw [HLE.out]; omega) = (s.acked + (i0 : Nat)) % 128 from by simp [openS]] at h3
                      exact h3
                    generalize (s.acked + (i0 : Nat)) % 128 = r1 at *
                    go_upto_region 30 with (go_at_call 26; (with_reducible refine (HXT.out _ HT3.out).mono ?_); rintro e w7 ⟨v7, x7, r7, t7, rfl, ho, hv7, hr7, hz⟩; obtain ⟨a7, c7, hv, hA7⟩ := ho.see; rw [outT_len] at hv; subst hv; have HA7 := Lib.hid hA7; have HT7 := Lib.hid hz; have HV7 := Lib.hid hv7; clear hz hv7 hA7 ho)
                    clear x3 HXT HT3 HA6 x1
                    go_wp2_with fail
                    go_loopw [13, 112] (fun ca ix wx => ∃ i : Nat, i ≤ r7 ∧ ix = .int .i64 i ∧ ca = .int .i64 (t.vr + i) ∧ w7 = wx) (fun _ ix _ => r7 - (intOf ix).toNat)
                    case atStart => exact ⟨0, Nat.zero_le _, rfl, by simp, rfl⟩
                    case round =>
                      obtain ⟨i, hi, rfl, rfl, rfl⟩ := hrel
                      by_cases hil : i < r7
                      · obtain ⟨g7, o7, rfl, _⟩ := HA7.out.some_ (by rw [outT_len]; omega)
                        have x4 : w7.cell? ⟨g7, o7 + i, none⟩ = some (.int .i64 ((t.vr + (i : Nat)) % 128)) := by
                          have h3 := int_at HA7.out i (by rw [outT_len]; omega)
                          rw [show (outT 128 t.vr r7)[i]'(by rw [outT_len]; omega) = (t.vr + (i : Nat)) % 128 from by simp [outT]] at h3
                          exact h3
                        obtain ⟨n2, hn2⟩ : ∃ n2 : Int, t.vr + (i : Nat) = n2 := ⟨_, rfl⟩
                        rw [hn2] at x4 ⊢
                        have y1 : n2.tmod 128 = n2 % 128 := Int.tmod_eq_emod_of_nonneg (by omega)
                        have y2 : IntKind.i64.wrap (n2 % 128) = n2 % 128 := i64_small' _ (by omega) (by omega)
                        have z1 : IntKind.i64.wrap (n2 + 1) = n2 + 1 := i64_small' _ (by omega) (by omega)
                        have HN1 := Lib.hid (show t.vr + ((i + 1 : Nat) : Int) = n2 + 1 from by omega)
                        clear hn2
                        generalize n2 % 128 = r2 at *
                        go_wp2_with fail
                        go_roundw
                        case rel => exact ⟨i + 1, by omega, by go_num, by rw [HN1.out], by first | rfl | trivial⟩
                        case measure => simp [intOf]; omega
                      · have hie : i = r7 := by omega
                        subst hie
                        rw [← HV7.out]
                        go_upto_region 41 with (fail)
                        have hz := HT7.out
                        clear HT7 HA7 HV7
                        have HZ := Lib.hid hz
                        obtain ⟨r, hr⟩ : ∃ r, (t7.vr) % 128 = r := ⟨_, rfl⟩
                        have HRR := Lib.hid hr
                        have HVL := Lib.hid hz.th.hi
                        have HY := Lib.hid (show (t7.vr).tmod 128 = r ∧ IntKind.i64.wrap r = r from ⟨by rw [Int.tmod_eq_emod_of_nonneg hz.th.ti.vb.1]; exact hr, i64_small' _ (by omega) (by omega)⟩)
                        have hvo : decide (s.opened < t7.vr) = false := decide_eq_false (by have h : t7.vr ≤ s.opened := HVL.out; omega)
                        have HDV := Lib.hid hvo
                        clear hz hr hvo
                        refine wp_region_facts (fun W W' => Below W.heap.size W W') (fun W => TwoAt RO RI w W p q 128 k s t7)
                          (factsOf [.is (.int .i64 (t7.vr)), .is (.int .i64 (s.opened)), .is (.bool false), .is (.bool false), .is (.pointer (some ⟨q, 0, none⟩)), .is (.int .i64 r), .is (.int .i64 (t7.vr)), .is (.int .i64 128), .is (.int .i64 r), .is (.bool false), .is (.bool false)])
                          (by kernel_rfl) (by kernel_rfl) (facts_stay _) (fun W W' hb h => h.below hO hI hb) (fun i => [u135, u136, u137, u138, u139, u140, u141, u142, u143, u144, u145].getD i undef) (by kernel_rfl) (HZ.out.below hO hI ((Below.refl _ _).drew)) ?Ff ?hFf ?hstepf ?hendf
                        case hFf =>
                          intro u
                          simp only [fillAct]
                          go_simp
                          rfl
                        case hstepf =>
                          clear HZ
                          refine FSteps.cons ?_ ?_
                          · intro u W hS hd K hK
                            clear hd
                            simp only [upd, reduceIte, Nat.reduceEqDiff] at hK
                            go_simp
                            exact hK.out _ _ (Below.refl _ _) rfl
                          refine FSteps.cons ?_ ?_
                          · intro u W hS hd K hK
                            clear hd
                            simp only [upd, reduceIte, Nat.reduceEqDiff] at hK
                            go_simp
                            exact hK.out _ _ (Below.refl _ _) rfl
                          refine FSteps.cons ?_ ?_
                          · intro u W hS hd K hK
                            have h0 : u 0 = _ := hd 0 rfl
                            have h1 : u 1 = _ := hd 1 rfl
                            clear hd
                            simp only [upd, h0, h1, reduceIte, Nat.reduceEqDiff] at hK
                            have dv := HDV.out
                            go_simp
                            exact hK.out _ _ (Below.refl _ _) rfl
                          refine FSteps.cons ?_ ?_
                          · intro u W hS hd K hK
                            have h2 : u 2 = _ := hd 2 rfl
                            clear hd
                            simp only [upd, h2, reduceIte, Nat.reduceEqDiff] at hK
                            go_simp
                            exact hK.out _ _ (Below.refl _ _) rfl
                          refine FSteps.cons ?_ ?_
                          · intro u W hS hd K hK
                            have h3 : u 3 = _ := hd 3 rfl
                            clear hd
                            simp only [upd, h3, reduceIte, Nat.reduceEqDiff] at hK
                            go_simp
                            exact hK.out _ _ (Below.refl _ _) rfl
                          refine FSteps.cons ?_ ?_
                          · intro u W hS hd K hK
                            have h3 : u 3 = _ := hd 3 rfl
                            have h4 : u 4 = _ := hd 4 rfl
                            clear hd
                            simp only [upd, h3, h4, reduceIte, Nat.reduceEqDiff] at hK
                            go_simp
                            go_at_call 28
                            refine (vr_two hI hS).mono ?_
                            rintro e wc ⟨rfl, hb⟩
                            exact hK.out _ _ hb (congrArg (Value.int .i64) HRR.out)
                          refine FSteps.cons ?_ ?_
                          · intro u W hS hd K hK
                            have h3 : u 3 = _ := hd 3 rfl
                            clear hd
                            simp only [upd, h3, reduceIte, Nat.reduceEqDiff] at hK
                            go_simp
                            exact hK.out _ _ (Below.refl _ _) rfl
                          refine FSteps.cons ?_ ?_
                          · intro u W hS hd K hK
                            have h3 : u 3 = _ := hd 3 rfl
                            clear hd
                            simp only [upd, h3, reduceIte, Nat.reduceEqDiff] at hK
                            go_simp
                            exact hK.out _ _ (Below.refl _ _) rfl
                          refine FSteps.cons ?_ ?_
                          · intro u W hS hd K hK
                            have h3 : u 3 = _ := hd 3 rfl
                            have h6 : u 6 = _ := hd 6 rfl
                            have h7 : u 7 = _ := hd 7 rfl
                            clear hd
                            simp only [upd, h3, h6, h7, reduceIte, Nat.reduceEqDiff] at hK
                            have y1 := HY.out.1
                            have y2 := HY.out.2
                            go_simp
                            exact hK.out _ _ (Below.refl _ _) rfl
                          refine FSteps.cons ?_ ?_
                          · intro u W hS hd K hK
                            have h3 : u 3 = _ := hd 3 rfl
                            have h5 : u 5 = _ := hd 5 rfl
                            have h8 : u 8 = _ := hd 8 rfl
                            clear hd
                            simp only [upd, h3, h5, h8, reduceIte, Nat.reduceEqDiff] at hK
                            go_simp
                            exact hK.out _ _ (Below.refl _ _) rfl
                          refine FSteps.cons ?_ ?_
                          · intro u W hS hd K hK
                            have h3 : u 3 = _ := hd 3 rfl
                            have h9 : u 9 = _ := hd 9 rfl
                            clear hd
                            simp only [upd, h3, h9, reduceIte, Nat.reduceEqDiff] at hK
                            go_simp
                            exact hK.out _ _ (Below.refl _ _) rfl
                          exact trivial
                        case hendf =>
                          intro u w9 hS hd
                          have h10 : u 10 = _ := hd 10 rfl
                          have HT9 := Lib.hid hS
                          clear hd hS HZ
                          rw [h10]
                          go_wp2_with fail
                          go_roundw
                          case rel => exact ⟨j + 1, s, t7, hlt, by go_num, rfl, rfl, by show s.opened ≤ ((j + 1 : Nat) : Int); omega, HT9⟩
                          case measure => simp [intOf]; omega
            · have k1 : (KO == 1) = false := by rw [beq_eq_false_iff_ne]; exact h1
              go_upto_region 41 with (fail)
              clear x0 x1 k0 k1 k2 h0 h1 h2
              have hz := HT2.out
              have HZ := Lib.hid hz
              obtain ⟨r, hr⟩ : ∃ r, (t.vr) % 128 = r := ⟨_, rfl⟩
              have HRR := Lib.hid hr
              have HVL := Lib.hid hz.th.hi
              have HY := Lib.hid (show (t.vr).tmod 128 = r ∧ IntKind.i64.wrap r = r from ⟨by rw [Int.tmod_eq_emod_of_nonneg hz.th.ti.vb.1]; exact hr, i64_small' _ (by omega) (by omega)⟩)
              have hvo : decide (s.opened < t.vr) = false := decide_eq_false (by have h : t.vr ≤ s.opened := HVL.out; omega)
              have HDV := Lib.hid hvo
              clear hz hr hvo
              refine wp_region_facts (fun W W' => Below W.heap.size W W') (fun W => TwoAt RO RI w W p q 128 k s t)
                (factsOf [.is (.int .i64 (t.vr)), .is (.int .i64 (s.opened)), .is (.bool false), .is (.bool false), .is (.pointer (some ⟨q, 0, none⟩)), .is (.int .i64 r), .is (.int .i64 (t.vr)), .is (.int .i64 128), .is (.int .i64 r), .is (.bool false), .is (.bool false)])
                (by kernel_rfl) (by kernel_rfl) (facts_stay _) (fun W W' hb h => h.below hO hI hb) (fun i => [u135, u136, u137, u138, u139, u140, u141, u142, u143, u144, u145].getD i undef) (by kernel_rfl) (HZ.out.below hO hI ((Below.refl _ _).drew)) ?Fd ?hFd ?hstepd ?hendd
              case hFd =>
                intro u
                simp only [fillAct]
                go_simp
                rfl
              case hstepd =>
                clear HZ
                refine FSteps.cons ?_ ?_
                · intro u W hS hd K hK
                  clear hd
                  simp only [upd, reduceIte, Nat.reduceEqDiff] at hK
                  go_simp
                  exact hK.out _ _ (Below.refl _ _) rfl
                refine FSteps.cons ?_ ?_
                · intro u W hS hd K hK
                  clear hd
                  simp only [upd, reduceIte, Nat.reduceEqDiff] at hK
                  go_simp
                  exact hK.out _ _ (Below.refl _ _) rfl
                refine FSteps.cons ?_ ?_
                · intro u W hS hd K hK
                  have h0 : u 0 = _ := hd 0 rfl
                  have h1 : u 1 = _ := hd 1 rfl
                  clear hd
                  simp only [upd, h0, h1, reduceIte, Nat.reduceEqDiff] at hK
                  have dv := HDV.out
                  go_simp
                  exact hK.out _ _ (Below.refl _ _) rfl
                refine FSteps.cons ?_ ?_
                · intro u W hS hd K hK
                  have h2 : u 2 = _ := hd 2 rfl
                  clear hd
                  simp only [upd, h2, reduceIte, Nat.reduceEqDiff] at hK
                  go_simp
                  exact hK.out _ _ (Below.refl _ _) rfl
                refine FSteps.cons ?_ ?_
                · intro u W hS hd K hK
                  have h3 : u 3 = _ := hd 3 rfl
                  clear hd
                  simp only [upd, h3, reduceIte, Nat.reduceEqDiff] at hK
                  go_simp
                  exact hK.out _ _ (Below.refl _ _) rfl
                refine FSteps.cons ?_ ?_
                · intro u W hS hd K hK
                  have h3 : u 3 = _ := hd 3 rfl
                  have h4 : u 4 = _ := hd 4 rfl
                  clear hd
                  simp only [upd, h3, h4, reduceIte, Nat.reduceEqDiff] at hK
                  go_simp
                  go_at_call 28
                  refine (vr_two hI hS).mono ?_
                  rintro e wc ⟨rfl, hb⟩
                  exact hK.out _ _ hb (congrArg (Value.int .i64) HRR.out)
                refine FSteps.cons ?_ ?_
                · intro u W hS hd K hK
                  have h3 : u 3 = _ := hd 3 rfl
                  clear hd
                  simp only [upd, h3, reduceIte, Nat.reduceEqDiff] at hK
                  go_simp
                  exact hK.out _ _ (Below.refl _ _) rfl
                refine FSteps.cons ?_ ?_
                · intro u W hS hd K hK
                  have h3 : u 3 = _ := hd 3 rfl
                  clear hd
                  simp only [upd, h3, reduceIte, Nat.reduceEqDiff] at hK
                  go_simp
                  exact hK.out _ _ (Below.refl _ _) rfl
                refine FSteps.cons ?_ ?_
                · intro u W hS hd K hK
                  have h3 : u 3 = _ := hd 3 rfl
                  have h6 : u 6 = _ := hd 6 rfl
                  have h7 : u 7 = _ := hd 7 rfl
                  clear hd
                  simp only [upd, h3, h6, h7, reduceIte, Nat.reduceEqDiff] at hK
                  have y1 := HY.out.1
                  have y2 := HY.out.2
                  go_simp
                  exact hK.out _ _ (Below.refl _ _) rfl
                refine FSteps.cons ?_ ?_
                · intro u W hS hd K hK
                  have h3 : u 3 = _ := hd 3 rfl
                  have h5 : u 5 = _ := hd 5 rfl
                  have h8 : u 8 = _ := hd 8 rfl
                  clear hd
                  simp only [upd, h3, h5, h8, reduceIte, Nat.reduceEqDiff] at hK
                  go_simp
                  exact hK.out _ _ (Below.refl _ _) rfl
                refine FSteps.cons ?_ ?_
                · intro u W hS hd K hK
                  have h3 : u 3 = _ := hd 3 rfl
                  have h9 : u 9 = _ := hd 9 rfl
                  clear hd
                  simp only [upd, h3, h9, reduceIte, Nat.reduceEqDiff] at hK
                  go_simp
                  exact hK.out _ _ (Below.refl _ _) rfl
                exact trivial
              case hendd =>
                intro u w9 hS hd
                have h10 : u 10 = _ := hd 10 rfl
                have HT9 := Lib.hid hS
                clear hd hS HZ
                rw [h10]
                go_wp2_with fail
                go_roundw
                case rel => exact ⟨j + 1, s, t, hlt, by go_num, rfl, rfl, by show s.opened ≤ ((j + 1 : Nat) : Int); omega, HT9⟩
                case measure => simp [intOf]; omega
      · go_wp2_with fail
        exact bodyPost_ret (v := .bool true) (by simp [results, Try.results6, go_sem]) rfl ⟨rfl, HT.out.base⟩
  · have hd : k < 1 ∨ 64 < k ∨ 400 < n := by omega
    clear hg hA
    by_cases h0 : k < 1
    · have d0 : decide (k < 1) = true := decide_eq_true h0
      clear h0 hd
      go_enter Try.func6, Try.ntmps6
      go_wp2_with (go_at_call 8; (with_reducible refine (HAW.out _).mono ?_); rintro e w2 ⟨rfl, hb2⟩; have HB1 := Lib.hid hb2; clear hb2)
      exact bodyPost_ret (v := .bool true) (by simp [results, Try.results6, go_sem]) rfl ⟨rfl, HB1.out⟩
    · have d0 : decide (k < 1) = false := decide_eq_false h0
      by_cases h1 : 64 < k
      · have d1 : decide (64 < k) = true := decide_eq_true h1
        clear h0 h1 hd
        go_enter Try.func6, Try.ntmps6
        go_wp2_with (go_at_call 8; (with_reducible refine (HAW.out _).mono ?_); rintro e w2 ⟨rfl, hb2⟩; have HB1 := Lib.hid hb2; clear hb2)
        exact bodyPost_ret (v := .bool true) (by simp [results, Try.results6, go_sem]) rfl ⟨rfl, HB1.out⟩
      · have d1 : decide (64 < k) = false := decide_eq_false h1
        have d2 : decide ((400 : Int) < (n : Int)) = true := decide_eq_true (by omega)
        clear h0 h1 hd
        go_enter Try.func6, Try.ntmps6
        go_wp2_with (go_at_call 8; (with_reducible refine (HAW.out _).mono ?_); rintro e w2 ⟨rfl, hb2⟩; have HB1 := Lib.hid hb2; clear hb2)
        exact bodyPost_ret (v := .bool true) (by simp [results, Try.results6, go_sem]) rfl ⟨rfl, HB1.out⟩
theorem seqthrough_of {RO : OutR} {RI : InR} (hO : OutC RO) (hI : InC RI) (g : Bool) (k : Int) (a : Option Addr) (n c : Nat) (L : List (Int × Int)) (w : World) (hn : L.length = n) (hA : AtL encS11 w a L) : Calls Try.prog 6 #[.bool g, .int .i64 k, .slice a n c] w fun e w' => e = .returned (.bool true) ∧ Below w.heap.size w w' := by
  cases g with
  | false => exact seqthrough_8 hO hI k a n c L w hn hA
  | true => exact seqthrough_128 hO hI k a n c L w hn hA
end Go.Proofs.Ytmokibjeanbabaa
