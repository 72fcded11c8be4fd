/-
ClockPlays: a round of its loop, where the op is number 1 (written by tools/gen13/gen_plays.py).
-/
import Derived.Test.YtchhaolgmdhnmaaClkPlaysB
namespace Go.Proofs.Ytchhaolgmdhnmaa
open Go.RowKit
set_option maxRecDepth 20000
set_option maxHeartbeats 4000000 in
theorem plays_way1 (g0 o0 n c p q : Nat) (w wr : World) (uu : Nat → Value) (j : Nat) (LL : List Tm) (NN : Int) (B : Nat) (yt yk yn : Int) (hn2 : n ≤ 200) (hlt : j < n) (hNN0 : 0 ≤ NN) (hNN1 : NN ≤ (j : Int)) (hok : ClkOk LL) (hp : PlO w B p q LL NN (dueL NN LL) [] wr)
    (y0 : wr.cell? ⟨g0, o0 + j * 4, none⟩ = some (.int .i64 1)) (y1 : wr.cell? ⟨g0, o0 + j * 4 + 1, none⟩ = some (.int .i64 yt)) (y2 : wr.cell? ⟨g0, o0 + j * 4 + 2, none⟩ = some (.int .i64 yk)) (y3 : wr.cell? ⟨g0, o0 + j * 4 + 3, none⟩ = some (.int .i64 yn)) (Q0 : Exit → Act → World → Prop) :
    Code.wp Try.prog playsBody (Exit.then (fun a' w'' => PlaysI (some ⟨g0, o0, none⟩) n c p q w a' w'' ∧ playsMu n a' w'' < playsMu n ⟨#[.slice (some ⟨g0, o0, none⟩) n c, undef, uu 2, .pointer (some ⟨p, 0, none⟩), .pointer (some ⟨q, 0, none⟩), undef, uu 6, uu 7, uu 8, .bool true, .bool false, .slice (some ⟨g0, o0, none⟩) n c, .int .i64 (n : Int), .bool false, .pointer (some ⟨p, 0, none⟩), .agg #[.int .i64 0, .slice none 0 0], .pointer (some ⟨q, 0, none⟩), .slice (some ⟨g0, o0, none⟩) n c, .int .i64 (n : Int), .int .i64 (j : Int), uu 20, uu 21, uu 22, uu 23, uu 24, uu 25, uu 26, uu 27, uu 28, uu 29, uu 30, uu 31, uu 32, uu 33, uu 34, uu 35, uu 36, uu 37, uu 38, uu 39, uu 40, uu 41, uu 42, uu 43, uu 44, uu 45, uu 46, uu 47, uu 48, uu 49, uu 50, uu 51, uu 52, uu 53, uu 54, uu 55, uu 56, uu 57, uu 58, uu 59, uu 60, uu 61, uu 62, uu 63, uu 64, uu 65, uu 66, uu 67, uu 68, uu 69, uu 70, uu 71, uu 72, uu 73, uu 74, uu 75, uu 76, uu 77, uu 78, uu 79, uu 80, uu 81, uu 82, uu 83, uu 84, uu 85, uu 86, uu 87, uu 88, uu 89, uu 90, uu 91, uu 92, uu 93, uu 94, uu 95, uu 96, uu 97, uu 98, uu 99, uu 100, uu 101, uu 102, uu 103, uu 104, uu 105, uu 106, uu 107, uu 108, uu 109, uu 110, uu 111, uu 112, uu 113, uu 114, uu 115, uu 116, uu 117, uu 118, uu 119, uu 120, uu 121, uu 122, uu 123, uu 124, uu 125, uu 126], []⟩ wr) Q0) ⟨#[.slice (some ⟨g0, o0, none⟩) n c, undef, uu 2, .pointer (some ⟨p, 0, none⟩), .pointer (some ⟨q, 0, none⟩), undef, uu 6, uu 7, uu 8, .bool true, .bool false, .slice (some ⟨g0, o0, none⟩) n c, .int .i64 (n : Int), .bool false, .pointer (some ⟨p, 0, none⟩), .agg #[.int .i64 0, .slice none 0 0], .pointer (some ⟨q, 0, none⟩), .slice (some ⟨g0, o0, none⟩) n c, .int .i64 (n : Int), .int .i64 (j : Int), uu 20, uu 21, uu 22, uu 23, uu 24, uu 25, uu 26, uu 27, uu 28, uu 29, uu 30, uu 31, uu 32, uu 33, uu 34, uu 35, uu 36, uu 37, uu 38, uu 39, uu 40, uu 41, uu 42, uu 43, uu 44, uu 45, uu 46, uu 47, uu 48, uu 49, uu 50, uu 51, uu 52, uu 53, uu 54, uu 55, uu 56, uu 57, uu 58, uu 59, uu 60, uu 61, uu 62, uu 63, uu 64, uu 65, uu 66, uu 67, uu 68, uu 69, uu 70, uu 71, uu 72, uu 73, uu 74, uu 75, uu 76, uu 77, uu 78, uu 79, uu 80, uu 81, uu 82, uu 83, uu 84, uu 85, uu 86, uu 87, uu 88, uu 89, uu 90, uu 91, uu 92, uu 93, uu 94, uu 95, uu 96, uu 97, uu 98, uu 99, uu 100, uu 101, uu 102, uu 103, uu 104, uu 105, uu 106, uu 107, uu 108, uu 109, uu 110, uu 111, uu 112, uu 113, uu 114, uu 115, uu 116, uu 117, uu 118, uu 119, uu 120, uu 121, uu 122, uu 123, uu 124, uu 125, uu 126], []⟩ wr := by
  have HOK := Lib.hid hok
  have HP := Lib.hid hp
  clear hok hp
  conv => arg 2; whnf
  have HOKT := Lib.hid (HOK.out.filter (fun t => !isT ⟨yk, yn⟩ t))
  have HNT := Lib.hid (show 0 ≤ NN ∧ NN ≤ (j : Int) + 1 from by omega)
  have hst : LL.filter (fun t => !isT ⟨yk, yn⟩ t) = stopT ⟨yk, yn⟩ LL := rfl
  rw [hst] at HOKT
  clear hst
  have HPX := Lib.hid (HP.out.box [.int .i64 1, .int .i64 yt, .int .i64 yk, .int .i64 yn] 33)
  go_upto_region 14 with (fail)
  generalize wr.alloc (.cells #[.int .i64 1, .int .i64 yt, .int .i64 yk, .int .i64 yn] 33) = wm at *
  generalize wr.heap.size = m at *
  have HC1 := Lib.hid (fun B W mm (h : PlO w B p q LL NN (dueL NN LL) [(m, [.int .i64 1, .int .i64 yt, .int .i64 yk, .int .i64 yn])] W) hA hm => h.cstop HOK.out mm ⟨yk, yn⟩ hA hm)
  have HC2 := Lib.hid (fun B W (h : PlO w B p q (stopT ⟨yk, yn⟩ LL) NN (dueL NN LL) [(m, [.int .i64 1, .int .i64 yt, .int .i64 yk, .int .i64 yn])] W) => h.rstop (by rw [List.length_map]; exact HOK.out.len) (pair_due HOK.out.one) ⟨yk, yn⟩)
  rw [stop_due, cnt_due (isT ⟨yk, yn⟩) (isT ⟨yk, yn⟩) NN LL (fun _ _ => rfl)] at HC2
  simp only at HC1 HC2
  generalize stopT ⟨yk, yn⟩ LL = LT at *
  generalize cntT (isT ⟨yk, yn⟩) LL = rr at *
  have HPL := Lib.hid (HPX.out.lift HPX.out.bw (Nat.le_refl _))
  generalize wm.heap.size = B0 at HPL
  clear HP HOK HPX
  refine wp_region_staged (fun W W' => Above B0 W W') (fun l W => RowAt W m [.int .i64 1, .int .i64 yt, .int .i64 yk, .int .i64 yn] ∧ St2 (PlO w B0 p q LL NN (dueL NN LL) [(m, [.int .i64 1, .int .i64 yt, .int .i64 yk, .int .i64 yn])] W) (PlO w B0 p q LT NN (dueL NN LL) [(m, [.int .i64 1, .int .i64 yt, .int .i64 yk, .int .i64 yn])] W) (∃ B, PlO w B p q LT NN (dueL NN LT) [(m, [.int .i64 1, .int .i64 yt, .int .i64 yk, .int .i64 yn])] W) (l 4) (l 12))
    (fun j' v W => factsOf [.is (.pointer (some ⟨p, 0, none⟩)), .is (.pointer (some ⟨m, 2, none⟩)), .is (.agg #[.int .i64 yk, .int .i64 yn]), .any, .is (.int .i64 rr), .is (.pointer (some ⟨q, 0, none⟩)), .is (.pointer (some ⟨m, 2, none⟩)), .is (.pointer (some ⟨m, 2, none⟩)), .is (.int .i64 yk), .is (.pointer (some ⟨m, 2, none⟩)), .is (.pointer (some ⟨m, 3, none⟩)), .is (.int .i64 yn), .is (.int .i64 rr), .is (.bool false)] j' v W ∧ (j' = 3 → ∃ b, v = .slice (some ⟨b, 0, none⟩) 1 1 ∧ AtL encN W (some ⟨b, 0, none⟩) [⟨yk, yn⟩] ∧ B0 ≤ b))
    (by kernel_rfl) (by kernel_rfl) (fun j' v W W' hR h => ⟨facts_still rfl j' v W W' h.1, (fun e => by obtain ⟨b, hv, hA, hb⟩ := h.2 e; exact ⟨b, hv, at_above hA hR hb, hb⟩)⟩) (fun i => uu (46 + i)) (by kernel_rfl) ⟨(HPL.out.row (.head _)).drew, HPL.out.below ((Below.refl _ _).drew)⟩ ?F1 ?hF1 ?hstep1 ?hend1
  case hF1 =>
    intro u
    simp only [fillAct]
    go_simp
    rfl
  case hstep1 =>
    refine SSteps.cons ?_ ?_
    · intro u W l hS hl hcl hd K hK
      clear hd
      simp only [upd, reduceIte, Nat.reduceEqDiff] at hK
      go_simp
      exact hK.out _ _ (Above.of_below (Below.refl _ _)) ⟨rfl, (fun e => absurd e (by decide))⟩ hS
    refine SSteps.cons ?_ ?_
    · intro u W l hS hl hcl hd K hK
      clear hd
      simp only [upd, reduceIte, Nat.reduceEqDiff] at hK
      go_simp
      exact hK.out _ _ (Above.of_below (Below.refl _ _)) ⟨rfl, (fun e => absurd e (by decide))⟩ hS
    refine SSteps.cons ?_ ?_
    · intro u W l hS hl hcl hd K hK
      have h1 : u 1 = _ := (hd 1 rfl).2.1
      clear hd
      simp only [upd, h1, reduceIte, Nat.reduceEqDiff] at hK
      have c0 := hS.1.cell 2 rfl
      have c1 := hS.1.cell 3 rfl
      go_simp
      exact hK.out _ _ (Above.of_below (Below.refl _ _)) ⟨rfl, (fun e => absurd e (by decide))⟩ hS
    refine SSteps.cons ?_ ?_
    · intro u W l hS hl hcl hd K hK
      have h2 : u 2 = _ := (hd 2 rfl).2.1
      clear hd
      simp only [upd, h2, reduceIte, Nat.reduceEqDiff] at hK
      have h4 := not_yet hcl 3 4 hl (by kernel_rfl)
      have hP := St2.zero hS.2 h4
      go_simp
      exact hK.out _ _ (Above.of_below ((Below.refl _ _).alloc (Nat.le_refl _) _)) ⟨trivial, (fun _ => ⟨_, rfl, AtL.made encN 31 _ _ ⟨yk, yn⟩ _ rfl rfl, hP.bw⟩)⟩ ⟨hS.1.alloc _, St2.pre (hP.below ((Below.refl _ _).alloc (Nat.le_refl _) _)) h4⟩
    refine SSteps.cons ?_ ?_
    · intro u W l hS hl hcl hd K hK
      have h0 : u 0 = _ := (hd 0 rfl).2.1
      obtain ⟨m3, h3, A3, b3⟩ := (hd 3 rfl).2.2 rfl
      clear hd
      simp only [upd, h0, h3, reduceIte, Nat.reduceEqDiff] at hK
      have hP := St2.zero hS.2 hl
      have h12 := not_yet hcl 4 12 hl (by kernel_rfl)
      go_simp
      go_at_call 10
      refine (HC1.out _ _ _ hP A3 b3).mono ?_
      rintro e wc ⟨rfl, hp, hab⟩
      exact hK.out _ _ hab ⟨rfl, (fun e => absurd e (by decide))⟩ ⟨hp.row (.head _), St2.one hp h12⟩
    refine SSteps.cons ?_ ?_
    · intro u W l hS hl hcl hd K hK
      clear hd
      simp only [upd, reduceIte, Nat.reduceEqDiff] at hK
      go_simp
      exact hK.out _ _ (Above.of_below (Below.refl _ _)) ⟨rfl, (fun e => absurd e (by decide))⟩ hS
    refine SSteps.cons ?_ ?_
    · intro u W l hS hl hcl hd K hK
      clear hd
      simp only [upd, reduceIte, Nat.reduceEqDiff] at hK
      go_simp
      exact hK.out _ _ (Above.of_below (Below.refl _ _)) ⟨rfl, (fun e => absurd e (by decide))⟩ hS
    refine SSteps.cons ?_ ?_
    · intro u W l hS hl hcl hd K hK
      have h6 : u 6 = _ := (hd 6 rfl).2.1
      clear hd
      simp only [upd, h6, reduceIte, Nat.reduceEqDiff] at hK
      go_simp
      exact hK.out _ _ (Above.of_below (Below.refl _ _)) ⟨rfl, (fun e => absurd e (by decide))⟩ hS
    refine SSteps.cons ?_ ?_
    · intro u W l hS hl hcl hd K hK
      have h7 : u 7 = _ := (hd 7 rfl).2.1
      clear hd
      simp only [upd, h7, reduceIte, Nat.reduceEqDiff] at hK
      have c0 := hS.1.cell 2 rfl
      go_simp
      exact hK.out _ _ (Above.of_below (Below.refl _ _)) ⟨rfl, (fun e => absurd e (by decide))⟩ hS
    refine SSteps.cons ?_ ?_
    · intro u W l hS hl hcl hd K hK
      clear hd
      simp only [upd, reduceIte, Nat.reduceEqDiff] at hK
      go_simp
      exact hK.out _ _ (Above.of_below (Below.refl _ _)) ⟨rfl, (fun e => absurd e (by decide))⟩ hS
    refine SSteps.cons ?_ ?_
    · intro u W l hS hl hcl hd K hK
      have h9 : u 9 = _ := (hd 9 rfl).2.1
      clear hd
      simp only [upd, h9, reduceIte, Nat.reduceEqDiff] at hK
      go_simp
      exact hK.out _ _ (Above.of_below (Below.refl _ _)) ⟨rfl, (fun e => absurd e (by decide))⟩ hS
    refine SSteps.cons ?_ ?_
    · intro u W l hS hl hcl hd K hK
      have h10 : u 10 = _ := (hd 10 rfl).2.1
      clear hd
      simp only [upd, h10, reduceIte, Nat.reduceEqDiff] at hK
      have c0 := hS.1.cell 3 rfl
      go_simp
      exact hK.out _ _ (Above.of_below (Below.refl _ _)) ⟨rfl, (fun e => absurd e (by decide))⟩ hS
    refine SSteps.cons ?_ ?_
    · intro u W l hS hl hcl hd K hK
      have h5 : u 5 = _ := (hd 5 rfl).2.1
      have h8 : u 8 = _ := (hd 8 rfl).2.1
      have h11 : u 11 = _ := (hd 11 rfl).2.1
      obtain ⟨g4, h4⟩ : l 4 = true ∧ u 4 = .int .i64 rr := ⟨(hd 4 rfl).1, (hd 4 rfl).2.1⟩
      clear hd
      simp only [upd, h5, h8, h11, h4, reduceIte, Nat.reduceEqDiff] at hK
      have hP := St2.mid hS.2 g4 hl
      go_simp
      go_at_call 11
      refine (HC2.out _ _ hP).mono ?_
      rintro e wc ⟨rfl, hp, hab⟩
      exact hK.out _ _ hab ⟨rfl, (fun e => absurd e (by decide))⟩ ⟨hp.row (.head _), St2.fin2 ⟨_, hp⟩ g4⟩
    refine SSteps.cons ?_ ?_
    · intro u W l hS hl hcl hd K hK
      have h4 : u 4 = _ := (hd 4 rfl).2.1
      have h12 : u 12 = _ := (hd 12 rfl).2.1
      clear hd
      simp only [upd, h4, h12, reduceIte, Nat.reduceEqDiff] at hK
      go_simp
      exact hK.out _ _ (Above.of_below (Below.refl _ _)) ⟨rfl, (fun e => absurd e (by decide))⟩ hS
    exact trivial

  case hend1 =>
    intro u w6 l hall hS hd
    have h13 : u 13 = _ := (hd 13 rfl).1
    have HPT := Lib.hid (St2.fin hS.2 (hall 4 rfl) (hall 12 rfl))
    clear hd hS hall HPL HC1 HC2
    rw [h13]
    clear h13
    obtain ⟨BT, hPT⟩ := HPT.out
    have HPB := Lib.hid hPT
    have b2 := (hPT.row (.head _)).cell 2 rfl
    have b3 := (hPT.row (.head _)).cell 3 rfl
    have hdl : (dueL NN LT).length = LT.length := List.length_map _
    have hl32 := HOKT.out.len
    have HAT := Lib.hid (hPT.rat (by omega) yk yn)
    rw [atF_due] at HAT
    obtain ⟨ta, tc, hrw, how⟩ := hPT.lay
    rw [hdl] at hrw how
    have HRW := Lib.hid (And.intro hrw how)
    have HLA := Lib.hid (fun W (h : PlO w BT p q LT NN (dueL NN LT) [(m, [.int .i64 1, .int .i64 yt, .int .i64 yk, .int .i64 yn])] W) => h.call HOKT.out)
    have HLF := Lib.hid (fun W (h : PlO w BT p q LT NN (dueL NN LT) [(m, [.int .i64 1, .int .i64 yt, .int .i64 yk, .int .i64 yn])] W) => h.cleft HOKT.out ⟨yk, yn⟩)
    have HSM := Lib.hid (fun v W (h1 : SeeL encN W v (LT.map Tm.nm)) (h2 : OwnD W (.slice ta LT.length tc) (dueL NN LT)) => csame_yes v _ (dueL NN LT) W ((due_nm NN LT).symm ▸ h1) h2.see (by omega))
    have HLD := Lib.hid (left_due (L := LT) ⟨yk, yn⟩ 0 (Int.le_refl 0))
    have HLS := Lib.hid (atF_spec ⟨yk, yn⟩ LT 0)
    simp only at HLF
    obtain ⟨nT, hnT⟩ : ∃ nT, LT.length = nT := ⟨_, rfl⟩
    rw [hnT] at HRW HSM hl32
    have HLEN2 := Lib.hid hnT
    obtain ⟨ix, hix⟩ : ∃ ix, atF ⟨yk, yn⟩ LT 0 = ix := ⟨_, rfl⟩
    rw [hix] at HAT HLD HLS
    clear hPT HPT hdl hrw how hnT hix
    by_cases hat : ix < 0
    · have hi1 : ix = -1 := by
        rcases HLS.out with ⟨e, -⟩ | ⟨A, t, Z, -, e, -⟩
        · exact e
        · omega
      have hlf := HLD.out.1 hat
      subst hi1
      rw [hlf] at HLF
      clear HLD HLS hlf hat
      go_upto_region 26 with (go_at_call 17; (with_reducible refine HAT.out.mono ?_); rintro e wa ⟨rfl, hb⟩; have HBA := Lib.hid hb; clear hb b2 b3)
      have HSA := Lib.hid (And.intro (HPB.out.below HBA.out) (And.intro (HRW.out.1.below HBA.out) (HRW.out.2.below HBA.out)))
      clear HPB HAT HRW HBA
      refine wp_region_facts (fun W W' => Below W.heap.size W W') (fun W => PlO w BT p q LT NN (dueL NN LT) [(m, [.int .i64 1, .int .i64 yt, .int .i64 yk, .int .i64 yn])] W ∧ RowAt W q [.int .i64 NN, .slice ta nT tc] ∧ OwnD W (.slice ta nT tc) (dueL NN LT))
        (fun j' v W => factsOf [.is (.pointer (some ⟨p, 0, none⟩)), .any, .is (.pointer (some ⟨q, 0, none⟩)), .is (.pointer (some ⟨q, 0, none⟩)), .is (.pointer (some ⟨q, 1, none⟩)), .is (.slice ta nT tc), .is (.bool true), .is (.bool false), .is (.bool false), .is (.pointer (some ⟨p, 0, none⟩)), .is (.pointer (some ⟨m, 2, none⟩)), .is (.agg #[.int .i64 yk, .int .i64 yn]), .is (.int .i64 0), .is (.int .i64 0), .is (.bool false), .is (.bool false), .is (.bool false), .is (.pointer (some ⟨p, 0, none⟩)), .any, .is (.int .i64 nT), .is (.bool false), .is (.bool false)] j' v W ∧ (j' = 1 ∨ j' = 18 → SeeL encN W v (LT.map Tm.nm)))
        (by kernel_rfl) (by kernel_rfl) (fun j' v W W' hb h => ⟨facts_stay _ j' v W W' hb h.1, fun e => (h.2 e).below hb⟩) (fun W W' hb h => ⟨h.1.below hb, h.2.1.below hb, h.2.2.below hb⟩) (fun i => uu (104 + i)) (by kernel_rfl) ⟨HSA.out.1.below ((Below.refl _ _).drew), HSA.out.2.1.below ((Below.refl _ _).drew), HSA.out.2.2.below ((Below.refl _ _).drew)⟩ ?F2 ?hF2 ?hstep2 ?hend2
      case hF2 =>
        intro u
        simp only [fillAct]
        go_simp
        rfl
      case hstep2 =>
        clear HSA
        refine FSteps.cons ?_ ?_
        · intro u W hS hd K hK
          clear hd
          simp only [upd, reduceIte, Nat.reduceEqDiff] at hK
          go_simp
          exact hK.out _ _ (Below.refl _ _) ⟨rfl, (fun e => absurd e (by decide))⟩
        refine FSteps.cons ?_ ?_
        · intro u W hS hd K hK
          have h0 : u 0 = _ := (hd 0 rfl).1
          clear hd
          simp only [upd, h0, reduceIte, Nat.reduceEqDiff] at hK
          go_simp
          go_at_call 18
          refine (HLA.out _ hS.1).mono ?_
          rintro e wc ⟨v, rfl, ho, hb⟩
          exact hK.out _ _ hb ⟨trivial, fun _ => ho⟩
        refine FSteps.cons ?_ ?_
        · intro u W hS hd K hK
          clear hd
          simp only [upd, reduceIte, Nat.reduceEqDiff] at hK
          go_simp
          exact hK.out _ _ (Below.refl _ _) ⟨rfl, (fun e => absurd e (by decide))⟩
        refine FSteps.cons ?_ ?_
        · intro u W hS hd K hK
          have h2 : u 2 = _ := (hd 2 rfl).1
          clear hd
          simp only [upd, h2, reduceIte, Nat.reduceEqDiff] at hK
          go_simp
          exact hK.out _ _ (Below.refl _ _) ⟨rfl, (fun e => absurd e (by decide))⟩
        refine FSteps.cons ?_ ?_
        · intro u W hS hd K hK
          have h3 : u 3 = _ := (hd 3 rfl).1
          clear hd
          simp only [upd, h3, reduceIte, Nat.reduceEqDiff] at hK
          go_simp
          exact hK.out _ _ (Below.refl _ _) ⟨rfl, (fun e => absurd e (by decide))⟩
        refine FSteps.cons ?_ ?_
        · intro u W hS hd K hK
          have h4 : u 4 = _ := (hd 4 rfl).1
          clear hd
          simp only [upd, h4, reduceIte, Nat.reduceEqDiff] at hK
          have c0 := hS.2.1.cell 1 rfl
          go_simp
          exact hK.out _ _ (Below.refl _ _) ⟨rfl, (fun e => absurd e (by decide))⟩
        refine FSteps.cons ?_ ?_
        · intro u W hS hd K hK
          have h5 : u 5 = _ := (hd 5 rfl).1
          obtain ⟨v1, h1, A1⟩ : ∃ v1, u 1 = v1 ∧ SeeL encN W v1 (LT.map Tm.nm) := ⟨_, rfl, (hd 1 rfl).2 (Or.inl rfl)⟩
          clear hd
          simp only [upd, h5, h1, reduceIte, Nat.reduceEqDiff] at hK
          go_simp
          go_at_call 12
          refine (HSM.out _ _ A1 hS.2.2).mono ?_
          rintro e wc ⟨rfl, hb⟩
          exact hK.out _ _ hb ⟨rfl, (fun e => absurd e (by decide))⟩
        refine FSteps.cons ?_ ?_
        · intro u W hS hd K hK
          have h6 : u 6 = _ := (hd 6 rfl).1
          clear hd
          simp only [upd, h6, reduceIte, Nat.reduceEqDiff] at hK
          go_simp
          exact hK.out _ _ (Below.refl _ _) ⟨rfl, (fun e => absurd e (by decide))⟩
        refine FSteps.cons ?_ ?_
        · intro u W hS hd K hK
          have h7 : u 7 = _ := (hd 7 rfl).1
          clear hd
          simp only [upd, h7, reduceIte, Nat.reduceEqDiff] at hK
          go_simp
          exact hK.out _ _ (Below.refl _ _) ⟨rfl, (fun e => absurd e (by decide))⟩
        refine FSteps.cons ?_ ?_
        · intro u W hS hd K hK
          have h8 : u 8 = _ := (hd 8 rfl).1
          clear hd
          simp only [upd, h8, reduceIte, Nat.reduceEqDiff] at hK
          go_simp
          exact hK.out _ _ (Below.refl _ _) ⟨rfl, (fun e => absurd e (by decide))⟩
        refine FSteps.cons ?_ ?_
        · intro u W hS hd K hK
          have h8 : u 8 = _ := (hd 8 rfl).1
          clear hd
          simp only [upd, h8, reduceIte, Nat.reduceEqDiff] at hK
          go_simp
          exact hK.out _ _ (Below.refl _ _) ⟨rfl, (fun e => absurd e (by decide))⟩
        refine FSteps.cons ?_ ?_
        · intro u W hS hd K hK
          have h8 : u 8 = _ := (hd 8 rfl).1
          have h10 : u 10 = _ := (hd 10 rfl).1
          clear hd
          simp only [upd, h8, h10, reduceIte, Nat.reduceEqDiff] at hK
          have c0 := (hS.1.row (.head _)).cell 2 rfl
          have c1 := (hS.1.row (.head _)).cell 3 rfl
          go_simp
          exact hK.out _ _ (Below.refl _ _) ⟨rfl, (fun e => absurd e (by decide))⟩
        refine FSteps.cons ?_ ?_
        · intro u W hS hd K hK
          have h8 : u 8 = _ := (hd 8 rfl).1
          have h9 : u 9 = _ := (hd 9 rfl).1
          have h11 : u 11 = _ := (hd 11 rfl).1
          clear hd
          simp only [upd, h8, h9, h11, reduceIte, Nat.reduceEqDiff] at hK
          go_simp
          go_at_call 19
          refine (HLF.out _ hS.1).mono ?_
          rintro e wc ⟨rfl, hb⟩
          exact hK.out _ _ hb ⟨rfl, (fun e => absurd e (by decide))⟩
        refine FSteps.cons ?_ ?_
        · intro u W hS hd K hK
          have h8 : u 8 = _ := (hd 8 rfl).1
          clear hd
          simp only [upd, h8, reduceIte, Nat.reduceEqDiff] at hK
          go_simp
          exact hK.out _ _ (Below.refl _ _) ⟨rfl, (fun e => absurd e (by decide))⟩
        refine FSteps.cons ?_ ?_
        · intro u W hS hd K hK
          have h8 : u 8 = _ := (hd 8 rfl).1
          have h12 : u 12 = _ := (hd 12 rfl).1
          have h13 : u 13 = _ := (hd 13 rfl).1
          clear hd
          simp only [upd, h8, h12, h13, reduceIte, Nat.reduceEqDiff] at hK
          go_simp
          exact hK.out _ _ (Below.refl _ _) ⟨rfl, (fun e => absurd e (by decide))⟩
        refine FSteps.cons ?_ ?_
        · intro u W hS hd K hK
          have h8 : u 8 = _ := (hd 8 rfl).1
          have h14 : u 14 = _ := (hd 14 rfl).1
          clear hd
          simp only [upd, h8, h14, reduceIte, Nat.reduceEqDiff] at hK
          go_simp
          exact hK.out _ _ (Below.refl _ _) ⟨rfl, (fun e => absurd e (by decide))⟩
        refine FSteps.cons ?_ ?_
        · intro u W hS hd K hK
          have h15 : u 15 = _ := (hd 15 rfl).1
          clear hd
          simp only [upd, h15, reduceIte, Nat.reduceEqDiff] at hK
          go_simp
          exact hK.out _ _ (Below.refl _ _) ⟨rfl, (fun e => absurd e (by decide))⟩
        refine FSteps.cons ?_ ?_
        · intro u W hS hd K hK
          have h16 : u 16 = _ := (hd 16 rfl).1
          clear hd
          simp only [upd, h16, reduceIte, Nat.reduceEqDiff] at hK
          go_simp
          exact hK.out _ _ (Below.refl _ _) ⟨rfl, (fun e => absurd e (by decide))⟩
        refine FSteps.cons ?_ ?_
        · intro u W hS hd K hK
          have h16 : u 16 = _ := (hd 16 rfl).1
          have h17 : u 17 = _ := (hd 17 rfl).1
          clear hd
          simp only [upd, h16, h17, reduceIte, Nat.reduceEqDiff] at hK
          go_simp
          go_at_call 18
          refine (HLA.out _ hS.1).mono ?_
          rintro e wc ⟨v, rfl, ho, hb⟩
          exact hK.out _ _ hb ⟨trivial, fun _ => ho⟩
        refine FSteps.cons ?_ ?_
        · intro u W hS hd K hK
          have h16 : u 16 = _ := (hd 16 rfl).1
          obtain ⟨a18, c18, h18⟩ := see_form ((hd 18 rfl).2 (Or.inr rfl)) HLEN2.out
          clear hd
          simp only [upd, h16, h18, reduceIte, Nat.reduceEqDiff] at hK
          go_simp
          exact hK.out _ _ (Below.refl _ _) ⟨rfl, (fun e => absurd e (by decide))⟩
        refine FSteps.cons ?_ ?_
        · intro u W hS hd K hK
          have h16 : u 16 = _ := (hd 16 rfl).1
          have h19 : u 19 = _ := (hd 19 rfl).1
          clear hd
          simp only [upd, h16, h19, reduceIte, Nat.reduceEqDiff] at hK
          have d20 : decide ((32 : Int) < (nT : Int)) = false := decide_eq_false (by omega)
          go_simp
          exact hK.out _ _ (Below.refl _ _) ⟨rfl, (fun e => absurd e (by decide))⟩
        refine FSteps.cons ?_ ?_
        · intro u W hS hd K hK
          have h16 : u 16 = _ := (hd 16 rfl).1
          have h20 : u 20 = _ := (hd 20 rfl).1
          clear hd
          simp only [upd, h16, h20, reduceIte, Nat.reduceEqDiff] at hK
          go_simp
          exact hK.out _ _ (Below.refl _ _) ⟨rfl, (fun e => absurd e (by decide))⟩
        exact trivial
      case hend2 =>
        intro u w6 hS hd
        have h21 : u 21 = _ := (hd 21 rfl).1
        have HP6 := Lib.hid hS.1
        clear hd hS HSA HLA HLF HSM
        rw [h21]
        clear h21
        go_wp2_with fail
        refine ⟨⟨rfl, j + 1, LT, NN, hlt, ?_, HNT.out.1, by have := HNT.out.2; omega, HOKT.out, _, HP6.out.forget⟩, ?_⟩
        · show Value.int .i64 ((j : Int) + 1) = _
          go_num
        · show n - (intOf (Value.int .i64 ((j : Int) + 1))).toNat < n - (intOf (Value.int .i64 (j : Int))).toNat
          simp only [intOf]
          omega
    · obtain ⟨A, t, Z, eL, eix, hlf⟩ := HLD.out.2 (by omega)
      obtain ⟨i, hi⟩ : ∃ i, A.length = i := ⟨_, rfl⟩
      have hxi : ix = (i : Int) := by omega
      subst hxi
      rw [hlf] at HLF
      have hD : (dueL NN LT)[i]? = some (addT NN t) := by
        rw [eL, ← hi]
        simp [dueL]
      have hin : i < nT := by
        rw [← HLEN2.out, eL, List.length_append, List.length_cons]
        omega
      have htl := HOKT.out.left t (by rw [eL]; simp)
      clear HLD HLS hlf hat eL eix hi
      have hDi : i < (dueL NN LT).length := by rw [List.length_map, HLEN2.out]; exact hin
      have hDe : (dueL NN LT)[i] = addT NN t := by
        rw [List.getElem?_eq_getElem hDi] at hD
        exact Option.some.inj hD
      obtain ⟨tk, tn, tl⟩ := t
      simp only at htl HLF
      obtain ⟨d, hd0⟩ : ∃ d, NN + tl = d := ⟨_, rfl⟩
      have z1 : wrap64 (d - NN) = tl := by
        have h0 := HNT.out
        rw [← IntWalk.i64_left, ← hd0]
        rw [show NN + tl - NN = tl by omega]
        exact i64_near _ (by omega) (by omega)
      have HX := Lib.hid (fun W (h : OwnD W (.slice ta nT tc) (dueL NN LT)) (g : Nat) (e : ta = some ⟨g, 0, none⟩) => show W.cell? ⟨g, i * 3 + 2, none⟩ = some (.int .i64 d) from by
        subst e
        have := (OwnL.get3 h i hDi).2.2
        rw [hDe] at this
        rw [← hd0]
        exact this)
      clear hD hDe hd0 htl
      obtain ⟨g, c9, hv9, -, hg9, -⟩ := HRW.out.2.some_ (by omega)
      simp only [Value.slice.injEq] at hv9
      have hta := hv9.1
      subst hta
      clear hv9 hg9
      go_upto_region 25 with (go_at_call 17; (with_reducible refine HAT.out.mono ?_); rintro e wa ⟨rfl, hb⟩; have HBA := Lib.hid hb; clear hb b2 b3)
      have HSA := Lib.hid (And.intro (HPB.out.below HBA.out) (And.intro (HRW.out.1.below HBA.out) (HRW.out.2.below HBA.out)))
      clear HPB HAT HRW HBA
      have q0 := HSA.out.2.1.cell 0 rfl
      have q1 := HSA.out.2.1.cell 1 rfl
      have q2 := HX.out _ HSA.out.2.2 g rfl
      go_quiet (fail)
      go_upto_region 26 with (fail)
      rw [z1]
      clear q0 q1 q2 HX z1 hDi hin
      have HSB := Lib.hid (fun nq => And.intro (HSA.out.1.below (belowN (Below.refl _ _) nq)) (And.intro (HSA.out.2.1.below (belowN (Below.refl _ _) nq)) (HSA.out.2.2.below (belowN (Below.refl _ _) nq))))
      clear HSA
      have HSA := HSB
      refine wp_region_facts (fun W W' => Below W.heap.size W W') (fun W => PlO w BT p q LT NN (dueL NN LT) [(m, [.int .i64 1, .int .i64 yt, .int .i64 yk, .int .i64 yn])] W ∧ RowAt W q [.int .i64 NN, .slice (some ⟨g, 0, none⟩) nT tc] ∧ OwnD W (.slice (some ⟨g, 0, none⟩) nT tc) (dueL NN LT))
        (fun j' v W => factsOf [.is (.pointer (some ⟨p, 0, none⟩)), .any, .is (.pointer (some ⟨q, 0, none⟩)), .is (.pointer (some ⟨q, 0, none⟩)), .is (.pointer (some ⟨q, 1, none⟩)), .is (.slice (some ⟨g, 0, none⟩) nT tc), .is (.bool true), .is (.bool false), .is (.bool false), .is (.pointer (some ⟨p, 0, none⟩)), .is (.pointer (some ⟨m, 2, none⟩)), .is (.agg #[.int .i64 yk, .int .i64 yn]), .is (.int .i64 tl), .is (.int .i64 tl), .is (.bool false), .is (.bool false), .is (.bool false), .is (.pointer (some ⟨p, 0, none⟩)), .any, .is (.int .i64 nT), .is (.bool false), .is (.bool false)] j' v W ∧ (j' = 1 ∨ j' = 18 → SeeL encN W v (LT.map Tm.nm)))
        (by kernel_rfl) (by kernel_rfl) (fun j' v W W' hb h => ⟨facts_stay _ j' v W W' hb h.1, fun e => (h.2 e).below hb⟩) (fun W W' hb h => ⟨h.1.below hb, h.2.1.below hb, h.2.2.below hb⟩) (fun i => uu (104 + i)) (by kernel_rfl) ⟨(HSA.out _).1.below ((Below.refl _ _).drew), (HSA.out _).2.1.below ((Below.refl _ _).drew), (HSA.out _).2.2.below ((Below.refl _ _).drew)⟩ ?F3 ?hF3 ?hstep3 ?hend3
      case hF3 =>
        intro u
        simp only [fillAct]
        go_simp
        rfl
      case hstep3 =>
        clear HSA
        refine FSteps.cons ?_ ?_
        · intro u W hS hd K hK
          clear hd
          simp only [upd, reduceIte, Nat.reduceEqDiff] at hK
          go_simp
          exact hK.out _ _ (Below.refl _ _) ⟨rfl, (fun e => absurd e (by decide))⟩
        refine FSteps.cons ?_ ?_
        · intro u W hS hd K hK
          have h0 : u 0 = _ := (hd 0 rfl).1
          clear hd
          simp only [upd, h0, reduceIte, Nat.reduceEqDiff] at hK
          go_simp
          go_at_call 18
          refine (HLA.out _ hS.1).mono ?_
          rintro e wc ⟨v, rfl, ho, hb⟩
          exact hK.out _ _ hb ⟨trivial, fun _ => ho⟩
        refine FSteps.cons ?_ ?_
        · intro u W hS hd K hK
          clear hd
          simp only [upd, reduceIte, Nat.reduceEqDiff] at hK
          go_simp
          exact hK.out _ _ (Below.refl _ _) ⟨rfl, (fun e => absurd e (by decide))⟩
        refine FSteps.cons ?_ ?_
        · intro u W hS hd K hK
          have h2 : u 2 = _ := (hd 2 rfl).1
          clear hd
          simp only [upd, h2, reduceIte, Nat.reduceEqDiff] at hK
          go_simp
          exact hK.out _ _ (Below.refl _ _) ⟨rfl, (fun e => absurd e (by decide))⟩
        refine FSteps.cons ?_ ?_
        · intro u W hS hd K hK
          have h3 : u 3 = _ := (hd 3 rfl).1
          clear hd
          simp only [upd, h3, reduceIte, Nat.reduceEqDiff] at hK
          go_simp
          exact hK.out _ _ (Below.refl _ _) ⟨rfl, (fun e => absurd e (by decide))⟩
        refine FSteps.cons ?_ ?_
        · intro u W hS hd K hK
          have h4 : u 4 = _ := (hd 4 rfl).1
          clear hd
          simp only [upd, h4, reduceIte, Nat.reduceEqDiff] at hK
          have c0 := hS.2.1.cell 1 rfl
          go_simp
          exact hK.out _ _ (Below.refl _ _) ⟨rfl, (fun e => absurd e (by decide))⟩
        refine FSteps.cons ?_ ?_
        · intro u W hS hd K hK
          have h5 : u 5 = _ := (hd 5 rfl).1
          obtain ⟨v1, h1, A1⟩ : ∃ v1, u 1 = v1 ∧ SeeL encN W v1 (LT.map Tm.nm) := ⟨_, rfl, (hd 1 rfl).2 (Or.inl rfl)⟩
          clear hd
          simp only [upd, h5, h1, reduceIte, Nat.reduceEqDiff] at hK
          go_simp
          go_at_call 12
          refine (HSM.out _ _ A1 hS.2.2).mono ?_
          rintro e wc ⟨rfl, hb⟩
          exact hK.out _ _ hb ⟨rfl, (fun e => absurd e (by decide))⟩
        refine FSteps.cons ?_ ?_
        · intro u W hS hd K hK
          have h6 : u 6 = _ := (hd 6 rfl).1
          clear hd
          simp only [upd, h6, reduceIte, Nat.reduceEqDiff] at hK
          go_simp
          exact hK.out _ _ (Below.refl _ _) ⟨rfl, (fun e => absurd e (by decide))⟩
        refine FSteps.cons ?_ ?_
        · intro u W hS hd K hK
          have h7 : u 7 = _ := (hd 7 rfl).1
          clear hd
          simp only [upd, h7, reduceIte, Nat.reduceEqDiff] at hK
          go_simp
          exact hK.out _ _ (Below.refl _ _) ⟨rfl, (fun e => absurd e (by decide))⟩
        refine FSteps.cons ?_ ?_
        · intro u W hS hd K hK
          have h8 : u 8 = _ := (hd 8 rfl).1
          clear hd
          simp only [upd, h8, reduceIte, Nat.reduceEqDiff] at hK
          go_simp
          exact hK.out _ _ (Below.refl _ _) ⟨rfl, (fun e => absurd e (by decide))⟩
        refine FSteps.cons ?_ ?_
        · intro u W hS hd K hK
          have h8 : u 8 = _ := (hd 8 rfl).1
          clear hd
          simp only [upd, h8, reduceIte, Nat.reduceEqDiff] at hK
          go_simp
          exact hK.out _ _ (Below.refl _ _) ⟨rfl, (fun e => absurd e (by decide))⟩
        refine FSteps.cons ?_ ?_
        · intro u W hS hd K hK
          have h8 : u 8 = _ := (hd 8 rfl).1
          have h10 : u 10 = _ := (hd 10 rfl).1
          clear hd
          simp only [upd, h8, h10, reduceIte, Nat.reduceEqDiff] at hK
          have c0 := (hS.1.row (.head _)).cell 2 rfl
          have c1 := (hS.1.row (.head _)).cell 3 rfl
          go_simp
          exact hK.out _ _ (Below.refl _ _) ⟨rfl, (fun e => absurd e (by decide))⟩
        refine FSteps.cons ?_ ?_
        · intro u W hS hd K hK
          have h8 : u 8 = _ := (hd 8 rfl).1
          have h9 : u 9 = _ := (hd 9 rfl).1
          have h11 : u 11 = _ := (hd 11 rfl).1
          clear hd
          simp only [upd, h8, h9, h11, reduceIte, Nat.reduceEqDiff] at hK
          go_simp
          go_at_call 19
          refine (HLF.out _ hS.1).mono ?_
          rintro e wc ⟨rfl, hb⟩
          exact hK.out _ _ hb ⟨rfl, (fun e => absurd e (by decide))⟩
        refine FSteps.cons ?_ ?_
        · intro u W hS hd K hK
          have h8 : u 8 = _ := (hd 8 rfl).1
          clear hd
          simp only [upd, h8, reduceIte, Nat.reduceEqDiff] at hK
          go_simp
          exact hK.out _ _ (Below.refl _ _) ⟨rfl, (fun e => absurd e (by decide))⟩
        refine FSteps.cons ?_ ?_
        · intro u W hS hd K hK
          have h8 : u 8 = _ := (hd 8 rfl).1
          have h12 : u 12 = _ := (hd 12 rfl).1
          have h13 : u 13 = _ := (hd 13 rfl).1
          clear hd
          simp only [upd, h8, h12, h13, reduceIte, Nat.reduceEqDiff] at hK
          go_simp
          exact hK.out _ _ (Below.refl _ _) ⟨rfl, (fun e => absurd e (by decide))⟩
        refine FSteps.cons ?_ ?_
        · intro u W hS hd K hK
          have h8 : u 8 = _ := (hd 8 rfl).1
          have h14 : u 14 = _ := (hd 14 rfl).1
          clear hd
          simp only [upd, h8, h14, reduceIte, Nat.reduceEqDiff] at hK
          go_simp
          exact hK.out _ _ (Below.refl _ _) ⟨rfl, (fun e => absurd e (by decide))⟩
        refine FSteps.cons ?_ ?_
        · intro u W hS hd K hK
          have h15 : u 15 = _ := (hd 15 rfl).1
          clear hd
          simp only [upd, h15, reduceIte, Nat.reduceEqDiff] at hK
          go_simp
          exact hK.out _ _ (Below.refl _ _) ⟨rfl, (fun e => absurd e (by decide))⟩
        refine FSteps.cons ?_ ?_
        · intro u W hS hd K hK
          have h16 : u 16 = _ := (hd 16 rfl).1
          clear hd
          simp only [upd, h16, reduceIte, Nat.reduceEqDiff] at hK
          go_simp
          exact hK.out _ _ (Below.refl _ _) ⟨rfl, (fun e => absurd e (by decide))⟩
        refine FSteps.cons ?_ ?_
        · intro u W hS hd K hK
          have h16 : u 16 = _ := (hd 16 rfl).1
          have h17 : u 17 = _ := (hd 17 rfl).1
          clear hd
          simp only [upd, h16, h17, reduceIte, Nat.reduceEqDiff] at hK
          go_simp
          go_at_call 18
          refine (HLA.out _ hS.1).mono ?_
          rintro e wc ⟨v, rfl, ho, hb⟩
          exact hK.out _ _ hb ⟨trivial, fun _ => ho⟩
        refine FSteps.cons ?_ ?_
        · intro u W hS hd K hK
          have h16 : u 16 = _ := (hd 16 rfl).1
          obtain ⟨a18, c18, h18⟩ := see_form ((hd 18 rfl).2 (Or.inr rfl)) HLEN2.out
          clear hd
          simp only [upd, h16, h18, reduceIte, Nat.reduceEqDiff] at hK
          go_simp
          exact hK.out _ _ (Below.refl _ _) ⟨rfl, (fun e => absurd e (by decide))⟩
        refine FSteps.cons ?_ ?_
        · intro u W hS hd K hK
          have h16 : u 16 = _ := (hd 16 rfl).1
          have h19 : u 19 = _ := (hd 19 rfl).1
          clear hd
          simp only [upd, h16, h19, reduceIte, Nat.reduceEqDiff] at hK
          have d20 : decide ((32 : Int) < (nT : Int)) = false := decide_eq_false (by omega)
          go_simp
          exact hK.out _ _ (Below.refl _ _) ⟨rfl, (fun e => absurd e (by decide))⟩
        refine FSteps.cons ?_ ?_
        · intro u W hS hd K hK
          have h16 : u 16 = _ := (hd 16 rfl).1
          have h20 : u 20 = _ := (hd 20 rfl).1
          clear hd
          simp only [upd, h16, h20, reduceIte, Nat.reduceEqDiff] at hK
          go_simp
          exact hK.out _ _ (Below.refl _ _) ⟨rfl, (fun e => absurd e (by decide))⟩
        exact trivial
      case hend3 =>
        intro u w6 hS hd
        have h21 : u 21 = _ := (hd 21 rfl).1
        have HP6 := Lib.hid hS.1
        clear hd hS HSA HLA HLF HSM
        rw [h21]
        clear h21
        go_wp2_with fail
        refine ⟨⟨rfl, j + 1, LT, NN, hlt, ?_, HNT.out.1, by have := HNT.out.2; omega, HOKT.out, _, HP6.out.forget⟩, ?_⟩
        · show Value.int .i64 ((j : Int) + 1) = _
          go_num
        · show n - (intOf (Value.int .i64 ((j : Int) + 1))).toNat < n - (intOf (Value.int .i64 (j : Int))).toNat
          simp only [intOf]
          omega

end Go.Proofs.Ytchhaolgmdhnmaa
