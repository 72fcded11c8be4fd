/-
The walk of ClockPlays (written by tools/gen13/gen_plays.py).
-/
import Derived.Test.YtchhaolgmdhnmaaClkBoth
import Derived.Test.YtchhaolgmdhnmaaClkOpens
namespace Go.Proofs.Ytchhaolgmdhnmaa
open Go.RowKit
set_option maxRecDepth 20000
theorem St2.fin2 {A B C : Prop} {a : Bool} (h : C) (ha : a = true) : St2 A B C a true := by subst ha; exact h
theorem at_above {B b : Nat} {W W' : World} {N : List Nm} (h : AtL encN W (some ⟨b, 0, none⟩) N) (hR : Above B W W') (hb : B ≤ b) : AtL encN W' (some ⟨b, 0, none⟩) N := by
  intro k hk
  obtain ⟨g, o, ha, hg, hc⟩ := h k hk
  simp only [Option.some.injEq, Addr.mk.injEq, and_true] at ha
  obtain ⟨rfl, rfl⟩ := ha
  exact ⟨b, 0, rfl, Nat.lt_of_lt_of_le hg hR.1, fun j u hj => (World.cell?_of_block (a := ⟨b, 0 + k * encN.n + j, none⟩) (hR.2 b hb hg)).trans (hc j u hj)⟩
theorem St2.pre {A B C : Prop} {a b : Bool} (h : A) (ha : a = false) : St2 A B C a b := by subst ha; exact h
theorem see_form {W : World} {v : Value} {LT : List Tm} {nT : Nat} (h : SeeL encN W v (LT.map Tm.nm)) (e : LT.length = nT) : ∃ a c, v = .slice a nT c := by
  obtain ⟨a, c, hv, -⟩ := h
  rw [List.length_map, e] at hv
  exact ⟨a, c, hv⟩
theorem op_at {w : World} {g o : Nat} {L : List Op13} (h : AtL encO w (some ⟨g, o, none⟩) L) (i : Nat) (hi : i < L.length) :
    w.cell? ⟨g, o + i * 4, none⟩ = some (.int .i64 L[i].c) ∧ w.cell? ⟨g, o + i * 4 + 1, none⟩ = some (.int .i64 L[i].t) ∧ w.cell? ⟨g, o + i * 4 + 2, none⟩ = some (.int .i64 L[i].k) ∧ w.cell? ⟨g, o + i * 4 + 3, none⟩ = some (.int .i64 L[i].n) := by
  have h0 := h.get i hi 0 (u := .int .i64 L[i].c) rfl
  have h1 := h.get i hi 1 (u := .int .i64 L[i].t) rfl
  have h2 := h.get i hi 2 (u := .int .i64 L[i].k) rfl
  have h3 := h.get i hi 3 (u := .int .i64 L[i].n) rfl
  simp only [Nat.add_zero] at h0
  exact ⟨h0, h1, h2, h3⟩
set_option maxHeartbeats 8000000 in
theorem ckplays_any (a : Option Addr) (n c : Nat) (L : List Op13) (w : World) (hn : L.length = n) (hA : AtL encO w a L) : Calls Try.prog 3 #[.slice a n c] w fun e w' => e = .returned (.bool true) ∧ Below w.heap.size w w' := by
  have HAW := Lib.hid (fun W => cawake13 W)
  have HNW := Lib.hid (fun W h => CkO.new w W h)
  by_cases hz : 200 < n
  · have dz : decide ((200 : Int) < (n : Int)) = true := decide_eq_true (by omega)
    clear hn hA hz HNW
    go_enter Try.func3, Try.ntmps3
    go_wp2_with (go_at_call 6; (with_reducible refine (HAW.out _).mono ?_); rintro e w1 ⟨rfl, hb⟩; have HB1 := Lib.hid hb; clear hb)
    exact bodyPost_ret (v := .bool true) (by simp [results, Try.results3, go_sem]) rfl ⟨rfl, HB1.out⟩
  · have dz : decide ((200 : Int) < (n : Int)) = false := decide_eq_false (by omega)
    have hn2 : n ≤ 200 := by omega
    have HLN := Lib.hid hn
    have HA := Lib.hid hA
    clear hn hA hz
    go_enter Try.func3, Try.ntmps3
    go_upto_region 6 with (first
      | (go_at_call 6; (with_reducible refine (HAW.out _).mono ?_); rintro e w1 ⟨rfl, hb⟩; have HB1 := Lib.hid hb; clear hb)
      | (go_at_call 7; (with_reducible refine (HNW.out _ HB1.out).mono ?_); rintro e w2 ⟨p, rfl, hI⟩; have HI2 := Lib.hid hI; clear hI))
    have HP0 := Lib.hid (PlO.start HI2.out)
    clear HAW HNW HB1 HI2 dz
    generalize w2.alloc (.cells #[.int .i64 0, .slice none 0 0] 29) = w3 at *
    generalize w2.heap.size = q at *
    go_wp2_with fail
    go_loopw [19] (fun v wx => ∃ (j : Nat) (LL : List Tm) (NN : Int), j ≤ n ∧ v = .int .i64 j ∧ 0 ≤ NN ∧ NN ≤ j ∧ Hid (ClkOk LL ∧ ∃ B, PlO w B p q LL NN (dueL NN LL) [] wx)) (fun v _ => n - (intOf v).toNat)
    case atStart => exact ⟨0, [], 0, Nat.zero_le _, rfl, Int.le_refl 0, Int.le_refl 0, Lib.hid ⟨ClkOk.nil, _, HP0.out⟩⟩
    case round =>
      obtain ⟨j, LL, NN, hj, rfl, hNN0, hNN1, HK⟩ := hrel
      clear HP0
      have HOK := Lib.hid HK.out.1
      obtain ⟨B, hPl⟩ := HK.out.2
      have HP := Lib.hid hPl
      clear HK hPl
      by_cases hlt : j < n
      · have hL : j < L.length := by rw [HLN.out]; exact hlt
        obtain ⟨g0, o0, rfl, _⟩ := HA.out.some_ (by omega)
        obtain ⟨y0, y1, y2, y3⟩ := op_at (HA.out.below HP.out.bel) j hL
        generalize L[j] = y at *
        obtain ⟨yc, yt, yk, yn⟩ := y
        simp only at y0 y1 y2 y3
        by_cases hc0 : yc = 0
        · subst hc0
          have HSD := Lib.hid (set_due HOK.out ⟨yk, yn⟩ yt NN)
          have HOKT := Lib.hid (HOK.out.set ⟨yk, yn⟩ yt)
          have HNT := Lib.hid (show 0 ≤ NN ∧ NN ≤ (j : Int) + 1 from by omega)
          have HPX := Lib.hid (HP.out.box [.int .i64 0, .int .i64 yt, .int .i64 yk, .int .i64 yn] 33)
          go_upto_region 11 with (fail)
          generalize wr.alloc (.cells #[.int .i64 0, .int .i64 yt, .int .i64 yk, .int .i64 yn] 33) = wm at *
          generalize wr.heap.size = m at *
          have HC1 := Lib.hid (fun B W (h : PlO w B p q LL NN (dueL NN LL) [(m, [.int .i64 0, .int .i64 yt, .int .i64 yk, .int .i64 yn])] W) => h.cset HOK.out ⟨yk, yn⟩ yt)
          have HC2 := Lib.hid (fun B W (h : PlO w B p q (setT ⟨yk, yn⟩ yt LL).1 NN (dueL NN LL) [(m, [.int .i64 0, .int .i64 yt, .int .i64 yk, .int .i64 yn])] W) => h.rset (by rw [List.length_map]; exact HOK.out.len) (pair_due HOK.out.one) (by omega) ⟨yk, yn⟩ yt)
          rw [HSD.out] at HC2
          simp only at HC1 HC2
          generalize (setT ⟨yk, yn⟩ yt LL).1 = LT at *
          generalize (setT ⟨yk, yn⟩ yt LL).2 = rr at *
          clear HSD HP HOK
          have NTe : NN = NN := rfl
          refine wp_region_staged (fun _ _ => True) (fun l W => RowAt W m [.int .i64 0, .int .i64 yt, .int .i64 yk, .int .i64 yn] ∧ St2 (∃ B, PlO w B p q LL NN (dueL NN LL) [(m, [.int .i64 0, .int .i64 yt, .int .i64 yk, .int .i64 yn])] W) (∃ B, PlO w B p q LT NN (dueL NN LL) [(m, [.int .i64 0, .int .i64 yt, .int .i64 yk, .int .i64 yn])] W) (∃ B, PlO w B p q LT NN (dueL NN LT) [(m, [.int .i64 0, .int .i64 yt, .int .i64 yk, .int .i64 yn])] W) (l 5) (l 15))
            (fun j' v W => factsOf [.is (.pointer (some ⟨p, 0, none⟩)), .is (.pointer (some ⟨m, 2, none⟩)), .is (.agg #[.int .i64 yk, .int .i64 yn]), .is (.pointer (some ⟨m, 1, none⟩)), .is (.int .i64 yt), .is (.int .i64 rr), .is (.pointer (some ⟨q, 0, none⟩)), .is (.pointer (some ⟨m, 2, none⟩)), .is (.pointer (some ⟨m, 2, none⟩)), .is (.int .i64 yk), .is (.pointer (some ⟨m, 2, none⟩)), .is (.pointer (some ⟨m, 3, none⟩)), .is (.int .i64 yn), .is (.pointer (some ⟨m, 1, none⟩)), .is (.int .i64 yt), .is (.int .i64 rr), .is (.bool false)] j' v W ∧ True)
            (by kernel_rfl) (by kernel_rfl) (fun j' v W W' hR h => ⟨facts_still rfl j' v W W' h.1, trivial⟩) (fun i => [u27, u28, u29, u30, u31, u32, u33, u34, u35, u36, u37, u38, u39, u40, u41, u42, u43].getD i undef) (by kernel_rfl) ⟨(HPX.out.row (.head _)).drew, ⟨_, HPX.out.below ((Below.refl _ _).drew)⟩⟩ ?F1 ?hF1 ?hstep1 ?hend1
          case hF1 =>
            intro u
            simp only [fillAct]
            go_simp
            rfl
          case hstep1 =>
            refine SSteps.cons ?_ ?_
            · intro u W l hS hl hcl hd K hK
              clear hd
              simp only [upd, reduceIte, Nat.reduceEqDiff] at hK
              go_simp
              exact hK.out _ _ trivial ⟨rfl, trivial⟩ hS
            refine SSteps.cons ?_ ?_
            · intro u W l hS hl hcl hd K hK
              clear hd
              simp only [upd, reduceIte, Nat.reduceEqDiff] at hK
              go_simp
              exact hK.out _ _ trivial ⟨rfl, trivial⟩ hS
            refine SSteps.cons ?_ ?_
            · intro u W l hS hl hcl hd K hK
              have h1 : u 1 = _ := (hd 1 rfl).2.1
              clear hd
              simp only [upd, h1, reduceIte, Nat.reduceEqDiff] at hK
              have c0 := hS.1.cell 2 rfl
              have c1 := hS.1.cell 3 rfl
              go_simp
              exact hK.out _ _ trivial ⟨rfl, trivial⟩ hS
            refine SSteps.cons ?_ ?_
            · intro u W l hS hl hcl hd K hK
              clear hd
              simp only [upd, reduceIte, Nat.reduceEqDiff] at hK
              go_simp
              exact hK.out _ _ trivial ⟨rfl, trivial⟩ hS
            refine SSteps.cons ?_ ?_
            · intro u W l hS hl hcl hd K hK
              have h3 : u 3 = _ := (hd 3 rfl).2.1
              clear hd
              simp only [upd, h3, reduceIte, Nat.reduceEqDiff] at hK
              have c0 := hS.1.cell 1 rfl
              go_simp
              exact hK.out _ _ trivial ⟨rfl, trivial⟩ hS
            refine SSteps.cons ?_ ?_
            · intro u W l hS hl hcl hd K hK
              have h0 : u 0 = _ := (hd 0 rfl).2.1
              have h2 : u 2 = _ := (hd 2 rfl).2.1
              have h4 : u 4 = _ := (hd 4 rfl).2.1
              clear hd
              simp only [upd, h0, h2, h4, reduceIte, Nat.reduceEqDiff] at hK
              obtain ⟨B1, hP⟩ := St2.zero hS.2 hl
              have h15 := not_yet hcl 5 15 hl (by kernel_rfl)
              go_simp
              go_at_call 8
              refine (HC1.out _ _ hP).mono ?_
              rintro e wc ⟨rfl, hp⟩
              exact hK.out _ _ trivial ⟨rfl, trivial⟩ ⟨hp.row (.head _), St2.one ⟨_, hp⟩ h15⟩
            refine SSteps.cons ?_ ?_
            · intro u W l hS hl hcl hd K hK
              clear hd
              simp only [upd, reduceIte, Nat.reduceEqDiff] at hK
              go_simp
              exact hK.out _ _ trivial ⟨rfl, trivial⟩ hS
            refine SSteps.cons ?_ ?_
            · intro u W l hS hl hcl hd K hK
              clear hd
              simp only [upd, reduceIte, Nat.reduceEqDiff] at hK
              go_simp
              exact hK.out _ _ trivial ⟨rfl, trivial⟩ hS
            refine SSteps.cons ?_ ?_
            · intro u W l hS hl hcl hd K hK
              have h7 : u 7 = _ := (hd 7 rfl).2.1
              clear hd
              simp only [upd, h7, reduceIte, Nat.reduceEqDiff] at hK
              go_simp
              exact hK.out _ _ trivial ⟨rfl, trivial⟩ hS
            refine SSteps.cons ?_ ?_
            · intro u W l hS hl hcl hd K hK
              have h8 : u 8 = _ := (hd 8 rfl).2.1
              clear hd
              simp only [upd, h8, reduceIte, Nat.reduceEqDiff] at hK
              have c0 := hS.1.cell 2 rfl
              go_simp
              exact hK.out _ _ trivial ⟨rfl, trivial⟩ hS
            refine SSteps.cons ?_ ?_
            · intro u W l hS hl hcl hd K hK
              clear hd
              simp only [upd, reduceIte, Nat.reduceEqDiff] at hK
              go_simp
              exact hK.out _ _ trivial ⟨rfl, trivial⟩ hS
            refine SSteps.cons ?_ ?_
            · intro u W l hS hl hcl hd K hK
              have h10 : u 10 = _ := (hd 10 rfl).2.1
              clear hd
              simp only [upd, h10, reduceIte, Nat.reduceEqDiff] at hK
              go_simp
              exact hK.out _ _ trivial ⟨rfl, trivial⟩ hS
            refine SSteps.cons ?_ ?_
            · intro u W l hS hl hcl hd K hK
              have h11 : u 11 = _ := (hd 11 rfl).2.1
              clear hd
              simp only [upd, h11, reduceIte, Nat.reduceEqDiff] at hK
              have c0 := hS.1.cell 3 rfl
              go_simp
              exact hK.out _ _ trivial ⟨rfl, trivial⟩ hS
            refine SSteps.cons ?_ ?_
            · intro u W l hS hl hcl hd K hK
              clear hd
              simp only [upd, reduceIte, Nat.reduceEqDiff] at hK
              go_simp
              exact hK.out _ _ trivial ⟨rfl, trivial⟩ hS
            refine SSteps.cons ?_ ?_
            · intro u W l hS hl hcl hd K hK
              have h13 : u 13 = _ := (hd 13 rfl).2.1
              clear hd
              simp only [upd, h13, reduceIte, Nat.reduceEqDiff] at hK
              have c0 := hS.1.cell 1 rfl
              go_simp
              exact hK.out _ _ trivial ⟨rfl, trivial⟩ hS
            refine SSteps.cons ?_ ?_
            · intro u W l hS hl hcl hd K hK
              have h6 : u 6 = _ := (hd 6 rfl).2.1
              have h9 : u 9 = _ := (hd 9 rfl).2.1
              have h12 : u 12 = _ := (hd 12 rfl).2.1
              have h14 : u 14 = _ := (hd 14 rfl).2.1
              obtain ⟨g5, h5⟩ : l 5 = true ∧ u 5 = .int .i64 rr := ⟨(hd 5 rfl).1, (hd 5 rfl).2.1⟩
              clear hd
              simp only [upd, h6, h9, h12, h14, h5, reduceIte, Nat.reduceEqDiff] at hK
              obtain ⟨B1, hP⟩ := St2.mid hS.2 g5 hl
              go_simp
              go_at_call 9
              refine (HC2.out _ _ hP).mono ?_
              rintro e wc ⟨rfl, hp⟩
              exact hK.out _ _ trivial ⟨rfl, trivial⟩ ⟨hp.row (.head _), St2.fin2 ⟨_, hp⟩ g5⟩
            refine SSteps.cons ?_ ?_
            · intro u W l hS hl hcl hd K hK
              have h5 : u 5 = _ := (hd 5 rfl).2.1
              have h15 : u 15 = _ := (hd 15 rfl).2.1
              clear hd
              simp only [upd, h5, h15, reduceIte, Nat.reduceEqDiff] at hK
              go_simp
              exact hK.out _ _ trivial ⟨rfl, trivial⟩ hS
            exact trivial

          case hend1 =>
            intro u w6 l hall hS hd
            have h16 : u 16 = _ := (hd 16 rfl).1
            have HPT := Lib.hid (St2.fin hS.2 (hall 5 rfl) (hall 15 rfl))
            clear hd hS hall HPX HC1 HC2
            rw [h16]
            clear h16
            obtain ⟨BT, hPT⟩ := HPT.out
            have HPB := Lib.hid hPT
            have b2 := (hPT.row (.head _)).cell 2 rfl
            have b3 := (hPT.row (.head _)).cell 3 rfl
            have hdl : (dueL NN LT).length = LT.length := List.length_map _
            have hl32 := HOKT.out.len
            have HAT := Lib.hid (hPT.rat (by omega) yk yn)
            rw [atF_due] at HAT
            obtain ⟨ta, tc, hrw, how⟩ := hPT.lay
            rw [hdl] at hrw how
            have HRW := Lib.hid (And.intro hrw how)
            have HLA := Lib.hid (fun W (h : PlO w BT p q LT NN (dueL NN LT) [(m, [.int .i64 0, .int .i64 yt, .int .i64 yk, .int .i64 yn])] W) => h.call HOKT.out)
            have HLF := Lib.hid (fun W (h : PlO w BT p q LT NN (dueL NN LT) [(m, [.int .i64 0, .int .i64 yt, .int .i64 yk, .int .i64 yn])] W) => h.cleft HOKT.out ⟨yk, yn⟩)
            have HSM := Lib.hid (fun v W (h1 : SeeL encN W v (LT.map Tm.nm)) (h2 : OwnD W (.slice ta LT.length tc) (dueL NN LT)) => csame_yes v _ (dueL NN LT) W ((due_nm NN LT).symm ▸ h1) h2.see (by omega))
            have HLD := Lib.hid (left_due (L := LT) ⟨yk, yn⟩ 0 (Int.le_refl 0))
            have HLS := Lib.hid (atF_spec ⟨yk, yn⟩ LT 0)
            simp only at HLF
            obtain ⟨nT, hnT⟩ : ∃ nT, LT.length = nT := ⟨_, rfl⟩
            rw [hnT] at HRW HSM hl32
            have HLEN2 := Lib.hid hnT
            obtain ⟨ix, hix⟩ : ∃ ix, atF ⟨yk, yn⟩ LT 0 = ix := ⟨_, rfl⟩
            rw [hix] at HAT HLD HLS
            clear hPT HPT hdl hrw how hnT hix
            by_cases hat : ix < 0
            · have hi1 : ix = -1 := by
                rcases HLS.out with ⟨e, -⟩ | ⟨A, t, Z, -, e, -⟩
                · exact e
                · omega
              have hlf := HLD.out.1 hat
              subst hi1
              rw [hlf] at HLF
              clear HLD HLS hlf hat
              go_upto_region 26 with (go_at_call 17; (with_reducible refine HAT.out.mono ?_); rintro e wa ⟨rfl, hb⟩; have HBA := Lib.hid hb; clear hb b2 b3)
              have HSA := Lib.hid (And.intro (HPB.out.below HBA.out) (And.intro (HRW.out.1.below HBA.out) (HRW.out.2.below HBA.out)))
              clear HPB HAT HRW HBA
              refine wp_region_facts (fun W W' => Below W.heap.size W W') (fun W => PlO w BT p q LT NN (dueL NN LT) [(m, [.int .i64 0, .int .i64 yt, .int .i64 yk, .int .i64 yn])] W ∧ RowAt W q [.int .i64 NN, .slice ta nT tc] ∧ OwnD W (.slice ta nT tc) (dueL NN LT))
                (fun j' v W => factsOf [.is (.pointer (some ⟨p, 0, none⟩)), .any, .is (.pointer (some ⟨q, 0, none⟩)), .is (.pointer (some ⟨q, 0, none⟩)), .is (.pointer (some ⟨q, 1, none⟩)), .is (.slice ta nT tc), .is (.bool true), .is (.bool false), .is (.bool false), .is (.pointer (some ⟨p, 0, none⟩)), .is (.pointer (some ⟨m, 2, none⟩)), .is (.agg #[.int .i64 yk, .int .i64 yn]), .is (.int .i64 0), .is (.int .i64 0), .is (.bool false), .is (.bool false), .is (.bool false), .is (.pointer (some ⟨p, 0, none⟩)), .any, .is (.int .i64 nT), .is (.bool false), .is (.bool false)] j' v W ∧ (j' = 1 ∨ j' = 18 → SeeL encN W v (LT.map Tm.nm)))
                (by kernel_rfl) (by kernel_rfl) (fun j' v W W' hb h => ⟨facts_stay _ j' v W W' hb h.1, fun e => (h.2 e).below hb⟩) (fun W W' hb h => ⟨h.1.below hb, h.2.1.below hb, h.2.2.below hb⟩) (fun i => [u104, u105, u106, u107, u108, u109, u110, u111, u112, u113, u114, u115, u116, u117, u118, u119, u120, u121, u122, u123, u124, u125].getD i undef) (by kernel_rfl) ⟨HSA.out.1.below ((Below.refl _ _).drew), HSA.out.2.1.below ((Below.refl _ _).drew), HSA.out.2.2.below ((Below.refl _ _).drew)⟩ ?F2 ?hF2 ?hstep2 ?hend2
              case hF2 =>
                intro u
                simp only [fillAct]
                go_simp
                rfl
              case hstep2 =>
                clear HSA
                refine FSteps.cons ?_ ?_
                · intro u W hS hd K hK
                  clear hd
                  simp only [upd, reduceIte, Nat.reduceEqDiff] at hK
                  go_simp
                  exact hK.out _ _ (Below.refl _ _) ⟨rfl, (fun e => absurd e (by decide))⟩
                refine FSteps.cons ?_ ?_
                · intro u W hS hd K hK
                  have h0 : u 0 = _ := (hd 0 rfl).1
                  clear hd
                  simp only [upd, h0, reduceIte, Nat.reduceEqDiff] at hK
                  go_simp
                  go_at_call 18
                  refine (HLA.out _ hS.1).mono ?_
                  rintro e wc ⟨v, rfl, ho, hb⟩
                  exact hK.out _ _ hb ⟨trivial, fun _ => ho⟩
                refine FSteps.cons ?_ ?_
                · intro u W hS hd K hK
                  clear hd
                  simp only [upd, reduceIte, Nat.reduceEqDiff] at hK
                  go_simp
                  exact hK.out _ _ (Below.refl _ _) ⟨rfl, (fun e => absurd e (by decide))⟩
                refine FSteps.cons ?_ ?_
                · intro u W hS hd K hK
                  have h2 : u 2 = _ := (hd 2 rfl).1
                  clear hd
                  simp only [upd, h2, reduceIte, Nat.reduceEqDiff] at hK
                  go_simp
                  exact hK.out _ _ (Below.refl _ _) ⟨rfl, (fun e => absurd e (by decide))⟩
                refine FSteps.cons ?_ ?_
                · intro u W hS hd K hK
                  have h3 : u 3 = _ := (hd 3 rfl).1
                  clear hd
                  simp only [upd, h3, reduceIte, Nat.reduceEqDiff] at hK
                  go_simp
                  exact hK.out _ _ (Below.refl _ _) ⟨rfl, (fun e => absurd e (by decide))⟩
                refine FSteps.cons ?_ ?_
                · intro u W hS hd K hK
                  have h4 : u 4 = _ := (hd 4 rfl).1
                  clear hd
                  simp only [upd, h4, reduceIte, Nat.reduceEqDiff] at hK
                  have c0 := hS.2.1.cell 1 rfl
                  go_simp
                  exact hK.out _ _ (Below.refl _ _) ⟨rfl, (fun e => absurd e (by decide))⟩
                refine FSteps.cons ?_ ?_
                · intro u W hS hd K hK
                  have h5 : u 5 = _ := (hd 5 rfl).1
                  obtain ⟨v1, h1, A1⟩ : ∃ v1, u 1 = v1 ∧ SeeL encN W v1 (LT.map Tm.nm) := ⟨_, rfl, (hd 1 rfl).2 (Or.inl rfl)⟩
                  clear hd
                  simp only [upd, h5, h1, reduceIte, Nat.reduceEqDiff] at hK
                  go_simp
                  go_at_call 12
                  refine (HSM.out _ _ A1 hS.2.2).mono ?_
                  rintro e wc ⟨rfl, hb⟩
                  exact hK.out _ _ hb ⟨rfl, (fun e => absurd e (by decide))⟩
                refine FSteps.cons ?_ ?_
                · intro u W hS hd K hK
                  have h6 : u 6 = _ := (hd 6 rfl).1
                  clear hd
                  simp only [upd, h6, reduceIte, Nat.reduceEqDiff] at hK
                  go_simp
                  exact hK.out _ _ (Below.refl _ _) ⟨rfl, (fun e => absurd e (by decide))⟩
                refine FSteps.cons ?_ ?_
                · intro u W hS hd K hK
                  have h7 : u 7 = _ := (hd 7 rfl).1
                  clear hd
                  simp only [upd, h7, reduceIte, Nat.reduceEqDiff] at hK
                  go_simp
                  exact hK.out _ _ (Below.refl _ _) ⟨rfl, (fun e => absurd e (by decide))⟩
                refine FSteps.cons ?_ ?_
                · intro u W hS hd K hK
                  have h8 : u 8 = _ := (hd 8 rfl).1
                  clear hd
                  simp only [upd, h8, reduceIte, Nat.reduceEqDiff] at hK
                  go_simp
                  exact hK.out _ _ (Below.refl _ _) ⟨rfl, (fun e => absurd e (by decide))⟩
                refine FSteps.cons ?_ ?_
                · intro u W hS hd K hK
                  have h8 : u 8 = _ := (hd 8 rfl).1
                  clear hd
                  simp only [upd, h8, reduceIte, Nat.reduceEqDiff] at hK
                  go_simp
                  exact hK.out _ _ (Below.refl _ _) ⟨rfl, (fun e => absurd e (by decide))⟩
                refine FSteps.cons ?_ ?_
                · intro u W hS hd K hK
                  have h8 : u 8 = _ := (hd 8 rfl).1
                  have h10 : u 10 = _ := (hd 10 rfl).1
                  clear hd
                  simp only [upd, h8, h10, reduceIte, Nat.reduceEqDiff] at hK
                  have c0 := (hS.1.row (.head _)).cell 2 rfl
                  have c1 := (hS.1.row (.head _)).cell 3 rfl
                  go_simp
                  exact hK.out _ _ (Below.refl _ _) ⟨rfl, (fun e => absurd e (by decide))⟩
                refine FSteps.cons ?_ ?_
                · intro u W hS hd K hK
                  have h8 : u 8 = _ := (hd 8 rfl).1
                  have h9 : u 9 = _ := (hd 9 rfl).1
                  have h11 : u 11 = _ := (hd 11 rfl).1
                  clear hd
                  simp only [upd, h8, h9, h11, reduceIte, Nat.reduceEqDiff] at hK
                  go_simp
                  go_at_call 19
                  refine (HLF.out _ hS.1).mono ?_
                  rintro e wc ⟨rfl, hb⟩
                  exact hK.out _ _ hb ⟨rfl, (fun e => absurd e (by decide))⟩
                refine FSteps.cons ?_ ?_
                · intro u W hS hd K hK
                  have h8 : u 8 = _ := (hd 8 rfl).1
                  clear hd
                  simp only [upd, h8, reduceIte, Nat.reduceEqDiff] at hK
                  go_simp
                  exact hK.out _ _ (Below.refl _ _) ⟨rfl, (fun e => absurd e (by decide))⟩
                refine FSteps.cons ?_ ?_
                · intro u W hS hd K hK
                  have h8 : u 8 = _ := (hd 8 rfl).1
                  have h12 : u 12 = _ := (hd 12 rfl).1
                  have h13 : u 13 = _ := (hd 13 rfl).1
                  clear hd
                  simp only [upd, h8, h12, h13, reduceIte, Nat.reduceEqDiff] at hK
                  go_simp
                  exact hK.out _ _ (Below.refl _ _) ⟨rfl, (fun e => absurd e (by decide))⟩
                refine FSteps.cons ?_ ?_
                · intro u W hS hd K hK
                  have h8 : u 8 = _ := (hd 8 rfl).1
                  have h14 : u 14 = _ := (hd 14 rfl).1
                  clear hd
                  simp only [upd, h8, h14, reduceIte, Nat.reduceEqDiff] at hK
                  go_simp
                  exact hK.out _ _ (Below.refl _ _) ⟨rfl, (fun e => absurd e (by decide))⟩
                refine FSteps.cons ?_ ?_
                · intro u W hS hd K hK
                  have h15 : u 15 = _ := (hd 15 rfl).1
                  clear hd
                  simp only [upd, h15, reduceIte, Nat.reduceEqDiff] at hK
                  go_simp
                  exact hK.out _ _ (Below.refl _ _) ⟨rfl, (fun e => absurd e (by decide))⟩
                refine FSteps.cons ?_ ?_
                · intro u W hS hd K hK
                  have h16 : u 16 = _ := (hd 16 rfl).1
                  clear hd
                  simp only [upd, h16, reduceIte, Nat.reduceEqDiff] at hK
                  go_simp
                  exact hK.out _ _ (Below.refl _ _) ⟨rfl, (fun e => absurd e (by decide))⟩
                refine FSteps.cons ?_ ?_
                · intro u W hS hd K hK
                  have h16 : u 16 = _ := (hd 16 rfl).1
                  have h17 : u 17 = _ := (hd 17 rfl).1
                  clear hd
                  simp only [upd, h16, h17, reduceIte, Nat.reduceEqDiff] at hK
                  go_simp
                  go_at_call 18
                  refine (HLA.out _ hS.1).mono ?_
                  rintro e wc ⟨v, rfl, ho, hb⟩
                  exact hK.out _ _ hb ⟨trivial, fun _ => ho⟩
                refine FSteps.cons ?_ ?_
                · intro u W hS hd K hK
                  have h16 : u 16 = _ := (hd 16 rfl).1
                  obtain ⟨a18, c18, h18⟩ := see_form ((hd 18 rfl).2 (Or.inr rfl)) HLEN2.out
                  clear hd
                  simp only [upd, h16, h18, reduceIte, Nat.reduceEqDiff] at hK
                  go_simp
                  exact hK.out _ _ (Below.refl _ _) ⟨rfl, (fun e => absurd e (by decide))⟩
                refine FSteps.cons ?_ ?_
                · intro u W hS hd K hK
                  have h16 : u 16 = _ := (hd 16 rfl).1
                  have h19 : u 19 = _ := (hd 19 rfl).1
                  clear hd
                  simp only [upd, h16, h19, reduceIte, Nat.reduceEqDiff] at hK
                  have d20 : decide ((32 : Int) < (nT : Int)) = false := decide_eq_false (by omega)
                  go_simp
                  exact hK.out _ _ (Below.refl _ _) ⟨rfl, (fun e => absurd e (by decide))⟩
                refine FSteps.cons ?_ ?_
                · intro u W hS hd K hK
                  have h16 : u 16 = _ := (hd 16 rfl).1
                  have h20 : u 20 = _ := (hd 20 rfl).1
                  clear hd
                  simp only [upd, h16, h20, reduceIte, Nat.reduceEqDiff] at hK
                  go_simp
                  exact hK.out _ _ (Below.refl _ _) ⟨rfl, (fun e => absurd e (by decide))⟩
                exact trivial
              case hend2 =>
                intro u w6 hS hd
                have h21 : u 21 = _ := (hd 21 rfl).1
                have HP6 := Lib.hid hS.1
                clear hd hS HSA HLA HLF HSM
                rw [h21]
                clear h21
                go_wp2_with fail
                go_roundw
                case rel => exact ⟨j + 1, LT, NN, hlt, by go_num, HNT.out.1, by have := HNT.out.2; omega, Lib.hid ⟨HOKT.out, _, HP6.out.forget⟩⟩
                case measure => simp [intOf]; omega
            · obtain ⟨A, t, Z, eL, eix, hlf⟩ := HLD.out.2 (by omega)
              obtain ⟨i, hi⟩ : ∃ i, A.length = i := ⟨_, rfl⟩
              have hxi : ix = (i : Int) := by omega
              subst hxi
              rw [hlf] at HLF
              have hD : (dueL NN LT)[i]? = some (addT NN t) := by
                rw [eL, ← hi]
                simp [dueL]
              have hin : i < nT := by
                rw [← HLEN2.out, eL, List.length_append, List.length_cons]
                omega
              have htl := HOKT.out.left t (by rw [eL]; simp)
              clear HLD HLS hlf hat eL eix hi
              have hDi : i < (dueL NN LT).length := by rw [List.length_map, HLEN2.out]; exact hin
              have hDe : (dueL NN LT)[i] = addT NN t := by
                rw [List.getElem?_eq_getElem hDi] at hD
                exact Option.some.inj hD
              obtain ⟨tk, tn, tl⟩ := t
              simp only at htl HLF
              obtain ⟨d, hd0⟩ : ∃ d, NN + tl = d := ⟨_, rfl⟩
              have z1 : wrap64 (d - NN) = tl := by
                have h0 := HNT.out
                rw [← IntWalk.i64_left, ← hd0]
                rw [show NN + tl - NN = tl by omega]
                exact i64_near _ (by omega) (by omega)
              have HX := Lib.hid (fun W (h : OwnD W (.slice ta nT tc) (dueL NN LT)) (g : Nat) (e : ta = some ⟨g, 0, none⟩) => show W.cell? ⟨g, i * 3 + 2, none⟩ = some (.int .i64 d) from by
                subst e
                have := (OwnL.get3 h i hDi).2.2
                rw [hDe] at this
                rw [← hd0]
                exact this)
              clear hD hDe hd0 htl
              obtain ⟨g, c9, hv9, -, hg9, -⟩ := HRW.out.2.some_ (by omega)
              simp only [Value.slice.injEq] at hv9
              have hta := hv9.1
              subst hta
              clear hv9 hg9
              go_upto_region 25 with (go_at_call 17; (with_reducible refine HAT.out.mono ?_); rintro e wa ⟨rfl, hb⟩; have HBA := Lib.hid hb; clear hb b2 b3)
              have HSA := Lib.hid (And.intro (HPB.out.below HBA.out) (And.intro (HRW.out.1.below HBA.out) (HRW.out.2.below HBA.out)))
              clear HPB HAT HRW HBA
              have q0 := HSA.out.2.1.cell 0 rfl
              have q1 := HSA.out.2.1.cell 1 rfl
              have q2 := HX.out _ HSA.out.2.2 g rfl
              go_quiet (fail)
              go_upto_region 26 with (fail)
              rw [z1]
              clear q0 q1 q2 HX z1 hDi hin
              have HSB := Lib.hid (fun nq => And.intro (HSA.out.1.below (belowN (Below.refl _ _) nq)) (And.intro (HSA.out.2.1.below (belowN (Below.refl _ _) nq)) (HSA.out.2.2.below (belowN (Below.refl _ _) nq))))
              clear HSA
              have HSA := HSB
              refine wp_region_facts (fun W W' => Below W.heap.size W W') (fun W => PlO w BT p q LT NN (dueL NN LT) [(m, [.int .i64 0, .int .i64 yt, .int .i64 yk, .int .i64 yn])] W ∧ RowAt W q [.int .i64 NN, .slice (some ⟨g, 0, none⟩) nT tc] ∧ OwnD W (.slice (some ⟨g, 0, none⟩) nT tc) (dueL NN LT))
                (fun j' v W => factsOf [.is (.pointer (some ⟨p, 0, none⟩)), .any, .is (.pointer (some ⟨q, 0, none⟩)), .is (.pointer (some ⟨q, 0, none⟩)), .is (.pointer (some ⟨q, 1, none⟩)), .is (.slice (some ⟨g, 0, none⟩) nT tc), .is (.bool true), .is (.bool false), .is (.bool false), .is (.pointer (some ⟨p, 0, none⟩)), .is (.pointer (some ⟨m, 2, none⟩)), .is (.agg #[.int .i64 yk, .int .i64 yn]), .is (.int .i64 tl), .is (.int .i64 tl), .is (.bool false), .is (.bool false), .is (.bool false), .is (.pointer (some ⟨p, 0, none⟩)), .any, .is (.int .i64 nT), .is (.bool false), .is (.bool false)] j' v W ∧ (j' = 1 ∨ j' = 18 → SeeL encN W v (LT.map Tm.nm)))
                (by kernel_rfl) (by kernel_rfl) (fun j' v W W' hb h => ⟨facts_stay _ j' v W W' hb h.1, fun e => (h.2 e).below hb⟩) (fun W W' hb h => ⟨h.1.below hb, h.2.1.below hb, h.2.2.below hb⟩) (fun i => [u104, u105, u106, u107, u108, u109, u110, u111, u112, u113, u114, u115, u116, u117, u118, u119, u120, u121, u122, u123, u124, u125].getD i undef) (by kernel_rfl) ⟨(HSA.out _).1.below ((Below.refl _ _).drew), (HSA.out _).2.1.below ((Below.refl _ _).drew), (HSA.out _).2.2.below ((Below.refl _ _).drew)⟩ ?F3 ?hF3 ?hstep3 ?hend3
              case hF3 =>
                intro u
                simp only [fillAct]
                go_simp
                rfl
              case hstep3 =>
                clear HSA
                refine FSteps.cons ?_ ?_
                · intro u W hS hd K hK
                  clear hd
                  simp only [upd, reduceIte, Nat.reduceEqDiff] at hK
                  go_simp
                  exact hK.out _ _ (Below.refl _ _) ⟨rfl, (fun e => absurd e (by decide))⟩
                refine FSteps.cons ?_ ?_
                · intro u W hS hd K hK
                  have h0 : u 0 = _ := (hd 0 rfl).1
                  clear hd
                  simp only [upd, h0, reduceIte, Nat.reduceEqDiff] at hK
                  go_simp
                  go_at_call 18
                  refine (HLA.out _ hS.1).mono ?_
                  rintro e wc ⟨v, rfl, ho, hb⟩
                  exact hK.out _ _ hb ⟨trivial, fun _ => ho⟩
                refine FSteps.cons ?_ ?_
                · intro u W hS hd K hK
                  clear hd
                  simp only [upd, reduceIte, Nat.reduceEqDiff] at hK
                  go_simp
                  exact hK.out _ _ (Below.refl _ _) ⟨rfl, (fun e => absurd e (by decide))⟩
                refine FSteps.cons ?_ ?_
                · intro u W hS hd K hK
                  have h2 : u 2 = _ := (hd 2 rfl).1
                  clear hd
                  simp only [upd, h2, reduceIte, Nat.reduceEqDiff] at hK
                  go_simp
                  exact hK.out _ _ (Below.refl _ _) ⟨rfl, (fun e => absurd e (by decide))⟩
                refine FSteps.cons ?_ ?_
                · intro u W hS hd K hK
                  have h3 : u 3 = _ := (hd 3 rfl).1
                  clear hd
                  simp only [upd, h3, reduceIte, Nat.reduceEqDiff] at hK
                  go_simp
                  exact hK.out _ _ (Below.refl _ _) ⟨rfl, (fun e => absurd e (by decide))⟩
                refine FSteps.cons ?_ ?_
                · intro u W hS hd K hK
                  have h4 : u 4 = _ := (hd 4 rfl).1
                  clear hd
                  simp only [upd, h4, reduceIte, Nat.reduceEqDiff] at hK
                  have c0 := hS.2.1.cell 1 rfl
                  go_simp
                  exact hK.out _ _ (Below.refl _ _) ⟨rfl, (fun e => absurd e (by decide))⟩
                refine FSteps.cons ?_ ?_
                · intro u W hS hd K hK
                  have h5 : u 5 = _ := (hd 5 rfl).1
                  obtain ⟨v1, h1, A1⟩ : ∃ v1, u 1 = v1 ∧ SeeL encN W v1 (LT.map Tm.nm) := ⟨_, rfl, (hd 1 rfl).2 (Or.inl rfl)⟩
                  clear hd
                  simp only [upd, h5, h1, reduceIte, Nat.reduceEqDiff] at hK
                  go_simp
                  go_at_call 12
                  refine (HSM.out _ _ A1 hS.2.2).mono ?_
                  rintro e wc ⟨rfl, hb⟩
                  exact hK.out _ _ hb ⟨rfl, (fun e => absurd e (by decide))⟩
                refine FSteps.cons ?_ ?_
                · intro u W hS hd K hK
                  have h6 : u 6 = _ := (hd 6 rfl).1
                  clear hd
                  simp only [upd, h6, reduceIte, Nat.reduceEqDiff] at hK
                  go_simp
                  exact hK.out _ _ (Below.refl _ _) ⟨rfl, (fun e => absurd e (by decide))⟩
                refine FSteps.cons ?_ ?_
                · intro u W hS hd K hK
                  have h7 : u 7 = _ := (hd 7 rfl).1
                  clear hd
                  simp only [upd, h7, reduceIte, Nat.reduceEqDiff] at hK
                  go_simp
                  exact hK.out _ _ (Below.refl _ _) ⟨rfl, (fun e => absurd e (by decide))⟩
                refine FSteps.cons ?_ ?_
                · intro u W hS hd K hK
                  have h8 : u 8 = _ := (hd 8 rfl).1
                  clear hd
                  simp only [upd, h8, reduceIte, Nat.reduceEqDiff] at hK
                  go_simp
                  exact hK.out _ _ (Below.refl _ _) ⟨rfl, (fun e => absurd e (by decide))⟩
                refine FSteps.cons ?_ ?_
                · intro u W hS hd K hK
                  have h8 : u 8 = _ := (hd 8 rfl).1
                  clear hd
                  simp only [upd, h8, reduceIte, Nat.reduceEqDiff] at hK
                  go_simp
                  exact hK.out _ _ (Below.refl _ _) ⟨rfl, (fun e => absurd e (by decide))⟩
                refine FSteps.cons ?_ ?_
                · intro u W hS hd K hK
                  have h8 : u 8 = _ := (hd 8 rfl).1
                  have h10 : u 10 = _ := (hd 10 rfl).1
                  clear hd
                  simp only [upd, h8, h10, reduceIte, Nat.reduceEqDiff] at hK
                  have c0 := (hS.1.row (.head _)).cell 2 rfl
                  have c1 := (hS.1.row (.head _)).cell 3 rfl
                  go_simp
                  exact hK.out _ _ (Below.refl _ _) ⟨rfl, (fun e => absurd e (by decide))⟩
                refine FSteps.cons ?_ ?_
                · intro u W hS hd K hK
                  have h8 : u 8 = _ := (hd 8 rfl).1
                  have h9 : u 9 = _ := (hd 9 rfl).1
                  have h11 : u 11 = _ := (hd 11 rfl).1
                  clear hd
                  simp only [upd, h8, h9, h11, reduceIte, Nat.reduceEqDiff] at hK
                  go_simp
                  go_at_call 19
                  refine (HLF.out _ hS.1).mono ?_
                  rintro e wc ⟨rfl, hb⟩
                  exact hK.out _ _ hb ⟨rfl, (fun e => absurd e (by decide))⟩
                refine FSteps.cons ?_ ?_
                · intro u W hS hd K hK
                  have h8 : u 8 = _ := (hd 8 rfl).1
                  clear hd
                  simp only [upd, h8, reduceIte, Nat.reduceEqDiff] at hK
                  go_simp
                  exact hK.out _ _ (Below.refl _ _) ⟨rfl, (fun e => absurd e (by decide))⟩
                refine FSteps.cons ?_ ?_
                · intro u W hS hd K hK
                  have h8 : u 8 = _ := (hd 8 rfl).1
                  have h12 : u 12 = _ := (hd 12 rfl).1
                  have h13 : u 13 = _ := (hd 13 rfl).1
                  clear hd
                  simp only [upd, h8, h12, h13, reduceIte, Nat.reduceEqDiff] at hK
                  go_simp
                  exact hK.out _ _ (Below.refl _ _) ⟨rfl, (fun e => absurd e (by decide))⟩
                refine FSteps.cons ?_ ?_
                · intro u W hS hd K hK
                  have h8 : u 8 = _ := (hd 8 rfl).1
                  have h14 : u 14 = _ := (hd 14 rfl).1
                  clear hd
                  simp only [upd, h8, h14, reduceIte, Nat.reduceEqDiff] at hK
                  go_simp
                  exact hK.out _ _ (Below.refl _ _) ⟨rfl, (fun e => absurd e (by decide))⟩
                refine FSteps.cons ?_ ?_
                · intro u W hS hd K hK
                  have h15 : u 15 = _ := (hd 15 rfl).1
                  clear hd
                  simp only [upd, h15, reduceIte, Nat.reduceEqDiff] at hK
                  go_simp
                  exact hK.out _ _ (Below.refl _ _) ⟨rfl, (fun e => absurd e (by decide))⟩
                refine FSteps.cons ?_ ?_
                · intro u W hS hd K hK
                  have h16 : u 16 = _ := (hd 16 rfl).1
                  clear hd
                  simp only [upd, h16, reduceIte, Nat.reduceEqDiff] at hK
                  go_simp
                  exact hK.out _ _ (Below.refl _ _) ⟨rfl, (fun e => absurd e (by decide))⟩
                refine FSteps.cons ?_ ?_
                · intro u W hS hd K hK
                  have h16 : u 16 = _ := (hd 16 rfl).1
                  have h17 : u 17 = _ := (hd 17 rfl).1
                  clear hd
                  simp only [upd, h16, h17, reduceIte, Nat.reduceEqDiff] at hK
                  go_simp
                  go_at_call 18
                  refine (HLA.out _ hS.1).mono ?_
                  rintro e wc ⟨v, rfl, ho, hb⟩
                  exact hK.out _ _ hb ⟨trivial, fun _ => ho⟩
                refine FSteps.cons ?_ ?_
                · intro u W hS hd K hK
                  have h16 : u 16 = _ := (hd 16 rfl).1
                  obtain ⟨a18, c18, h18⟩ := see_form ((hd 18 rfl).2 (Or.inr rfl)) HLEN2.out
                  clear hd
                  simp only [upd, h16, h18, reduceIte, Nat.reduceEqDiff] at hK
                  go_simp
                  exact hK.out _ _ (Below.refl _ _) ⟨rfl, (fun e => absurd e (by decide))⟩
                refine FSteps.cons ?_ ?_
                · intro u W hS hd K hK
                  have h16 : u 16 = _ := (hd 16 rfl).1
                  have h19 : u 19 = _ := (hd 19 rfl).1
                  clear hd
                  simp only [upd, h16, h19, reduceIte, Nat.reduceEqDiff] at hK
                  have d20 : decide ((32 : Int) < (nT : Int)) = false := decide_eq_false (by omega)
                  go_simp
                  exact hK.out _ _ (Below.refl _ _) ⟨rfl, (fun e => absurd e (by decide))⟩
                refine FSteps.cons ?_ ?_
                · intro u W hS hd K hK
                  have h16 : u 16 = _ := (hd 16 rfl).1
                  have h20 : u 20 = _ := (hd 20 rfl).1
                  clear hd
                  simp only [upd, h16, h20, reduceIte, Nat.reduceEqDiff] at hK
                  go_simp
                  exact hK.out _ _ (Below.refl _ _) ⟨rfl, (fun e => absurd e (by decide))⟩
                exact trivial
              case hend3 =>
                intro u w6 hS hd
                have h21 : u 21 = _ := (hd 21 rfl).1
                have HP6 := Lib.hid hS.1
                clear hd hS HSA HLA HLF HSM
                rw [h21]
                clear h21
                go_wp2_with fail
                go_roundw
                case rel => exact ⟨j + 1, LT, NN, hlt, by go_num, HNT.out.1, by have := HNT.out.2; omega, Lib.hid ⟨HOKT.out, _, HP6.out.forget⟩⟩
                case measure => simp [intOf]; omega
        by_cases hc1 : yc = 1
        · subst hc1
          have HOKT := Lib.hid (HOK.out.filter (fun t => !isT ⟨yk, yn⟩ t))
          have HNT := Lib.hid (show 0 ≤ NN ∧ NN ≤ (j : Int) + 1 from by omega)
          have hst : LL.filter (fun t => !isT ⟨yk, yn⟩ t) = stopT ⟨yk, yn⟩ LL := rfl
          rw [hst] at HOKT
          clear hst
          have HPX := Lib.hid (HP.out.box [.int .i64 1, .int .i64 yt, .int .i64 yk, .int .i64 yn] 33)
          go_upto_region 14 with (fail)
          generalize wr.alloc (.cells #[.int .i64 1, .int .i64 yt, .int .i64 yk, .int .i64 yn] 33) = wm at *
          generalize wr.heap.size = m at *
          have HC1 := Lib.hid (fun B W mm (h : PlO w B p q LL NN (dueL NN LL) [(m, [.int .i64 1, .int .i64 yt, .int .i64 yk, .int .i64 yn])] W) hA hm => h.cstop HOK.out mm ⟨yk, yn⟩ hA hm)
          have HC2 := Lib.hid (fun B W (h : PlO w B p q (stopT ⟨yk, yn⟩ LL) NN (dueL NN LL) [(m, [.int .i64 1, .int .i64 yt, .int .i64 yk, .int .i64 yn])] W) => h.rstop (by rw [List.length_map]; exact HOK.out.len) (pair_due HOK.out.one) ⟨yk, yn⟩)
          rw [stop_due, cnt_due (isT ⟨yk, yn⟩) (isT ⟨yk, yn⟩) NN LL (fun _ _ => rfl)] at HC2
          simp only at HC1 HC2
          generalize stopT ⟨yk, yn⟩ LL = LT at *
          generalize cntT (isT ⟨yk, yn⟩) LL = rr at *
          have HPL := Lib.hid (HPX.out.lift HPX.out.bw (Nat.le_refl _))
          generalize wm.heap.size = B0 at HPL
          clear HP HOK HPX
          refine wp_region_staged (fun W W' => Above B0 W W') (fun l W => RowAt W m [.int .i64 1, .int .i64 yt, .int .i64 yk, .int .i64 yn] ∧ St2 (PlO w B0 p q LL NN (dueL NN LL) [(m, [.int .i64 1, .int .i64 yt, .int .i64 yk, .int .i64 yn])] W) (PlO w B0 p q LT NN (dueL NN LL) [(m, [.int .i64 1, .int .i64 yt, .int .i64 yk, .int .i64 yn])] W) (∃ B, PlO w B p q LT NN (dueL NN LT) [(m, [.int .i64 1, .int .i64 yt, .int .i64 yk, .int .i64 yn])] W) (l 4) (l 12))
            (fun j' v W => factsOf [.is (.pointer (some ⟨p, 0, none⟩)), .is (.pointer (some ⟨m, 2, none⟩)), .is (.agg #[.int .i64 yk, .int .i64 yn]), .any, .is (.int .i64 rr), .is (.pointer (some ⟨q, 0, none⟩)), .is (.pointer (some ⟨m, 2, none⟩)), .is (.pointer (some ⟨m, 2, none⟩)), .is (.int .i64 yk), .is (.pointer (some ⟨m, 2, none⟩)), .is (.pointer (some ⟨m, 3, none⟩)), .is (.int .i64 yn), .is (.int .i64 rr), .is (.bool false)] j' v W ∧ (j' = 3 → ∃ b, v = .slice (some ⟨b, 0, none⟩) 1 1 ∧ AtL encN W (some ⟨b, 0, none⟩) [⟨yk, yn⟩] ∧ B0 ≤ b))
            (by kernel_rfl) (by kernel_rfl) (fun j' v W W' hR h => ⟨facts_still rfl j' v W W' h.1, (fun e => by obtain ⟨b, hv, hA, hb⟩ := h.2 e; exact ⟨b, hv, at_above hA hR hb, hb⟩)⟩) (fun i => [u46, u47, u48, u49, u50, u51, u52, u53, u54, u55, u56, u57, u58, u59].getD i undef) (by kernel_rfl) ⟨(HPL.out.row (.head _)).drew, HPL.out.below ((Below.refl _ _).drew)⟩ ?F4 ?hF4 ?hstep4 ?hend4
          case hF4 =>
            intro u
            simp only [fillAct]
            go_simp
            rfl
          case hstep4 =>
            refine SSteps.cons ?_ ?_
            · intro u W l hS hl hcl hd K hK
              clear hd
              simp only [upd, reduceIte, Nat.reduceEqDiff] at hK
              go_simp
              exact hK.out _ _ (Above.of_below (Below.refl _ _)) ⟨rfl, (fun e => absurd e (by decide))⟩ hS
            refine SSteps.cons ?_ ?_
            · intro u W l hS hl hcl hd K hK
              clear hd
              simp only [upd, reduceIte, Nat.reduceEqDiff] at hK
              go_simp
              exact hK.out _ _ (Above.of_below (Below.refl _ _)) ⟨rfl, (fun e => absurd e (by decide))⟩ hS
            refine SSteps.cons ?_ ?_
            · intro u W l hS hl hcl hd K hK
              have h1 : u 1 = _ := (hd 1 rfl).2.1
              clear hd
              simp only [upd, h1, reduceIte, Nat.reduceEqDiff] at hK
              have c0 := hS.1.cell 2 rfl
              have c1 := hS.1.cell 3 rfl
              go_simp
              exact hK.out _ _ (Above.of_below (Below.refl _ _)) ⟨rfl, (fun e => absurd e (by decide))⟩ hS
            refine SSteps.cons ?_ ?_
            · intro u W l hS hl hcl hd K hK
              have h2 : u 2 = _ := (hd 2 rfl).2.1
              clear hd
              simp only [upd, h2, reduceIte, Nat.reduceEqDiff] at hK
              have h4 := not_yet hcl 3 4 hl (by kernel_rfl)
              have hP := St2.zero hS.2 h4
              go_simp
              exact hK.out _ _ (Above.of_below ((Below.refl _ _).alloc (Nat.le_refl _) _)) ⟨trivial, (fun _ => ⟨_, rfl, AtL.made encN 31 _ _ ⟨yk, yn⟩ _ rfl rfl, hP.bw⟩)⟩ ⟨hS.1.alloc _, St2.pre (hP.below ((Below.refl _ _).alloc (Nat.le_refl _) _)) h4⟩
            refine SSteps.cons ?_ ?_
            · intro u W l hS hl hcl hd K hK
              have h0 : u 0 = _ := (hd 0 rfl).2.1
              obtain ⟨m3, h3, A3, b3⟩ := (hd 3 rfl).2.2 rfl
              clear hd
              simp only [upd, h0, h3, reduceIte, Nat.reduceEqDiff] at hK
              have hP := St2.zero hS.2 hl
              have h12 := not_yet hcl 4 12 hl (by kernel_rfl)
              go_simp
              go_at_call 10
              refine (HC1.out _ _ _ hP A3 b3).mono ?_
              rintro e wc ⟨rfl, hp, hab⟩
              exact hK.out _ _ hab ⟨rfl, (fun e => absurd e (by decide))⟩ ⟨hp.row (.head _), St2.one hp h12⟩
            refine SSteps.cons ?_ ?_
            · intro u W l hS hl hcl hd K hK
              clear hd
              simp only [upd, reduceIte, Nat.reduceEqDiff] at hK
              go_simp
              exact hK.out _ _ (Above.of_below (Below.refl _ _)) ⟨rfl, (fun e => absurd e (by decide))⟩ hS
            refine SSteps.cons ?_ ?_
            · intro u W l hS hl hcl hd K hK
              clear hd
              simp only [upd, reduceIte, Nat.reduceEqDiff] at hK
              go_simp
              exact hK.out _ _ (Above.of_below (Below.refl _ _)) ⟨rfl, (fun e => absurd e (by decide))⟩ hS
            refine SSteps.cons ?_ ?_
            · intro u W l hS hl hcl hd K hK
              have h6 : u 6 = _ := (hd 6 rfl).2.1
              clear hd
              simp only [upd, h6, reduceIte, Nat.reduceEqDiff] at hK
              go_simp
              exact hK.out _ _ (Above.of_below (Below.refl _ _)) ⟨rfl, (fun e => absurd e (by decide))⟩ hS
            refine SSteps.cons ?_ ?_
            · intro u W l hS hl hcl hd K hK
              have h7 : u 7 = _ := (hd 7 rfl).2.1
              clear hd
              simp only [upd, h7, reduceIte, Nat.reduceEqDiff] at hK
              have c0 := hS.1.cell 2 rfl
              go_simp
              exact hK.out _ _ (Above.of_below (Below.refl _ _)) ⟨rfl, (fun e => absurd e (by decide))⟩ hS
            refine SSteps.cons ?_ ?_
            · intro u W l hS hl hcl hd K hK
              clear hd
              simp only [upd, reduceIte, Nat.reduceEqDiff] at hK
              go_simp
              exact hK.out _ _ (Above.of_below (Below.refl _ _)) ⟨rfl, (fun e => absurd e (by decide))⟩ hS
            refine SSteps.cons ?_ ?_
            · intro u W l hS hl hcl hd K hK
              have h9 : u 9 = _ := (hd 9 rfl).2.1
              clear hd
              simp only [upd, h9, reduceIte, Nat.reduceEqDiff] at hK
              go_simp
              exact hK.out _ _ (Above.of_below (Below.refl _ _)) ⟨rfl, (fun e => absurd e (by decide))⟩ hS
            refine SSteps.cons ?_ ?_
            · intro u W l hS hl hcl hd K hK
              have h10 : u 10 = _ := (hd 10 rfl).2.1
              clear hd
              simp only [upd, h10, reduceIte, Nat.reduceEqDiff] at hK
              have c0 := hS.1.cell 3 rfl
              go_simp
              exact hK.out _ _ (Above.of_below (Below.refl _ _)) ⟨rfl, (fun e => absurd e (by decide))⟩ hS
            refine SSteps.cons ?_ ?_
            · intro u W l hS hl hcl hd K hK
              have h5 : u 5 = _ := (hd 5 rfl).2.1
              have h8 : u 8 = _ := (hd 8 rfl).2.1
              have h11 : u 11 = _ := (hd 11 rfl).2.1
              obtain ⟨g4, h4⟩ : l 4 = true ∧ u 4 = .int .i64 rr := ⟨(hd 4 rfl).1, (hd 4 rfl).2.1⟩
              clear hd
              simp only [upd, h5, h8, h11, h4, reduceIte, Nat.reduceEqDiff] at hK
              have hP := St2.mid hS.2 g4 hl
              go_simp
              go_at_call 11
              refine (HC2.out _ _ hP).mono ?_
              rintro e wc ⟨rfl, hp, hab⟩
              exact hK.out _ _ hab ⟨rfl, (fun e => absurd e (by decide))⟩ ⟨hp.row (.head _), St2.fin2 ⟨_, hp⟩ g4⟩
            refine SSteps.cons ?_ ?_
            · intro u W l hS hl hcl hd K hK
              have h4 : u 4 = _ := (hd 4 rfl).2.1
              have h12 : u 12 = _ := (hd 12 rfl).2.1
              clear hd
              simp only [upd, h4, h12, reduceIte, Nat.reduceEqDiff] at hK
              go_simp
              exact hK.out _ _ (Above.of_below (Below.refl _ _)) ⟨rfl, (fun e => absurd e (by decide))⟩ hS
            exact trivial

          case hend4 =>
            intro u w6 l hall hS hd
            have h13 : u 13 = _ := (hd 13 rfl).1
            have HPT := Lib.hid (St2.fin hS.2 (hall 4 rfl) (hall 12 rfl))
            clear hd hS hall HPL HC1 HC2
            rw [h13]
            clear h13
            obtain ⟨BT, hPT⟩ := HPT.out
            have HPB := Lib.hid hPT
            have b2 := (hPT.row (.head _)).cell 2 rfl
            have b3 := (hPT.row (.head _)).cell 3 rfl
            have hdl : (dueL NN LT).length = LT.length := List.length_map _
            have hl32 := HOKT.out.len
            have HAT := Lib.hid (hPT.rat (by omega) yk yn)
            rw [atF_due] at HAT
            obtain ⟨ta, tc, hrw, how⟩ := hPT.lay
            rw [hdl] at hrw how
            have HRW := Lib.hid (And.intro hrw how)
            have HLA := Lib.hid (fun W (h : PlO w BT p q LT NN (dueL NN LT) [(m, [.int .i64 1, .int .i64 yt, .int .i64 yk, .int .i64 yn])] W) => h.call HOKT.out)
            have HLF := Lib.hid (fun W (h : PlO w BT p q LT NN (dueL NN LT) [(m, [.int .i64 1, .int .i64 yt, .int .i64 yk, .int .i64 yn])] W) => h.cleft HOKT.out ⟨yk, yn⟩)
            have HSM := Lib.hid (fun v W (h1 : SeeL encN W v (LT.map Tm.nm)) (h2 : OwnD W (.slice ta LT.length tc) (dueL NN LT)) => csame_yes v _ (dueL NN LT) W ((due_nm NN LT).symm ▸ h1) h2.see (by omega))
            have HLD := Lib.hid (left_due (L := LT) ⟨yk, yn⟩ 0 (Int.le_refl 0))
            have HLS := Lib.hid (atF_spec ⟨yk, yn⟩ LT 0)
            simp only at HLF
            obtain ⟨nT, hnT⟩ : ∃ nT, LT.length = nT := ⟨_, rfl⟩
            rw [hnT] at HRW HSM hl32
            have HLEN2 := Lib.hid hnT
            obtain ⟨ix, hix⟩ : ∃ ix, atF ⟨yk, yn⟩ LT 0 = ix := ⟨_, rfl⟩
            rw [hix] at HAT HLD HLS
            clear hPT HPT hdl hrw how hnT hix
            by_cases hat : ix < 0
            · have hi1 : ix = -1 := by
                rcases HLS.out with ⟨e, -⟩ | ⟨A, t, Z, -, e, -⟩
                · exact e
                · omega
              have hlf := HLD.out.1 hat
              subst hi1
              rw [hlf] at HLF
              clear HLD HLS hlf hat
              go_upto_region 26 with (go_at_call 17; (with_reducible refine HAT.out.mono ?_); rintro e wa ⟨rfl, hb⟩; have HBA := Lib.hid hb; clear hb b2 b3)
              have HSA := Lib.hid (And.intro (HPB.out.below HBA.out) (And.intro (HRW.out.1.below HBA.out) (HRW.out.2.below HBA.out)))
              clear HPB HAT HRW HBA
              refine wp_region_facts (fun W W' => Below W.heap.size W W') (fun W => PlO w BT p q LT NN (dueL NN LT) [(m, [.int .i64 1, .int .i64 yt, .int .i64 yk, .int .i64 yn])] W ∧ RowAt W q [.int .i64 NN, .slice ta nT tc] ∧ OwnD W (.slice ta nT tc) (dueL NN LT))
                (fun j' v W => factsOf [.is (.pointer (some ⟨p, 0, none⟩)), .any, .is (.pointer (some ⟨q, 0, none⟩)), .is (.pointer (some ⟨q, 0, none⟩)), .is (.pointer (some ⟨q, 1, none⟩)), .is (.slice ta nT tc), .is (.bool true), .is (.bool false), .is (.bool false), .is (.pointer (some ⟨p, 0, none⟩)), .is (.pointer (some ⟨m, 2, none⟩)), .is (.agg #[.int .i64 yk, .int .i64 yn]), .is (.int .i64 0), .is (.int .i64 0), .is (.bool false), .is (.bool false), .is (.bool false), .is (.pointer (some ⟨p, 0, none⟩)), .any, .is (.int .i64 nT), .is (.bool false), .is (.bool false)] j' v W ∧ (j' = 1 ∨ j' = 18 → SeeL encN W v (LT.map Tm.nm)))
                (by kernel_rfl) (by kernel_rfl) (fun j' v W W' hb h => ⟨facts_stay _ j' v W W' hb h.1, fun e => (h.2 e).below hb⟩) (fun W W' hb h => ⟨h.1.below hb, h.2.1.below hb, h.2.2.below hb⟩) (fun i => [u104, u105, u106, u107, u108, u109, u110, u111, u112, u113, u114, u115, u116, u117, u118, u119, u120, u121, u122, u123, u124, u125].getD i undef) (by kernel_rfl) ⟨HSA.out.1.below ((Below.refl _ _).drew), HSA.out.2.1.below ((Below.refl _ _).drew), HSA.out.2.2.below ((Below.refl _ _).drew)⟩ ?F5 ?hF5 ?hstep5 ?hend5
              case hF5 =>
                intro u
                simp only [fillAct]
                go_simp
                rfl
              case hstep5 =>
                clear HSA
                refine FSteps.cons ?_ ?_
                · intro u W hS hd K hK
                  clear hd
                  simp only [upd, reduceIte, Nat.reduceEqDiff] at hK
                  go_simp
                  exact hK.out _ _ (Below.refl _ _) ⟨rfl, (fun e => absurd e (by decide))⟩
                refine FSteps.cons ?_ ?_
                · intro u W hS hd K hK
                  have h0 : u 0 = _ := (hd 0 rfl).1
                  clear hd
                  simp only [upd, h0, reduceIte, Nat.reduceEqDiff] at hK
                  go_simp
                  go_at_call 18
                  refine (HLA.out _ hS.1).mono ?_
                  rintro e wc ⟨v, rfl, ho, hb⟩
                  exact hK.out _ _ hb ⟨trivial, fun _ => ho⟩
                refine FSteps.cons ?_ ?_
                · intro u W hS hd K hK
                  clear hd
                  simp only [upd, reduceIte, Nat.reduceEqDiff] at hK
                  go_simp
                  exact hK.out _ _ (Below.refl _ _) ⟨rfl, (fun e => absurd e (by decide))⟩
                refine FSteps.cons ?_ ?_
                · intro u W hS hd K hK
                  have h2 : u 2 = _ := (hd 2 rfl).1
                  clear hd
                  simp only [upd, h2, reduceIte, Nat.reduceEqDiff] at hK
                  go_simp
                  exact hK.out _ _ (Below.refl _ _) ⟨rfl, (fun e => absurd e (by decide))⟩
                refine FSteps.cons ?_ ?_
                · intro u W hS hd K hK
                  have h3 : u 3 = _ := (hd 3 rfl).1
                  clear hd
                  simp only [upd, h3, reduceIte, Nat.reduceEqDiff] at hK
                  go_simp
                  exact hK.out _ _ (Below.refl _ _) ⟨rfl, (fun e => absurd e (by decide))⟩
                refine FSteps.cons ?_ ?_
                · intro u W hS hd K hK
                  have h4 : u 4 = _ := (hd 4 rfl).1
                  clear hd
                  simp only [upd, h4, reduceIte, Nat.reduceEqDiff] at hK
                  have c0 := hS.2.1.cell 1 rfl
                  go_simp
                  exact hK.out _ _ (Below.refl _ _) ⟨rfl, (fun e => absurd e (by decide))⟩
                refine FSteps.cons ?_ ?_
                · intro u W hS hd K hK
                  have h5 : u 5 = _ := (hd 5 rfl).1
                  obtain ⟨v1, h1, A1⟩ : ∃ v1, u 1 = v1 ∧ SeeL encN W v1 (LT.map Tm.nm) := ⟨_, rfl, (hd 1 rfl).2 (Or.inl rfl)⟩
                  clear hd
                  simp only [upd, h5, h1, reduceIte, Nat.reduceEqDiff] at hK
                  go_simp
                  go_at_call 12
                  refine (HSM.out _ _ A1 hS.2.2).mono ?_
                  rintro e wc ⟨rfl, hb⟩
                  exact hK.out _ _ hb ⟨rfl, (fun e => absurd e (by decide))⟩
                refine FSteps.cons ?_ ?_
                · intro u W hS hd K hK
                  have h6 : u 6 = _ := (hd 6 rfl).1
                  clear hd
                  simp only [upd, h6, reduceIte, Nat.reduceEqDiff] at hK
                  go_simp
                  exact hK.out _ _ (Below.refl _ _) ⟨rfl, (fun e => absurd e (by decide))⟩
                refine FSteps.cons ?_ ?_
                · intro u W hS hd K hK
                  have h7 : u 7 = _ := (hd 7 rfl).1
                  clear hd
                  simp only [upd, h7, reduceIte, Nat.reduceEqDiff] at hK
                  go_simp
                  exact hK.out _ _ (Below.refl _ _) ⟨rfl, (fun e => absurd e (by decide))⟩
                refine FSteps.cons ?_ ?_
                · intro u W hS hd K hK
                  have h8 : u 8 = _ := (hd 8 rfl).1
                  clear hd
                  simp only [upd, h8, reduceIte, Nat.reduceEqDiff] at hK
                  go_simp
                  exact hK.out _ _ (Below.refl _ _) ⟨rfl, (fun e => absurd e (by decide))⟩
                refine FSteps.cons ?_ ?_
                · intro u W hS hd K hK
                  have h8 : u 8 = _ := (hd 8 rfl).1
                  clear hd
                  simp only [upd, h8, reduceIte, Nat.reduceEqDiff] at hK
                  go_simp
                  exact hK.out _ _ (Below.refl _ _) ⟨rfl, (fun e => absurd e (by decide))⟩
                refine FSteps.cons ?_ ?_
                · intro u W hS hd K hK
                  have h8 : u 8 = _ := (hd 8 rfl).1
                  have h10 : u 10 = _ := (hd 10 rfl).1
                  clear hd
                  simp only [upd, h8, h10, reduceIte, Nat.reduceEqDiff] at hK
                  have c0 := (hS.1.row (.head _)).cell 2 rfl
                  have c1 := (hS.1.row (.head _)).cell 3 rfl
                  go_simp
                  exact hK.out _ _ (Below.refl _ _) ⟨rfl, (fun e => absurd e (by decide))⟩
                refine FSteps.cons ?_ ?_
                · intro u W hS hd K hK
                  have h8 : u 8 = _ := (hd 8 rfl).1
                  have h9 : u 9 = _ := (hd 9 rfl).1
                  have h11 : u 11 = _ := (hd 11 rfl).1
                  clear hd
                  simp only [upd, h8, h9, h11, reduceIte, Nat.reduceEqDiff] at hK
                  go_simp
                  go_at_call 19
                  refine (HLF.out _ hS.1).mono ?_
                  rintro e wc ⟨rfl, hb⟩
                  exact hK.out _ _ hb ⟨rfl, (fun e => absurd e (by decide))⟩
                refine FSteps.cons ?_ ?_
                · intro u W hS hd K hK
                  have h8 : u 8 = _ := (hd 8 rfl).1
                  clear hd
                  simp only [upd, h8, reduceIte, Nat.reduceEqDiff] at hK
                  go_simp
                  exact hK.out _ _ (Below.refl _ _) ⟨rfl, (fun e => absurd e (by decide))⟩
                refine FSteps.cons ?_ ?_
                · intro u W hS hd K hK
                  have h8 : u 8 = _ := (hd 8 rfl).1
                  have h12 : u 12 = _ := (hd 12 rfl).1
                  have h13 : u 13 = _ := (hd 13 rfl).1
                  clear hd
                  simp only [upd, h8, h12, h13, reduceIte, Nat.reduceEqDiff] at hK
                  go_simp
                  exact hK.out _ _ (Below.refl _ _) ⟨rfl, (fun e => absurd e (by decide))⟩
                refine FSteps.cons ?_ ?_
                · intro u W hS hd K hK
                  have h8 : u 8 = _ := (hd 8 rfl).1
                  have h14 : u 14 = _ := (hd 14 rfl).1
                  clear hd
                  simp only [upd, h8, h14, reduceIte, Nat.reduceEqDiff] at hK
                  go_simp
                  exact hK.out _ _ (Below.refl _ _) ⟨rfl, (fun e => absurd e (by decide))⟩
                refine FSteps.cons ?_ ?_
                · intro u W hS hd K hK
                  have h15 : u 15 = _ := (hd 15 rfl).1
                  clear hd
                  simp only [upd, h15, reduceIte, Nat.reduceEqDiff] at hK
                  go_simp
                  exact hK.out _ _ (Below.refl _ _) ⟨rfl, (fun e => absurd e (by decide))⟩
                refine FSteps.cons ?_ ?_
                · intro u W hS hd K hK
                  have h16 : u 16 = _ := (hd 16 rfl).1
                  clear hd
                  simp only [upd, h16, reduceIte, Nat.reduceEqDiff] at hK
                  go_simp
                  exact hK.out _ _ (Below.refl _ _) ⟨rfl, (fun e => absurd e (by decide))⟩
                refine FSteps.cons ?_ ?_
                · intro u W hS hd K hK
                  have h16 : u 16 = _ := (hd 16 rfl).1
                  have h17 : u 17 = _ := (hd 17 rfl).1
                  clear hd
                  simp only [upd, h16, h17, reduceIte, Nat.reduceEqDiff] at hK
                  go_simp
                  go_at_call 18
                  refine (HLA.out _ hS.1).mono ?_
                  rintro e wc ⟨v, rfl, ho, hb⟩
                  exact hK.out _ _ hb ⟨trivial, fun _ => ho⟩
                refine FSteps.cons ?_ ?_
                · intro u W hS hd K hK
                  have h16 : u 16 = _ := (hd 16 rfl).1
                  obtain ⟨a18, c18, h18⟩ := see_form ((hd 18 rfl).2 (Or.inr rfl)) HLEN2.out
                  clear hd
                  simp only [upd, h16, h18, reduceIte, Nat.reduceEqDiff] at hK
                  go_simp
                  exact hK.out _ _ (Below.refl _ _) ⟨rfl, (fun e => absurd e (by decide))⟩
                refine FSteps.cons ?_ ?_
                · intro u W hS hd K hK
                  have h16 : u 16 = _ := (hd 16 rfl).1
                  have h19 : u 19 = _ := (hd 19 rfl).1
                  clear hd
                  simp only [upd, h16, h19, reduceIte, Nat.reduceEqDiff] at hK
                  have d20 : decide ((32 : Int) < (nT : Int)) = false := decide_eq_false (by omega)
                  go_simp
                  exact hK.out _ _ (Below.refl _ _) ⟨rfl, (fun e => absurd e (by decide))⟩
                refine FSteps.cons ?_ ?_
                · intro u W hS hd K hK
                  have h16 : u 16 = _ := (hd 16 rfl).1
                  have h20 : u 20 = _ := (hd 20 rfl).1
                  clear hd
                  simp only [upd, h16, h20, reduceIte, Nat.reduceEqDiff] at hK
                  go_simp
                  exact hK.out _ _ (Below.refl _ _) ⟨rfl, (fun e => absurd e (by decide))⟩
                exact trivial
              case hend5 =>
                intro u w6 hS hd
                have h21 : u 21 = _ := (hd 21 rfl).1
                have HP6 := Lib.hid hS.1
                clear hd hS HSA HLA HLF HSM
                rw [h21]
                clear h21
                go_wp2_with fail
                go_roundw
                case rel => exact ⟨j + 1, LT, NN, hlt, by go_num, HNT.out.1, by have := HNT.out.2; omega, Lib.hid ⟨HOKT.out, _, HP6.out.forget⟩⟩
                case measure => simp [intOf]; omega
            · obtain ⟨A, t, Z, eL, eix, hlf⟩ := HLD.out.2 (by omega)
              obtain ⟨i, hi⟩ : ∃ i, A.length = i := ⟨_, rfl⟩
              have hxi : ix = (i : Int) := by omega
              subst hxi
              rw [hlf] at HLF
              have hD : (dueL NN LT)[i]? = some (addT NN t) := by
                rw [eL, ← hi]
                simp [dueL]
              have hin : i < nT := by
                rw [← HLEN2.out, eL, List.length_append, List.length_cons]
                omega
              have htl := HOKT.out.left t (by rw [eL]; simp)
              clear HLD HLS hlf hat eL eix hi
              have hDi : i < (dueL NN LT).length := by rw [List.length_map, HLEN2.out]; exact hin
              have hDe : (dueL NN LT)[i] = addT NN t := by
                rw [List.getElem?_eq_getElem hDi] at hD
                exact Option.some.inj hD
              obtain ⟨tk, tn, tl⟩ := t
              simp only at htl HLF
              obtain ⟨d, hd0⟩ : ∃ d, NN + tl = d := ⟨_, rfl⟩
              have z1 : wrap64 (d - NN) = tl := by
                have h0 := HNT.out
                rw [← IntWalk.i64_left, ← hd0]
                rw [show NN + tl - NN = tl by omega]
                exact i64_near _ (by omega) (by omega)
              have HX := Lib.hid (fun W (h : OwnD W (.slice ta nT tc) (dueL NN LT)) (g : Nat) (e : ta = some ⟨g, 0, none⟩) => show W.cell? ⟨g, i * 3 + 2, none⟩ = some (.int .i64 d) from by
                subst e
                have := (OwnL.get3 h i hDi).2.2
                rw [hDe] at this
                rw [← hd0]
                exact this)
              clear hD hDe hd0 htl
              obtain ⟨g, c9, hv9, -, hg9, -⟩ := HRW.out.2.some_ (by omega)
              simp only [Value.slice.injEq] at hv9
              have hta := hv9.1
              subst hta
              clear hv9 hg9
              go_upto_region 25 with (go_at_call 17; (with_reducible refine HAT.out.mono ?_); rintro e wa ⟨rfl, hb⟩; have HBA := Lib.hid hb; clear hb b2 b3)
              have HSA := Lib.hid (And.intro (HPB.out.below HBA.out) (And.intro (HRW.out.1.below HBA.out) (HRW.out.2.below HBA.out)))
              clear HPB HAT HRW HBA
              have q0 := HSA.out.2.1.cell 0 rfl
              have q1 := HSA.out.2.1.cell 1 rfl
              have q2 := HX.out _ HSA.out.2.2 g rfl
              go_quiet (fail)
              go_upto_region 26 with (fail)
              rw [z1]
              clear q0 q1 q2 HX z1 hDi hin
              have HSB := Lib.hid (fun nq => And.intro (HSA.out.1.below (belowN (Below.refl _ _) nq)) (And.intro (HSA.out.2.1.below (belowN (Below.refl _ _) nq)) (HSA.out.2.2.below (belowN (Below.refl _ _) nq))))
              clear HSA
              have HSA := HSB
              refine wp_region_facts (fun W W' => Below W.heap.size W W') (fun W => PlO w BT p q LT NN (dueL NN LT) [(m, [.int .i64 1, .int .i64 yt, .int .i64 yk, .int .i64 yn])] W ∧ RowAt W q [.int .i64 NN, .slice (some ⟨g, 0, none⟩) nT tc] ∧ OwnD W (.slice (some ⟨g, 0, none⟩) nT tc) (dueL NN LT))
                (fun j' v W => factsOf [.is (.pointer (some ⟨p, 0, none⟩)), .any, .is (.pointer (some ⟨q, 0, none⟩)), .is (.pointer (some ⟨q, 0, none⟩)), .is (.pointer (some ⟨q, 1, none⟩)), .is (.slice (some ⟨g, 0, none⟩) nT tc), .is (.bool true), .is (.bool false), .is (.bool false), .is (.pointer (some ⟨p, 0, none⟩)), .is (.pointer (some ⟨m, 2, none⟩)), .is (.agg #[.int .i64 yk, .int .i64 yn]), .is (.int .i64 tl), .is (.int .i64 tl), .is (.bool false), .is (.bool false), .is (.bool false), .is (.pointer (some ⟨p, 0, none⟩)), .any, .is (.int .i64 nT), .is (.bool false), .is (.bool false)] j' v W ∧ (j' = 1 ∨ j' = 18 → SeeL encN W v (LT.map Tm.nm)))
                (by kernel_rfl) (by kernel_rfl) (fun j' v W W' hb h => ⟨facts_stay _ j' v W W' hb h.1, fun e => (h.2 e).below hb⟩) (fun W W' hb h => ⟨h.1.below hb, h.2.1.below hb, h.2.2.below hb⟩) (fun i => [u104, u105, u106, u107, u108, u109, u110, u111, u112, u113, u114, u115, u116, u117, u118, u119, u120, u121, u122, u123, u124, u125].getD i undef) (by kernel_rfl) ⟨(HSA.out _).1.below ((Below.refl _ _).drew), (HSA.out _).2.1.below ((Below.refl _ _).drew), (HSA.out _).2.2.below ((Below.refl _ _).drew)⟩ ?F6 ?hF6 ?hstep6 ?hend6
              case hF6 =>
                intro u
                simp only [fillAct]
                go_simp
                rfl
              case hstep6 =>
                clear HSA
                refine FSteps.cons ?_ ?_
                · intro u W hS hd K hK
                  clear hd
                  simp only [upd, reduceIte, Nat.reduceEqDiff] at hK
                  go_simp
                  exact hK.out _ _ (Below.refl _ _) ⟨rfl, (fun e => absurd e (by decide))⟩
                refine FSteps.cons ?_ ?_
                · intro u W hS hd K hK
                  have h0 : u 0 = _ := (hd 0 rfl).1
                  clear hd
                  simp only [upd, h0, reduceIte, Nat.reduceEqDiff] at hK
                  go_simp
                  go_at_call 18
                  refine (HLA.out _ hS.1).mono ?_
                  rintro e wc ⟨v, rfl, ho, hb⟩
                  exact hK.out _ _ hb ⟨trivial, fun _ => ho⟩
                refine FSteps.cons ?_ ?_
                · intro u W hS hd K hK
                  clear hd
                  simp only [upd, reduceIte, Nat.reduceEqDiff] at hK
                  go_simp
                  exact hK.out _ _ (Below.refl _ _) ⟨rfl, (fun e => absurd e (by decide))⟩
                refine FSteps.cons ?_ ?_
                · intro u W hS hd K hK
                  have h2 : u 2 = _ := (hd 2 rfl).1
                  clear hd
                  simp only [upd, h2, reduceIte, Nat.reduceEqDiff] at hK
                  go_simp
                  exact hK.out _ _ (Below.refl _ _) ⟨rfl, (fun e => absurd e (by decide))⟩
                refine FSteps.cons ?_ ?_
                · intro u W hS hd K hK
                  have h3 : u 3 = _ := (hd 3 rfl).1
                  clear hd
                  simp only [upd, h3, reduceIte, Nat.reduceEqDiff] at hK
                  go_simp
                  exact hK.out _ _ (Below.refl _ _) ⟨rfl, (fun e => absurd e (by decide))⟩
                refine FSteps.cons ?_ ?_
                · intro u W hS hd K hK
                  have h4 : u 4 = _ := (hd 4 rfl).1
                  clear hd
                  simp only [upd, h4, reduceIte, Nat.reduceEqDiff] at hK
                  have c0 := hS.2.1.cell 1 rfl
                  go_simp
                  exact hK.out _ _ (Below.refl _ _) ⟨rfl, (fun e => absurd e (by decide))⟩
                refine FSteps.cons ?_ ?_
                · intro u W hS hd K hK
                  have h5 : u 5 = _ := (hd 5 rfl).1
                  obtain ⟨v1, h1, A1⟩ : ∃ v1, u 1 = v1 ∧ SeeL encN W v1 (LT.map Tm.nm) := ⟨_, rfl, (hd 1 rfl).2 (Or.inl rfl)⟩
                  clear hd
                  simp only [upd, h5, h1, reduceIte, Nat.reduceEqDiff] at hK
                  go_simp
                  go_at_call 12
                  refine (HSM.out _ _ A1 hS.2.2).mono ?_
                  rintro e wc ⟨rfl, hb⟩
                  exact hK.out _ _ hb ⟨rfl, (fun e => absurd e (by decide))⟩
                refine FSteps.cons ?_ ?_
                · intro u W hS hd K hK
                  have h6 : u 6 = _ := (hd 6 rfl).1
                  clear hd
                  simp only [upd, h6, reduceIte, Nat.reduceEqDiff] at hK
                  go_simp
                  exact hK.out _ _ (Below.refl _ _) ⟨rfl, (fun e => absurd e (by decide))⟩
                refine FSteps.cons ?_ ?_
                · intro u W hS hd K hK
                  have h7 : u 7 = _ := (hd 7 rfl).1
                  clear hd
                  simp only [upd, h7, reduceIte, Nat.reduceEqDiff] at hK
                  go_simp
                  exact hK.out _ _ (Below.refl _ _) ⟨rfl, (fun e => absurd e (by decide))⟩
                refine FSteps.cons ?_ ?_
                · intro u W hS hd K hK
                  have h8 : u 8 = _ := (hd 8 rfl).1
                  clear hd
                  simp only [upd, h8, reduceIte, Nat.reduceEqDiff] at hK
                  go_simp
                  exact hK.out _ _ (Below.refl _ _) ⟨rfl, (fun e => absurd e (by decide))⟩
                refine FSteps.cons ?_ ?_
                · intro u W hS hd K hK
                  have h8 : u 8 = _ := (hd 8 rfl).1
                  clear hd
                  simp only [upd, h8, reduceIte, Nat.reduceEqDiff] at hK
                  go_simp
                  exact hK.out _ _ (Below.refl _ _) ⟨rfl, (fun e => absurd e (by decide))⟩
                refine FSteps.cons ?_ ?_
                · intro u W hS hd K hK
                  have h8 : u 8 = _ := (hd 8 rfl).1
                  have h10 : u 10 = _ := (hd 10 rfl).1
                  clear hd
                  simp only [upd, h8, h10, reduceIte, Nat.reduceEqDiff] at hK
                  have c0 := (hS.1.row (.head _)).cell 2 rfl
                  have c1 := (hS.1.row (.head _)).cell 3 rfl
                  go_simp
                  exact hK.out _ _ (Below.refl _ _) ⟨rfl, (fun e => absurd e (by decide))⟩
                refine FSteps.cons ?_ ?_
                · intro u W hS hd K hK
                  have h8 : u 8 = _ := (hd 8 rfl).1
                  have h9 : u 9 = _ := (hd 9 rfl).1
                  have h11 : u 11 = _ := (hd 11 rfl).1
                  clear hd
                  simp only [upd, h8, h9, h11, reduceIte, Nat.reduceEqDiff] at hK
                  go_simp
                  go_at_call 19
                  refine (HLF.out _ hS.1).mono ?_
                  rintro e wc ⟨rfl, hb⟩
                  exact hK.out _ _ hb ⟨rfl, (fun e => absurd e (by decide))⟩
                refine FSteps.cons ?_ ?_
                · intro u W hS hd K hK
                  have h8 : u 8 = _ := (hd 8 rfl).1
                  clear hd
                  simp only [upd, h8, reduceIte, Nat.reduceEqDiff] at hK
                  go_simp
                  exact hK.out _ _ (Below.refl _ _) ⟨rfl, (fun e => absurd e (by decide))⟩
                refine FSteps.cons ?_ ?_
                · intro u W hS hd K hK
                  have h8 : u 8 = _ := (hd 8 rfl).1
                  have h12 : u 12 = _ := (hd 12 rfl).1
                  have h13 : u 13 = _ := (hd 13 rfl).1
                  clear hd
                  simp only [upd, h8, h12, h13, reduceIte, Nat.reduceEqDiff] at hK
                  go_simp
                  exact hK.out _ _ (Below.refl _ _) ⟨rfl, (fun e => absurd e (by decide))⟩
                refine FSteps.cons ?_ ?_
                · intro u W hS hd K hK
                  have h8 : u 8 = _ := (hd 8 rfl).1
                  have h14 : u 14 = _ := (hd 14 rfl).1
                  clear hd
                  simp only [upd, h8, h14, reduceIte, Nat.reduceEqDiff] at hK
                  go_simp
                  exact hK.out _ _ (Below.refl _ _) ⟨rfl, (fun e => absurd e (by decide))⟩
                refine FSteps.cons ?_ ?_
                · intro u W hS hd K hK
                  have h15 : u 15 = _ := (hd 15 rfl).1
                  clear hd
                  simp only [upd, h15, reduceIte, Nat.reduceEqDiff] at hK
                  go_simp
                  exact hK.out _ _ (Below.refl _ _) ⟨rfl, (fun e => absurd e (by decide))⟩
                refine FSteps.cons ?_ ?_
                · intro u W hS hd K hK
                  have h16 : u 16 = _ := (hd 16 rfl).1
                  clear hd
                  simp only [upd, h16, reduceIte, Nat.reduceEqDiff] at hK
                  go_simp
                  exact hK.out _ _ (Below.refl _ _) ⟨rfl, (fun e => absurd e (by decide))⟩
                refine FSteps.cons ?_ ?_
                · intro u W hS hd K hK
                  have h16 : u 16 = _ := (hd 16 rfl).1
                  have h17 : u 17 = _ := (hd 17 rfl).1
                  clear hd
                  simp only [upd, h16, h17, reduceIte, Nat.reduceEqDiff] at hK
                  go_simp
                  go_at_call 18
                  refine (HLA.out _ hS.1).mono ?_
                  rintro e wc ⟨v, rfl, ho, hb⟩
                  exact hK.out _ _ hb ⟨trivial, fun _ => ho⟩
                refine FSteps.cons ?_ ?_
                · intro u W hS hd K hK
                  have h16 : u 16 = _ := (hd 16 rfl).1
                  obtain ⟨a18, c18, h18⟩ := see_form ((hd 18 rfl).2 (Or.inr rfl)) HLEN2.out
                  clear hd
                  simp only [upd, h16, h18, reduceIte, Nat.reduceEqDiff] at hK
                  go_simp
                  exact hK.out _ _ (Below.refl _ _) ⟨rfl, (fun e => absurd e (by decide))⟩
                refine FSteps.cons ?_ ?_
                · intro u W hS hd K hK
                  have h16 : u 16 = _ := (hd 16 rfl).1
                  have h19 : u 19 = _ := (hd 19 rfl).1
                  clear hd
                  simp only [upd, h16, h19, reduceIte, Nat.reduceEqDiff] at hK
                  have d20 : decide ((32 : Int) < (nT : Int)) = false := decide_eq_false (by omega)
                  go_simp
                  exact hK.out _ _ (Below.refl _ _) ⟨rfl, (fun e => absurd e (by decide))⟩
                refine FSteps.cons ?_ ?_
                · intro u W hS hd K hK
                  have h16 : u 16 = _ := (hd 16 rfl).1
                  have h20 : u 20 = _ := (hd 20 rfl).1
                  clear hd
                  simp only [upd, h16, h20, reduceIte, Nat.reduceEqDiff] at hK
                  go_simp
                  exact hK.out _ _ (Below.refl _ _) ⟨rfl, (fun e => absurd e (by decide))⟩
                exact trivial
              case hend6 =>
                intro u w6 hS hd
                have h21 : u 21 = _ := (hd 21 rfl).1
                have HP6 := Lib.hid hS.1
                clear hd hS HSA HLA HLF HSM
                rw [h21]
                clear h21
                go_wp2_with fail
                go_roundw
                case rel => exact ⟨j + 1, LT, NN, hlt, by go_num, HNT.out.1, by have := HNT.out.2; omega, Lib.hid ⟨HOKT.out, _, HP6.out.forget⟩⟩
                case measure => simp [intOf]; omega
        by_cases hc2 : yc = 2
        · subst hc2
          have htd := tick_due NN LL
          have HOKT := Lib.hid HOK.out.tick
          obtain ⟨NT, hNT⟩ : ∃ NT, NN + 1 = NT := ⟨_, rfl⟩
          have HNT := Lib.hid (show 0 ≤ NT ∧ NT ≤ (j : Int) + 1 from by omega)
          have HPX := Lib.hid (HP.out.box [.int .i64 2, .int .i64 yt, .int .i64 yk, .int .i64 yn] 33)
          go_upto_region 17 with (fail)
          generalize wr.alloc (.cells #[.int .i64 2, .int .i64 yt, .int .i64 yk, .int .i64 yn] 33) = wm at *
          generalize wr.heap.size = m at *
          have HPL := Lib.hid (HPX.out.lift HPX.out.bw (Nat.le_refl _))
          generalize wm.heap.size = B0 at HPL
          have HC1 := Lib.hid (HPL.out.ctick HOK.out)
          have HC2 := Lib.hid (fun W v (h : PlO w B0 p q (tickT LL) NN (dueL NN LL) [(m, [.int .i64 2, .int .i64 yt, .int .i64 yk, .int .i64 yn])] W) (ho : OwnN W B0 v (toldT LL)) => h.rtick (by rw [List.length_map]; exact HOK.out.len) (by omega) v (toldT LL) ho)
          have hnm : (dueL (NN + 1) ((LL.map decT).filter goneT)).map Tm.nm = toldT LL := due_nm _ _
          rw [htd.1, htd.2] at HC2
          have hfl : (dueL (NN + 1) ((LL.map decT).filter goneT)).length ≤ 1000 := by
            rw [List.length_map]
            have h1 := List.length_filter_le goneT (LL.map decT)
            rw [List.length_map] at h1
            have h2 := HOK.out.len
            omega
          have HC3 := Lib.hid (fun W v u (h1 : SeeL encN W v (toldT LL)) (h2 : SeeL encT W u (dueL (NN + 1) ((LL.map decT).filter goneT))) => csame_yes v u _ W (hnm.symm ▸ h1) h2 hfl)
          clear hnm hfl
          generalize dueL (NN + 1) ((LL.map decT).filter goneT) = DT at *
          rw [hNT] at HC2
          generalize tickT LL = LT at *
          generalize toldT LL = TT at *
          clear HP HOK HPX HPL htd hNT
          go_upto_region 23 with (first
            | (go_at_call 13; (with_reducible refine HC1.out.mono ?_); rintro e w3 ⟨v3, rfl, ho, hp⟩; have HO3 := Lib.hid ho; have HP3 := Lib.hid hp; clear ho hp)
            | (go_at_call 14; (with_reducible refine (HC2.out _ _ HP3.out HO3.out).mono ?_); rintro e w4 ⟨u4, rfl, hu, hp, hv⟩; have HU4 := Lib.hid hu; have HV4 := Lib.hid hv; have HP4 := Lib.hid hp; clear hu hp hv)
            | (go_at_call 12; (with_reducible refine (HC3.out _ _ _ HV4.out HU4.out).mono ?_); rintro e w5 ⟨rfl, hb⟩; have HPT := Lib.hid (show ∃ B, PlO w B p q LT NT (dueL NT LT) [(m, [.int .i64 2, .int .i64 yt, .int .i64 yk, .int .i64 yn])] w5 from ⟨_, HP4.out.below hb⟩); clear hb))
          clear HC1 HC2 HC3 HO3 HP3 HU4 HV4 HP4
          obtain ⟨BT, hPT⟩ := HPT.out
          have HPB := Lib.hid hPT
          have b2 := (hPT.row (.head _)).cell 2 rfl
          have b3 := (hPT.row (.head _)).cell 3 rfl
          have hdl : (dueL NT LT).length = LT.length := List.length_map _
          have hl32 := HOKT.out.len
          have HAT := Lib.hid (hPT.rat (by omega) yk yn)
          rw [atF_due] at HAT
          obtain ⟨ta, tc, hrw, how⟩ := hPT.lay
          rw [hdl] at hrw how
          have HRW := Lib.hid (And.intro hrw how)
          have HLA := Lib.hid (fun W (h : PlO w BT p q LT NT (dueL NT LT) [(m, [.int .i64 2, .int .i64 yt, .int .i64 yk, .int .i64 yn])] W) => h.call HOKT.out)
          have HLF := Lib.hid (fun W (h : PlO w BT p q LT NT (dueL NT LT) [(m, [.int .i64 2, .int .i64 yt, .int .i64 yk, .int .i64 yn])] W) => h.cleft HOKT.out ⟨yk, yn⟩)
          have HSM := Lib.hid (fun v W (h1 : SeeL encN W v (LT.map Tm.nm)) (h2 : OwnD W (.slice ta LT.length tc) (dueL NT LT)) => csame_yes v _ (dueL NT LT) W ((due_nm NT LT).symm ▸ h1) h2.see (by omega))
          have HLD := Lib.hid (left_due (L := LT) ⟨yk, yn⟩ 0 (Int.le_refl 0))
          have HLS := Lib.hid (atF_spec ⟨yk, yn⟩ LT 0)
          simp only at HLF
          obtain ⟨nT, hnT⟩ : ∃ nT, LT.length = nT := ⟨_, rfl⟩
          rw [hnT] at HRW HSM hl32
          have HLEN2 := Lib.hid hnT
          obtain ⟨ix, hix⟩ : ∃ ix, atF ⟨yk, yn⟩ LT 0 = ix := ⟨_, rfl⟩
          rw [hix] at HAT HLD HLS
          clear hPT HPT hdl hrw how hnT hix
          by_cases hat : ix < 0
          · have hi1 : ix = -1 := by
              rcases HLS.out with ⟨e, -⟩ | ⟨A, t, Z, -, e, -⟩
              · exact e
              · omega
            have hlf := HLD.out.1 hat
            subst hi1
            rw [hlf] at HLF
            clear HLD HLS hlf hat
            go_upto_region 26 with (go_at_call 17; (with_reducible refine HAT.out.mono ?_); rintro e wa ⟨rfl, hb⟩; have HBA := Lib.hid hb; clear hb b2 b3)
            have HSA := Lib.hid (And.intro (HPB.out.below HBA.out) (And.intro (HRW.out.1.below HBA.out) (HRW.out.2.below HBA.out)))
            clear HPB HAT HRW HBA
            refine wp_region_facts (fun W W' => Below W.heap.size W W') (fun W => PlO w BT p q LT NT (dueL NT LT) [(m, [.int .i64 2, .int .i64 yt, .int .i64 yk, .int .i64 yn])] W ∧ RowAt W q [.int .i64 NT, .slice ta nT tc] ∧ OwnD W (.slice ta nT tc) (dueL NT LT))
              (fun j' v W => factsOf [.is (.pointer (some ⟨p, 0, none⟩)), .any, .is (.pointer (some ⟨q, 0, none⟩)), .is (.pointer (some ⟨q, 0, none⟩)), .is (.pointer (some ⟨q, 1, none⟩)), .is (.slice ta nT tc), .is (.bool true), .is (.bool false), .is (.bool false), .is (.pointer (some ⟨p, 0, none⟩)), .is (.pointer (some ⟨m, 2, none⟩)), .is (.agg #[.int .i64 yk, .int .i64 yn]), .is (.int .i64 0), .is (.int .i64 0), .is (.bool false), .is (.bool false), .is (.bool false), .is (.pointer (some ⟨p, 0, none⟩)), .any, .is (.int .i64 nT), .is (.bool false), .is (.bool false)] j' v W ∧ (j' = 1 ∨ j' = 18 → SeeL encN W v (LT.map Tm.nm)))
              (by kernel_rfl) (by kernel_rfl) (fun j' v W W' hb h => ⟨facts_stay _ j' v W W' hb h.1, fun e => (h.2 e).below hb⟩) (fun W W' hb h => ⟨h.1.below hb, h.2.1.below hb, h.2.2.below hb⟩) (fun i => [u104, u105, u106, u107, u108, u109, u110, u111, u112, u113, u114, u115, u116, u117, u118, u119, u120, u121, u122, u123, u124, u125].getD i undef) (by kernel_rfl) ⟨HSA.out.1.below ((Below.refl _ _).drew), HSA.out.2.1.below ((Below.refl _ _).drew), HSA.out.2.2.below ((Below.refl _ _).drew)⟩ ?F7 ?hF7 ?hstep7 ?hend7
            case hF7 =>
              intro u
              simp only [fillAct]
              go_simp
              rfl
            case hstep7 =>
              clear HSA
              refine FSteps.cons ?_ ?_
              · intro u W hS hd K hK
                clear hd
                simp only [upd, reduceIte, Nat.reduceEqDiff] at hK
                go_simp
                exact hK.out _ _ (Below.refl _ _) ⟨rfl, (fun e => absurd e (by decide))⟩
              refine FSteps.cons ?_ ?_
              · intro u W hS hd K hK
                have h0 : u 0 = _ := (hd 0 rfl).1
                clear hd
                simp only [upd, h0, reduceIte, Nat.reduceEqDiff] at hK
                go_simp
                go_at_call 18
                refine (HLA.out _ hS.1).mono ?_
                rintro e wc ⟨v, rfl, ho, hb⟩
                exact hK.out _ _ hb ⟨trivial, fun _ => ho⟩
              refine FSteps.cons ?_ ?_
              · intro u W hS hd K hK
                clear hd
                simp only [upd, reduceIte, Nat.reduceEqDiff] at hK
                go_simp
                exact hK.out _ _ (Below.refl _ _) ⟨rfl, (fun e => absurd e (by decide))⟩
              refine FSteps.cons ?_ ?_
              · intro u W hS hd K hK
                have h2 : u 2 = _ := (hd 2 rfl).1
                clear hd
                simp only [upd, h2, reduceIte, Nat.reduceEqDiff] at hK
                go_simp
                exact hK.out _ _ (Below.refl _ _) ⟨rfl, (fun e => absurd e (by decide))⟩
              refine FSteps.cons ?_ ?_
              · intro u W hS hd K hK
                have h3 : u 3 = _ := (hd 3 rfl).1
                clear hd
                simp only [upd, h3, reduceIte, Nat.reduceEqDiff] at hK
                go_simp
                exact hK.out _ _ (Below.refl _ _) ⟨rfl, (fun e => absurd e (by decide))⟩
              refine FSteps.cons ?_ ?_
              · intro u W hS hd K hK
                have h4 : u 4 = _ := (hd 4 rfl).1
                clear hd
                simp only [upd, h4, reduceIte, Nat.reduceEqDiff] at hK
                have c0 := hS.2.1.cell 1 rfl
                go_simp
                exact hK.out _ _ (Below.refl _ _) ⟨rfl, (fun e => absurd e (by decide))⟩
              refine FSteps.cons ?_ ?_
              · intro u W hS hd K hK
                have h5 : u 5 = _ := (hd 5 rfl).1
                obtain ⟨v1, h1, A1⟩ : ∃ v1, u 1 = v1 ∧ SeeL encN W v1 (LT.map Tm.nm) := ⟨_, rfl, (hd 1 rfl).2 (Or.inl rfl)⟩
                clear hd
                simp only [upd, h5, h1, reduceIte, Nat.reduceEqDiff] at hK
                go_simp
                go_at_call 12
                refine (HSM.out _ _ A1 hS.2.2).mono ?_
                rintro e wc ⟨rfl, hb⟩
                exact hK.out _ _ hb ⟨rfl, (fun e => absurd e (by decide))⟩
              refine FSteps.cons ?_ ?_
              · intro u W hS hd K hK
                have h6 : u 6 = _ := (hd 6 rfl).1
                clear hd
                simp only [upd, h6, reduceIte, Nat.reduceEqDiff] at hK
                go_simp
                exact hK.out _ _ (Below.refl _ _) ⟨rfl, (fun e => absurd e (by decide))⟩
              refine FSteps.cons ?_ ?_
              · intro u W hS hd K hK
                have h7 : u 7 = _ := (hd 7 rfl).1
                clear hd
                simp only [upd, h7, reduceIte, Nat.reduceEqDiff] at hK
                go_simp
                exact hK.out _ _ (Below.refl _ _) ⟨rfl, (fun e => absurd e (by decide))⟩
              refine FSteps.cons ?_ ?_
              · intro u W hS hd K hK
                have h8 : u 8 = _ := (hd 8 rfl).1
                clear hd
                simp only [upd, h8, reduceIte, Nat.reduceEqDiff] at hK
                go_simp
                exact hK.out _ _ (Below.refl _ _) ⟨rfl, (fun e => absurd e (by decide))⟩
              refine FSteps.cons ?_ ?_
              · intro u W hS hd K hK
                have h8 : u 8 = _ := (hd 8 rfl).1
                clear hd
                simp only [upd, h8, reduceIte, Nat.reduceEqDiff] at hK
                go_simp
                exact hK.out _ _ (Below.refl _ _) ⟨rfl, (fun e => absurd e (by decide))⟩
              refine FSteps.cons ?_ ?_
              · intro u W hS hd K hK
                have h8 : u 8 = _ := (hd 8 rfl).1
                have h10 : u 10 = _ := (hd 10 rfl).1
                clear hd
                simp only [upd, h8, h10, reduceIte, Nat.reduceEqDiff] at hK
                have c0 := (hS.1.row (.head _)).cell 2 rfl
                have c1 := (hS.1.row (.head _)).cell 3 rfl
                go_simp
                exact hK.out _ _ (Below.refl _ _) ⟨rfl, (fun e => absurd e (by decide))⟩
              refine FSteps.cons ?_ ?_
              · intro u W hS hd K hK
                have h8 : u 8 = _ := (hd 8 rfl).1
                have h9 : u 9 = _ := (hd 9 rfl).1
                have h11 : u 11 = _ := (hd 11 rfl).1
                clear hd
                simp only [upd, h8, h9, h11, reduceIte, Nat.reduceEqDiff] at hK
                go_simp
                go_at_call 19
                refine (HLF.out _ hS.1).mono ?_
                rintro e wc ⟨rfl, hb⟩
                exact hK.out _ _ hb ⟨rfl, (fun e => absurd e (by decide))⟩
              refine FSteps.cons ?_ ?_
              · intro u W hS hd K hK
                have h8 : u 8 = _ := (hd 8 rfl).1
                clear hd
                simp only [upd, h8, reduceIte, Nat.reduceEqDiff] at hK
                go_simp
                exact hK.out _ _ (Below.refl _ _) ⟨rfl, (fun e => absurd e (by decide))⟩
              refine FSteps.cons ?_ ?_
              · intro u W hS hd K hK
                have h8 : u 8 = _ := (hd 8 rfl).1
                have h12 : u 12 = _ := (hd 12 rfl).1
                have h13 : u 13 = _ := (hd 13 rfl).1
                clear hd
                simp only [upd, h8, h12, h13, reduceIte, Nat.reduceEqDiff] at hK
                go_simp
                exact hK.out _ _ (Below.refl _ _) ⟨rfl, (fun e => absurd e (by decide))⟩
              refine FSteps.cons ?_ ?_
              · intro u W hS hd K hK
                have h8 : u 8 = _ := (hd 8 rfl).1
                have h14 : u 14 = _ := (hd 14 rfl).1
                clear hd
                simp only [upd, h8, h14, reduceIte, Nat.reduceEqDiff] at hK
                go_simp
                exact hK.out _ _ (Below.refl _ _) ⟨rfl, (fun e => absurd e (by decide))⟩
              refine FSteps.cons ?_ ?_
              · intro u W hS hd K hK
                have h15 : u 15 = _ := (hd 15 rfl).1
                clear hd
                simp only [upd, h15, reduceIte, Nat.reduceEqDiff] at hK
                go_simp
                exact hK.out _ _ (Below.refl _ _) ⟨rfl, (fun e => absurd e (by decide))⟩
              refine FSteps.cons ?_ ?_
              · intro u W hS hd K hK
                have h16 : u 16 = _ := (hd 16 rfl).1
                clear hd
                simp only [upd, h16, reduceIte, Nat.reduceEqDiff] at hK
                go_simp
                exact hK.out _ _ (Below.refl _ _) ⟨rfl, (fun e => absurd e (by decide))⟩
              refine FSteps.cons ?_ ?_
              · intro u W hS hd K hK
                have h16 : u 16 = _ := (hd 16 rfl).1
                have h17 : u 17 = _ := (hd 17 rfl).1
                clear hd
                simp only [upd, h16, h17, reduceIte, Nat.reduceEqDiff] at hK
                go_simp
                go_at_call 18
                refine (HLA.out _ hS.1).mono ?_
                rintro e wc ⟨v, rfl, ho, hb⟩
                exact hK.out _ _ hb ⟨trivial, fun _ => ho⟩
              refine FSteps.cons ?_ ?_
              · intro u W hS hd K hK
                have h16 : u 16 = _ := (hd 16 rfl).1
                obtain ⟨a18, c18, h18⟩ := see_form ((hd 18 rfl).2 (Or.inr rfl)) HLEN2.out
                clear hd
                simp only [upd, h16, h18, reduceIte, Nat.reduceEqDiff] at hK
                go_simp
                exact hK.out _ _ (Below.refl _ _) ⟨rfl, (fun e => absurd e (by decide))⟩
              refine FSteps.cons ?_ ?_
              · intro u W hS hd K hK
                have h16 : u 16 = _ := (hd 16 rfl).1
                have h19 : u 19 = _ := (hd 19 rfl).1
                clear hd
                simp only [upd, h16, h19, reduceIte, Nat.reduceEqDiff] at hK
                have d20 : decide ((32 : Int) < (nT : Int)) = false := decide_eq_false (by omega)
                go_simp
                exact hK.out _ _ (Below.refl _ _) ⟨rfl, (fun e => absurd e (by decide))⟩
              refine FSteps.cons ?_ ?_
              · intro u W hS hd K hK
                have h16 : u 16 = _ := (hd 16 rfl).1
                have h20 : u 20 = _ := (hd 20 rfl).1
                clear hd
                simp only [upd, h16, h20, reduceIte, Nat.reduceEqDiff] at hK
                go_simp
                exact hK.out _ _ (Below.refl _ _) ⟨rfl, (fun e => absurd e (by decide))⟩
              exact trivial
            case hend7 =>
              intro u w6 hS hd
              have h21 : u 21 = _ := (hd 21 rfl).1
              have HP6 := Lib.hid hS.1
              clear hd hS HSA HLA HLF HSM
              rw [h21]
              clear h21
              go_wp2_with fail
              go_roundw
              case rel => exact ⟨j + 1, LT, NT, hlt, by go_num, HNT.out.1, by have := HNT.out.2; omega, Lib.hid ⟨HOKT.out, _, HP6.out.forget⟩⟩
              case measure => simp [intOf]; omega
          · obtain ⟨A, t, Z, eL, eix, hlf⟩ := HLD.out.2 (by omega)
            obtain ⟨i, hi⟩ : ∃ i, A.length = i := ⟨_, rfl⟩
            have hxi : ix = (i : Int) := by omega
            subst hxi
            rw [hlf] at HLF
            have hD : (dueL NT LT)[i]? = some (addT NT t) := by
              rw [eL, ← hi]
              simp [dueL]
            have hin : i < nT := by
              rw [← HLEN2.out, eL, List.length_append, List.length_cons]
              omega
            have htl := HOKT.out.left t (by rw [eL]; simp)
            clear HLD HLS hlf hat eL eix hi
            have hDi : i < (dueL NT LT).length := by rw [List.length_map, HLEN2.out]; exact hin
            have hDe : (dueL NT LT)[i] = addT NT t := by
              rw [List.getElem?_eq_getElem hDi] at hD
              exact Option.some.inj hD
            obtain ⟨tk, tn, tl⟩ := t
            simp only at htl HLF
            obtain ⟨d, hd0⟩ : ∃ d, NT + tl = d := ⟨_, rfl⟩
            have z1 : wrap64 (d - NT) = tl := by
              have h0 := HNT.out
              rw [← IntWalk.i64_left, ← hd0]
              rw [show NT + tl - NT = tl by omega]
              exact i64_near _ (by omega) (by omega)
            have HX := Lib.hid (fun W (h : OwnD W (.slice ta nT tc) (dueL NT LT)) (g : Nat) (e : ta = some ⟨g, 0, none⟩) => show W.cell? ⟨g, i * 3 + 2, none⟩ = some (.int .i64 d) from by
              subst e
              have := (OwnL.get3 h i hDi).2.2
              rw [hDe] at this
              rw [← hd0]
              exact this)
            clear hD hDe hd0 htl
            obtain ⟨g, c9, hv9, -, hg9, -⟩ := HRW.out.2.some_ (by omega)
            simp only [Value.slice.injEq] at hv9
            have hta := hv9.1
            subst hta
            clear hv9 hg9
            go_upto_region 25 with (go_at_call 17; (with_reducible refine HAT.out.mono ?_); rintro e wa ⟨rfl, hb⟩; have HBA := Lib.hid hb; clear hb b2 b3)
            have HSA := Lib.hid (And.intro (HPB.out.below HBA.out) (And.intro (HRW.out.1.below HBA.out) (HRW.out.2.below HBA.out)))
            clear HPB HAT HRW HBA
            have q0 := HSA.out.2.1.cell 0 rfl
            have q1 := HSA.out.2.1.cell 1 rfl
            have q2 := HX.out _ HSA.out.2.2 g rfl
            go_quiet (fail)
            go_upto_region 26 with (fail)
            rw [z1]
            clear q0 q1 q2 HX z1 hDi hin
            have HSB := Lib.hid (fun nq => And.intro (HSA.out.1.below (belowN (Below.refl _ _) nq)) (And.intro (HSA.out.2.1.below (belowN (Below.refl _ _) nq)) (HSA.out.2.2.below (belowN (Below.refl _ _) nq))))
            clear HSA
            have HSA := HSB
            refine wp_region_facts (fun W W' => Below W.heap.size W W') (fun W => PlO w BT p q LT NT (dueL NT LT) [(m, [.int .i64 2, .int .i64 yt, .int .i64 yk, .int .i64 yn])] W ∧ RowAt W q [.int .i64 NT, .slice (some ⟨g, 0, none⟩) nT tc] ∧ OwnD W (.slice (some ⟨g, 0, none⟩) nT tc) (dueL NT LT))
              (fun j' v W => factsOf [.is (.pointer (some ⟨p, 0, none⟩)), .any, .is (.pointer (some ⟨q, 0, none⟩)), .is (.pointer (some ⟨q, 0, none⟩)), .is (.pointer (some ⟨q, 1, none⟩)), .is (.slice (some ⟨g, 0, none⟩) nT tc), .is (.bool true), .is (.bool false), .is (.bool false), .is (.pointer (some ⟨p, 0, none⟩)), .is (.pointer (some ⟨m, 2, none⟩)), .is (.agg #[.int .i64 yk, .int .i64 yn]), .is (.int .i64 tl), .is (.int .i64 tl), .is (.bool false), .is (.bool false), .is (.bool false), .is (.pointer (some ⟨p, 0, none⟩)), .any, .is (.int .i64 nT), .is (.bool false), .is (.bool false)] j' v W ∧ (j' = 1 ∨ j' = 18 → SeeL encN W v (LT.map Tm.nm)))
              (by kernel_rfl) (by kernel_rfl) (fun j' v W W' hb h => ⟨facts_stay _ j' v W W' hb h.1, fun e => (h.2 e).below hb⟩) (fun W W' hb h => ⟨h.1.below hb, h.2.1.below hb, h.2.2.below hb⟩) (fun i => [u104, u105, u106, u107, u108, u109, u110, u111, u112, u113, u114, u115, u116, u117, u118, u119, u120, u121, u122, u123, u124, u125].getD i undef) (by kernel_rfl) ⟨(HSA.out _).1.below ((Below.refl _ _).drew), (HSA.out _).2.1.below ((Below.refl _ _).drew), (HSA.out _).2.2.below ((Below.refl _ _).drew)⟩ ?F8 ?hF8 ?hstep8 ?hend8
            case hF8 =>
              intro u
              simp only [fillAct]
              go_simp
              rfl
            case hstep8 =>
              clear HSA
              refine FSteps.cons ?_ ?_
              · intro u W hS hd K hK
                clear hd
                simp only [upd, reduceIte, Nat.reduceEqDiff] at hK
                go_simp
                exact hK.out _ _ (Below.refl _ _) ⟨rfl, (fun e => absurd e (by decide))⟩
              refine FSteps.cons ?_ ?_
              · intro u W hS hd K hK
                have h0 : u 0 = _ := (hd 0 rfl).1
                clear hd
                simp only [upd, h0, reduceIte, Nat.reduceEqDiff] at hK
                go_simp
                go_at_call 18
                refine (HLA.out _ hS.1).mono ?_
                rintro e wc ⟨v, rfl, ho, hb⟩
                exact hK.out _ _ hb ⟨trivial, fun _ => ho⟩
              refine FSteps.cons ?_ ?_
              · intro u W hS hd K hK
                clear hd
                simp only [upd, reduceIte, Nat.reduceEqDiff] at hK
                go_simp
                exact hK.out _ _ (Below.refl _ _) ⟨rfl, (fun e => absurd e (by decide))⟩
              refine FSteps.cons ?_ ?_
              · intro u W hS hd K hK
                have h2 : u 2 = _ := (hd 2 rfl).1
                clear hd
                simp only [upd, h2, reduceIte, Nat.reduceEqDiff] at hK
                go_simp
                exact hK.out _ _ (Below.refl _ _) ⟨rfl, (fun e => absurd e (by decide))⟩
              refine FSteps.cons ?_ ?_
              · intro u W hS hd K hK
                have h3 : u 3 = _ := (hd 3 rfl).1
                clear hd
                simp only [upd, h3, reduceIte, Nat.reduceEqDiff] at hK
                go_simp
                exact hK.out _ _ (Below.refl _ _) ⟨rfl, (fun e => absurd e (by decide))⟩
              refine FSteps.cons ?_ ?_
              · intro u W hS hd K hK
                have h4 : u 4 = _ := (hd 4 rfl).1
                clear hd
                simp only [upd, h4, reduceIte, Nat.reduceEqDiff] at hK
                have c0 := hS.2.1.cell 1 rfl
                go_simp
                exact hK.out _ _ (Below.refl _ _) ⟨rfl, (fun e => absurd e (by decide))⟩
              refine FSteps.cons ?_ ?_
              · intro u W hS hd K hK
                have h5 : u 5 = _ := (hd 5 rfl).1
                obtain ⟨v1, h1, A1⟩ : ∃ v1, u 1 = v1 ∧ SeeL encN W v1 (LT.map Tm.nm) := ⟨_, rfl, (hd 1 rfl).2 (Or.inl rfl)⟩
                clear hd
                simp only [upd, h5, h1, reduceIte, Nat.reduceEqDiff] at hK
                go_simp
                go_at_call 12
                refine (HSM.out _ _ A1 hS.2.2).mono ?_
                rintro e wc ⟨rfl, hb⟩
                exact hK.out _ _ hb ⟨rfl, (fun e => absurd e (by decide))⟩
              refine FSteps.cons ?_ ?_
              · intro u W hS hd K hK
                have h6 : u 6 = _ := (hd 6 rfl).1
                clear hd
                simp only [upd, h6, reduceIte, Nat.reduceEqDiff] at hK
                go_simp
                exact hK.out _ _ (Below.refl _ _) ⟨rfl, (fun e => absurd e (by decide))⟩
              refine FSteps.cons ?_ ?_
              · intro u W hS hd K hK
                have h7 : u 7 = _ := (hd 7 rfl).1
                clear hd
                simp only [upd, h7, reduceIte, Nat.reduceEqDiff] at hK
                go_simp
                exact hK.out _ _ (Below.refl _ _) ⟨rfl, (fun e => absurd e (by decide))⟩
              refine FSteps.cons ?_ ?_
              · intro u W hS hd K hK
                have h8 : u 8 = _ := (hd 8 rfl).1
                clear hd
                simp only [upd, h8, reduceIte, Nat.reduceEqDiff] at hK
                go_simp
                exact hK.out _ _ (Below.refl _ _) ⟨rfl, (fun e => absurd e (by decide))⟩
              refine FSteps.cons ?_ ?_
              · intro u W hS hd K hK
                have h8 : u 8 = _ := (hd 8 rfl).1
                clear hd
                simp only [upd, h8, reduceIte, Nat.reduceEqDiff] at hK
                go_simp
                exact hK.out _ _ (Below.refl _ _) ⟨rfl, (fun e => absurd e (by decide))⟩
              refine FSteps.cons ?_ ?_
              · intro u W hS hd K hK
                have h8 : u 8 = _ := (hd 8 rfl).1
                have h10 : u 10 = _ := (hd 10 rfl).1
                clear hd
                simp only [upd, h8, h10, reduceIte, Nat.reduceEqDiff] at hK
                have c0 := (hS.1.row (.head _)).cell 2 rfl
                have c1 := (hS.1.row (.head _)).cell 3 rfl
                go_simp
                exact hK.out _ _ (Below.refl _ _) ⟨rfl, (fun e => absurd e (by decide))⟩
              refine FSteps.cons ?_ ?_
              · intro u W hS hd K hK
                have h8 : u 8 = _ := (hd 8 rfl).1
                have h9 : u 9 = _ := (hd 9 rfl).1
                have h11 : u 11 = _ := (hd 11 rfl).1
                clear hd
                simp only [upd, h8, h9, h11, reduceIte, Nat.reduceEqDiff] at hK
                go_simp
                go_at_call 19
                refine (HLF.out _ hS.1).mono ?_
                rintro e wc ⟨rfl, hb⟩
                exact hK.out _ _ hb ⟨rfl, (fun e => absurd e (by decide))⟩
              refine FSteps.cons ?_ ?_
              · intro u W hS hd K hK
                have h8 : u 8 = _ := (hd 8 rfl).1
                clear hd
                simp only [upd, h8, reduceIte, Nat.reduceEqDiff] at hK
                go_simp
                exact hK.out _ _ (Below.refl _ _) ⟨rfl, (fun e => absurd e (by decide))⟩
              refine FSteps.cons ?_ ?_
              · intro u W hS hd K hK
                have h8 : u 8 = _ := (hd 8 rfl).1
                have h12 : u 12 = _ := (hd 12 rfl).1
                have h13 : u 13 = _ := (hd 13 rfl).1
                clear hd
                simp only [upd, h8, h12, h13, reduceIte, Nat.reduceEqDiff] at hK
                go_simp
                exact hK.out _ _ (Below.refl _ _) ⟨rfl, (fun e => absurd e (by decide))⟩
              refine FSteps.cons ?_ ?_
              · intro u W hS hd K hK
                have h8 : u 8 = _ := (hd 8 rfl).1
                have h14 : u 14 = _ := (hd 14 rfl).1
                clear hd
                simp only [upd, h8, h14, reduceIte, Nat.reduceEqDiff] at hK
                go_simp
                exact hK.out _ _ (Below.refl _ _) ⟨rfl, (fun e => absurd e (by decide))⟩
              refine FSteps.cons ?_ ?_
              · intro u W hS hd K hK
                have h15 : u 15 = _ := (hd 15 rfl).1
                clear hd
                simp only [upd, h15, reduceIte, Nat.reduceEqDiff] at hK
                go_simp
                exact hK.out _ _ (Below.refl _ _) ⟨rfl, (fun e => absurd e (by decide))⟩
              refine FSteps.cons ?_ ?_
              · intro u W hS hd K hK
                have h16 : u 16 = _ := (hd 16 rfl).1
                clear hd
                simp only [upd, h16, reduceIte, Nat.reduceEqDiff] at hK
                go_simp
                exact hK.out _ _ (Below.refl _ _) ⟨rfl, (fun e => absurd e (by decide))⟩
              refine FSteps.cons ?_ ?_
              · intro u W hS hd K hK
                have h16 : u 16 = _ := (hd 16 rfl).1
                have h17 : u 17 = _ := (hd 17 rfl).1
                clear hd
                simp only [upd, h16, h17, reduceIte, Nat.reduceEqDiff] at hK
                go_simp
                go_at_call 18
                refine (HLA.out _ hS.1).mono ?_
                rintro e wc ⟨v, rfl, ho, hb⟩
                exact hK.out _ _ hb ⟨trivial, fun _ => ho⟩
              refine FSteps.cons ?_ ?_
              · intro u W hS hd K hK
                have h16 : u 16 = _ := (hd 16 rfl).1
                obtain ⟨a18, c18, h18⟩ := see_form ((hd 18 rfl).2 (Or.inr rfl)) HLEN2.out
                clear hd
                simp only [upd, h16, h18, reduceIte, Nat.reduceEqDiff] at hK
                go_simp
                exact hK.out _ _ (Below.refl _ _) ⟨rfl, (fun e => absurd e (by decide))⟩
              refine FSteps.cons ?_ ?_
              · intro u W hS hd K hK
                have h16 : u 16 = _ := (hd 16 rfl).1
                have h19 : u 19 = _ := (hd 19 rfl).1
                clear hd
                simp only [upd, h16, h19, reduceIte, Nat.reduceEqDiff] at hK
                have d20 : decide ((32 : Int) < (nT : Int)) = false := decide_eq_false (by omega)
                go_simp
                exact hK.out _ _ (Below.refl _ _) ⟨rfl, (fun e => absurd e (by decide))⟩
              refine FSteps.cons ?_ ?_
              · intro u W hS hd K hK
                have h16 : u 16 = _ := (hd 16 rfl).1
                have h20 : u 20 = _ := (hd 20 rfl).1
                clear hd
                simp only [upd, h16, h20, reduceIte, Nat.reduceEqDiff] at hK
                go_simp
                exact hK.out _ _ (Below.refl _ _) ⟨rfl, (fun e => absurd e (by decide))⟩
              exact trivial
            case hend8 =>
              intro u w6 hS hd
              have h21 : u 21 = _ := (hd 21 rfl).1
              have HP6 := Lib.hid hS.1
              clear hd hS HSA HLA HLF HSM
              rw [h21]
              clear h21
              go_wp2_with fail
              go_roundw
              case rel => exact ⟨j + 1, LT, NT, hlt, by go_num, HNT.out.1, by have := HNT.out.2; omega, Lib.hid ⟨HOKT.out, _, HP6.out.forget⟩⟩
              case measure => simp [intOf]; omega
        by_cases hc3 : yc = 3
        · subst hc3
          have HOKT := Lib.hid (HOK.out.filter (fun t => !numT yn t))
          have HNT := Lib.hid (show 0 ≤ NN ∧ NN ≤ (j : Int) + 1 from by omega)
          have hst : LL.filter (fun t => !numT yn t) = onlyT yn LL := rfl
          rw [hst] at HOKT
          clear hst
          have HPX := Lib.hid (HP.out.box [.int .i64 3, .int .i64 yt, .int .i64 yk, .int .i64 yn] 33)
          go_upto_region 20 with (fail)
          generalize wr.alloc (.cells #[.int .i64 3, .int .i64 yt, .int .i64 yk, .int .i64 yn] 33) = wm at *
          generalize wr.heap.size = m at *
          have HC1 := Lib.hid (fun B W (h : PlO w B p q LL NN (dueL NN LL) [(m, [.int .i64 3, .int .i64 yt, .int .i64 yk, .int .i64 yn])] W) => h.conly HOK.out yn)
          have HC2 := Lib.hid (fun B W (h : PlO w B p q (onlyT yn LL) NN (dueL NN LL) [(m, [.int .i64 3, .int .i64 yt, .int .i64 yk, .int .i64 yn])] W) => h.ronly (by rw [List.length_map]; exact HOK.out.len) yn)
          rw [show onlyT yn (dueL NN LL) = dueL NN (onlyT yn LL) from filter_due NN _ _ LL (fun _ _ => rfl), cnt_due (numT yn) (numT yn) NN LL (fun _ _ => rfl)] at HC2
          generalize onlyT yn LL = LT at *
          generalize cntT (numT yn) LL = rr at *
          clear HP HOK
          refine wp_region_staged (fun _ _ => True) (fun l W => RowAt W m [.int .i64 3, .int .i64 yt, .int .i64 yk, .int .i64 yn] ∧ St2 (∃ B, PlO w B p q LL NN (dueL NN LL) [(m, [.int .i64 3, .int .i64 yt, .int .i64 yk, .int .i64 yn])] W) (∃ B, PlO w B p q LT NN (dueL NN LL) [(m, [.int .i64 3, .int .i64 yt, .int .i64 yk, .int .i64 yn])] W) (∃ B, PlO w B p q LT NN (dueL NN LT) [(m, [.int .i64 3, .int .i64 yt, .int .i64 yk, .int .i64 yn])] W) (l 4) (l 9))
            (fun j' v W => factsOf [.is (.pointer (some ⟨p, 0, none⟩)), .is (.pointer (some ⟨m, 2, none⟩)), .is (.pointer (some ⟨m, 3, none⟩)), .is (.int .i64 yn), .is (.int .i64 rr), .is (.pointer (some ⟨q, 0, none⟩)), .is (.pointer (some ⟨m, 2, none⟩)), .is (.pointer (some ⟨m, 3, none⟩)), .is (.int .i64 yn), .is (.int .i64 rr), .is (.bool false)] j' v W ∧ True)
            (by kernel_rfl) (by kernel_rfl) (fun j' v W W' hR h => ⟨facts_still rfl j' v W W' h.1, trivial⟩) (fun i => [u70, u71, u72, u73, u74, u75, u76, u77, u78, u79, u80].getD i undef) (by kernel_rfl) ⟨(HPX.out.row (.head _)).drew, ⟨_, HPX.out.below ((Below.refl _ _).drew)⟩⟩ ?F9 ?hF9 ?hstep9 ?hend9
          case hF9 =>
            intro u
            simp only [fillAct]
            go_simp
            rfl
          case hstep9 =>
            refine SSteps.cons ?_ ?_
            · intro u W l hS hl hcl hd K hK
              clear hd
              simp only [upd, reduceIte, Nat.reduceEqDiff] at hK
              go_simp
              exact hK.out _ _ trivial ⟨rfl, trivial⟩ hS
            refine SSteps.cons ?_ ?_
            · intro u W l hS hl hcl hd K hK
              clear hd
              simp only [upd, reduceIte, Nat.reduceEqDiff] at hK
              go_simp
              exact hK.out _ _ trivial ⟨rfl, trivial⟩ hS
            refine SSteps.cons ?_ ?_
            · intro u W l hS hl hcl hd K hK
              have h1 : u 1 = _ := (hd 1 rfl).2.1
              clear hd
              simp only [upd, h1, reduceIte, Nat.reduceEqDiff] at hK
              go_simp
              exact hK.out _ _ trivial ⟨rfl, trivial⟩ hS
            refine SSteps.cons ?_ ?_
            · intro u W l hS hl hcl hd K hK
              have h2 : u 2 = _ := (hd 2 rfl).2.1
              clear hd
              simp only [upd, h2, reduceIte, Nat.reduceEqDiff] at hK
              have c0 := hS.1.cell 3 rfl
              go_simp
              exact hK.out _ _ trivial ⟨rfl, trivial⟩ hS
            refine SSteps.cons ?_ ?_
            · intro u W l hS hl hcl hd K hK
              have h0 : u 0 = _ := (hd 0 rfl).2.1
              have h3 : u 3 = _ := (hd 3 rfl).2.1
              clear hd
              simp only [upd, h0, h3, reduceIte, Nat.reduceEqDiff] at hK
              obtain ⟨B1, hP⟩ := St2.zero hS.2 hl
              have h9 := not_yet hcl 4 9 hl (by kernel_rfl)
              go_simp
              go_at_call 15
              refine (HC1.out _ _ hP).mono ?_
              rintro e wc ⟨rfl, hp⟩
              exact hK.out _ _ trivial ⟨rfl, trivial⟩ ⟨hp.row (.head _), St2.one ⟨_, hp⟩ h9⟩
            refine SSteps.cons ?_ ?_
            · intro u W l hS hl hcl hd K hK
              clear hd
              simp only [upd, reduceIte, Nat.reduceEqDiff] at hK
              go_simp
              exact hK.out _ _ trivial ⟨rfl, trivial⟩ hS
            refine SSteps.cons ?_ ?_
            · intro u W l hS hl hcl hd K hK
              clear hd
              simp only [upd, reduceIte, Nat.reduceEqDiff] at hK
              go_simp
              exact hK.out _ _ trivial ⟨rfl, trivial⟩ hS
            refine SSteps.cons ?_ ?_
            · intro u W l hS hl hcl hd K hK
              have h6 : u 6 = _ := (hd 6 rfl).2.1
              clear hd
              simp only [upd, h6, reduceIte, Nat.reduceEqDiff] at hK
              go_simp
              exact hK.out _ _ trivial ⟨rfl, trivial⟩ hS
            refine SSteps.cons ?_ ?_
            · intro u W l hS hl hcl hd K hK
              have h7 : u 7 = _ := (hd 7 rfl).2.1
              clear hd
              simp only [upd, h7, reduceIte, Nat.reduceEqDiff] at hK
              have c0 := hS.1.cell 3 rfl
              go_simp
              exact hK.out _ _ trivial ⟨rfl, trivial⟩ hS
            refine SSteps.cons ?_ ?_
            · intro u W l hS hl hcl hd K hK
              have h5 : u 5 = _ := (hd 5 rfl).2.1
              have h8 : u 8 = _ := (hd 8 rfl).2.1
              obtain ⟨g4, h4⟩ : l 4 = true ∧ u 4 = .int .i64 rr := ⟨(hd 4 rfl).1, (hd 4 rfl).2.1⟩
              clear hd
              simp only [upd, h5, h8, h4, reduceIte, Nat.reduceEqDiff] at hK
              obtain ⟨B1, hP⟩ := St2.mid hS.2 g4 hl
              go_simp
              go_at_call 16
              refine (HC2.out _ _ hP).mono ?_
              rintro e wc ⟨rfl, hp⟩
              exact hK.out _ _ trivial ⟨rfl, trivial⟩ ⟨hp.row (.head _), St2.fin2 ⟨_, hp⟩ g4⟩
            refine SSteps.cons ?_ ?_
            · intro u W l hS hl hcl hd K hK
              have h4 : u 4 = _ := (hd 4 rfl).2.1
              have h9 : u 9 = _ := (hd 9 rfl).2.1
              clear hd
              simp only [upd, h4, h9, reduceIte, Nat.reduceEqDiff] at hK
              go_simp
              exact hK.out _ _ trivial ⟨rfl, trivial⟩ hS
            exact trivial

          case hend9 =>
            intro u w6 l hall hS hd
            have h10 : u 10 = _ := (hd 10 rfl).1
            have HPT := Lib.hid (St2.fin hS.2 (hall 4 rfl) (hall 9 rfl))
            clear hd hS hall HPX HC1 HC2
            rw [h10]
            clear h10
            obtain ⟨BT, hPT⟩ := HPT.out
            have HPB := Lib.hid hPT
            have b2 := (hPT.row (.head _)).cell 2 rfl
            have b3 := (hPT.row (.head _)).cell 3 rfl
            have hdl : (dueL NN LT).length = LT.length := List.length_map _
            have hl32 := HOKT.out.len
            have HAT := Lib.hid (hPT.rat (by omega) yk yn)
            rw [atF_due] at HAT
            obtain ⟨ta, tc, hrw, how⟩ := hPT.lay
            rw [hdl] at hrw how
            have HRW := Lib.hid (And.intro hrw how)
            have HLA := Lib.hid (fun W (h : PlO w BT p q LT NN (dueL NN LT) [(m, [.int .i64 3, .int .i64 yt, .int .i64 yk, .int .i64 yn])] W) => h.call HOKT.out)
            have HLF := Lib.hid (fun W (h : PlO w BT p q LT NN (dueL NN LT) [(m, [.int .i64 3, .int .i64 yt, .int .i64 yk, .int .i64 yn])] W) => h.cleft HOKT.out ⟨yk, yn⟩)
            have HSM := Lib.hid (fun v W (h1 : SeeL encN W v (LT.map Tm.nm)) (h2 : OwnD W (.slice ta LT.length tc) (dueL NN LT)) => csame_yes v _ (dueL NN LT) W ((due_nm NN LT).symm ▸ h1) h2.see (by omega))
            have HLD := Lib.hid (left_due (L := LT) ⟨yk, yn⟩ 0 (Int.le_refl 0))
            have HLS := Lib.hid (atF_spec ⟨yk, yn⟩ LT 0)
            simp only at HLF
            obtain ⟨nT, hnT⟩ : ∃ nT, LT.length = nT := ⟨_, rfl⟩
            rw [hnT] at HRW HSM hl32
            have HLEN2 := Lib.hid hnT
            obtain ⟨ix, hix⟩ : ∃ ix, atF ⟨yk, yn⟩ LT 0 = ix := ⟨_, rfl⟩
            rw [hix] at HAT HLD HLS
            clear hPT HPT hdl hrw how hnT hix
            by_cases hat : ix < 0
            · have hi1 : ix = -1 := by
                rcases HLS.out with ⟨e, -⟩ | ⟨A, t, Z, -, e, -⟩
                · exact e
                · omega
              have hlf := HLD.out.1 hat
              subst hi1
              rw [hlf] at HLF
              clear HLD HLS hlf hat
              go_upto_region 26 with (go_at_call 17; (with_reducible refine HAT.out.mono ?_); rintro e wa ⟨rfl, hb⟩; have HBA := Lib.hid hb; clear hb b2 b3)
              have HSA := Lib.hid (And.intro (HPB.out.below HBA.out) (And.intro (HRW.out.1.below HBA.out) (HRW.out.2.below HBA.out)))
              clear HPB HAT HRW HBA
              refine wp_region_facts (fun W W' => Below W.heap.size W W') (fun W => PlO w BT p q LT NN (dueL NN LT) [(m, [.int .i64 3, .int .i64 yt, .int .i64 yk, .int .i64 yn])] W ∧ RowAt W q [.int .i64 NN, .slice ta nT tc] ∧ OwnD W (.slice ta nT tc) (dueL NN LT))
                (fun j' v W => factsOf [.is (.pointer (some ⟨p, 0, none⟩)), .any, .is (.pointer (some ⟨q, 0, none⟩)), .is (.pointer (some ⟨q, 0, none⟩)), .is (.pointer (some ⟨q, 1, none⟩)), .is (.slice ta nT tc), .is (.bool true), .is (.bool false), .is (.bool false), .is (.pointer (some ⟨p, 0, none⟩)), .is (.pointer (some ⟨m, 2, none⟩)), .is (.agg #[.int .i64 yk, .int .i64 yn]), .is (.int .i64 0), .is (.int .i64 0), .is (.bool false), .is (.bool false), .is (.bool false), .is (.pointer (some ⟨p, 0, none⟩)), .any, .is (.int .i64 nT), .is (.bool false), .is (.bool false)] j' v W ∧ (j' = 1 ∨ j' = 18 → SeeL encN W v (LT.map Tm.nm)))
                (by kernel_rfl) (by kernel_rfl) (fun j' v W W' hb h => ⟨facts_stay _ j' v W W' hb h.1, fun e => (h.2 e).below hb⟩) (fun W W' hb h => ⟨h.1.below hb, h.2.1.below hb, h.2.2.below hb⟩) (fun i => [u104, u105, u106, u107, u108, u109, u110, u111, u112, u113, u114, u115, u116, u117, u118, u119, u120, u121, u122, u123, u124, u125].getD i undef) (by kernel_rfl) ⟨HSA.out.1.below ((Below.refl _ _).drew), HSA.out.2.1.below ((Below.refl _ _).drew), HSA.out.2.2.below ((Below.refl _ _).drew)⟩ ?F10 ?hF10 ?hstep10 ?hend10
              case hF10 =>
                intro u
                simp only [fillAct]
                go_simp
                rfl
              case hstep10 =>
                clear HSA
                refine FSteps.cons ?_ ?_
                · intro u W hS hd K hK
                  clear hd
                  simp only [upd, reduceIte, Nat.reduceEqDiff] at hK
                  go_simp
                  exact hK.out _ _ (Below.refl _ _) ⟨rfl, (fun e => absurd e (by decide))⟩
                refine FSteps.cons ?_ ?_
                · intro u W hS hd K hK
                  have h0 : u 0 = _ := (hd 0 rfl).1
                  clear hd
                  simp only [upd, h0, reduceIte, Nat.reduceEqDiff] at hK
                  go_simp
                  go_at_call 18
                  refine (HLA.out _ hS.1).mono ?_
                  rintro e wc ⟨v, rfl, ho, hb⟩
                  exact hK.out _ _ hb ⟨trivial, fun _ => ho⟩
                refine FSteps.cons ?_ ?_
                · intro u W hS hd K hK
                  clear hd
                  simp only [upd, reduceIte, Nat.reduceEqDiff] at hK
                  go_simp
                  exact hK.out _ _ (Below.refl _ _) ⟨rfl, (fun e => absurd e (by decide))⟩
                refine FSteps.cons ?_ ?_
                · intro u W hS hd K hK
                  have h2 : u 2 = _ := (hd 2 rfl).1
                  clear hd
                  simp only [upd, h2, reduceIte, Nat.reduceEqDiff] at hK
                  go_simp
                  exact hK.out _ _ (Below.refl _ _) ⟨rfl, (fun e => absurd e (by decide))⟩
                refine FSteps.cons ?_ ?_
                · intro u W hS hd K hK
                  have h3 : u 3 = _ := (hd 3 rfl).1
                  clear hd
                  simp only [upd, h3, reduceIte, Nat.reduceEqDiff] at hK
                  go_simp
                  exact hK.out _ _ (Below.refl _ _) ⟨rfl, (fun e => absurd e (by decide))⟩
                refine FSteps.cons ?_ ?_
                · intro u W hS hd K hK
                  have h4 : u 4 = _ := (hd 4 rfl).1
                  clear hd
                  simp only [upd, h4, reduceIte, Nat.reduceEqDiff] at hK
                  have c0 := hS.2.1.cell 1 rfl
                  go_simp
                  exact hK.out _ _ (Below.refl _ _) ⟨rfl, (fun e => absurd e (by decide))⟩
                refine FSteps.cons ?_ ?_
                · intro u W hS hd K hK
                  have h5 : u 5 = _ := (hd 5 rfl).1
                  obtain ⟨v1, h1, A1⟩ : ∃ v1, u 1 = v1 ∧ SeeL encN W v1 (LT.map Tm.nm) := ⟨_, rfl, (hd 1 rfl).2 (Or.inl rfl)⟩
                  clear hd
                  simp only [upd, h5, h1, reduceIte, Nat.reduceEqDiff] at hK
                  go_simp
                  go_at_call 12
                  refine (HSM.out _ _ A1 hS.2.2).mono ?_
                  rintro e wc ⟨rfl, hb⟩
                  exact hK.out _ _ hb ⟨rfl, (fun e => absurd e (by decide))⟩
                refine FSteps.cons ?_ ?_
                · intro u W hS hd K hK
                  have h6 : u 6 = _ := (hd 6 rfl).1
                  clear hd
                  simp only [upd, h6, reduceIte, Nat.reduceEqDiff] at hK
                  go_simp
                  exact hK.out _ _ (Below.refl _ _) ⟨rfl, (fun e => absurd e (by decide))⟩
                refine FSteps.cons ?_ ?_
                · intro u W hS hd K hK
                  have h7 : u 7 = _ := (hd 7 rfl).1
                  clear hd
                  simp only [upd, h7, reduceIte, Nat.reduceEqDiff] at hK
                  go_simp
                  exact hK.out _ _ (Below.refl _ _) ⟨rfl, (fun e => absurd e (by decide))⟩
                refine FSteps.cons ?_ ?_
                · intro u W hS hd K hK
                  have h8 : u 8 = _ := (hd 8 rfl).1
                  clear hd
                  simp only [upd, h8, reduceIte, Nat.reduceEqDiff] at hK
                  go_simp
                  exact hK.out _ _ (Below.refl _ _) ⟨rfl, (fun e => absurd e (by decide))⟩
                refine FSteps.cons ?_ ?_
                · intro u W hS hd K hK
                  have h8 : u 8 = _ := (hd 8 rfl).1
                  clear hd
                  simp only [upd, h8, reduceIte, Nat.reduceEqDiff] at hK
                  go_simp
                  exact hK.out _ _ (Below.refl _ _) ⟨rfl, (fun e => absurd e (by decide))⟩
                refine FSteps.cons ?_ ?_
                · intro u W hS hd K hK
                  have h8 : u 8 = _ := (hd 8 rfl).1
                  have h10 : u 10 = _ := (hd 10 rfl).1
                  clear hd
                  simp only [upd, h8, h10, reduceIte, Nat.reduceEqDiff] at hK
                  have c0 := (hS.1.row (.head _)).cell 2 rfl
                  have c1 := (hS.1.row (.head _)).cell 3 rfl
                  go_simp
                  exact hK.out _ _ (Below.refl _ _) ⟨rfl, (fun e => absurd e (by decide))⟩
                refine FSteps.cons ?_ ?_
                · intro u W hS hd K hK
                  have h8 : u 8 = _ := (hd 8 rfl).1
                  have h9 : u 9 = _ := (hd 9 rfl).1
                  have h11 : u 11 = _ := (hd 11 rfl).1
                  clear hd
                  simp only [upd, h8, h9, h11, reduceIte, Nat.reduceEqDiff] at hK
                  go_simp
                  go_at_call 19
                  refine (HLF.out _ hS.1).mono ?_
                  rintro e wc ⟨rfl, hb⟩
                  exact hK.out _ _ hb ⟨rfl, (fun e => absurd e (by decide))⟩
                refine FSteps.cons ?_ ?_
                · intro u W hS hd K hK
                  have h8 : u 8 = _ := (hd 8 rfl).1
                  clear hd
                  simp only [upd, h8, reduceIte, Nat.reduceEqDiff] at hK
                  go_simp
                  exact hK.out _ _ (Below.refl _ _) ⟨rfl, (fun e => absurd e (by decide))⟩
                refine FSteps.cons ?_ ?_
                · intro u W hS hd K hK
                  have h8 : u 8 = _ := (hd 8 rfl).1
                  have h12 : u 12 = _ := (hd 12 rfl).1
                  have h13 : u 13 = _ := (hd 13 rfl).1
                  clear hd
                  simp only [upd, h8, h12, h13, reduceIte, Nat.reduceEqDiff] at hK
                  go_simp
                  exact hK.out _ _ (Below.refl _ _) ⟨rfl, (fun e => absurd e (by decide))⟩
                refine FSteps.cons ?_ ?_
                · intro u W hS hd K hK
                  have h8 : u 8 = _ := (hd 8 rfl).1
                  have h14 : u 14 = _ := (hd 14 rfl).1
                  clear hd
                  simp only [upd, h8, h14, reduceIte, Nat.reduceEqDiff] at hK
                  go_simp
                  exact hK.out _ _ (Below.refl _ _) ⟨rfl, (fun e => absurd e (by decide))⟩
                refine FSteps.cons ?_ ?_
                · intro u W hS hd K hK
                  have h15 : u 15 = _ := (hd 15 rfl).1
                  clear hd
                  simp only [upd, h15, reduceIte, Nat.reduceEqDiff] at hK
                  go_simp
                  exact hK.out _ _ (Below.refl _ _) ⟨rfl, (fun e => absurd e (by decide))⟩
                refine FSteps.cons ?_ ?_
                · intro u W hS hd K hK
                  have h16 : u 16 = _ := (hd 16 rfl).1
                  clear hd
                  simp only [upd, h16, reduceIte, Nat.reduceEqDiff] at hK
                  go_simp
                  exact hK.out _ _ (Below.refl _ _) ⟨rfl, (fun e => absurd e (by decide))⟩
                refine FSteps.cons ?_ ?_
                · intro u W hS hd K hK
                  have h16 : u 16 = _ := (hd 16 rfl).1
                  have h17 : u 17 = _ := (hd 17 rfl).1
                  clear hd
                  simp only [upd, h16, h17, reduceIte, Nat.reduceEqDiff] at hK
                  go_simp
                  go_at_call 18
                  refine (HLA.out _ hS.1).mono ?_
                  rintro e wc ⟨v, rfl, ho, hb⟩
                  exact hK.out _ _ hb ⟨trivial, fun _ => ho⟩
                refine FSteps.cons ?_ ?_
                · intro u W hS hd K hK
                  have h16 : u 16 = _ := (hd 16 rfl).1
                  obtain ⟨a18, c18, h18⟩ := see_form ((hd 18 rfl).2 (Or.inr rfl)) HLEN2.out
                  clear hd
                  simp only [upd, h16, h18, reduceIte, Nat.reduceEqDiff] at hK
                  go_simp
                  exact hK.out _ _ (Below.refl _ _) ⟨rfl, (fun e => absurd e (by decide))⟩
                refine FSteps.cons ?_ ?_
                · intro u W hS hd K hK
                  have h16 : u 16 = _ := (hd 16 rfl).1
                  have h19 : u 19 = _ := (hd 19 rfl).1
                  clear hd
                  simp only [upd, h16, h19, reduceIte, Nat.reduceEqDiff] at hK
                  have d20 : decide ((32 : Int) < (nT : Int)) = false := decide_eq_false (by omega)
                  go_simp
                  exact hK.out _ _ (Below.refl _ _) ⟨rfl, (fun e => absurd e (by decide))⟩
                refine FSteps.cons ?_ ?_
                · intro u W hS hd K hK
                  have h16 : u 16 = _ := (hd 16 rfl).1
                  have h20 : u 20 = _ := (hd 20 rfl).1
                  clear hd
                  simp only [upd, h16, h20, reduceIte, Nat.reduceEqDiff] at hK
                  go_simp
                  exact hK.out _ _ (Below.refl _ _) ⟨rfl, (fun e => absurd e (by decide))⟩
                exact trivial
              case hend10 =>
                intro u w6 hS hd
                have h21 : u 21 = _ := (hd 21 rfl).1
                have HP6 := Lib.hid hS.1
                clear hd hS HSA HLA HLF HSM
                rw [h21]
                clear h21
                go_wp2_with fail
                go_roundw
                case rel => exact ⟨j + 1, LT, NN, hlt, by go_num, HNT.out.1, by have := HNT.out.2; omega, Lib.hid ⟨HOKT.out, _, HP6.out.forget⟩⟩
                case measure => simp [intOf]; omega
            · obtain ⟨A, t, Z, eL, eix, hlf⟩ := HLD.out.2 (by omega)
              obtain ⟨i, hi⟩ : ∃ i, A.length = i := ⟨_, rfl⟩
              have hxi : ix = (i : Int) := by omega
              subst hxi
              rw [hlf] at HLF
              have hD : (dueL NN LT)[i]? = some (addT NN t) := by
                rw [eL, ← hi]
                simp [dueL]
              have hin : i < nT := by
                rw [← HLEN2.out, eL, List.length_append, List.length_cons]
                omega
              have htl := HOKT.out.left t (by rw [eL]; simp)
              clear HLD HLS hlf hat eL eix hi
              have hDi : i < (dueL NN LT).length := by rw [List.length_map, HLEN2.out]; exact hin
              have hDe : (dueL NN LT)[i] = addT NN t := by
                rw [List.getElem?_eq_getElem hDi] at hD
                exact Option.some.inj hD
              obtain ⟨tk, tn, tl⟩ := t
              simp only at htl HLF
              obtain ⟨d, hd0⟩ : ∃ d, NN + tl = d := ⟨_, rfl⟩
              have z1 : wrap64 (d - NN) = tl := by
                have h0 := HNT.out
                rw [← IntWalk.i64_left, ← hd0]
                rw [show NN + tl - NN = tl by omega]
                exact i64_near _ (by omega) (by omega)
              have HX := Lib.hid (fun W (h : OwnD W (.slice ta nT tc) (dueL NN LT)) (g : Nat) (e : ta = some ⟨g, 0, none⟩) => show W.cell? ⟨g, i * 3 + 2, none⟩ = some (.int .i64 d) from by
                subst e
                have := (OwnL.get3 h i hDi).2.2
                rw [hDe] at this
                rw [← hd0]
                exact this)
              clear hD hDe hd0 htl
              obtain ⟨g, c9, hv9, -, hg9, -⟩ := HRW.out.2.some_ (by omega)
              simp only [Value.slice.injEq] at hv9
              have hta := hv9.1
              subst hta
              clear hv9 hg9
              go_upto_region 25 with (go_at_call 17; (with_reducible refine HAT.out.mono ?_); rintro e wa ⟨rfl, hb⟩; have HBA := Lib.hid hb; clear hb b2 b3)
              have HSA := Lib.hid (And.intro (HPB.out.below HBA.out) (And.intro (HRW.out.1.below HBA.out) (HRW.out.2.below HBA.out)))
              clear HPB HAT HRW HBA
              have q0 := HSA.out.2.1.cell 0 rfl
              have q1 := HSA.out.2.1.cell 1 rfl
              have q2 := HX.out _ HSA.out.2.2 g rfl
              go_quiet (fail)
              go_upto_region 26 with (fail)
              rw [z1]
              clear q0 q1 q2 HX z1 hDi hin
              have HSB := Lib.hid (fun nq => And.intro (HSA.out.1.below (belowN (Below.refl _ _) nq)) (And.intro (HSA.out.2.1.below (belowN (Below.refl _ _) nq)) (HSA.out.2.2.below (belowN (Below.refl _ _) nq))))
              clear HSA
              have HSA := HSB
              refine wp_region_facts (fun W W' => Below W.heap.size W W') (fun W => PlO w BT p q LT NN (dueL NN LT) [(m, [.int .i64 3, .int .i64 yt, .int .i64 yk, .int .i64 yn])] W ∧ RowAt W q [.int .i64 NN, .slice (some ⟨g, 0, none⟩) nT tc] ∧ OwnD W (.slice (some ⟨g, 0, none⟩) nT tc) (dueL NN LT))
                (fun j' v W => factsOf [.is (.pointer (some ⟨p, 0, none⟩)), .any, .is (.pointer (some ⟨q, 0, none⟩)), .is (.pointer (some ⟨q, 0, none⟩)), .is (.pointer (some ⟨q, 1, none⟩)), .is (.slice (some ⟨g, 0, none⟩) nT tc), .is (.bool true), .is (.bool false), .is (.bool false), .is (.pointer (some ⟨p, 0, none⟩)), .is (.pointer (some ⟨m, 2, none⟩)), .is (.agg #[.int .i64 yk, .int .i64 yn]), .is (.int .i64 tl), .is (.int .i64 tl), .is (.bool false), .is (.bool false), .is (.bool false), .is (.pointer (some ⟨p, 0, none⟩)), .any, .is (.int .i64 nT), .is (.bool false), .is (.bool false)] j' v W ∧ (j' = 1 ∨ j' = 18 → SeeL encN W v (LT.map Tm.nm)))
                (by kernel_rfl) (by kernel_rfl) (fun j' v W W' hb h => ⟨facts_stay _ j' v W W' hb h.1, fun e => (h.2 e).below hb⟩) (fun W W' hb h => ⟨h.1.below hb, h.2.1.below hb, h.2.2.below hb⟩) (fun i => [u104, u105, u106, u107, u108, u109, u110, u111, u112, u113, u114, u115, u116, u117, u118, u119, u120, u121, u122, u123, u124, u125].getD i undef) (by kernel_rfl) ⟨(HSA.out _).1.below ((Below.refl _ _).drew), (HSA.out _).2.1.below ((Below.refl _ _).drew), (HSA.out _).2.2.below ((Below.refl _ _).drew)⟩ ?F11 ?hF11 ?hstep11 ?hend11
              case hF11 =>
                intro u
                simp only [fillAct]
                go_simp
                rfl
              case hstep11 =>
                clear HSA
                refine FSteps.cons ?_ ?_
                · intro u W hS hd K hK
                  clear hd
                  simp only [upd, reduceIte, Nat.reduceEqDiff] at hK
                  go_simp
                  exact hK.out _ _ (Below.refl _ _) ⟨rfl, (fun e => absurd e (by decide))⟩
                refine FSteps.cons ?_ ?_
                · intro u W hS hd K hK
                  have h0 : u 0 = _ := (hd 0 rfl).1
                  clear hd
                  simp only [upd, h0, reduceIte, Nat.reduceEqDiff] at hK
                  go_simp
                  go_at_call 18
                  refine (HLA.out _ hS.1).mono ?_
                  rintro e wc ⟨v, rfl, ho, hb⟩
                  exact hK.out _ _ hb ⟨trivial, fun _ => ho⟩
                refine FSteps.cons ?_ ?_
                · intro u W hS hd K hK
                  clear hd
                  simp only [upd, reduceIte, Nat.reduceEqDiff] at hK
                  go_simp
                  exact hK.out _ _ (Below.refl _ _) ⟨rfl, (fun e => absurd e (by decide))⟩
                refine FSteps.cons ?_ ?_
                · intro u W hS hd K hK
                  have h2 : u 2 = _ := (hd 2 rfl).1
                  clear hd
                  simp only [upd, h2, reduceIte, Nat.reduceEqDiff] at hK
                  go_simp
                  exact hK.out _ _ (Below.refl _ _) ⟨rfl, (fun e => absurd e (by decide))⟩
                refine FSteps.cons ?_ ?_
                · intro u W hS hd K hK
                  have h3 : u 3 = _ := (hd 3 rfl).1
                  clear hd
                  simp only [upd, h3, reduceIte, Nat.reduceEqDiff] at hK
                  go_simp
                  exact hK.out _ _ (Below.refl _ _) ⟨rfl, (fun e => absurd e (by decide))⟩
                refine FSteps.cons ?_ ?_
                · intro u W hS hd K hK
                  have h4 : u 4 = _ := (hd 4 rfl).1
                  clear hd
                  simp only [upd, h4, reduceIte, Nat.reduceEqDiff] at hK
                  have c0 := hS.2.1.cell 1 rfl
                  go_simp
                  exact hK.out _ _ (Below.refl _ _) ⟨rfl, (fun e => absurd e (by decide))⟩
                refine FSteps.cons ?_ ?_
                · intro u W hS hd K hK
                  have h5 : u 5 = _ := (hd 5 rfl).1
                  obtain ⟨v1, h1, A1⟩ : ∃ v1, u 1 = v1 ∧ SeeL encN W v1 (LT.map Tm.nm) := ⟨_, rfl, (hd 1 rfl).2 (Or.inl rfl)⟩
                  clear hd
                  simp only [upd, h5, h1, reduceIte, Nat.reduceEqDiff] at hK
                  go_simp
                  go_at_call 12
                  refine (HSM.out _ _ A1 hS.2.2).mono ?_
                  rintro e wc ⟨rfl, hb⟩
                  exact hK.out _ _ hb ⟨rfl, (fun e => absurd e (by decide))⟩
                refine FSteps.cons ?_ ?_
                · intro u W hS hd K hK
                  have h6 : u 6 = _ := (hd 6 rfl).1
                  clear hd
                  simp only [upd, h6, reduceIte, Nat.reduceEqDiff] at hK
                  go_simp
                  exact hK.out _ _ (Below.refl _ _) ⟨rfl, (fun e => absurd e (by decide))⟩
                refine FSteps.cons ?_ ?_
                · intro u W hS hd K hK
                  have h7 : u 7 = _ := (hd 7 rfl).1
                  clear hd
                  simp only [upd, h7, reduceIte, Nat.reduceEqDiff] at hK
                  go_simp
                  exact hK.out _ _ (Below.refl _ _) ⟨rfl, (fun e => absurd e (by decide))⟩
                refine FSteps.cons ?_ ?_
                · intro u W hS hd K hK
                  have h8 : u 8 = _ := (hd 8 rfl).1
                  clear hd
                  simp only [upd, h8, reduceIte, Nat.reduceEqDiff] at hK
                  go_simp
                  exact hK.out _ _ (Below.refl _ _) ⟨rfl, (fun e => absurd e (by decide))⟩
                refine FSteps.cons ?_ ?_
                · intro u W hS hd K hK
                  have h8 : u 8 = _ := (hd 8 rfl).1
                  clear hd
                  simp only [upd, h8, reduceIte, Nat.reduceEqDiff] at hK
                  go_simp
                  exact hK.out _ _ (Below.refl _ _) ⟨rfl, (fun e => absurd e (by decide))⟩
                refine FSteps.cons ?_ ?_
                · intro u W hS hd K hK
                  have h8 : u 8 = _ := (hd 8 rfl).1
                  have h10 : u 10 = _ := (hd 10 rfl).1
                  clear hd
                  simp only [upd, h8, h10, reduceIte, Nat.reduceEqDiff] at hK
                  have c0 := (hS.1.row (.head _)).cell 2 rfl
                  have c1 := (hS.1.row (.head _)).cell 3 rfl
                  go_simp
                  exact hK.out _ _ (Below.refl _ _) ⟨rfl, (fun e => absurd e (by decide))⟩
                refine FSteps.cons ?_ ?_
                · intro u W hS hd K hK
                  have h8 : u 8 = _ := (hd 8 rfl).1
                  have h9 : u 9 = _ := (hd 9 rfl).1
                  have h11 : u 11 = _ := (hd 11 rfl).1
                  clear hd
                  simp only [upd, h8, h9, h11, reduceIte, Nat.reduceEqDiff] at hK
                  go_simp
                  go_at_call 19
                  refine (HLF.out _ hS.1).mono ?_
                  rintro e wc ⟨rfl, hb⟩
                  exact hK.out _ _ hb ⟨rfl, (fun e => absurd e (by decide))⟩
                refine FSteps.cons ?_ ?_
                · intro u W hS hd K hK
                  have h8 : u 8 = _ := (hd 8 rfl).1
                  clear hd
                  simp only [upd, h8, reduceIte, Nat.reduceEqDiff] at hK
                  go_simp
                  exact hK.out _ _ (Below.refl _ _) ⟨rfl, (fun e => absurd e (by decide))⟩
                refine FSteps.cons ?_ ?_
                · intro u W hS hd K hK
                  have h8 : u 8 = _ := (hd 8 rfl).1
                  have h12 : u 12 = _ := (hd 12 rfl).1
                  have h13 : u 13 = _ := (hd 13 rfl).1
                  clear hd
                  simp only [upd, h8, h12, h13, reduceIte, Nat.reduceEqDiff] at hK
                  go_simp
                  exact hK.out _ _ (Below.refl _ _) ⟨rfl, (fun e => absurd e (by decide))⟩
                refine FSteps.cons ?_ ?_
                · intro u W hS hd K hK
                  have h8 : u 8 = _ := (hd 8 rfl).1
                  have h14 : u 14 = _ := (hd 14 rfl).1
                  clear hd
                  simp only [upd, h8, h14, reduceIte, Nat.reduceEqDiff] at hK
                  go_simp
                  exact hK.out _ _ (Below.refl _ _) ⟨rfl, (fun e => absurd e (by decide))⟩
                refine FSteps.cons ?_ ?_
                · intro u W hS hd K hK
                  have h15 : u 15 = _ := (hd 15 rfl).1
                  clear hd
                  simp only [upd, h15, reduceIte, Nat.reduceEqDiff] at hK
                  go_simp
                  exact hK.out _ _ (Below.refl _ _) ⟨rfl, (fun e => absurd e (by decide))⟩
                refine FSteps.cons ?_ ?_
                · intro u W hS hd K hK
                  have h16 : u 16 = _ := (hd 16 rfl).1
                  clear hd
                  simp only [upd, h16, reduceIte, Nat.reduceEqDiff] at hK
                  go_simp
                  exact hK.out _ _ (Below.refl _ _) ⟨rfl, (fun e => absurd e (by decide))⟩
                refine FSteps.cons ?_ ?_
                · intro u W hS hd K hK
                  have h16 : u 16 = _ := (hd 16 rfl).1
                  have h17 : u 17 = _ := (hd 17 rfl).1
                  clear hd
                  simp only [upd, h16, h17, reduceIte, Nat.reduceEqDiff] at hK
                  go_simp
                  go_at_call 18
                  refine (HLA.out _ hS.1).mono ?_
                  rintro e wc ⟨v, rfl, ho, hb⟩
                  exact hK.out _ _ hb ⟨trivial, fun _ => ho⟩
                refine FSteps.cons ?_ ?_
                · intro u W hS hd K hK
                  have h16 : u 16 = _ := (hd 16 rfl).1
                  obtain ⟨a18, c18, h18⟩ := see_form ((hd 18 rfl).2 (Or.inr rfl)) HLEN2.out
                  clear hd
                  simp only [upd, h16, h18, reduceIte, Nat.reduceEqDiff] at hK
                  go_simp
                  exact hK.out _ _ (Below.refl _ _) ⟨rfl, (fun e => absurd e (by decide))⟩
                refine FSteps.cons ?_ ?_
                · intro u W hS hd K hK
                  have h16 : u 16 = _ := (hd 16 rfl).1
                  have h19 : u 19 = _ := (hd 19 rfl).1
                  clear hd
                  simp only [upd, h16, h19, reduceIte, Nat.reduceEqDiff] at hK
                  have d20 : decide ((32 : Int) < (nT : Int)) = false := decide_eq_false (by omega)
                  go_simp
                  exact hK.out _ _ (Below.refl _ _) ⟨rfl, (fun e => absurd e (by decide))⟩
                refine FSteps.cons ?_ ?_
                · intro u W hS hd K hK
                  have h16 : u 16 = _ := (hd 16 rfl).1
                  have h20 : u 20 = _ := (hd 20 rfl).1
                  clear hd
                  simp only [upd, h16, h20, reduceIte, Nat.reduceEqDiff] at hK
                  go_simp
                  exact hK.out _ _ (Below.refl _ _) ⟨rfl, (fun e => absurd e (by decide))⟩
                exact trivial
              case hend11 =>
                intro u w6 hS hd
                have h21 : u 21 = _ := (hd 21 rfl).1
                have HP6 := Lib.hid hS.1
                clear hd hS HSA HLA HLF HSM
                rw [h21]
                clear h21
                go_wp2_with fail
                go_roundw
                case rel => exact ⟨j + 1, LT, NN, hlt, by go_num, HNT.out.1, by have := HNT.out.2; omega, Lib.hid ⟨HOKT.out, _, HP6.out.forget⟩⟩
                case measure => simp [intOf]; omega
        have dc0 : (yc == 0) = false := by simpa using hc0
        have dc1 : (yc == 1) = false := by simpa using hc1
        have dc2 : (yc == 2) = false := by simpa using hc2
        have dc3 : (yc == 3) = false := by simpa using hc3
        clear hc0 hc1 hc2 hc3
        have HOKT := HOK
        have HNT := Lib.hid (show 0 ≤ NN ∧ NN ≤ (j : Int) + 1 from by omega)
        have HPX := Lib.hid (HP.out.box [.int .i64 yc, .int .i64 yt, .int .i64 yk, .int .i64 yn] 33)
        go_upto_region 23 with (fail)
        generalize wr.alloc (.cells #[.int .i64 yc, .int .i64 yt, .int .i64 yk, .int .i64 yn] 33) = wm at *
        generalize wr.heap.size = m at *
        have HPT := Lib.hid (show ∃ B, PlO w B p q LL NN (dueL NN LL) [(m, [.int .i64 yc, .int .i64 yt, .int .i64 yk, .int .i64 yn])] wm from ⟨_, HPX.out⟩)
        clear HP HOK HPX
        obtain ⟨BT, hPT⟩ := HPT.out
        have HPB := Lib.hid hPT
        have b2 := (hPT.row (.head _)).cell 2 rfl
        have b3 := (hPT.row (.head _)).cell 3 rfl
        have hdl : (dueL NN LL).length = LL.length := List.length_map _
        have hl32 := HOKT.out.len
        have HAT := Lib.hid (hPT.rat (by omega) yk yn)
        rw [atF_due] at HAT
        obtain ⟨ta, tc, hrw, how⟩ := hPT.lay
        rw [hdl] at hrw how
        have HRW := Lib.hid (And.intro hrw how)
        have HLA := Lib.hid (fun W (h : PlO w BT p q LL NN (dueL NN LL) [(m, [.int .i64 yc, .int .i64 yt, .int .i64 yk, .int .i64 yn])] W) => h.call HOKT.out)
        have HLF := Lib.hid (fun W (h : PlO w BT p q LL NN (dueL NN LL) [(m, [.int .i64 yc, .int .i64 yt, .int .i64 yk, .int .i64 yn])] W) => h.cleft HOKT.out ⟨yk, yn⟩)
        have HSM := Lib.hid (fun v W (h1 : SeeL encN W v (LL.map Tm.nm)) (h2 : OwnD W (.slice ta LL.length tc) (dueL NN LL)) => csame_yes v _ (dueL NN LL) W ((due_nm NN LL).symm ▸ h1) h2.see (by omega))
        have HLD := Lib.hid (left_due (L := LL) ⟨yk, yn⟩ 0 (Int.le_refl 0))
        have HLS := Lib.hid (atF_spec ⟨yk, yn⟩ LL 0)
        simp only at HLF
        obtain ⟨nT, hnT⟩ : ∃ nT, LL.length = nT := ⟨_, rfl⟩
        rw [hnT] at HRW HSM hl32
        have HLEN2 := Lib.hid hnT
        obtain ⟨ix, hix⟩ : ∃ ix, atF ⟨yk, yn⟩ LL 0 = ix := ⟨_, rfl⟩
        rw [hix] at HAT HLD HLS
        clear hPT HPT hdl hrw how hnT hix
        by_cases hat : ix < 0
        · have hi1 : ix = -1 := by
            rcases HLS.out with ⟨e, -⟩ | ⟨A, t, Z, -, e, -⟩
            · exact e
            · omega
          have hlf := HLD.out.1 hat
          subst hi1
          rw [hlf] at HLF
          clear HLD HLS hlf hat
          go_upto_region 26 with (go_at_call 17; (with_reducible refine HAT.out.mono ?_); rintro e wa ⟨rfl, hb⟩; have HBA := Lib.hid hb; clear hb b2 b3)
          have HSA := Lib.hid (And.intro (HPB.out.below HBA.out) (And.intro (HRW.out.1.below HBA.out) (HRW.out.2.below HBA.out)))
          clear HPB HAT HRW HBA
          refine wp_region_facts (fun W W' => Below W.heap.size W W') (fun W => PlO w BT p q LL NN (dueL NN LL) [(m, [.int .i64 yc, .int .i64 yt, .int .i64 yk, .int .i64 yn])] W ∧ RowAt W q [.int .i64 NN, .slice ta nT tc] ∧ OwnD W (.slice ta nT tc) (dueL NN LL))
            (fun j' v W => factsOf [.is (.pointer (some ⟨p, 0, none⟩)), .any, .is (.pointer (some ⟨q, 0, none⟩)), .is (.pointer (some ⟨q, 0, none⟩)), .is (.pointer (some ⟨q, 1, none⟩)), .is (.slice ta nT tc), .is (.bool true), .is (.bool false), .is (.bool false), .is (.pointer (some ⟨p, 0, none⟩)), .is (.pointer (some ⟨m, 2, none⟩)), .is (.agg #[.int .i64 yk, .int .i64 yn]), .is (.int .i64 0), .is (.int .i64 0), .is (.bool false), .is (.bool false), .is (.bool false), .is (.pointer (some ⟨p, 0, none⟩)), .any, .is (.int .i64 nT), .is (.bool false), .is (.bool false)] j' v W ∧ (j' = 1 ∨ j' = 18 → SeeL encN W v (LL.map Tm.nm)))
            (by kernel_rfl) (by kernel_rfl) (fun j' v W W' hb h => ⟨facts_stay _ j' v W W' hb h.1, fun e => (h.2 e).below hb⟩) (fun W W' hb h => ⟨h.1.below hb, h.2.1.below hb, h.2.2.below hb⟩) (fun i => [u104, u105, u106, u107, u108, u109, u110, u111, u112, u113, u114, u115, u116, u117, u118, u119, u120, u121, u122, u123, u124, u125].getD i undef) (by kernel_rfl) ⟨HSA.out.1.below ((Below.refl _ _).drew), HSA.out.2.1.below ((Below.refl _ _).drew), HSA.out.2.2.below ((Below.refl _ _).drew)⟩ ?F12 ?hF12 ?hstep12 ?hend12
          case hF12 =>
            intro u
            simp only [fillAct]
            go_simp
            rfl
          case hstep12 =>
            clear HSA
            refine FSteps.cons ?_ ?_
            · intro u W hS hd K hK
              clear hd
              simp only [upd, reduceIte, Nat.reduceEqDiff] at hK
              go_simp
              exact hK.out _ _ (Below.refl _ _) ⟨rfl, (fun e => absurd e (by decide))⟩
            refine FSteps.cons ?_ ?_
            · intro u W hS hd K hK
              have h0 : u 0 = _ := (hd 0 rfl).1
              clear hd
              simp only [upd, h0, reduceIte, Nat.reduceEqDiff] at hK
              go_simp
              go_at_call 18
              refine (HLA.out _ hS.1).mono ?_
              rintro e wc ⟨v, rfl, ho, hb⟩
              exact hK.out _ _ hb ⟨trivial, fun _ => ho⟩
            refine FSteps.cons ?_ ?_
            · intro u W hS hd K hK
              clear hd
              simp only [upd, reduceIte, Nat.reduceEqDiff] at hK
              go_simp
              exact hK.out _ _ (Below.refl _ _) ⟨rfl, (fun e => absurd e (by decide))⟩
            refine FSteps.cons ?_ ?_
            · intro u W hS hd K hK
              have h2 : u 2 = _ := (hd 2 rfl).1
              clear hd
              simp only [upd, h2, reduceIte, Nat.reduceEqDiff] at hK
              go_simp
              exact hK.out _ _ (Below.refl _ _) ⟨rfl, (fun e => absurd e (by decide))⟩
            refine FSteps.cons ?_ ?_
            · intro u W hS hd K hK
              have h3 : u 3 = _ := (hd 3 rfl).1
              clear hd
              simp only [upd, h3, reduceIte, Nat.reduceEqDiff] at hK
              go_simp
              exact hK.out _ _ (Below.refl _ _) ⟨rfl, (fun e => absurd e (by decide))⟩
            refine FSteps.cons ?_ ?_
            · intro u W hS hd K hK
              have h4 : u 4 = _ := (hd 4 rfl).1
              clear hd
              simp only [upd, h4, reduceIte, Nat.reduceEqDiff] at hK
              have c0 := hS.2.1.cell 1 rfl
              go_simp
              exact hK.out _ _ (Below.refl _ _) ⟨rfl, (fun e => absurd e (by decide))⟩
            refine FSteps.cons ?_ ?_
            · intro u W hS hd K hK
              have h5 : u 5 = _ := (hd 5 rfl).1
              obtain ⟨v1, h1, A1⟩ : ∃ v1, u 1 = v1 ∧ SeeL encN W v1 (LL.map Tm.nm) := ⟨_, rfl, (hd 1 rfl).2 (Or.inl rfl)⟩
              clear hd
              simp only [upd, h5, h1, reduceIte, Nat.reduceEqDiff] at hK
              go_simp
              go_at_call 12
              refine (HSM.out _ _ A1 hS.2.2).mono ?_
              rintro e wc ⟨rfl, hb⟩
              exact hK.out _ _ hb ⟨rfl, (fun e => absurd e (by decide))⟩
            refine FSteps.cons ?_ ?_
            · intro u W hS hd K hK
              have h6 : u 6 = _ := (hd 6 rfl).1
              clear hd
              simp only [upd, h6, reduceIte, Nat.reduceEqDiff] at hK
              go_simp
              exact hK.out _ _ (Below.refl _ _) ⟨rfl, (fun e => absurd e (by decide))⟩
            refine FSteps.cons ?_ ?_
            · intro u W hS hd K hK
              have h7 : u 7 = _ := (hd 7 rfl).1
              clear hd
              simp only [upd, h7, reduceIte, Nat.reduceEqDiff] at hK
              go_simp
              exact hK.out _ _ (Below.refl _ _) ⟨rfl, (fun e => absurd e (by decide))⟩
            refine FSteps.cons ?_ ?_
            · intro u W hS hd K hK
              have h8 : u 8 = _ := (hd 8 rfl).1
              clear hd
              simp only [upd, h8, reduceIte, Nat.reduceEqDiff] at hK
              go_simp
              exact hK.out _ _ (Below.refl _ _) ⟨rfl, (fun e => absurd e (by decide))⟩
            refine FSteps.cons ?_ ?_
            · intro u W hS hd K hK
              have h8 : u 8 = _ := (hd 8 rfl).1
              clear hd
              simp only [upd, h8, reduceIte, Nat.reduceEqDiff] at hK
              go_simp
              exact hK.out _ _ (Below.refl _ _) ⟨rfl, (fun e => absurd e (by decide))⟩
            refine FSteps.cons ?_ ?_
            · intro u W hS hd K hK
              have h8 : u 8 = _ := (hd 8 rfl).1
              have h10 : u 10 = _ := (hd 10 rfl).1
              clear hd
              simp only [upd, h8, h10, reduceIte, Nat.reduceEqDiff] at hK
              have c0 := (hS.1.row (.head _)).cell 2 rfl
              have c1 := (hS.1.row (.head _)).cell 3 rfl
              go_simp
              exact hK.out _ _ (Below.refl _ _) ⟨rfl, (fun e => absurd e (by decide))⟩
            refine FSteps.cons ?_ ?_
            · intro u W hS hd K hK
              have h8 : u 8 = _ := (hd 8 rfl).1
              have h9 : u 9 = _ := (hd 9 rfl).1
              have h11 : u 11 = _ := (hd 11 rfl).1
              clear hd
              simp only [upd, h8, h9, h11, reduceIte, Nat.reduceEqDiff] at hK
              go_simp
              go_at_call 19
              refine (HLF.out _ hS.1).mono ?_
              rintro e wc ⟨rfl, hb⟩
              exact hK.out _ _ hb ⟨rfl, (fun e => absurd e (by decide))⟩
            refine FSteps.cons ?_ ?_
            · intro u W hS hd K hK
              have h8 : u 8 = _ := (hd 8 rfl).1
              clear hd
              simp only [upd, h8, reduceIte, Nat.reduceEqDiff] at hK
              go_simp
              exact hK.out _ _ (Below.refl _ _) ⟨rfl, (fun e => absurd e (by decide))⟩
            refine FSteps.cons ?_ ?_
            · intro u W hS hd K hK
              have h8 : u 8 = _ := (hd 8 rfl).1
              have h12 : u 12 = _ := (hd 12 rfl).1
              have h13 : u 13 = _ := (hd 13 rfl).1
              clear hd
              simp only [upd, h8, h12, h13, reduceIte, Nat.reduceEqDiff] at hK
              go_simp
              exact hK.out _ _ (Below.refl _ _) ⟨rfl, (fun e => absurd e (by decide))⟩
            refine FSteps.cons ?_ ?_
            · intro u W hS hd K hK
              have h8 : u 8 = _ := (hd 8 rfl).1
              have h14 : u 14 = _ := (hd 14 rfl).1
              clear hd
              simp only [upd, h8, h14, reduceIte, Nat.reduceEqDiff] at hK
              go_simp
              exact hK.out _ _ (Below.refl _ _) ⟨rfl, (fun e => absurd e (by decide))⟩
            refine FSteps.cons ?_ ?_
            · intro u W hS hd K hK
              have h15 : u 15 = _ := (hd 15 rfl).1
              clear hd
              simp only [upd, h15, reduceIte, Nat.reduceEqDiff] at hK
              go_simp
              exact hK.out _ _ (Below.refl _ _) ⟨rfl, (fun e => absurd e (by decide))⟩
            refine FSteps.cons ?_ ?_
            · intro u W hS hd K hK
              have h16 : u 16 = _ := (hd 16 rfl).1
              clear hd
              simp only [upd, h16, reduceIte, Nat.reduceEqDiff] at hK
              go_simp
              exact hK.out _ _ (Below.refl _ _) ⟨rfl, (fun e => absurd e (by decide))⟩
            refine FSteps.cons ?_ ?_
            · intro u W hS hd K hK
              have h16 : u 16 = _ := (hd 16 rfl).1
              have h17 : u 17 = _ := (hd 17 rfl).1
              clear hd
              simp only [upd, h16, h17, reduceIte, Nat.reduceEqDiff] at hK
              go_simp
              go_at_call 18
              refine (HLA.out _ hS.1).mono ?_
              rintro e wc ⟨v, rfl, ho, hb⟩
              exact hK.out _ _ hb ⟨trivial, fun _ => ho⟩
            refine FSteps.cons ?_ ?_
            · intro u W hS hd K hK
              have h16 : u 16 = _ := (hd 16 rfl).1
              obtain ⟨a18, c18, h18⟩ := see_form ((hd 18 rfl).2 (Or.inr rfl)) HLEN2.out
              clear hd
              simp only [upd, h16, h18, reduceIte, Nat.reduceEqDiff] at hK
              go_simp
              exact hK.out _ _ (Below.refl _ _) ⟨rfl, (fun e => absurd e (by decide))⟩
            refine FSteps.cons ?_ ?_
            · intro u W hS hd K hK
              have h16 : u 16 = _ := (hd 16 rfl).1
              have h19 : u 19 = _ := (hd 19 rfl).1
              clear hd
              simp only [upd, h16, h19, reduceIte, Nat.reduceEqDiff] at hK
              have d20 : decide ((32 : Int) < (nT : Int)) = false := decide_eq_false (by omega)
              go_simp
              exact hK.out _ _ (Below.refl _ _) ⟨rfl, (fun e => absurd e (by decide))⟩
            refine FSteps.cons ?_ ?_
            · intro u W hS hd K hK
              have h16 : u 16 = _ := (hd 16 rfl).1
              have h20 : u 20 = _ := (hd 20 rfl).1
              clear hd
              simp only [upd, h16, h20, reduceIte, Nat.reduceEqDiff] at hK
              go_simp
              exact hK.out _ _ (Below.refl _ _) ⟨rfl, (fun e => absurd e (by decide))⟩
            exact trivial
          case hend12 =>
            intro u w6 hS hd
            have h21 : u 21 = _ := (hd 21 rfl).1
            have HP6 := Lib.hid hS.1
            clear hd hS HSA HLA HLF HSM
            rw [h21]
            clear h21
            go_wp2_with fail
            go_roundw
            case rel => exact ⟨j + 1, LL, NN, hlt, by go_num, HNT.out.1, by have := HNT.out.2; omega, Lib.hid ⟨HOKT.out, _, HP6.out.forget⟩⟩
            case measure => simp [intOf]; omega
        · obtain ⟨A, t, Z, eL, eix, hlf⟩ := HLD.out.2 (by omega)
          obtain ⟨i, hi⟩ : ∃ i, A.length = i := ⟨_, rfl⟩
          have hxi : ix = (i : Int) := by omega
          subst hxi
          rw [hlf] at HLF
          have hD : (dueL NN LL)[i]? = some (addT NN t) := by
            rw [eL, ← hi]
            simp [dueL]
          have hin : i < nT := by
            rw [← HLEN2.out, eL, List.length_append, List.length_cons]
            omega
          have htl := HOKT.out.left t (by rw [eL]; simp)
          clear HLD HLS hlf hat eL eix hi
          have hDi : i < (dueL NN LL).length := by rw [List.length_map, HLEN2.out]; exact hin
          have hDe : (dueL NN LL)[i] = addT NN t := by
            rw [List.getElem?_eq_getElem hDi] at hD
            exact Option.some.inj hD
          obtain ⟨tk, tn, tl⟩ := t
          simp only at htl HLF
          obtain ⟨d, hd0⟩ : ∃ d, NN + tl = d := ⟨_, rfl⟩
          have z1 : wrap64 (d - NN) = tl := by
            have h0 := HNT.out
            rw [← IntWalk.i64_left, ← hd0]
            rw [show NN + tl - NN = tl by omega]
            exact i64_near _ (by omega) (by omega)
          have HX := Lib.hid (fun W (h : OwnD W (.slice ta nT tc) (dueL NN LL)) (g : Nat) (e : ta = some ⟨g, 0, none⟩) => show W.cell? ⟨g, i * 3 + 2, none⟩ = some (.int .i64 d) from by
            subst e
            have := (OwnL.get3 h i hDi).2.2
            rw [hDe] at this
            rw [← hd0]
            exact this)
          clear hD hDe hd0 htl
          obtain ⟨g, c9, hv9, -, hg9, -⟩ := HRW.out.2.some_ (by omega)
          simp only [Value.slice.injEq] at hv9
          have hta := hv9.1
          subst hta
          clear hv9 hg9
          go_upto_region 25 with (go_at_call 17; (with_reducible refine HAT.out.mono ?_); rintro e wa ⟨rfl, hb⟩; have HBA := Lib.hid hb; clear hb b2 b3)
          have HSA := Lib.hid (And.intro (HPB.out.below HBA.out) (And.intro (HRW.out.1.below HBA.out) (HRW.out.2.below HBA.out)))
          clear HPB HAT HRW HBA
          have q0 := HSA.out.2.1.cell 0 rfl
          have q1 := HSA.out.2.1.cell 1 rfl
          have q2 := HX.out _ HSA.out.2.2 g rfl
          go_quiet (fail)
          go_upto_region 26 with (fail)
          rw [z1]
          clear q0 q1 q2 HX z1 hDi hin
          have HSB := Lib.hid (fun nq => And.intro (HSA.out.1.below (belowN (Below.refl _ _) nq)) (And.intro (HSA.out.2.1.below (belowN (Below.refl _ _) nq)) (HSA.out.2.2.below (belowN (Below.refl _ _) nq))))
          clear HSA
          have HSA := HSB
          refine wp_region_facts (fun W W' => Below W.heap.size W W') (fun W => PlO w BT p q LL NN (dueL NN LL) [(m, [.int .i64 yc, .int .i64 yt, .int .i64 yk, .int .i64 yn])] W ∧ RowAt W q [.int .i64 NN, .slice (some ⟨g, 0, none⟩) nT tc] ∧ OwnD W (.slice (some ⟨g, 0, none⟩) nT tc) (dueL NN LL))
            (fun j' v W => factsOf [.is (.pointer (some ⟨p, 0, none⟩)), .any, .is (.pointer (some ⟨q, 0, none⟩)), .is (.pointer (some ⟨q, 0, none⟩)), .is (.pointer (some ⟨q, 1, none⟩)), .is (.slice (some ⟨g, 0, none⟩) nT tc), .is (.bool true), .is (.bool false), .is (.bool false), .is (.pointer (some ⟨p, 0, none⟩)), .is (.pointer (some ⟨m, 2, none⟩)), .is (.agg #[.int .i64 yk, .int .i64 yn]), .is (.int .i64 tl), .is (.int .i64 tl), .is (.bool false), .is (.bool false), .is (.bool false), .is (.pointer (some ⟨p, 0, none⟩)), .any, .is (.int .i64 nT), .is (.bool false), .is (.bool false)] j' v W ∧ (j' = 1 ∨ j' = 18 → SeeL encN W v (LL.map Tm.nm)))
            (by kernel_rfl) (by kernel_rfl) (fun j' v W W' hb h => ⟨facts_stay _ j' v W W' hb h.1, fun e => (h.2 e).below hb⟩) (fun W W' hb h => ⟨h.1.below hb, h.2.1.below hb, h.2.2.below hb⟩) (fun i => [u104, u105, u106, u107, u108, u109, u110, u111, u112, u113, u114, u115, u116, u117, u118, u119, u120, u121, u122, u123, u124, u125].getD i undef) (by kernel_rfl) ⟨(HSA.out _).1.below ((Below.refl _ _).drew), (HSA.out _).2.1.below ((Below.refl _ _).drew), (HSA.out _).2.2.below ((Below.refl _ _).drew)⟩ ?F13 ?hF13 ?hstep13 ?hend13
          case hF13 =>
            intro u
            simp only [fillAct]
            go_simp
            rfl
          case hstep13 =>
            clear HSA
            refine FSteps.cons ?_ ?_
            · intro u W hS hd K hK
              clear hd
              simp only [upd, reduceIte, Nat.reduceEqDiff] at hK
              go_simp
              exact hK.out _ _ (Below.refl _ _) ⟨rfl, (fun e => absurd e (by decide))⟩
            refine FSteps.cons ?_ ?_
            · intro u W hS hd K hK
              have h0 : u 0 = _ := (hd 0 rfl).1
              clear hd
              simp only [upd, h0, reduceIte, Nat.reduceEqDiff] at hK
              go_simp
              go_at_call 18
              refine (HLA.out _ hS.1).mono ?_
              rintro e wc ⟨v, rfl, ho, hb⟩
              exact hK.out _ _ hb ⟨trivial, fun _ => ho⟩
            refine FSteps.cons ?_ ?_
            · intro u W hS hd K hK
              clear hd
              simp only [upd, reduceIte, Nat.reduceEqDiff] at hK
              go_simp
              exact hK.out _ _ (Below.refl _ _) ⟨rfl, (fun e => absurd e (by decide))⟩
            refine FSteps.cons ?_ ?_
            · intro u W hS hd K hK
              have h2 : u 2 = _ := (hd 2 rfl).1
              clear hd
              simp only [upd, h2, reduceIte, Nat.reduceEqDiff] at hK
              go_simp
              exact hK.out _ _ (Below.refl _ _) ⟨rfl, (fun e => absurd e (by decide))⟩
            refine FSteps.cons ?_ ?_
            · intro u W hS hd K hK
              have h3 : u 3 = _ := (hd 3 rfl).1
              clear hd
              simp only [upd, h3, reduceIte, Nat.reduceEqDiff] at hK
              go_simp
              exact hK.out _ _ (Below.refl _ _) ⟨rfl, (fun e => absurd e (by decide))⟩
            refine FSteps.cons ?_ ?_
            · intro u W hS hd K hK
              have h4 : u 4 = _ := (hd 4 rfl).1
              clear hd
              simp only [upd, h4, reduceIte, Nat.reduceEqDiff] at hK
              have c0 := hS.2.1.cell 1 rfl
              go_simp
              exact hK.out _ _ (Below.refl _ _) ⟨rfl, (fun e => absurd e (by decide))⟩
            refine FSteps.cons ?_ ?_
            · intro u W hS hd K hK
              have h5 : u 5 = _ := (hd 5 rfl).1
              obtain ⟨v1, h1, A1⟩ : ∃ v1, u 1 = v1 ∧ SeeL encN W v1 (LL.map Tm.nm) := ⟨_, rfl, (hd 1 rfl).2 (Or.inl rfl)⟩
              clear hd
              simp only [upd, h5, h1, reduceIte, Nat.reduceEqDiff] at hK
              go_simp
              go_at_call 12
              refine (HSM.out _ _ A1 hS.2.2).mono ?_
              rintro e wc ⟨rfl, hb⟩
              exact hK.out _ _ hb ⟨rfl, (fun e => absurd e (by decide))⟩
            refine FSteps.cons ?_ ?_
            · intro u W hS hd K hK
              have h6 : u 6 = _ := (hd 6 rfl).1
              clear hd
              simp only [upd, h6, reduceIte, Nat.reduceEqDiff] at hK
              go_simp
              exact hK.out _ _ (Below.refl _ _) ⟨rfl, (fun e => absurd e (by decide))⟩
            refine FSteps.cons ?_ ?_
            · intro u W hS hd K hK
              have h7 : u 7 = _ := (hd 7 rfl).1
              clear hd
              simp only [upd, h7, reduceIte, Nat.reduceEqDiff] at hK
              go_simp
              exact hK.out _ _ (Below.refl _ _) ⟨rfl, (fun e => absurd e (by decide))⟩
            refine FSteps.cons ?_ ?_
            · intro u W hS hd K hK
              have h8 : u 8 = _ := (hd 8 rfl).1
              clear hd
              simp only [upd, h8, reduceIte, Nat.reduceEqDiff] at hK
              go_simp
              exact hK.out _ _ (Below.refl _ _) ⟨rfl, (fun e => absurd e (by decide))⟩
            refine FSteps.cons ?_ ?_
            · intro u W hS hd K hK
              have h8 : u 8 = _ := (hd 8 rfl).1
              clear hd
              simp only [upd, h8, reduceIte, Nat.reduceEqDiff] at hK
              go_simp
              exact hK.out _ _ (Below.refl _ _) ⟨rfl, (fun e => absurd e (by decide))⟩
            refine FSteps.cons ?_ ?_
            · intro u W hS hd K hK
              have h8 : u 8 = _ := (hd 8 rfl).1
              have h10 : u 10 = _ := (hd 10 rfl).1
              clear hd
              simp only [upd, h8, h10, reduceIte, Nat.reduceEqDiff] at hK
              have c0 := (hS.1.row (.head _)).cell 2 rfl
              have c1 := (hS.1.row (.head _)).cell 3 rfl
              go_simp
              exact hK.out _ _ (Below.refl _ _) ⟨rfl, (fun e => absurd e (by decide))⟩
            refine FSteps.cons ?_ ?_
            · intro u W hS hd K hK
              have h8 : u 8 = _ := (hd 8 rfl).1
              have h9 : u 9 = _ := (hd 9 rfl).1
              have h11 : u 11 = _ := (hd 11 rfl).1
              clear hd
              simp only [upd, h8, h9, h11, reduceIte, Nat.reduceEqDiff] at hK
              go_simp
              go_at_call 19
              refine (HLF.out _ hS.1).mono ?_
              rintro e wc ⟨rfl, hb⟩
              exact hK.out _ _ hb ⟨rfl, (fun e => absurd e (by decide))⟩
            refine FSteps.cons ?_ ?_
            · intro u W hS hd K hK
              have h8 : u 8 = _ := (hd 8 rfl).1
              clear hd
              simp only [upd, h8, reduceIte, Nat.reduceEqDiff] at hK
              go_simp
              exact hK.out _ _ (Below.refl _ _) ⟨rfl, (fun e => absurd e (by decide))⟩
            refine FSteps.cons ?_ ?_
            · intro u W hS hd K hK
              have h8 : u 8 = _ := (hd 8 rfl).1
              have h12 : u 12 = _ := (hd 12 rfl).1
              have h13 : u 13 = _ := (hd 13 rfl).1
              clear hd
              simp only [upd, h8, h12, h13, reduceIte, Nat.reduceEqDiff] at hK
              go_simp
              exact hK.out _ _ (Below.refl _ _) ⟨rfl, (fun e => absurd e (by decide))⟩
            refine FSteps.cons ?_ ?_
            · intro u W hS hd K hK
              have h8 : u 8 = _ := (hd 8 rfl).1
              have h14 : u 14 = _ := (hd 14 rfl).1
              clear hd
              simp only [upd, h8, h14, reduceIte, Nat.reduceEqDiff] at hK
              go_simp
              exact hK.out _ _ (Below.refl _ _) ⟨rfl, (fun e => absurd e (by decide))⟩
            refine FSteps.cons ?_ ?_
            · intro u W hS hd K hK
              have h15 : u 15 = _ := (hd 15 rfl).1
              clear hd
              simp only [upd, h15, reduceIte, Nat.reduceEqDiff] at hK
              go_simp
              exact hK.out _ _ (Below.refl _ _) ⟨rfl, (fun e => absurd e (by decide))⟩
            refine FSteps.cons ?_ ?_
            · intro u W hS hd K hK
              have h16 : u 16 = _ := (hd 16 rfl).1
              clear hd
              simp only [upd, h16, reduceIte, Nat.reduceEqDiff] at hK
              go_simp
              exact hK.out _ _ (Below.refl _ _) ⟨rfl, (fun e => absurd e (by decide))⟩
            refine FSteps.cons ?_ ?_
            · intro u W hS hd K hK
              have h16 : u 16 = _ := (hd 16 rfl).1
              have h17 : u 17 = _ := (hd 17 rfl).1
              clear hd
              simp only [upd, h16, h17, reduceIte, Nat.reduceEqDiff] at hK
              go_simp
              go_at_call 18
              refine (HLA.out _ hS.1).mono ?_
              rintro e wc ⟨v, rfl, ho, hb⟩
              exact hK.out _ _ hb ⟨trivial, fun _ => ho⟩
            refine FSteps.cons ?_ ?_
            · intro u W hS hd K hK
              have h16 : u 16 = _ := (hd 16 rfl).1
              obtain ⟨a18, c18, h18⟩ := see_form ((hd 18 rfl).2 (Or.inr rfl)) HLEN2.out
              clear hd
              simp only [upd, h16, h18, reduceIte, Nat.reduceEqDiff] at hK
              go_simp
              exact hK.out _ _ (Below.refl _ _) ⟨rfl, (fun e => absurd e (by decide))⟩
            refine FSteps.cons ?_ ?_
            · intro u W hS hd K hK
              have h16 : u 16 = _ := (hd 16 rfl).1
              have h19 : u 19 = _ := (hd 19 rfl).1
              clear hd
              simp only [upd, h16, h19, reduceIte, Nat.reduceEqDiff] at hK
              have d20 : decide ((32 : Int) < (nT : Int)) = false := decide_eq_false (by omega)
              go_simp
              exact hK.out _ _ (Below.refl _ _) ⟨rfl, (fun e => absurd e (by decide))⟩
            refine FSteps.cons ?_ ?_
            · intro u W hS hd K hK
              have h16 : u 16 = _ := (hd 16 rfl).1
              have h20 : u 20 = _ := (hd 20 rfl).1
              clear hd
              simp only [upd, h16, h20, reduceIte, Nat.reduceEqDiff] at hK
              go_simp
              exact hK.out _ _ (Below.refl _ _) ⟨rfl, (fun e => absurd e (by decide))⟩
            exact trivial
          case hend13 =>
            intro u w6 hS hd
            have h21 : u 21 = _ := (hd 21 rfl).1
            have HP6 := Lib.hid hS.1
            clear hd hS HSA HLA HLF HSM
            rw [h21]
            clear h21
            go_wp2_with fail
            go_roundw
            case rel => exact ⟨j + 1, LL, NN, hlt, by go_num, HNT.out.1, by have := HNT.out.2; omega, Lib.hid ⟨HOKT.out, _, HP6.out.forget⟩⟩
            case measure => simp [intOf]; omega
      · have e : j = n := by omega
        subst e
        have HBE := Lib.hid HP.out.bel
        go_wp2_with fail
        exact bodyPost_ret (v := .bool true) (by simp [results, Try.results3, go_sem]) rfl ⟨rfl, HBE.out⟩
end Go.Proofs.Ytchhaolgmdhnmaa
