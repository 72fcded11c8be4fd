/-
The document's Missing.
-/
import Derived.Test.YtmokibjeanbabaaSeqRHeld
namespace Go.Proofs.Ytmokibjeanbabaa
open Go.RowKit
set_option maxRecDepth 20000
theorem lastT_take (l : List Bool) (i : Nat) (hi : i < l.length) : lastT (l.take (i + 1)) = if l[i] then i + 1 else lastT (l.take i) := by
  induction l generalizing i with
  | nil => simp at hi
  | cons b l ih =>
    cases i with
    | zero => cases b <;> simp [lastT]
    | succ i =>
      have hi' : i < l.length := by simpa using hi
      have := ih i hi'
      simp only [List.take_succ_cons, List.getElem_cons_succ, lastT]
      rw [this]
      cases hb : l[i] with
      | true => simp
      | false => simp
theorem lastT_le (l : List Bool) : lastT l ≤ l.length := by
  induction l with
  | nil => simp [lastT]
  | cons b l ih =>
    unfold lastT
    split
    · split <;> simp
    · simpa using ih
/-- those that are missing among the first so many -/
def missN (m vr : Int) (c : List Bool) (j : Nat) : List Int := ((List.range j).filter (fun i => !c.getD i false)).map fun (i : Nat) => (vr + i) % m
theorem missN_next (m vr : Int) (c : List Bool) (j : Nat) : missN m vr c (j + 1) = missN m vr c j ++ if c.getD j false then [] else [(vr + j) % m] := by
  unfold missN
  have e : List.filter (fun i => !c.getD i false) [j] = if c.getD j false then [] else [j] := by
    rw [List.filter_cons]
    cases c.getD j false <;> rfl
  rw [List.range_succ, List.filter_append, List.map_append, e]
  cases c.getD j false <;> rfl
theorem missN_len (m vr : Int) (c : List Bool) (j : Nat) : (missN m vr c j).length ≤ j := by
  unfold missN
  rw [List.length_map]
  exact Nat.le_trans (List.length_filter_le _ _) (by simp)
theorem rem_nums (m A n : Int) (hm : m = 8 ∨ m = 128) (h0 : 0 ≤ n) (hb : n ≤ 200000) (hA : A = n) : IntKind.i64.wrap A = n ∧ n.tmod m = n % m ∧ IntKind.i64.wrap (n % m) = n % m := by
  subst hA
  have h1 : 0 ≤ A % m ∧ A % m < 128 := by rcases hm with e | e <;> subst e <;> omega
  exact ⟨i64_small' _ (by omega) (by omega), Int.tmod_eq_emod_of_nonneg (by omega), i64_small' _ (by omega) (by omega)⟩
set_option maxHeartbeats 1000000 in
theorem rmiss_any (p : Nat) (m k : Int) (s : Ti) (w : World) (h : RowAt w p (tiV m k s)) (hok : TiOk m k s) : Calls Try.prog 32 #[.pointer (some ⟨p, 0, none⟩)] w fun e w' =>
    (∃ v, e = .returned v ∧ OwnL encI 3 w' w.heap.size v (missT m s)) ∧ Below w.heap.size w w' := by
  have HR := Lib.hid h
  have hl := hok.len
  have HL := Lib.hid hl
  have HMT := Lib.hid (show missT m s = missN m s.vr s.came (lastT s.came - 1) from rfl)
  have hvb := hok.vb
  have hmd := hok.md
  have hm0 : ¬ (m = 0) := by rcases hmd with e | e <;> omega
  have HNU := Lib.hid (fun A n h0 hb hA => rem_nums m A n hmd h0 hb hA)
  clear h hl hok hmd
  go_enter Try.func32, Try.ntmps32
  go_wp2_with fail
  go_loopw [3, 4] (fun l v wx => ∃ i : Nat, i ≤ 128 ∧ v = .int .i64 i ∧ l = .int .i64 ((lastT (s.came.take i) : Nat) - 1 : Int) ∧ w = wx) (fun _ v _ => 128 - (intOf v).toNat)
  case atStart => exact ⟨0, by omega, rfl, by simp [lastT], rfl⟩
  case round =>
    obtain ⟨i, hi, rfl, rfl, rfl⟩ := hrel
    by_cases hlt : i < 128
    · have hL : i < s.came.length := by rw [HL.out]; exact hlt
      have c0 := HR.out.cell (3 + i) (came_at m k s i hL)
      have HC := Lib.hid (lastT_take s.came i hL)
      obtain ⟨c, hc⟩ : ∃ c : Int, c = (lastT (s.came.take i) : Nat) - 1 := ⟨_, rfl⟩
      rw [← hc]
      have HCC := Lib.hid hc
      clear hc
      generalize s.came[i] = b at *
      clear hL
      cases b with
      | false =>
        go_wp2_with fail
        go_roundw
        case rel => exact ⟨i + 1, by omega, by go_num, congrArg (Value.int .i64) (by rw [HC.out, HCC.out]; simp), by first | rfl | trivial⟩
        case measure => simp [intOf]; omega
      | true =>
        go_wp2_with fail
        go_roundw
        case rel => exact ⟨i + 1, by omega, by go_num, congrArg (Value.int .i64) (by rw [HC.out]; simp), by first | rfl | trivial⟩
        case measure => simp [intOf]; omega
    · have HLT := Lib.hid (show lastT (s.came.take i) = lastT s.came from by rw [List.take_of_length_le (by rw [HL.out]; omega)])
      rw [HLT.out]
      have hle := lastT_le s.came
      rw [HL.out] at hle
      obtain ⟨J, hJ⟩ : ∃ J : Int, J = (lastT s.came : Nat) - 1 := ⟨_, rfl⟩
      rw [← hJ]
      have HO0 := Lib.hid (OwnL.lit encI 3 w w.heap.size [] [] rfl (Nat.le_refl _) (by simp) 0 rfl)
      have HB0 := Lib.hid ((Below.refl _ w).alloc (Nat.le_refl _) (.cells #[] 3))
      have hJ128 : J ≤ 127 := by omega
      have HJ := Lib.hid (show ∀ j : Nat, ((j : Int) < J ↔ j < lastT s.came - 1) from fun j => by omega)
      clear hJ hle hi
      go_wp2_with fail
      have HRW := Lib.hid HR.out
      have HB1 := Lib.hid HB0.out
      generalize (w.alloc (.cells #[] 3)) = w1 at *
      go_loopw [5, 6] (fun v x wx => ∃ (j : Nat) (tv : Value), j ≤ lastT s.came - 1 ∧ x = .int .i64 j ∧ tv = v ∧ Hid (OwnL encI 3 wx w.heap.size tv (missN m s.vr s.came j) ∧ Below w.heap.size w wx)) (fun _ x _ => 128 - (intOf x).toNat)
      case atStart => exact ⟨0, _, Nat.zero_le _, rfl, rfl, Lib.hid ⟨HO0.out, HB0.out⟩⟩
      case round =>
        obtain ⟨j, tv, hj, rfl, rfl, HK⟩ := hrel
        clear HO0 HB0 HB1
        have hjn : j ≤ 127 := by have := lastT_le s.came; rw [HL.out] at this; omega
        by_cases hlt2 : j < lastT s.came - 1
        · have dJ : decide ((j : Int) < J) = true := decide_eq_true ((HJ.out j).2 hlt2)
          have hL2 : j < s.came.length := by rw [HL.out]; omega
          have c0 := (HRW.out.below HK.out.2).cell (3 + j) (came_at m k s j hL2)
          have HNX := Lib.hid (missN_next m s.vr s.came j)
          rw [show s.came.getD j false = s.came[j] from by rw [List.getD_eq_getElem?_getD, List.getElem?_eq_getElem hL2]; rfl] at HNX
          have HLN := Lib.hid (show (missN m s.vr s.came j).length ≤ 100000 from Nat.le_trans (missN_len _ _ _ _) (by omega))
          generalize s.came[j] = b at *
          generalize missN m s.vr s.came j = Lj at *
          clear hL2
          cases b with
          | true =>
            have HK2 := Lib.hid HK.out
            clear HK
            go_wp2_with fail
            go_roundw
            case rel => exact ⟨j + 1, _, by omega, by go_num, rfl, Lib.hid ⟨by rw [HNX.out]; simpa using HK2.out.1, HK2.out.2⟩⟩
            case measure => simp [intOf]; omega
          | false =>
            have HK2 := Lib.hid HK.out
            obtain ⟨n, hn⟩ : ∃ n : Int, n = s.vr + (j : Int) := ⟨_, rfl⟩
            obtain ⟨y1, y2, y3⟩ := HNU.out (s.vr + (j : Int)) n (by omega) (by omega) hn.symm
            have HY := Lib.hid (And.intro y1 (And.intro y2 y3))
            rw [← hn] at HNX
            have hn0 : 0 ≤ n := by omega
            generalize n % m = q at *
            clear HK hn y1 y2 y3
            go_upto_region 12 with (fail)
            clear c0
            refine wp_region_upto 13 1 (fun W W' => Below W.heap.size W W') (fun W => RowAt W p (tiV m k s) ∧ OwnL encI 3 W w.heap.size tv Lj ∧ Below w.heap.size w W)
              (fun j' v W => factsOf [.is tv, .is (.pointer (some ⟨p, 0, none⟩)), .is (.pointer (some ⟨p, 0, none⟩)), .is (.pointer (some ⟨p, 2, none⟩)), .is (.int .i64 s.vr), .is (.int .i64 j), .is (.int .i64 n), .is (.pointer (some ⟨p, 0, none⟩)), .is (.pointer (some ⟨p, 0, none⟩)), .is (.pointer (some ⟨p, 0, none⟩)), .is (.int .i64 m), .is (.int .i64 q), .any] j' v W ∧ (j' = 12 → ∃ b, v = .slice (some ⟨b, 0, none⟩) 1 1 ∧ AtL encI W (some ⟨b, 0, none⟩) [q]))
              (by kernel_rfl) rfl (by kernel_rfl) (by kernel_rfl) (fun j' v W W' hb h => ⟨facts_stay _ j' v W W' hb h.1, fun e => by obtain ⟨b, hv, hB⟩ := h.2 e; exact ⟨b, hv, hB.below hb⟩⟩)
              (fun W W' hb h => ⟨h.1.below hb, h.2.1.below hb, h.2.2.trans (hb.mono h.2.2.size)⟩) (fun i => [u31, u32, u33, u34, u35, u36, u37, u38, u39, u40, u41, u42, u43].getD i undef) (by kernel_rfl) ⟨(HRW.out.below HK2.out.2).drew, HK2.out.1.drew, HK2.out.2.drew⟩ ?F1 ?hF1 ?hstep1 ?hend1
            case hF1 =>
              intro u
              simp only [List.take, fillAct]
              go_simp
              rfl
            case hstep1 =>
              clear HK2
              refine FSteps.cons ?_ ?_
              · intro u W hS hd K hK
                clear hd
                simp only [upd, reduceIte, Nat.reduceEqDiff] at hK
                go_simp
                exact hK.out _ _ (Below.refl _ _) ⟨rfl, (fun e => absurd e (by decide))⟩
              refine FSteps.cons ?_ ?_
              · intro u W hS hd K hK
                clear hd
                simp only [upd, reduceIte, Nat.reduceEqDiff] at hK
                go_simp
                exact hK.out _ _ (Below.refl _ _) ⟨rfl, (fun e => absurd e (by decide))⟩
              refine FSteps.cons ?_ ?_
              · intro u W hS hd K hK
                have h1 : u 1 = _ := (hd 1 rfl).1
                clear hd
                simp only [upd, h1, reduceIte, Nat.reduceEqDiff] at hK
                go_simp
                exact hK.out _ _ (Below.refl _ _) ⟨rfl, (fun e => absurd e (by decide))⟩
              refine FSteps.cons ?_ ?_
              · intro u W hS hd K hK
                have h2 : u 2 = _ := (hd 2 rfl).1
                clear hd
                simp only [upd, h2, reduceIte, Nat.reduceEqDiff] at hK
                go_simp
                exact hK.out _ _ (Below.refl _ _) ⟨rfl, (fun e => absurd e (by decide))⟩
              refine FSteps.cons ?_ ?_
              · intro u W hS hd K hK
                have h3 : u 3 = _ := (hd 3 rfl).1
                clear hd
                simp only [upd, h3, reduceIte, Nat.reduceEqDiff] at hK
                have c0 := hS.1.cell 2 rfl
                go_simp
                exact hK.out _ _ (Below.refl _ _) ⟨rfl, (fun e => absurd e (by decide))⟩
              refine FSteps.cons ?_ ?_
              · intro u W hS hd K hK
                clear hd
                simp only [upd, reduceIte, Nat.reduceEqDiff] at hK
                go_simp
                exact hK.out _ _ (Below.refl _ _) ⟨rfl, (fun e => absurd e (by decide))⟩
              refine FSteps.cons ?_ ?_
              · intro u W hS hd K hK
                have h4 : u 4 = _ := (hd 4 rfl).1
                have h5 : u 5 = _ := (hd 5 rfl).1
                clear hd
                simp only [upd, h4, h5, reduceIte, Nat.reduceEqDiff] at hK
                have y1 := HY.out.1
                go_simp
                exact hK.out _ _ (Below.refl _ _) ⟨rfl, (fun e => absurd e (by decide))⟩
              refine FSteps.cons ?_ ?_
              · intro u W hS hd K hK
                clear hd
                simp only [upd, reduceIte, Nat.reduceEqDiff] at hK
                go_simp
                exact hK.out _ _ (Below.refl _ _) ⟨rfl, (fun e => absurd e (by decide))⟩
              refine FSteps.cons ?_ ?_
              · intro u W hS hd K hK
                have h7 : u 7 = _ := (hd 7 rfl).1
                clear hd
                simp only [upd, h7, reduceIte, Nat.reduceEqDiff] at hK
                go_simp
                exact hK.out _ _ (Below.refl _ _) ⟨rfl, (fun e => absurd e (by decide))⟩
              refine FSteps.cons ?_ ?_
              · intro u W hS hd K hK
                have h8 : u 8 = _ := (hd 8 rfl).1
                clear hd
                simp only [upd, h8, reduceIte, Nat.reduceEqDiff] at hK
                go_simp
                exact hK.out _ _ (Below.refl _ _) ⟨rfl, (fun e => absurd e (by decide))⟩
              refine FSteps.cons ?_ ?_
              · intro u W hS hd K hK
                have h9 : u 9 = _ := (hd 9 rfl).1
                clear hd
                simp only [upd, h9, reduceIte, Nat.reduceEqDiff] at hK
                have c0 := hS.1.cell 0 rfl
                go_simp
                exact hK.out _ _ (Below.refl _ _) ⟨rfl, (fun e => absurd e (by decide))⟩
              refine FSteps.cons ?_ ?_
              · intro u W hS hd K hK
                have h6 : u 6 = _ := (hd 6 rfl).1
                have h10 : u 10 = _ := (hd 10 rfl).1
                clear hd
                simp only [upd, h6, h10, reduceIte, Nat.reduceEqDiff] at hK
                have y2 := HY.out.2.1
                have y3 := HY.out.2.2
                go_simp
                exact hK.out _ _ (Below.refl _ _) ⟨rfl, (fun e => absurd e (by decide))⟩
              refine FSteps.cons ?_ ?_
              · intro u W hS hd K hK
                have h11 : u 11 = _ := (hd 11 rfl).1
                clear hd
                simp only [upd, h11, reduceIte, Nat.reduceEqDiff] at hK
                go_simp
                exact hK.out _ _ ((Below.refl _ _).alloc (Nat.le_refl _) _) ⟨trivial, fun _ => ⟨_, rfl, AtL.made encI 3 _ _ q _ rfl rfl⟩⟩
              exact trivial
            case hend1 =>
              intro u w6 hS hd
              have h0 : u 0 = _ := (hd 0 rfl).1
              obtain ⟨b7, h7, B7⟩ := (hd 12 rfl).2 rfl
              clear hd HK2
              refine wpAny_ready (rs := [13]) (by kernel_rfl) (by simp) ?_
              refine AllReady.cons rfl (fun K hK => ?_) AllReady.nil
              rw [if_pos (by kernel_rfl)]
              obtain ⟨v', w7, hr, hown, hgr, hov⟩ := run_append_one encI 3 26 26 Try.underlying26 infoI rfl (by decide) w6 w.heap.size tv Lj hS.2.1 b7 1 q B7 HLN.out hS.2.2.size
              simp only [h0, h7]
              refine wp_append_run (.tmp 31) (.tmp 43) rfl rfl rfl hr ?_
              have HR8 := Lib.hid (show OwnL encI 3 w7 w.heap.size v' (missN m s.vr s.came (j + 1)) ∧ Below w.heap.size w w7 from
                ⟨by rw [HNX.out]; exact hown, hS.2.2.grown hgr hS.2.2.size (fun k e => (hS.2.1.ge e).1)⟩)
              clear hS hr hown hgr hov B7
              refine hK _ _ ?_
              clear hK K
              refine wpAny_ready (rs := [14]) (by kernel_rfl) (by simp) ?_
              refine AllReady.cons rfl (fun K hK => ?_) AllReady.nil
              go_simp
              refine hK _ _ ?_
              clear hK K
              refine wpAny_done (by kernel_rfl) ?_ _
              go_wp2_with fail
              go_roundw
              case rel => exact ⟨j + 1, _, by omega, by go_num, rfl, HR8⟩
              case measure => simp [intOf]; omega
        · have dJ : decide ((j : Int) < J) = false := decide_eq_false (fun h => hlt2 ((HJ.out j).1 h))
          have hje : j = lastT s.came - 1 := by omega
          have HF := Lib.hid (show OwnL encI 3 wr w.heap.size tv (missT m s) ∧ Below w.heap.size w wr from by rw [HMT.out, ← hje]; exact HK.out)
          clear hje HK
          go_wp2_with fail
          exact bodyPost_ret (v := tv) (by simp [results, Try.results32, go_sem]) rfl ⟨⟨tv, rfl, HF.out.1⟩, HF.out.2⟩
end Go.Proofs.Ytmokibjeanbabaa
