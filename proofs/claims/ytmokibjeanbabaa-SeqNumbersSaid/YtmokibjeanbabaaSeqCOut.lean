/-
The landed code's sender's window (written by tools/gen11/gen_cout.py).
-/
import Derived.Test.YtmokibjeanbabaaSeqCNum
import Derived.Test.YtmokibjeanbabaaSeqThroughM
import Derived.Test.YtmokibjeanbabaaSeqROpen
namespace Go.Proofs.Ytmokibjeanbabaa
open Go.RowKit
set_option maxRecDepth 20000
/-- its four cells -/
def coV (m k : Int) (s : So) : List Value := [.int .i64 m, .int .i64 k, .int .i64 (s.acked % m), .int .i64 (s.opened % m)]
/-- numbers of it -/
structure CoN (m k : Int) (s : So) (A O : Int) (N : Nat) : Prop where
  mr : modR m = true
  ar : inR m A = true
  or : inR m O = true
  len : s.opened - s.acked = (N : Int)
  far : farD m A O = (N : Int)
  nk : N ≤ 128
  step : ∀ j : Nat, stepD m A j = (s.acked + j) % m
  next : stepD m O 1 = (s.opened + 1) % m
theorem con_any {m k : Int} {s : So} (h : SoOk m k s) : ∃ N : Nat, CoN m k s (s.acked % m) (s.opened % m) N := by
  have h1 := h.md
  have h2 := h.kb
  have h3 := h.ab
  have h4 := h.ob
  obtain ⟨N, hN⟩ : ∃ N : Nat, s.opened - s.acked = (N : Int) := ⟨(s.opened - s.acked).toNat, by omega⟩
  have hm : modR m = true := by rcases h1 with e | e <;> subst e <;> rfl
  have ha := inR_rem m s.acked h1
  have ho := inR_rem m s.opened h1
  refine ⟨N, hm, ha, ho, hN, ?_, by omega, fun j => ?_, ?_⟩
  · unfold farD
    rw [hm, ha, ho, if_pos (by simp)]
    have := far_fwd m s.acked N h1 (by omega) (by omega)
    rwa [show s.acked + (N : Int) = s.opened by omega] at this
  · unfold stepD
    rw [hm, ha, if_pos (by simp)]
    rcases h1 with e | e <;> subst e <;> omega
  · unfold stepD
    rw [hm, ho, if_pos (by simp)]
    rcases h1 with e | e <;> subst e <;> omega
theorem ptr_drew {w : World} {p : Nat} {L : List Value} (h : RowAt w p L) : RowAt w.drew p L := h.drew
set_option maxHeartbeats 1000000 in
theorem cnewout_yes (m k : Int) (w : World) (hm : m = 8 ∨ m = 128) (hk : 1 ≤ k ∧ k < m) : Calls Try.prog 13 #[.int .i64 m, .int .i64 k] w fun e w' =>
    e = .returned (.tuple #[.pointer (some ⟨w.heap.size, 0, none⟩), .int .i64 0]) ∧ w' = w.alloc (.cells #[.int .i64 m, .int .i64 k, .int .i64 0, .int .i64 0] 63) := by
  have HC := Lib.hid (cright_none m w)
  rw [show modR m = true from by rcases hm with e | e <;> subst e <;> rfl] at HC
  have d0 : decide (k < 1) = false := decide_eq_false (by omega)
  have d1 : decide (m - 1 < k) = false := decide_eq_false (by omega)
  have z1 : IntKind.i64.wrap (m - 1) = m - 1 := i64_small' _ (by omega) (by omega)
  clear hm hk
  go_enter Try.func13, Try.ntmps13
  go_wp2_with (go_at_call 11; (with_reducible refine HC.out.mono ?_); rintro e w ⟨rfl, rfl⟩)
  exact bodyPost_ret (v := .tuple #[.pointer (some ⟨w.heap.size, 0, none⟩), .int .i64 0]) (by simp [results, Try.results13, go_sem]) rfl ⟨rfl, rfl⟩
set_option maxHeartbeats 1000000 in
theorem cnewout_no (m k : Int) (w : World) (h : modR m = false ∨ k < 1 ∨ m ≤ k) : Calls Try.prog 13 #[.int .i64 m, .int .i64 k] w fun e w' =>
    e = .returned (.tuple #[.pointer none, .int .i64 1]) ∧ w' = w := by
  have HC := Lib.hid (cright_none m w)
  cases hm : modR m with
  | false =>
    rw [hm] at HC
    clear h hm
    go_enter Try.func13, Try.ntmps13
    go_wp2_with (go_at_call 11; (with_reducible refine HC.out.mono ?_); rintro e w ⟨rfl, rfl⟩)
    exact bodyPost_ret (v := .tuple #[.pointer none, .int .i64 1]) (by simp [results, Try.results13, go_sem]) rfl ⟨rfl, rfl⟩
  | true =>
    rw [hm] at HC h
    have hmd := modR_yes hm
    have z1 : IntKind.i64.wrap (m - 1) = m - 1 := i64_small' _ (by omega) (by omega)
    by_cases hk : k < 1
    · have d0 : decide (k < 1) = true := decide_eq_true hk
      clear h hm hmd hk
      go_enter Try.func13, Try.ntmps13
      go_wp2_with (go_at_call 11; (with_reducible refine HC.out.mono ?_); rintro e w ⟨rfl, rfl⟩)
      exact bodyPost_ret (v := .tuple #[.pointer none, .int .i64 1]) (by simp [results, Try.results13, go_sem]) rfl ⟨rfl, rfl⟩
    · have d0 : decide (k < 1) = false := decide_eq_false hk
      have d1 : decide (m - 1 < k) = true := decide_eq_true (by
        rcases h with h | h | h
        · cases h
        · omega
        · omega)
      clear h hm hmd hk
      go_enter Try.func13, Try.ntmps13
      go_wp2_with (go_at_call 11; (with_reducible refine HC.out.mono ?_); rintro e w ⟨rfl, rfl⟩)
      exact bodyPost_ret (v := .tuple #[.pointer none, .int .i64 1]) (by simp [results, Try.results13, go_sem]) rfl ⟨rfl, rfl⟩
set_option maxHeartbeats 1000000 in
theorem copen_any (p : Nat) (m k : Int) (s : So) (w : World) (h : RowAt w p (coV m k s)) (hok : SoOk m k s) : Calls Try.prog 21 #[.pointer (some ⟨p, 0, none⟩)] w fun e w' =>
    ∃ v, e = .returned v ∧ OwnL encI 3 w' w.heap.size v (openS m s) ∧ Below w.heap.size w w' := by
  obtain ⟨N, hC⟩ := con_any hok
  have HT := Lib.hid (fun j hj => openS_take m s j hj)
  have HLL := Lib.hid (openS_len m s)
  rw [hC.len, Int.toNat_natCast] at HT HLL
  generalize openS m s = L at *
  have HR := Lib.hid (show RowAt w p [.int .i64 m, .int .i64 k, .int .i64 (s.acked % m), .int .i64 (s.opened % m)] from h)
  have HPL := Lib.hid (h.get 0 rfl).lt
  have HS := Lib.hid hC.step
  have HF := Lib.hid (fun W => cfar_any m (s.acked % m) (s.opened % m) W)
  rw [hC.far] at HF
  have hNk := hC.nk
  clear h hok hC
  generalize s.acked % m = A at *
  generalize s.opened % m = O at *
  go_enter Try.func21, Try.ntmps21
  go_upto_region 4 with (fail)
  refine wp_region_facts (fun W W' => Below W.heap.size W W') (fun W => RowAt W p [.int .i64 m, .int .i64 k, .int .i64 A, .int .i64 O] ∧ Below w.heap.size w W)
    (factsOf [.is (.pointer (some ⟨p, 0, none⟩)), .is (.pointer (some ⟨p, 0, none⟩)), .is (.pointer (some ⟨p, 0, none⟩)), .is (.int .i64 m), .is (.pointer (some ⟨p, 0, none⟩)), .is (.pointer (some ⟨p, 0, none⟩)), .is (.pointer (some ⟨p, 2, none⟩)), .is (.int .i64 A), .is (.pointer (some ⟨p, 0, none⟩)), .is (.pointer (some ⟨p, 0, none⟩)), .is (.pointer (some ⟨p, 3, none⟩)), .is (.int .i64 O), .is (.int .i64 (N : Int)), .is (.int .i64 0)])
    (by kernel_rfl) (by kernel_rfl) (facts_stay _) (fun W W' hb h => ⟨h.1.below hb, h.2.trans (hb.mono h.2.size)⟩) (fun _ => undef) (by kernel_rfl) ⟨HR.out.drew, (Below.refl _ _).drew⟩ ?F1 ?hF1 ?hstep1 ?hend1
  case hF1 =>
    intro u
    simp only [fillAct]
    go_simp
    rfl
  case hstep1 =>
    clear HR
    refine FSteps.cons ?_ ?_
    · intro u W hS hd K hK
      clear hd
      simp only [upd, reduceIte, Nat.reduceEqDiff] at hK
      go_simp
      exact hK.out _ _ (Below.refl _ _) rfl
    refine FSteps.cons ?_ ?_
    · intro u W hS hd K hK
      have h0 : u 0 = _ := hd 0 rfl
      clear hd
      simp only [upd, h0, reduceIte, Nat.reduceEqDiff] at hK
      go_simp
      exact hK.out _ _ (Below.refl _ _) rfl
    refine FSteps.cons ?_ ?_
    · intro u W hS hd K hK
      have h1 : u 1 = _ := hd 1 rfl
      clear hd
      simp only [upd, h1, reduceIte, Nat.reduceEqDiff] at hK
      go_simp
      exact hK.out _ _ (Below.refl _ _) rfl
    refine FSteps.cons ?_ ?_
    · intro u W hS hd K hK
      have h2 : u 2 = _ := hd 2 rfl
      clear hd
      simp only [upd, h2, reduceIte, Nat.reduceEqDiff] at hK
      have c0 := hS.1.cell 0 rfl
      go_simp
      exact hK.out _ _ (Below.refl _ _) rfl
    refine FSteps.cons ?_ ?_
    · intro u W hS hd K hK
      clear hd
      simp only [upd, reduceIte, Nat.reduceEqDiff] at hK
      go_simp
      exact hK.out _ _ (Below.refl _ _) rfl
    refine FSteps.cons ?_ ?_
    · intro u W hS hd K hK
      have h4 : u 4 = _ := hd 4 rfl
      clear hd
      simp only [upd, h4, reduceIte, Nat.reduceEqDiff] at hK
      go_simp
      exact hK.out _ _ (Below.refl _ _) rfl
    refine FSteps.cons ?_ ?_
    · intro u W hS hd K hK
      have h5 : u 5 = _ := hd 5 rfl
      clear hd
      simp only [upd, h5, reduceIte, Nat.reduceEqDiff] at hK
      go_simp
      exact hK.out _ _ (Below.refl _ _) rfl
    refine FSteps.cons ?_ ?_
    · intro u W hS hd K hK
      have h6 : u 6 = _ := hd 6 rfl
      clear hd
      simp only [upd, h6, reduceIte, Nat.reduceEqDiff] at hK
      have c0 := hS.1.cell 2 rfl
      go_simp
      exact hK.out _ _ (Below.refl _ _) rfl
    refine FSteps.cons ?_ ?_
    · intro u W hS hd K hK
      clear hd
      simp only [upd, reduceIte, Nat.reduceEqDiff] at hK
      go_simp
      exact hK.out _ _ (Below.refl _ _) rfl
    refine FSteps.cons ?_ ?_
    · intro u W hS hd K hK
      have h8 : u 8 = _ := hd 8 rfl
      clear hd
      simp only [upd, h8, reduceIte, Nat.reduceEqDiff] at hK
      go_simp
      exact hK.out _ _ (Below.refl _ _) rfl
    refine FSteps.cons ?_ ?_
    · intro u W hS hd K hK
      have h9 : u 9 = _ := hd 9 rfl
      clear hd
      simp only [upd, h9, reduceIte, Nat.reduceEqDiff] at hK
      go_simp
      exact hK.out _ _ (Below.refl _ _) rfl
    refine FSteps.cons ?_ ?_
    · intro u W hS hd K hK
      have h10 : u 10 = _ := hd 10 rfl
      clear hd
      simp only [upd, h10, reduceIte, Nat.reduceEqDiff] at hK
      have c0 := hS.1.cell 3 rfl
      go_simp
      exact hK.out _ _ (Below.refl _ _) rfl
    refine FSteps.cons ?_ ?_
    · intro u W hS hd K hK
      have h3 : u 3 = _ := hd 3 rfl
      have h7 : u 7 = _ := hd 7 rfl
      have h11 : u 11 = _ := hd 11 rfl
      clear hd
      simp only [upd, h3, h7, h11, reduceIte, Nat.reduceEqDiff] at hK
      go_simp
      go_at_call 10
      refine (HF.out _).mono ?_
      rintro e wc ⟨rfl, hb⟩
      exact hK.out _ _ hb rfl
    refine FSteps.cons ?_ ?_
    · intro u W hS hd K hK
      clear hd
      simp only [upd, reduceIte, Nat.reduceEqDiff] at hK
      go_simp
      exact hK.out _ _ (Below.refl _ _) rfl
    exact trivial
  case hend1 =>
    intro u w6 hS hd
    have h12 : u 12 = _ := hd 12 rfl
    have h13 : u 13 = _ := hd 13 rfl
    have HR6 := Lib.hid hS.1
    have HB6 := Lib.hid hS.2
    clear hd hS HR
    rw [h12, h13]
    clear HF
    go_wp2_with fail
    go_loopw [3, 20] (fun l i wx => ∃ (j : Nat) (tv : Value), j ≤ N ∧ i = .int .i64 j ∧ tv = l ∧ Hid (RowAt wx p [.int .i64 m, .int .i64 k, .int .i64 A, .int .i64 O] ∧ OwnL encI 3 wx w.heap.size tv (L.take j) ∧ Below w.heap.size w wx)) (fun _ i _ => N - (intOf i).toNat)
    case atStart => exact ⟨0, _, Nat.zero_le _, rfl, rfl, Lib.hid ⟨HR6.out, OwnL.nil encI 3 _ _, HB6.out⟩⟩
    case round =>
      obtain ⟨j, tv, hj, rfl, rfl, HK⟩ := hrel
      clear HR6 HB6
      by_cases hlt : j < N
      · have dO : decide ((j : Int) < (N : Int)) = true := decide_eq_true (by omega)
        have HTK := Lib.hid (HT.out j hlt)
        rw [← HS.out j] at HTK
        have HLN := Lib.hid (show (L.take j).length ≤ 100000 from by rw [List.length_take]; omega)
        have HS2 := Lib.hid (fun W => cstep_any m A (j : Int) W)
        generalize stepD m A (j : Int) = q at *
        go_upto_region 7 with (fail)
        clear dO
        refine wp_region_upto 12 1 (fun W W' => Below W.heap.size W W') (fun W => RowAt W p [.int .i64 m, .int .i64 k, .int .i64 A, .int .i64 O] ∧ OwnL encI 3 W w.heap.size tv (L.take j) ∧ Below w.heap.size w W)
          (fun j' v W => factsOf [.is (tv), .is (.pointer (some ⟨p, 0, none⟩)), .is (.pointer (some ⟨p, 0, none⟩)), .is (.pointer (some ⟨p, 0, none⟩)), .is (.int .i64 m), .is (.pointer (some ⟨p, 0, none⟩)), .is (.pointer (some ⟨p, 0, none⟩)), .is (.pointer (some ⟨p, 2, none⟩)), .is (.int .i64 A), .is (.int .i64 (j : Int)), .is (.int .i64 q), .any] j' v W ∧ (j' = 11 → ∃ b, v = .slice (some ⟨b, 0, none⟩) 1 1 ∧ AtL encI W (some ⟨b, 0, none⟩) [q]))
          (by kernel_rfl) rfl (by kernel_rfl) (by kernel_rfl) (fun j' v W W' hb h => ⟨facts_stay _ j' v W W' hb h.1, fun e => by obtain ⟨b, hv, hB⟩ := h.2 e; exact ⟨b, hv, hB.below hb⟩⟩) (fun W W' hb h => ⟨h.1.below hb, h.2.1.below hb, h.2.2.trans (hb.mono h.2.2.size)⟩) (fun i => [u23, u24, u25, u26, u27, u28, u29, u30, u31, u32, u33, u34, u35].getD i undef) (by kernel_rfl) ⟨HK.out.1.drew, HK.out.2.1.drew, HK.out.2.2.drew⟩ ?F2 ?hF2 ?hstep2 ?hend2
        case hF2 =>
          intro u
          simp only [List.take, fillAct]
          go_simp
          rfl
        case hstep2 =>
          clear HK
          refine FSteps.cons ?_ ?_
          · intro u W hS hd K hK
            clear hd
            simp only [upd, reduceIte, Nat.reduceEqDiff] at hK
            go_simp
            exact hK.out _ _ (Below.refl _ _) ⟨rfl, (fun e => absurd e (by decide))⟩
          refine FSteps.cons ?_ ?_
          · intro u W hS hd K hK
            clear hd
            simp only [upd, reduceIte, Nat.reduceEqDiff] at hK
            go_simp
            exact hK.out _ _ (Below.refl _ _) ⟨rfl, (fun e => absurd e (by decide))⟩
          refine FSteps.cons ?_ ?_
          · intro u W hS hd K hK
            have h1 : u 1 = _ := (hd 1 rfl).1
            clear hd
            simp only [upd, h1, reduceIte, Nat.reduceEqDiff] at hK
            go_simp
            exact hK.out _ _ (Below.refl _ _) ⟨rfl, (fun e => absurd e (by decide))⟩
          refine FSteps.cons ?_ ?_
          · intro u W hS hd K hK
            have h2 : u 2 = _ := (hd 2 rfl).1
            clear hd
            simp only [upd, h2, reduceIte, Nat.reduceEqDiff] at hK
            go_simp
            exact hK.out _ _ (Below.refl _ _) ⟨rfl, (fun e => absurd e (by decide))⟩
          refine FSteps.cons ?_ ?_
          · intro u W hS hd K hK
            have h3 : u 3 = _ := (hd 3 rfl).1
            clear hd
            simp only [upd, h3, reduceIte, Nat.reduceEqDiff] at hK
            have c0 := hS.1.cell 0 rfl
            go_simp
            exact hK.out _ _ (Below.refl _ _) ⟨rfl, (fun e => absurd e (by decide))⟩
          refine FSteps.cons ?_ ?_
          · intro u W hS hd K hK
            clear hd
            simp only [upd, reduceIte, Nat.reduceEqDiff] at hK
            go_simp
            exact hK.out _ _ (Below.refl _ _) ⟨rfl, (fun e => absurd e (by decide))⟩
          refine FSteps.cons ?_ ?_
          · intro u W hS hd K hK
            have h5 : u 5 = _ := (hd 5 rfl).1
            clear hd
            simp only [upd, h5, reduceIte, Nat.reduceEqDiff] at hK
            go_simp
            exact hK.out _ _ (Below.refl _ _) ⟨rfl, (fun e => absurd e (by decide))⟩
          refine FSteps.cons ?_ ?_
          · intro u W hS hd K hK
            have h6 : u 6 = _ := (hd 6 rfl).1
            clear hd
            simp only [upd, h6, reduceIte, Nat.reduceEqDiff] at hK
            go_simp
            exact hK.out _ _ (Below.refl _ _) ⟨rfl, (fun e => absurd e (by decide))⟩
          refine FSteps.cons ?_ ?_
          · intro u W hS hd K hK
            have h7 : u 7 = _ := (hd 7 rfl).1
            clear hd
            simp only [upd, h7, reduceIte, Nat.reduceEqDiff] at hK
            have c0 := hS.1.cell 2 rfl
            go_simp
            exact hK.out _ _ (Below.refl _ _) ⟨rfl, (fun e => absurd e (by decide))⟩
          refine FSteps.cons ?_ ?_
          · intro u W hS hd K hK
            clear hd
            simp only [upd, reduceIte, Nat.reduceEqDiff] at hK
            go_simp
            exact hK.out _ _ (Below.refl _ _) ⟨rfl, (fun e => absurd e (by decide))⟩
          refine FSteps.cons ?_ ?_
          · intro u W hS hd K hK
            have h4 : u 4 = _ := (hd 4 rfl).1
            have h8 : u 8 = _ := (hd 8 rfl).1
            have h9 : u 9 = _ := (hd 9 rfl).1
            clear hd
            simp only [upd, h4, h8, h9, reduceIte, Nat.reduceEqDiff] at hK
            go_simp
            go_at_call 12
            refine (HS2.out _).mono ?_
            rintro e wc ⟨rfl, hb⟩
            exact hK.out _ _ hb ⟨rfl, (fun e => absurd e (by decide))⟩
          refine FSteps.cons ?_ ?_
          · intro u W hS hd K hK
            have h10 : u 10 = _ := (hd 10 rfl).1
            clear hd
            simp only [upd, h10, reduceIte, Nat.reduceEqDiff] at hK
            go_simp
            exact hK.out _ _ ((Below.refl _ _).alloc (Nat.le_refl _) _) ⟨trivial, fun _ => ⟨_, rfl, AtL.made encI 3 _ _ q _ rfl rfl⟩⟩
          exact trivial
        case hend2 =>
          intro u w6 hS hd
          have h0 : u 0 = _ := (hd 0 rfl).1
          obtain ⟨b7, h7, B7⟩ := (hd 11 rfl).2 rfl
          clear hd HK
          refine wpAny_ready (rs := [12]) (by kernel_rfl) (by simp) ?_
          refine AllReady.cons rfl (fun K hK => ?_) AllReady.nil
          rw [if_pos (by kernel_rfl)]
          obtain ⟨v', w7, hr, hown, hgr, hov⟩ := run_append_one encI 3 26 26 Try.underlying26 infoI rfl (by decide) w6 w.heap.size tv (L.take j) hS.2.1 b7 1 q B7 HLN.out hS.2.2.size
          simp only [h0, h7]
          refine wp_append_run (.tmp 23) (.tmp 34) rfl rfl rfl hr ?_
          have HR8 := Lib.hid (show RowAt w7 p [.int .i64 m, .int .i64 k, .int .i64 A, .int .i64 O] ∧ OwnL encI 3 w7 w.heap.size v' (L.take (j + 1)) ∧ Below w.heap.size w w7 from
            ⟨hS.1.block (hgr.block p (hS.1.get 0 rfl).lt (fun e => by have := (hS.2.1.ge e.symm).1; have := HPL.out; omega)) hgr.size, by rw [HTK.out]; exact hown, hS.2.2.grown hgr hS.2.2.size (fun k e => (hS.2.1.ge e).1)⟩)
          clear hS hr hown hgr hov B7
          refine hK _ _ ?_
          clear hK K
          refine wpAny_ready (rs := [13]) (by kernel_rfl) (by simp) ?_
          refine AllReady.cons rfl (fun K hK => ?_) AllReady.nil
          go_simp
          refine hK _ _ ?_
          clear hK K
          refine wpAny_done (by kernel_rfl) ?_ _
          go_wp2_with fail
          go_roundw
          case rel => exact ⟨j + 1, _, hlt, by go_num, rfl, HR8⟩
          case measure => simp [intOf]; omega
      · have dO : decide ((j : Int) < (N : Int)) = false := decide_eq_false (by omega)
        have e : L.take j = L := List.take_of_length_le (by rw [HLL.out]; omega)
        have HOE := Lib.hid (show OwnL encI 3 wr w.heap.size tv L from e ▸ HK.out.2.1)
        have HBE := Lib.hid HK.out.2.2
        clear e HK
        go_wp2_with fail
        exact bodyPost_ret (v := tv) (by simp [results, Try.results21, go_sem]) rfl ⟨tv, rfl, HOE.out, HBE.out⟩
set_option maxHeartbeats 1000000 in
theorem cva_any (p : Nat) (m k : Int) (s : So) (w : World) (h : RowAt w p (coV m k s)) : Calls Try.prog 23 #[.pointer (some ⟨p, 0, none⟩)] w fun e w' => e = .returned (.int .i64 (s.acked % m)) ∧ w' = w := by
  have c0 : w.cell? ⟨p, 2, none⟩ = some (.int .i64 (s.acked % m)) := h.cell 2 rfl
  generalize s.acked % m = x at *
  clear h
  go_enter Try.func23, Try.ntmps23
  go_wp2_with fail
  exact bodyPost_ret (v := .int .i64 x) (by simp [results, Try.results23, go_sem]) rfl ⟨rfl, rfl⟩
set_option maxHeartbeats 1000000 in
theorem cvs_any (p : Nat) (m k : Int) (s : So) (w : World) (h : RowAt w p (coV m k s)) : Calls Try.prog 24 #[.pointer (some ⟨p, 0, none⟩)] w fun e w' => e = .returned (.int .i64 (s.opened % m)) ∧ w' = w := by
  have c0 : w.cell? ⟨p, 3, none⟩ = some (.int .i64 (s.opened % m)) := h.cell 3 rfl
  generalize s.opened % m = x at *
  clear h
  go_enter Try.func24, Try.ntmps24
  go_wp2_with fail
  exact bodyPost_ret (v := .int .i64 x) (by simp [results, Try.results24, go_sem]) rfl ⟨rfl, rfl⟩
set_option maxHeartbeats 1000000 in
theorem cback_any (p : Nat) (m k : Int) (s : So) (w : World) (h : RowAt w p (coV m k s)) : Calls Try.prog 17 #[.pointer (some ⟨p, 0, none⟩)] w fun e w' => e = .returned (.tuple #[]) ∧ RowAt w' p (coV m k ⟨s.acked, s.acked⟩) ∧ Turn (fun x => x = p) w w' := by
  have HR := Lib.hid (show RowAt w p [.int .i64 m, .int .i64 k, .int .i64 (s.acked % m), .int .i64 (s.opened % m)] from h)
  show Calls _ _ _ _ fun e w' => e = .returned (.tuple #[]) ∧ RowAt w' p [.int .i64 m, .int .i64 k, .int .i64 (s.acked % m), .int .i64 (s.acked % m)] ∧ Turn (fun x => x = p) w w'
  clear h
  generalize s.acked % m = A at *
  generalize s.opened % m = O at *
  have c0 := HR.out.cell 2 rfl
  have c3 := HR.out.cell 3 rfl
  have f3 := (HR.out.get 3 rfl).free
  go_enter Try.func17, Try.ntmps17
  go_wp2_with fail
  have HR2 := Lib.hid (HR.out.put 3 (.int .i64 A) _ rfl)
  have HT2 := Lib.hid ((Turn.refl (fun x => x = p) w).set (p := ⟨p, 3, none⟩) (Or.inl rfl) (.int .i64 A))
  go_end0
  exact ⟨rfl, HR2.out, HT2.out⟩
set_option maxHeartbeats 1000000 in
theorem cnext_any (p : Nat) (m k : Int) (s : So) (w : World) (h : RowAt w p (coV m k s)) (hok : SoOk m k s) : Calls Try.prog 15 #[.pointer (some ⟨p, 0, none⟩)] w fun e w' =>
    e = .returned (.tuple #[.int .i64 (nextS m k s).2.1, .int .i64 (nextS m k s).2.2]) ∧ RowAt w' p (coV m k (nextS m k s).1) ∧ Turn (fun x => x = p) w w' := by
  obtain ⟨N, hC⟩ := con_any hok
  have hL := openS_len m s
  rw [hC.len, Int.toNat_natCast] at hL
  have HOP := Lib.hid (fun W (hW : RowAt W p (coV m k s)) => show Calls Try.prog 21 #[.pointer (some ⟨p, 0, none⟩)] W fun e w' => ∃ a c, e = .returned (.slice a N c) ∧ Below W.heap.size W w' from
    (copen_any p m k s W hW hok).mono fun e w' ⟨v, he, ho, hb⟩ => by
      obtain ⟨a, c, hv, -⟩ := ho.see
      rw [hL] at hv
      exact ⟨a, c, by rw [he, hv], hb⟩)
  have HR := Lib.hid (show RowAt w p [.int .i64 m, .int .i64 k, .int .i64 (s.acked % m), .int .i64 (s.opened % m)] from h)
  have hlen := hC.len
  have hob := hok.ob
  by_cases hk : s.opened - s.acked = k
  · have hE : nextS m k s = (s, 0, 6) := by unfold nextS; exact if_pos hk
    rw [hE]
    simp only [coV] at HOP ⊢
    have DK := Lib.hid (show decide (k ≤ (N : Int)) = true from decide_eq_true (by omega))
    clear hE hk h hok hC hL hlen hob
    generalize s.acked % m = A at *
    generalize s.opened % m = O at *
    go_enter Try.func15, Try.ntmps15
    go_upto_region 3 with (fail)
    refine wp_region_facts (fun W W' => Below W.heap.size W W') (fun W => RowAt W p [.int .i64 m, .int .i64 k, .int .i64 A, .int .i64 O] ∧ Below w.heap.size w W)
      (fun j' v W => factsOf [.is (.pointer (some ⟨p, 0, none⟩)), .any, .is (.int .i64 (N : Int)), .is (.pointer (some ⟨p, 0, none⟩)), .is (.pointer (some ⟨p, 0, none⟩)), .is (.pointer (some ⟨p, 1, none⟩)), .is (.int .i64 k), .is (.bool true)] j' v W ∧ (j' = 1 → ∃ a c, v = .slice a N c))
      (by kernel_rfl) (by kernel_rfl) (fun j' v W W' hb h => ⟨facts_stay _ j' v W W' hb h.1, fun e => by obtain ⟨a, c, hv⟩ := h.2 e; exact ⟨a, c, hv⟩⟩) (fun W W' hb h => ⟨h.1.below hb, h.2.trans (hb.mono h.2.size)⟩) (fun _ => undef) (by kernel_rfl) ⟨HR.out.drew, (Below.refl _ _).drew⟩ ?F3 ?hF3 ?hstep3 ?hend3
    case hF3 =>
      intro u
      simp only [fillAct]
      go_simp
      rfl
    case hstep3 =>
      clear HR
      refine FSteps.cons ?_ ?_
      · intro u W hS hd K hK
        clear hd
        simp only [upd, reduceIte, Nat.reduceEqDiff] at hK
        go_simp
        exact hK.out _ _ (Below.refl _ _) ⟨rfl, (fun e => absurd e (by decide))⟩
      refine FSteps.cons ?_ ?_
      · intro u W hS hd K hK
        have h0 : u 0 = _ := (hd 0 rfl).1
        clear hd
        simp only [upd, h0, reduceIte, Nat.reduceEqDiff] at hK
        go_simp
        go_at_call 21
        refine (HOP.out _ hS.1).mono ?_
        rintro e wc ⟨a1, c1, rfl, hb⟩
        exact hK.out _ _ hb ⟨trivial, fun _ => ⟨_, _, rfl⟩⟩
      refine FSteps.cons ?_ ?_
      · intro u W hS hd K hK
        obtain ⟨a1, c1, h1⟩ := ((hd 1 rfl).2 rfl)
        clear hd
        simp only [upd, h1, reduceIte, Nat.reduceEqDiff] at hK
        go_simp
        exact hK.out _ _ (Below.refl _ _) ⟨rfl, (fun e => absurd e (by decide))⟩
      refine FSteps.cons ?_ ?_
      · intro u W hS hd K hK
        clear hd
        simp only [upd, reduceIte, Nat.reduceEqDiff] at hK
        go_simp
        exact hK.out _ _ (Below.refl _ _) ⟨rfl, (fun e => absurd e (by decide))⟩
      refine FSteps.cons ?_ ?_
      · intro u W hS hd K hK
        have h3 : u 3 = _ := (hd 3 rfl).1
        clear hd
        simp only [upd, h3, reduceIte, Nat.reduceEqDiff] at hK
        go_simp
        exact hK.out _ _ (Below.refl _ _) ⟨rfl, (fun e => absurd e (by decide))⟩
      refine FSteps.cons ?_ ?_
      · intro u W hS hd K hK
        have h4 : u 4 = _ := (hd 4 rfl).1
        clear hd
        simp only [upd, h4, reduceIte, Nat.reduceEqDiff] at hK
        go_simp
        exact hK.out _ _ (Below.refl _ _) ⟨rfl, (fun e => absurd e (by decide))⟩
      refine FSteps.cons ?_ ?_
      · intro u W hS hd K hK
        have h5 : u 5 = _ := (hd 5 rfl).1
        clear hd
        simp only [upd, h5, reduceIte, Nat.reduceEqDiff] at hK
        have c0 := hS.1.cell 1 rfl
        go_simp
        exact hK.out _ _ (Below.refl _ _) ⟨rfl, (fun e => absurd e (by decide))⟩
      refine FSteps.cons ?_ ?_
      · intro u W hS hd K hK
        have h2 : u 2 = _ := (hd 2 rfl).1
        have h6 : u 6 = _ := (hd 6 rfl).1
        clear hd
        simp only [upd, h2, h6, reduceIte, Nat.reduceEqDiff] at hK
        have dk := DK.out
        go_simp
        exact hK.out _ _ (Below.refl _ _) ⟨rfl, (fun e => absurd e (by decide))⟩
      exact trivial
    case hend3 =>
      intro u w6 hS hd
      have h7 : u 7 = _ := (hd 7 rfl).1
      have HR6 := Lib.hid hS.1
      have HB6 := Lib.hid hS.2
      clear hd hS HR
      rw [h7]
      go_wp2_with fail
      exact bodyPost_ret (v := .tuple #[.int .i64 0, .int .i64 6]) (by simp [results, Try.results15, go_sem]) rfl ⟨rfl, HR6.out, Turn.of_below HB6.out⟩
  · have hE : nextS m k s = (⟨s.opened + 1, s.acked⟩, s.opened % m, 0) := by unfold nextS; exact if_neg hk
    rw [hE]
    simp only [coV] at HOP ⊢
    have DK := Lib.hid (show decide (k ≤ (N : Int)) = false from decide_eq_false (by omega))
    have HS := Lib.hid (fun W => cstep_any m (s.opened % m) 1 W)
    rw [hC.next] at HS
    clear hE hk h hok hC hL hlen hob
    generalize s.acked % m = A at *
    generalize s.opened % m = O at *
    generalize (s.opened + 1) % m = O1 at *
    go_enter Try.func15, Try.ntmps15
    go_upto_region 3 with (fail)
    refine wp_region_facts (fun W W' => Below W.heap.size W W') (fun W => RowAt W p [.int .i64 m, .int .i64 k, .int .i64 A, .int .i64 O] ∧ Below w.heap.size w W)
      (fun j' v W => factsOf [.is (.pointer (some ⟨p, 0, none⟩)), .any, .is (.int .i64 (N : Int)), .is (.pointer (some ⟨p, 0, none⟩)), .is (.pointer (some ⟨p, 0, none⟩)), .is (.pointer (some ⟨p, 1, none⟩)), .is (.int .i64 k), .is (.bool false)] j' v W ∧ (j' = 1 → ∃ a c, v = .slice a N c))
      (by kernel_rfl) (by kernel_rfl) (fun j' v W W' hb h => ⟨facts_stay _ j' v W W' hb h.1, fun e => by obtain ⟨a, c, hv⟩ := h.2 e; exact ⟨a, c, hv⟩⟩) (fun W W' hb h => ⟨h.1.below hb, h.2.trans (hb.mono h.2.size)⟩) (fun _ => undef) (by kernel_rfl) ⟨HR.out.drew, (Below.refl _ _).drew⟩ ?F4 ?hF4 ?hstep4 ?hend4
    case hF4 =>
      intro u
      simp only [fillAct]
      go_simp
      rfl
    case hstep4 =>
      clear HR
      refine FSteps.cons ?_ ?_
      · intro u W hS hd K hK
        clear hd
        simp only [upd, reduceIte, Nat.reduceEqDiff] at hK
        go_simp
        exact hK.out _ _ (Below.refl _ _) ⟨rfl, (fun e => absurd e (by decide))⟩
      refine FSteps.cons ?_ ?_
      · intro u W hS hd K hK
        have h0 : u 0 = _ := (hd 0 rfl).1
        clear hd
        simp only [upd, h0, reduceIte, Nat.reduceEqDiff] at hK
        go_simp
        go_at_call 21
        refine (HOP.out _ hS.1).mono ?_
        rintro e wc ⟨a1, c1, rfl, hb⟩
        exact hK.out _ _ hb ⟨trivial, fun _ => ⟨_, _, rfl⟩⟩
      refine FSteps.cons ?_ ?_
      · intro u W hS hd K hK
        obtain ⟨a1, c1, h1⟩ := ((hd 1 rfl).2 rfl)
        clear hd
        simp only [upd, h1, reduceIte, Nat.reduceEqDiff] at hK
        go_simp
        exact hK.out _ _ (Below.refl _ _) ⟨rfl, (fun e => absurd e (by decide))⟩
      refine FSteps.cons ?_ ?_
      · intro u W hS hd K hK
        clear hd
        simp only [upd, reduceIte, Nat.reduceEqDiff] at hK
        go_simp
        exact hK.out _ _ (Below.refl _ _) ⟨rfl, (fun e => absurd e (by decide))⟩
      refine FSteps.cons ?_ ?_
      · intro u W hS hd K hK
        have h3 : u 3 = _ := (hd 3 rfl).1
        clear hd
        simp only [upd, h3, reduceIte, Nat.reduceEqDiff] at hK
        go_simp
        exact hK.out _ _ (Below.refl _ _) ⟨rfl, (fun e => absurd e (by decide))⟩
      refine FSteps.cons ?_ ?_
      · intro u W hS hd K hK
        have h4 : u 4 = _ := (hd 4 rfl).1
        clear hd
        simp only [upd, h4, reduceIte, Nat.reduceEqDiff] at hK
        go_simp
        exact hK.out _ _ (Below.refl _ _) ⟨rfl, (fun e => absurd e (by decide))⟩
      refine FSteps.cons ?_ ?_
      · intro u W hS hd K hK
        have h5 : u 5 = _ := (hd 5 rfl).1
        clear hd
        simp only [upd, h5, reduceIte, Nat.reduceEqDiff] at hK
        have c0 := hS.1.cell 1 rfl
        go_simp
        exact hK.out _ _ (Below.refl _ _) ⟨rfl, (fun e => absurd e (by decide))⟩
      refine FSteps.cons ?_ ?_
      · intro u W hS hd K hK
        have h2 : u 2 = _ := (hd 2 rfl).1
        have h6 : u 6 = _ := (hd 6 rfl).1
        clear hd
        simp only [upd, h2, h6, reduceIte, Nat.reduceEqDiff] at hK
        have dk := DK.out
        go_simp
        exact hK.out _ _ (Below.refl _ _) ⟨rfl, (fun e => absurd e (by decide))⟩
      exact trivial
    case hend4 =>
      intro u w6 hS hd
      have h7 : u 7 = _ := (hd 7 rfl).1
      have HR6 := Lib.hid hS.1
      have HB6 := Lib.hid hS.2
      clear hd hS HR
      rw [h7]
      have c0 := HR6.out.cell 0 rfl
      have c3 := HR6.out.cell 3 rfl
      go_upto_region 6 with (fail)
      go_wp2_with (go_at_call 12; (with_reducible refine (HS.out _).mono ?_); rintro e w7 ⟨rfl, hb⟩; have HR7 := Lib.hid (HR6.out.below hb); have HB7 := Lib.hid (HB6.out.trans (hb.mono HB6.out.size)); have f3 := (HR7.out.get 3 rfl).free; have c3' := HR7.out.cell 3 rfl; clear hb c0 c3)
      have HR8 := Lib.hid (HR7.out.put 3 (.int .i64 O1) _ rfl)
      have HT8 := Lib.hid ((Turn.of_below HB7.out).set (F := fun x => x = p) (p := ⟨p, 3, none⟩) (Or.inl rfl) (.int .i64 O1))
      exact bodyPost_ret (v := .tuple #[.int .i64 O, .int .i64 0]) (by simp [results, Try.results15, go_sem]) rfl ⟨rfl, HR8.out, HT8.out⟩
set_option maxHeartbeats 1000000 in
theorem cacks_neg (p : Nat) (m k A O nr d : Int) (N : Nat) (w : World) (h : RowAt w p [.int .i64 m, .int .i64 k, .int .i64 A, .int .i64 O]) (hd : farD m A nr = d) (_hN : farD m A O = (N : Int)) (hn : d < 0) : Calls Try.prog 18 #[.pointer (some ⟨p, 0, none⟩), .int .i64 nr] w fun e w' =>
    e = .returned (.tuple #[.int .i64 0, .int .i64 1]) ∧ RowAt w' p [.int .i64 m, .int .i64 k, .int .i64 A, .int .i64 O] ∧ Turn (fun x => x = p) w w' := by
    have HF := Lib.hid (fun W => cfar_any m A nr W)
    rw [hd] at HF
    have HR := Lib.hid h
    have DN := Lib.hid (show decide (d < 0) = true from decide_eq_true hn)
    clear h hd hn
    go_enter Try.func18, Try.ntmps18
    go_upto_region 3 with (fail)
    refine wp_region_facts (fun W W' => Below W.heap.size W W') (fun W => RowAt W p [.int .i64 m, .int .i64 k, .int .i64 A, .int .i64 O] ∧ Below w.heap.size w W)
      (factsOf [.is (.pointer (some ⟨p, 0, none⟩)), .is (.pointer (some ⟨p, 0, none⟩)), .is (.pointer (some ⟨p, 0, none⟩)), .is (.int .i64 m), .is (.pointer (some ⟨p, 0, none⟩)), .is (.pointer (some ⟨p, 0, none⟩)), .is (.pointer (some ⟨p, 2, none⟩)), .is (.int .i64 A), .is (.int .i64 nr), .is (.int .i64 d), .is (.int .i64 d)])
      (by kernel_rfl) (by kernel_rfl) (facts_stay _) (fun W W' hb h => ⟨h.1.below hb, h.2.trans (hb.mono h.2.size)⟩) (fun _ => undef) (by kernel_rfl) ⟨HR.out.drew, (Below.refl _ _).drew⟩ ?F5 ?hF5 ?hstep5 ?hend5
    case hF5 =>
      intro u
      simp only [fillAct]
      go_simp
      rfl
    case hstep5 =>
      clear HR
      refine FSteps.cons ?_ ?_
      · intro u W hS hd K hK
        clear hd
        simp only [upd, reduceIte, Nat.reduceEqDiff] at hK
        go_simp
        exact hK.out _ _ (Below.refl _ _) rfl
      refine FSteps.cons ?_ ?_
      · intro u W hS hd K hK
        have h0 : u 0 = _ := hd 0 rfl
        clear hd
        simp only [upd, h0, reduceIte, Nat.reduceEqDiff] at hK
        go_simp
        exact hK.out _ _ (Below.refl _ _) rfl
      refine FSteps.cons ?_ ?_
      · intro u W hS hd K hK
        have h1 : u 1 = _ := hd 1 rfl
        clear hd
        simp only [upd, h1, reduceIte, Nat.reduceEqDiff] at hK
        go_simp
        exact hK.out _ _ (Below.refl _ _) rfl
      refine FSteps.cons ?_ ?_
      · intro u W hS hd K hK
        have h2 : u 2 = _ := hd 2 rfl
        clear hd
        simp only [upd, h2, reduceIte, Nat.reduceEqDiff] at hK
        have c0 := hS.1.cell 0 rfl
        go_simp
        exact hK.out _ _ (Below.refl _ _) rfl
      refine FSteps.cons ?_ ?_
      · intro u W hS hd K hK
        clear hd
        simp only [upd, reduceIte, Nat.reduceEqDiff] at hK
        go_simp
        exact hK.out _ _ (Below.refl _ _) rfl
      refine FSteps.cons ?_ ?_
      · intro u W hS hd K hK
        have h4 : u 4 = _ := hd 4 rfl
        clear hd
        simp only [upd, h4, reduceIte, Nat.reduceEqDiff] at hK
        go_simp
        exact hK.out _ _ (Below.refl _ _) rfl
      refine FSteps.cons ?_ ?_
      · intro u W hS hd K hK
        have h5 : u 5 = _ := hd 5 rfl
        clear hd
        simp only [upd, h5, reduceIte, Nat.reduceEqDiff] at hK
        go_simp
        exact hK.out _ _ (Below.refl _ _) rfl
      refine FSteps.cons ?_ ?_
      · intro u W hS hd K hK
        have h6 : u 6 = _ := hd 6 rfl
        clear hd
        simp only [upd, h6, reduceIte, Nat.reduceEqDiff] at hK
        have c0 := hS.1.cell 2 rfl
        go_simp
        exact hK.out _ _ (Below.refl _ _) rfl
      refine FSteps.cons ?_ ?_
      · intro u W hS hd K hK
        clear hd
        simp only [upd, reduceIte, Nat.reduceEqDiff] at hK
        go_simp
        exact hK.out _ _ (Below.refl _ _) rfl
      refine FSteps.cons ?_ ?_
      · intro u W hS hd K hK
        have h3 : u 3 = _ := hd 3 rfl
        have h7 : u 7 = _ := hd 7 rfl
        have h8 : u 8 = _ := hd 8 rfl
        clear hd
        simp only [upd, h3, h7, h8, reduceIte, Nat.reduceEqDiff] at hK
        go_simp
        go_at_call 10
        refine (HF.out _).mono ?_
        rintro e wc ⟨rfl, hb⟩
        exact hK.out _ _ hb rfl
      refine FSteps.cons ?_ ?_
      · intro u W hS hd K hK
        have h9 : u 9 = _ := hd 9 rfl
        clear hd
        simp only [upd, h9, reduceIte, Nat.reduceEqDiff] at hK
        go_simp
        exact hK.out _ _ (Below.refl _ _) rfl
      exact trivial
    case hend5 =>
      intro u w6 hS hd
      have h10 : u 10 = _ := hd 10 rfl
      have HR6 := Lib.hid hS.1
      have HB6 := Lib.hid hS.2
      clear hd hS HR
      rw [h10]
      generalize w6 = w5 at *
      go_upto_region 4 with (fail)
      
      refine wp_region_facts (fun W W' => Below W.heap.size W W') (fun W => RowAt W p [.int .i64 m, .int .i64 k, .int .i64 A, .int .i64 O] ∧ Below w.heap.size w W)
        (factsOf [.is (.int .i64 d), .is (.bool true), .is (.bool true), .any, .any, .any, .any, .any, .any, .any, .any, .any, .any, .any, .any, .any, .any, .any, .is (.bool true)])
        (by kernel_rfl) (by kernel_rfl) (facts_stay _) (fun W W' hb h => ⟨h.1.below hb, h.2.trans (hb.mono h.2.size)⟩) (fun _ => undef) (by kernel_rfl) ⟨HR6.out.drew, HB6.out.drew⟩ ?F6 ?hF6 ?hstep6 ?hend6
      case hF6 =>
        intro u
        simp only [fillAct]
        go_simp
        rfl
      case hstep6 =>
        clear HR6 HB6
        refine FSteps.cons ?_ ?_
        · intro u W hS hd K hK
          clear hd
          simp only [upd, reduceIte, Nat.reduceEqDiff] at hK
          go_simp
          exact hK.out _ _ (Below.refl _ _) rfl
        refine FSteps.cons ?_ ?_
        · intro u W hS hd K hK
          have h0 : u 0 = _ := hd 0 rfl
          clear hd
          simp only [upd, h0, reduceIte, Nat.reduceEqDiff] at hK
          have dn := DN.out
          go_simp
          exact hK.out _ _ (Below.refl _ _) rfl
        refine FSteps.cons ?_ ?_
        · intro u W hS hd K hK
          have h1 : u 1 = _ := hd 1 rfl
          clear hd
          simp only [upd, h1, reduceIte, Nat.reduceEqDiff] at hK
          go_simp
          exact hK.out _ _ (Below.refl _ _) rfl
        refine FSteps.cons ?_ ?_
        · intro u W hS hd K hK
          have h2 : u 2 = _ := hd 2 rfl
          clear hd
          simp only [upd, h2, reduceIte, Nat.reduceEqDiff] at hK
          go_simp
          exact hK.out undef _ (Below.refl _ _) trivial
        refine FSteps.cons ?_ ?_
        · intro u W hS hd K hK
          have h2 : u 2 = _ := hd 2 rfl
          clear hd
          simp only [upd, h2, reduceIte, Nat.reduceEqDiff] at hK
          go_simp
          exact hK.out undef _ (Below.refl _ _) trivial
        refine FSteps.cons ?_ ?_
        · intro u W hS hd K hK
          have h2 : u 2 = _ := hd 2 rfl
          clear hd
          simp only [upd, h2, reduceIte, Nat.reduceEqDiff] at hK
          go_simp
          exact hK.out undef _ (Below.refl _ _) trivial
        refine FSteps.cons ?_ ?_
        · intro u W hS hd K hK
          have h2 : u 2 = _ := hd 2 rfl
          clear hd
          simp only [upd, h2, reduceIte, Nat.reduceEqDiff] at hK
          go_simp
          exact hK.out undef _ (Below.refl _ _) trivial
        refine FSteps.cons ?_ ?_
        · intro u W hS hd K hK
          have h2 : u 2 = _ := hd 2 rfl
          clear hd
          simp only [upd, h2, reduceIte, Nat.reduceEqDiff] at hK
          go_simp
          exact hK.out undef _ (Below.refl _ _) trivial
        refine FSteps.cons ?_ ?_
        · intro u W hS hd K hK
          have h2 : u 2 = _ := hd 2 rfl
          clear hd
          simp only [upd, h2, reduceIte, Nat.reduceEqDiff] at hK
          go_simp
          exact hK.out undef _ (Below.refl _ _) trivial
        refine FSteps.cons ?_ ?_
        · intro u W hS hd K hK
          have h2 : u 2 = _ := hd 2 rfl
          clear hd
          simp only [upd, h2, reduceIte, Nat.reduceEqDiff] at hK
          go_simp
          exact hK.out undef _ (Below.refl _ _) trivial
        refine FSteps.cons ?_ ?_
        · intro u W hS hd K hK
          have h2 : u 2 = _ := hd 2 rfl
          clear hd
          simp only [upd, h2, reduceIte, Nat.reduceEqDiff] at hK
          go_simp
          exact hK.out undef _ (Below.refl _ _) trivial
        refine FSteps.cons ?_ ?_
        · intro u W hS hd K hK
          have h2 : u 2 = _ := hd 2 rfl
          clear hd
          simp only [upd, h2, reduceIte, Nat.reduceEqDiff] at hK
          go_simp
          exact hK.out undef _ (Below.refl _ _) trivial
        refine FSteps.cons ?_ ?_
        · intro u W hS hd K hK
          have h2 : u 2 = _ := hd 2 rfl
          clear hd
          simp only [upd, h2, reduceIte, Nat.reduceEqDiff] at hK
          go_simp
          exact hK.out undef _ (Below.refl _ _) trivial
        refine FSteps.cons ?_ ?_
        · intro u W hS hd K hK
          have h2 : u 2 = _ := hd 2 rfl
          clear hd
          simp only [upd, h2, reduceIte, Nat.reduceEqDiff] at hK
          go_simp
          exact hK.out undef _ (Below.refl _ _) trivial
        refine FSteps.cons ?_ ?_
        · intro u W hS hd K hK
          have h2 : u 2 = _ := hd 2 rfl
          clear hd
          simp only [upd, h2, reduceIte, Nat.reduceEqDiff] at hK
          go_simp
          exact hK.out undef _ (Below.refl _ _) trivial
        refine FSteps.cons ?_ ?_
        · intro u W hS hd K hK
          have h2 : u 2 = _ := hd 2 rfl
          clear hd
          simp only [upd, h2, reduceIte, Nat.reduceEqDiff] at hK
          go_simp
          exact hK.out undef _ (Below.refl _ _) trivial
        refine FSteps.cons ?_ ?_
        · intro u W hS hd K hK
          have h2 : u 2 = _ := hd 2 rfl
          clear hd
          simp only [upd, h2, reduceIte, Nat.reduceEqDiff] at hK
          go_simp
          exact hK.out undef _ (Below.refl _ _) trivial
        refine FSteps.cons ?_ ?_
        · intro u W hS hd K hK
          have h2 : u 2 = _ := hd 2 rfl
          clear hd
          simp only [upd, h2, reduceIte, Nat.reduceEqDiff] at hK
          go_simp
          exact hK.out undef _ (Below.refl _ _) trivial
        refine FSteps.cons ?_ ?_
        · intro u W hS hd K hK
          have h2 : u 2 = _ := hd 2 rfl
          clear hd
          simp only [upd, h2, reduceIte, Nat.reduceEqDiff] at hK
          go_simp
          exact hK.out _ _ (Below.refl _ _) rfl
        exact trivial
      case hend6 =>
        intro u w6 hS hd
        have h18 : u 18 = _ := hd 18 rfl
        have HR7 := Lib.hid hS.1
        have HB7 := Lib.hid hS.2
        clear hd hS HR6 HB6
        rw [h18]
        go_wp2_with fail
        exact bodyPost_ret (v := .tuple #[.int .i64 0, .int .i64 1]) (by simp [results, Try.results18, go_sem]) rfl ⟨rfl, HR7.out, Turn.of_below HB7.out⟩
set_option maxHeartbeats 1000000 in
theorem cacks_big (p : Nat) (m k A O nr d : Int) (N : Nat) (w : World) (h : RowAt w p [.int .i64 m, .int .i64 k, .int .i64 A, .int .i64 O]) (hd : farD m A nr = d) (hN : farD m A O = (N : Int)) (hn : 0 ≤ d ∧ N < d) : Calls Try.prog 18 #[.pointer (some ⟨p, 0, none⟩), .int .i64 nr] w fun e w' =>
    e = .returned (.tuple #[.int .i64 0, .int .i64 1]) ∧ RowAt w' p [.int .i64 m, .int .i64 k, .int .i64 A, .int .i64 O] ∧ Turn (fun x => x = p) w w' := by
    have HF := Lib.hid (fun W => cfar_any m A nr W)
    rw [hd] at HF
    have HG := Lib.hid (fun W => cfar_any m A O W)
    rw [hN] at HG
    have HR := Lib.hid h
    have DN := Lib.hid (show decide (d < 0) = false from decide_eq_false (by omega))
    have DB := Lib.hid (show decide ((N : Int) < d) = true from decide_eq_true hn.2)
    clear h hd hN hn
    go_enter Try.func18, Try.ntmps18
    go_upto_region 3 with (fail)
    refine wp_region_facts (fun W W' => Below W.heap.size W W') (fun W => RowAt W p [.int .i64 m, .int .i64 k, .int .i64 A, .int .i64 O] ∧ Below w.heap.size w W)
      (factsOf [.is (.pointer (some ⟨p, 0, none⟩)), .is (.pointer (some ⟨p, 0, none⟩)), .is (.pointer (some ⟨p, 0, none⟩)), .is (.int .i64 m), .is (.pointer (some ⟨p, 0, none⟩)), .is (.pointer (some ⟨p, 0, none⟩)), .is (.pointer (some ⟨p, 2, none⟩)), .is (.int .i64 A), .is (.int .i64 nr), .is (.int .i64 d), .is (.int .i64 d)])
      (by kernel_rfl) (by kernel_rfl) (facts_stay _) (fun W W' hb h => ⟨h.1.below hb, h.2.trans (hb.mono h.2.size)⟩) (fun _ => undef) (by kernel_rfl) ⟨HR.out.drew, (Below.refl _ _).drew⟩ ?F7 ?hF7 ?hstep7 ?hend7
    case hF7 =>
      intro u
      simp only [fillAct]
      go_simp
      rfl
    case hstep7 =>
      clear HR
      refine FSteps.cons ?_ ?_
      · intro u W hS hd K hK
        clear hd
        simp only [upd, reduceIte, Nat.reduceEqDiff] at hK
        go_simp
        exact hK.out _ _ (Below.refl _ _) rfl
      refine FSteps.cons ?_ ?_
      · intro u W hS hd K hK
        have h0 : u 0 = _ := hd 0 rfl
        clear hd
        simp only [upd, h0, reduceIte, Nat.reduceEqDiff] at hK
        go_simp
        exact hK.out _ _ (Below.refl _ _) rfl
      refine FSteps.cons ?_ ?_
      · intro u W hS hd K hK
        have h1 : u 1 = _ := hd 1 rfl
        clear hd
        simp only [upd, h1, reduceIte, Nat.reduceEqDiff] at hK
        go_simp
        exact hK.out _ _ (Below.refl _ _) rfl
      refine FSteps.cons ?_ ?_
      · intro u W hS hd K hK
        have h2 : u 2 = _ := hd 2 rfl
        clear hd
        simp only [upd, h2, reduceIte, Nat.reduceEqDiff] at hK
        have c0 := hS.1.cell 0 rfl
        go_simp
        exact hK.out _ _ (Below.refl _ _) rfl
      refine FSteps.cons ?_ ?_
      · intro u W hS hd K hK
        clear hd
        simp only [upd, reduceIte, Nat.reduceEqDiff] at hK
        go_simp
        exact hK.out _ _ (Below.refl _ _) rfl
      refine FSteps.cons ?_ ?_
      · intro u W hS hd K hK
        have h4 : u 4 = _ := hd 4 rfl
        clear hd
        simp only [upd, h4, reduceIte, Nat.reduceEqDiff] at hK
        go_simp
        exact hK.out _ _ (Below.refl _ _) rfl
      refine FSteps.cons ?_ ?_
      · intro u W hS hd K hK
        have h5 : u 5 = _ := hd 5 rfl
        clear hd
        simp only [upd, h5, reduceIte, Nat.reduceEqDiff] at hK
        go_simp
        exact hK.out _ _ (Below.refl _ _) rfl
      refine FSteps.cons ?_ ?_
      · intro u W hS hd K hK
        have h6 : u 6 = _ := hd 6 rfl
        clear hd
        simp only [upd, h6, reduceIte, Nat.reduceEqDiff] at hK
        have c0 := hS.1.cell 2 rfl
        go_simp
        exact hK.out _ _ (Below.refl _ _) rfl
      refine FSteps.cons ?_ ?_
      · intro u W hS hd K hK
        clear hd
        simp only [upd, reduceIte, Nat.reduceEqDiff] at hK
        go_simp
        exact hK.out _ _ (Below.refl _ _) rfl
      refine FSteps.cons ?_ ?_
      · intro u W hS hd K hK
        have h3 : u 3 = _ := hd 3 rfl
        have h7 : u 7 = _ := hd 7 rfl
        have h8 : u 8 = _ := hd 8 rfl
        clear hd
        simp only [upd, h3, h7, h8, reduceIte, Nat.reduceEqDiff] at hK
        go_simp
        go_at_call 10
        refine (HF.out _).mono ?_
        rintro e wc ⟨rfl, hb⟩
        exact hK.out _ _ hb rfl
      refine FSteps.cons ?_ ?_
      · intro u W hS hd K hK
        have h9 : u 9 = _ := hd 9 rfl
        clear hd
        simp only [upd, h9, reduceIte, Nat.reduceEqDiff] at hK
        go_simp
        exact hK.out _ _ (Below.refl _ _) rfl
      exact trivial
    case hend7 =>
      intro u w6 hS hd
      have h10 : u 10 = _ := hd 10 rfl
      have HR6 := Lib.hid hS.1
      have HB6 := Lib.hid hS.2
      clear hd hS HR
      rw [h10]
      generalize w6 = w5 at *
      go_upto_region 4 with (fail)
      
      refine wp_region_facts (fun W W' => Below W.heap.size W W') (fun W => RowAt W p [.int .i64 m, .int .i64 k, .int .i64 A, .int .i64 O] ∧ Below w.heap.size w W)
        (factsOf [.is (.int .i64 d), .is (.bool false), .is (.bool false), .is (.int .i64 d), .is (.pointer (some ⟨p, 0, none⟩)), .is (.pointer (some ⟨p, 0, none⟩)), .is (.pointer (some ⟨p, 0, none⟩)), .is (.int .i64 m), .is (.pointer (some ⟨p, 0, none⟩)), .is (.pointer (some ⟨p, 0, none⟩)), .is (.pointer (some ⟨p, 2, none⟩)), .is (.int .i64 A), .is (.pointer (some ⟨p, 0, none⟩)), .is (.pointer (some ⟨p, 0, none⟩)), .is (.pointer (some ⟨p, 3, none⟩)), .is (.int .i64 O), .is (.int .i64 (N : Int)), .is (.bool true), .is (.bool true)])
        (by kernel_rfl) (by kernel_rfl) (facts_stay _) (fun W W' hb h => ⟨h.1.below hb, h.2.trans (hb.mono h.2.size)⟩) (fun _ => undef) (by kernel_rfl) ⟨HR6.out.drew, HB6.out.drew⟩ ?F8 ?hF8 ?hstep8 ?hend8
      case hF8 =>
        intro u
        simp only [fillAct]
        go_simp
        rfl
      case hstep8 =>
        clear HR6 HB6
        refine FSteps.cons ?_ ?_
        · intro u W hS hd K hK
          clear hd
          simp only [upd, reduceIte, Nat.reduceEqDiff] at hK
          go_simp
          exact hK.out _ _ (Below.refl _ _) rfl
        refine FSteps.cons ?_ ?_
        · intro u W hS hd K hK
          have h0 : u 0 = _ := hd 0 rfl
          clear hd
          simp only [upd, h0, reduceIte, Nat.reduceEqDiff] at hK
          have dn := DN.out
          go_simp
          exact hK.out _ _ (Below.refl _ _) rfl
        refine FSteps.cons ?_ ?_
        · intro u W hS hd K hK
          have h1 : u 1 = _ := hd 1 rfl
          clear hd
          simp only [upd, h1, reduceIte, Nat.reduceEqDiff] at hK
          go_simp
          exact hK.out _ _ (Below.refl _ _) rfl
        refine FSteps.cons ?_ ?_
        · intro u W hS hd K hK
          have h2 : u 2 = _ := hd 2 rfl
          clear hd
          simp only [upd, h2, reduceIte, Nat.reduceEqDiff] at hK
          go_simp
          exact hK.out _ _ (Below.refl _ _) rfl
        refine FSteps.cons ?_ ?_
        · intro u W hS hd K hK
          have h2 : u 2 = _ := hd 2 rfl
          clear hd
          simp only [upd, h2, reduceIte, Nat.reduceEqDiff] at hK
          go_simp
          exact hK.out _ _ (Below.refl _ _) rfl
        refine FSteps.cons ?_ ?_
        · intro u W hS hd K hK
          have h2 : u 2 = _ := hd 2 rfl
          have h4 : u 4 = _ := hd 4 rfl
          clear hd
          simp only [upd, h2, h4, reduceIte, Nat.reduceEqDiff] at hK
          go_simp
          exact hK.out _ _ (Below.refl _ _) rfl
        refine FSteps.cons ?_ ?_
        · intro u W hS hd K hK
          have h2 : u 2 = _ := hd 2 rfl
          have h5 : u 5 = _ := hd 5 rfl
          clear hd
          simp only [upd, h2, h5, reduceIte, Nat.reduceEqDiff] at hK
          go_simp
          exact hK.out _ _ (Below.refl _ _) rfl
        refine FSteps.cons ?_ ?_
        · intro u W hS hd K hK
          have h2 : u 2 = _ := hd 2 rfl
          have h6 : u 6 = _ := hd 6 rfl
          clear hd
          simp only [upd, h2, h6, reduceIte, Nat.reduceEqDiff] at hK
          have c0 := hS.1.cell 0 rfl
          go_simp
          exact hK.out _ _ (Below.refl _ _) rfl
        refine FSteps.cons ?_ ?_
        · intro u W hS hd K hK
          have h2 : u 2 = _ := hd 2 rfl
          clear hd
          simp only [upd, h2, reduceIte, Nat.reduceEqDiff] at hK
          go_simp
          exact hK.out _ _ (Below.refl _ _) rfl
        refine FSteps.cons ?_ ?_
        · intro u W hS hd K hK
          have h2 : u 2 = _ := hd 2 rfl
          have h8 : u 8 = _ := hd 8 rfl
          clear hd
          simp only [upd, h2, h8, reduceIte, Nat.reduceEqDiff] at hK
          go_simp
          exact hK.out _ _ (Below.refl _ _) rfl
        refine FSteps.cons ?_ ?_
        · intro u W hS hd K hK
          have h2 : u 2 = _ := hd 2 rfl
          have h9 : u 9 = _ := hd 9 rfl
          clear hd
          simp only [upd, h2, h9, reduceIte, Nat.reduceEqDiff] at hK
          go_simp
          exact hK.out _ _ (Below.refl _ _) rfl
        refine FSteps.cons ?_ ?_
        · intro u W hS hd K hK
          have h2 : u 2 = _ := hd 2 rfl
          have h10 : u 10 = _ := hd 10 rfl
          clear hd
          simp only [upd, h2, h10, reduceIte, Nat.reduceEqDiff] at hK
          have c0 := hS.1.cell 2 rfl
          go_simp
          exact hK.out _ _ (Below.refl _ _) rfl
        refine FSteps.cons ?_ ?_
        · intro u W hS hd K hK
          have h2 : u 2 = _ := hd 2 rfl
          clear hd
          simp only [upd, h2, reduceIte, Nat.reduceEqDiff] at hK
          go_simp
          exact hK.out _ _ (Below.refl _ _) rfl
        refine FSteps.cons ?_ ?_
        · intro u W hS hd K hK
          have h2 : u 2 = _ := hd 2 rfl
          have h12 : u 12 = _ := hd 12 rfl
          clear hd
          simp only [upd, h2, h12, reduceIte, Nat.reduceEqDiff] at hK
          go_simp
          exact hK.out _ _ (Below.refl _ _) rfl
        refine FSteps.cons ?_ ?_
        · intro u W hS hd K hK
          have h2 : u 2 = _ := hd 2 rfl
          have h13 : u 13 = _ := hd 13 rfl
          clear hd
          simp only [upd, h2, h13, reduceIte, Nat.reduceEqDiff] at hK
          go_simp
          exact hK.out _ _ (Below.refl _ _) rfl
        refine FSteps.cons ?_ ?_
        · intro u W hS hd K hK
          have h2 : u 2 = _ := hd 2 rfl
          have h14 : u 14 = _ := hd 14 rfl
          clear hd
          simp only [upd, h2, h14, reduceIte, Nat.reduceEqDiff] at hK
          have c0 := hS.1.cell 3 rfl
          go_simp
          exact hK.out _ _ (Below.refl _ _) rfl
        refine FSteps.cons ?_ ?_
        · intro u W hS hd K hK
          have h2 : u 2 = _ := hd 2 rfl
          have h7 : u 7 = _ := hd 7 rfl
          have h11 : u 11 = _ := hd 11 rfl
          have h15 : u 15 = _ := hd 15 rfl
          clear hd
          simp only [upd, h2, h7, h11, h15, reduceIte, Nat.reduceEqDiff] at hK
          go_simp
          go_at_call 10
          refine (HG.out _).mono ?_
          rintro e wc ⟨rfl, hb⟩
          exact hK.out _ _ hb rfl
        refine FSteps.cons ?_ ?_
        · intro u W hS hd K hK
          have h2 : u 2 = _ := hd 2 rfl
          have h3 : u 3 = _ := hd 3 rfl
          have h16 : u 16 = _ := hd 16 rfl
          clear hd
          simp only [upd, h2, h3, h16, reduceIte, Nat.reduceEqDiff] at hK
          have db := DB.out
          go_simp
          exact hK.out _ _ (Below.refl _ _) rfl
        refine FSteps.cons ?_ ?_
        · intro u W hS hd K hK
          have h2 : u 2 = _ := hd 2 rfl
          have h17 : u 17 = _ := hd 17 rfl
          clear hd
          simp only [upd, h2, h17, reduceIte, Nat.reduceEqDiff] at hK
          go_simp
          exact hK.out _ _ (Below.refl _ _) rfl
        exact trivial
      case hend8 =>
        intro u w6 hS hd
        have h18 : u 18 = _ := hd 18 rfl
        have HR7 := Lib.hid hS.1
        have HB7 := Lib.hid hS.2
        clear hd hS HR6 HB6
        rw [h18]
        go_wp2_with fail
        exact bodyPost_ret (v := .tuple #[.int .i64 0, .int .i64 1]) (by simp [results, Try.results18, go_sem]) rfl ⟨rfl, HR7.out, Turn.of_below HB7.out⟩
set_option maxHeartbeats 1000000 in
theorem cacks_yes (p : Nat) (m k A O nr d : Int) (N : Nat) (w : World) (h : RowAt w p [.int .i64 m, .int .i64 k, .int .i64 A, .int .i64 O]) (hd : farD m A nr = d) (hN : farD m A O = (N : Int)) (hn : 0 ≤ d ∧ d ≤ N) : Calls Try.prog 18 #[.pointer (some ⟨p, 0, none⟩), .int .i64 nr] w fun e w' =>
    e = .returned (.tuple #[.int .i64 d, .int .i64 0]) ∧ RowAt w' p [.int .i64 m, .int .i64 k, .int .i64 nr, .int .i64 O] ∧ Turn (fun x => x = p) w w' := by
    have HF := Lib.hid (fun W => cfar_any m A nr W)
    rw [hd] at HF
    have HG := Lib.hid (fun W => cfar_any m A O W)
    rw [hN] at HG
    have HR := Lib.hid h
    have DN := Lib.hid (show decide (d < 0) = false from decide_eq_false (by omega))
    have DB := Lib.hid (show decide ((N : Int) < d) = false from decide_eq_false (by omega))
    clear h hd hN hn
    go_enter Try.func18, Try.ntmps18
    go_upto_region 3 with (fail)
    refine wp_region_facts (fun W W' => Below W.heap.size W W') (fun W => RowAt W p [.int .i64 m, .int .i64 k, .int .i64 A, .int .i64 O] ∧ Below w.heap.size w W)
      (factsOf [.is (.pointer (some ⟨p, 0, none⟩)), .is (.pointer (some ⟨p, 0, none⟩)), .is (.pointer (some ⟨p, 0, none⟩)), .is (.int .i64 m), .is (.pointer (some ⟨p, 0, none⟩)), .is (.pointer (some ⟨p, 0, none⟩)), .is (.pointer (some ⟨p, 2, none⟩)), .is (.int .i64 A), .is (.int .i64 nr), .is (.int .i64 d), .is (.int .i64 d)])
      (by kernel_rfl) (by kernel_rfl) (facts_stay _) (fun W W' hb h => ⟨h.1.below hb, h.2.trans (hb.mono h.2.size)⟩) (fun _ => undef) (by kernel_rfl) ⟨HR.out.drew, (Below.refl _ _).drew⟩ ?F9 ?hF9 ?hstep9 ?hend9
    case hF9 =>
      intro u
      simp only [fillAct]
      go_simp
      rfl
    case hstep9 =>
      clear HR
      refine FSteps.cons ?_ ?_
      · intro u W hS hd K hK
        clear hd
        simp only [upd, reduceIte, Nat.reduceEqDiff] at hK
        go_simp
        exact hK.out _ _ (Below.refl _ _) rfl
      refine FSteps.cons ?_ ?_
      · intro u W hS hd K hK
        have h0 : u 0 = _ := hd 0 rfl
        clear hd
        simp only [upd, h0, reduceIte, Nat.reduceEqDiff] at hK
        go_simp
        exact hK.out _ _ (Below.refl _ _) rfl
      refine FSteps.cons ?_ ?_
      · intro u W hS hd K hK
        have h1 : u 1 = _ := hd 1 rfl
        clear hd
        simp only [upd, h1, reduceIte, Nat.reduceEqDiff] at hK
        go_simp
        exact hK.out _ _ (Below.refl _ _) rfl
      refine FSteps.cons ?_ ?_
      · intro u W hS hd K hK
        have h2 : u 2 = _ := hd 2 rfl
        clear hd
        simp only [upd, h2, reduceIte, Nat.reduceEqDiff] at hK
        have c0 := hS.1.cell 0 rfl
        go_simp
        exact hK.out _ _ (Below.refl _ _) rfl
      refine FSteps.cons ?_ ?_
      · intro u W hS hd K hK
        clear hd
        simp only [upd, reduceIte, Nat.reduceEqDiff] at hK
        go_simp
        exact hK.out _ _ (Below.refl _ _) rfl
      refine FSteps.cons ?_ ?_
      · intro u W hS hd K hK
        have h4 : u 4 = _ := hd 4 rfl
        clear hd
        simp only [upd, h4, reduceIte, Nat.reduceEqDiff] at hK
        go_simp
        exact hK.out _ _ (Below.refl _ _) rfl
      refine FSteps.cons ?_ ?_
      · intro u W hS hd K hK
        have h5 : u 5 = _ := hd 5 rfl
        clear hd
        simp only [upd, h5, reduceIte, Nat.reduceEqDiff] at hK
        go_simp
        exact hK.out _ _ (Below.refl _ _) rfl
      refine FSteps.cons ?_ ?_
      · intro u W hS hd K hK
        have h6 : u 6 = _ := hd 6 rfl
        clear hd
        simp only [upd, h6, reduceIte, Nat.reduceEqDiff] at hK
        have c0 := hS.1.cell 2 rfl
        go_simp
        exact hK.out _ _ (Below.refl _ _) rfl
      refine FSteps.cons ?_ ?_
      · intro u W hS hd K hK
        clear hd
        simp only [upd, reduceIte, Nat.reduceEqDiff] at hK
        go_simp
        exact hK.out _ _ (Below.refl _ _) rfl
      refine FSteps.cons ?_ ?_
      · intro u W hS hd K hK
        have h3 : u 3 = _ := hd 3 rfl
        have h7 : u 7 = _ := hd 7 rfl
        have h8 : u 8 = _ := hd 8 rfl
        clear hd
        simp only [upd, h3, h7, h8, reduceIte, Nat.reduceEqDiff] at hK
        go_simp
        go_at_call 10
        refine (HF.out _).mono ?_
        rintro e wc ⟨rfl, hb⟩
        exact hK.out _ _ hb rfl
      refine FSteps.cons ?_ ?_
      · intro u W hS hd K hK
        have h9 : u 9 = _ := hd 9 rfl
        clear hd
        simp only [upd, h9, reduceIte, Nat.reduceEqDiff] at hK
        go_simp
        exact hK.out _ _ (Below.refl _ _) rfl
      exact trivial
    case hend9 =>
      intro u w6 hS hd
      have h10 : u 10 = _ := hd 10 rfl
      have HR6 := Lib.hid hS.1
      have HB6 := Lib.hid hS.2
      clear hd hS HR
      rw [h10]
      generalize w6 = w5 at *
      go_upto_region 4 with (fail)
      
      refine wp_region_facts (fun W W' => Below W.heap.size W W') (fun W => RowAt W p [.int .i64 m, .int .i64 k, .int .i64 A, .int .i64 O] ∧ Below w.heap.size w W)
        (factsOf [.is (.int .i64 d), .is (.bool false), .is (.bool false), .is (.int .i64 d), .is (.pointer (some ⟨p, 0, none⟩)), .is (.pointer (some ⟨p, 0, none⟩)), .is (.pointer (some ⟨p, 0, none⟩)), .is (.int .i64 m), .is (.pointer (some ⟨p, 0, none⟩)), .is (.pointer (some ⟨p, 0, none⟩)), .is (.pointer (some ⟨p, 2, none⟩)), .is (.int .i64 A), .is (.pointer (some ⟨p, 0, none⟩)), .is (.pointer (some ⟨p, 0, none⟩)), .is (.pointer (some ⟨p, 3, none⟩)), .is (.int .i64 O), .is (.int .i64 (N : Int)), .is (.bool false), .is (.bool false)])
        (by kernel_rfl) (by kernel_rfl) (facts_stay _) (fun W W' hb h => ⟨h.1.below hb, h.2.trans (hb.mono h.2.size)⟩) (fun _ => undef) (by kernel_rfl) ⟨HR6.out.drew, HB6.out.drew⟩ ?F10 ?hF10 ?hstep10 ?hend10
      case hF10 =>
        intro u
        simp only [fillAct]
        go_simp
        rfl
      case hstep10 =>
        clear HR6 HB6
        refine FSteps.cons ?_ ?_
        · intro u W hS hd K hK
          clear hd
          simp only [upd, reduceIte, Nat.reduceEqDiff] at hK
          go_simp
          exact hK.out _ _ (Below.refl _ _) rfl
        refine FSteps.cons ?_ ?_
        · intro u W hS hd K hK
          have h0 : u 0 = _ := hd 0 rfl
          clear hd
          simp only [upd, h0, reduceIte, Nat.reduceEqDiff] at hK
          have dn := DN.out
          go_simp
          exact hK.out _ _ (Below.refl _ _) rfl
        refine FSteps.cons ?_ ?_
        · intro u W hS hd K hK
          have h1 : u 1 = _ := hd 1 rfl
          clear hd
          simp only [upd, h1, reduceIte, Nat.reduceEqDiff] at hK
          go_simp
          exact hK.out _ _ (Below.refl _ _) rfl
        refine FSteps.cons ?_ ?_
        · intro u W hS hd K hK
          have h2 : u 2 = _ := hd 2 rfl
          clear hd
          simp only [upd, h2, reduceIte, Nat.reduceEqDiff] at hK
          go_simp
          exact hK.out _ _ (Below.refl _ _) rfl
        refine FSteps.cons ?_ ?_
        · intro u W hS hd K hK
          have h2 : u 2 = _ := hd 2 rfl
          clear hd
          simp only [upd, h2, reduceIte, Nat.reduceEqDiff] at hK
          go_simp
          exact hK.out _ _ (Below.refl _ _) rfl
        refine FSteps.cons ?_ ?_
        · intro u W hS hd K hK
          have h2 : u 2 = _ := hd 2 rfl
          have h4 : u 4 = _ := hd 4 rfl
          clear hd
          simp only [upd, h2, h4, reduceIte, Nat.reduceEqDiff] at hK
          go_simp
          exact hK.out _ _ (Below.refl _ _) rfl
        refine FSteps.cons ?_ ?_
        · intro u W hS hd K hK
          have h2 : u 2 = _ := hd 2 rfl
          have h5 : u 5 = _ := hd 5 rfl
          clear hd
          simp only [upd, h2, h5, reduceIte, Nat.reduceEqDiff] at hK
          go_simp
          exact hK.out _ _ (Below.refl _ _) rfl
        refine FSteps.cons ?_ ?_
        · intro u W hS hd K hK
          have h2 : u 2 = _ := hd 2 rfl
          have h6 : u 6 = _ := hd 6 rfl
          clear hd
          simp only [upd, h2, h6, reduceIte, Nat.reduceEqDiff] at hK
          have c0 := hS.1.cell 0 rfl
          go_simp
          exact hK.out _ _ (Below.refl _ _) rfl
        refine FSteps.cons ?_ ?_
        · intro u W hS hd K hK
          have h2 : u 2 = _ := hd 2 rfl
          clear hd
          simp only [upd, h2, reduceIte, Nat.reduceEqDiff] at hK
          go_simp
          exact hK.out _ _ (Below.refl _ _) rfl
        refine FSteps.cons ?_ ?_
        · intro u W hS hd K hK
          have h2 : u 2 = _ := hd 2 rfl
          have h8 : u 8 = _ := hd 8 rfl
          clear hd
          simp only [upd, h2, h8, reduceIte, Nat.reduceEqDiff] at hK
          go_simp
          exact hK.out _ _ (Below.refl _ _) rfl
        refine FSteps.cons ?_ ?_
        · intro u W hS hd K hK
          have h2 : u 2 = _ := hd 2 rfl
          have h9 : u 9 = _ := hd 9 rfl
          clear hd
          simp only [upd, h2, h9, reduceIte, Nat.reduceEqDiff] at hK
          go_simp
          exact hK.out _ _ (Below.refl _ _) rfl
        refine FSteps.cons ?_ ?_
        · intro u W hS hd K hK
          have h2 : u 2 = _ := hd 2 rfl
          have h10 : u 10 = _ := hd 10 rfl
          clear hd
          simp only [upd, h2, h10, reduceIte, Nat.reduceEqDiff] at hK
          have c0 := hS.1.cell 2 rfl
          go_simp
          exact hK.out _ _ (Below.refl _ _) rfl
        refine FSteps.cons ?_ ?_
        · intro u W hS hd K hK
          have h2 : u 2 = _ := hd 2 rfl
          clear hd
          simp only [upd, h2, reduceIte, Nat.reduceEqDiff] at hK
          go_simp
          exact hK.out _ _ (Below.refl _ _) rfl
        refine FSteps.cons ?_ ?_
        · intro u W hS hd K hK
          have h2 : u 2 = _ := hd 2 rfl
          have h12 : u 12 = _ := hd 12 rfl
          clear hd
          simp only [upd, h2, h12, reduceIte, Nat.reduceEqDiff] at hK
          go_simp
          exact hK.out _ _ (Below.refl _ _) rfl
        refine FSteps.cons ?_ ?_
        · intro u W hS hd K hK
          have h2 : u 2 = _ := hd 2 rfl
          have h13 : u 13 = _ := hd 13 rfl
          clear hd
          simp only [upd, h2, h13, reduceIte, Nat.reduceEqDiff] at hK
          go_simp
          exact hK.out _ _ (Below.refl _ _) rfl
        refine FSteps.cons ?_ ?_
        · intro u W hS hd K hK
          have h2 : u 2 = _ := hd 2 rfl
          have h14 : u 14 = _ := hd 14 rfl
          clear hd
          simp only [upd, h2, h14, reduceIte, Nat.reduceEqDiff] at hK
          have c0 := hS.1.cell 3 rfl
          go_simp
          exact hK.out _ _ (Below.refl _ _) rfl
        refine FSteps.cons ?_ ?_
        · intro u W hS hd K hK
          have h2 : u 2 = _ := hd 2 rfl
          have h7 : u 7 = _ := hd 7 rfl
          have h11 : u 11 = _ := hd 11 rfl
          have h15 : u 15 = _ := hd 15 rfl
          clear hd
          simp only [upd, h2, h7, h11, h15, reduceIte, Nat.reduceEqDiff] at hK
          go_simp
          go_at_call 10
          refine (HG.out _).mono ?_
          rintro e wc ⟨rfl, hb⟩
          exact hK.out _ _ hb rfl
        refine FSteps.cons ?_ ?_
        · intro u W hS hd K hK
          have h2 : u 2 = _ := hd 2 rfl
          have h3 : u 3 = _ := hd 3 rfl
          have h16 : u 16 = _ := hd 16 rfl
          clear hd
          simp only [upd, h2, h3, h16, reduceIte, Nat.reduceEqDiff] at hK
          have db := DB.out
          go_simp
          exact hK.out _ _ (Below.refl _ _) rfl
        refine FSteps.cons ?_ ?_
        · intro u W hS hd K hK
          have h2 : u 2 = _ := hd 2 rfl
          have h17 : u 17 = _ := hd 17 rfl
          clear hd
          simp only [upd, h2, h17, reduceIte, Nat.reduceEqDiff] at hK
          go_simp
          exact hK.out _ _ (Below.refl _ _) rfl
        exact trivial
      case hend10 =>
        intro u w6 hS hd
        have h18 : u 18 = _ := hd 18 rfl
        have HR7 := Lib.hid hS.1
        have HB7 := Lib.hid hS.2
        clear hd hS HR6 HB6
        rw [h18]
        have c2 := HR7.out.cell 2 rfl
        have f2 := (HR7.out.get 2 rfl).free
        go_wp2_with fail
        have HR8 := Lib.hid (HR7.out.put 2 (.int .i64 nr) _ rfl)
        have HT8 := Lib.hid ((Turn.of_below HB7.out).set (F := fun x => x = p) (p := ⟨p, 2, none⟩) (Or.inl rfl) (.int .i64 nr))
        exact bodyPost_ret (v := .tuple #[.int .i64 d, .int .i64 0]) (by simp [results, Try.results18, go_sem]) rfl ⟨rfl, HR8.out, HT8.out⟩
theorem cacks_any (p : Nat) (m k : Int) (s : So) (nr : Int) (w : World) (h : RowAt w p (coV m k s)) (hok : SoOk m k s) : Calls Try.prog 18 #[.pointer (some ⟨p, 0, none⟩), .int .i64 nr] w fun e w' =>
    e = .returned (.tuple #[.int .i64 (acksS m s nr).2.1, .int .i64 (acksS m s nr).2.2]) ∧ RowAt w' p (coV m k (acksS m s nr).1) ∧ Turn (fun x => x = p) w w' := by
  obtain ⟨N, hC⟩ := con_any hok
  have hab := hok.ab
  have hob := hok.ob
  have hlen := hC.len
  cases hin : inR m nr with
  | false =>
    have hE : acksS m s nr = (s, 0, 1) := by unfold acksS; rw [hin]; rfl
    have hd : farD m (s.acked % m) nr = -1 := by unfold farD; rw [hin, if_neg (by simp)]
    rw [hE]
    exact cacks_neg p m k _ _ nr (-1) N w h hd hC.far (by omega)
  | true =>
    have hd : farD m (s.acked % m) nr = farN m (s.acked % m) nr := by unfold farD; rw [hC.mr, hC.ar, hin, if_pos (by simp)]
    have hf := far_most m (s.acked % m) nr (inR_yes hC.ar) (inR_yes hin)
    have hE : acksS m s nr = if s.acked + farN m (s.acked % m) nr ≤ s.opened then (⟨s.opened, s.acked + farN m (s.acked % m) nr⟩, farN m (s.acked % m) nr, 0) else (s, 0, 1) := by unfold acksS; rw [hin]; rfl
    by_cases hle : s.acked + farN m (s.acked % m) nr ≤ s.opened
    · rw [if_pos hle] at hE
      rw [hE]
      have hmod : (s.acked + farN m (s.acked % m) nr) % m = nr := (acks_mod m s.acked nr _ hok.md (inR_yes hin) hf.1 (Int.le_refl _)).2 rfl
      have := cacks_yes p m k _ _ nr _ N w h hd hC.far ⟨hf.1, by omega⟩
      simp only [coV]
      rw [hmod]
      exact this
    · rw [if_neg hle] at hE
      rw [hE]
      exact cacks_big p m k _ _ nr _ N w h hd hC.far ⟨hf.1, by omega⟩
end Go.Proofs.Ytmokibjeanbabaa
