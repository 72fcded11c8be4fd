/-
The document's sender's window: Next, Acks, Open.
-/
import Derived.Test.YtmokibjeanbabaaSeqRFar
namespace Go.Proofs.Ytmokibjeanbabaa
open Go.RowKit
set_option maxRecDepth 20000
/-- its four cells -/
def soV (m k : Int) (s : So) : List Value := [.int .i64 m, .int .i64 k, .int .i64 s.opened, .int .i64 s.acked]
/-- what holds of it -/
structure SoOk (m k : Int) (s : So) : Prop where
  md : m = 8 ∨ m = 128
  kb : 1 ≤ k ∧ k < m
  ab : 0 ≤ s.acked ∧ s.acked ≤ s.opened
  ob : s.opened - s.acked ≤ k
  most : s.opened ≤ 100000
theorem SoOk.next {m k : Int} {s : So} (h : SoOk m k s) (hm : s.opened < 100000) : SoOk m k (nextS m k s).1 := by
  have := h.md
  have := h.kb
  have := h.ab
  have := h.ob
  have := h.most
  unfold nextS
  split
  · exact h
  · exact ⟨h.md, h.kb, ⟨h.ab.1, by show s.acked ≤ s.opened + 1; omega⟩, by show s.opened + 1 - s.acked ≤ k; omega, by show s.opened + 1 ≤ 100000; omega⟩
theorem SoOk.acks {m k : Int} {s : So} (h : SoOk m k s) (nr : Int) : SoOk m k (acksS m s nr).1 := by
  unfold acksS
  split
  · exact h
  · rename_i hn
    split
    · rename_i hle
      have hin := inR_yes (by simpa using hn : inR m nr = true)
      have hA : 0 ≤ s.acked % m ∧ s.acked % m < m := by
        rcases h.md with e | e <;> subst e <;> omega
      have hf := far_most m (s.acked % m) nr hA hin
      have := h.ab
      have := h.ob
      have := h.kb
      exact ⟨h.md, h.kb, ⟨by show 0 ≤ s.acked + _; omega, by show s.acked + _ ≤ s.opened; exact hle⟩, by show s.opened - (s.acked + _) ≤ k; omega, h.most⟩
    · exact h
theorem so_nums {m k : Int} {s : So} (h : SoOk m k s) : IntKind.i64.wrap (s.opened - s.acked) = s.opened - s.acked ∧ IntKind.i64.wrap (s.opened + 1) = s.opened + 1 ∧ IntKind.i64.wrap s.opened = s.opened ∧ s.opened.tmod m = s.opened % m ∧ 0 ≤ s.opened % m ∧ s.opened % m < 128 ∧ ¬ (m = 0) := by
  have := h.md
  have := h.kb
  have := h.ab
  have := h.ob
  have := h.most
  refine ⟨i64_small' _ (by omega) (by omega), i64_small' _ (by omega) (by omega), i64_small' _ (by omega) (by omega), Int.tmod_eq_emod_of_nonneg (by omega), ?_, ?_, by omega⟩ <;> (rcases h.md with e | e <;> subst e <;> omega)
set_option maxHeartbeats 1000000 in
theorem rnext_any (p : Nat) (m k : Int) (s : So) (w : World) (h : RowAt w p (soV m k s)) (hok : SoOk m k s) : Calls Try.prog 16 #[.pointer (some ⟨p, 0, none⟩)] w fun e w' =>
    e = .returned (.tuple #[.int .i64 (nextS m k s).2.1, .int .i64 (nextS m k s).2.2]) ∧ RowAt w' p (soV m k (nextS m k s).1) ∧ Turn (fun x => x = p) w w' := by
  obtain ⟨O, A⟩ := s
  have hn := so_nums hok
  simp only at hn
  obtain ⟨z1, z2, z3, z4, z5, z6, z7⟩ := hn
  have HZ3 := Lib.hid z3
  have HZ4 := Lib.hid z4
  have hO0 : 0 ≤ O := by have := hok.ab; simp only at this; omega
  have HR := Lib.hid h.drew
  have HT := Lib.hid (Turn.refl (fun x => x = p) w).drew
  simp only [soV] at HR
  by_cases hk : O - A = k
  · have hE : nextS m k ⟨O, A⟩ = (⟨O, A⟩, 0, 6) := by unfold nextS; exact if_pos hk
    rw [hE]
    have dk : (O - A == k) = true := by simpa using hk
    have c1 := HR.out.cell 1 rfl
    have c2 := HR.out.cell 2 rfl
    have c3 := HR.out.cell 3 rfl
    clear h hok hE hk z2 z3 z4 z5 z6 z7
    go_enter Try.func16, Try.ntmps16
    go_wp2_with fail
    go_region
    generalize w.drew = w1 at *
    go_wp2_with fail
    exact bodyPost_ret (v := .tuple #[.int .i64 0, .int .i64 6]) (by simp [results, Try.results16, go_sem]) rfl ⟨rfl, HR.out, HT.out⟩
  · have hE : nextS m k ⟨O, A⟩ = (⟨O + 1, A⟩, O % m, 0) := by unfold nextS; exact if_neg hk
    rw [hE]
    have dk : (O - A == k) = false := by rw [beq_eq_false_iff_ne]; exact hk
    have c1 := HR.out.cell 1 rfl
    have c2 := HR.out.cell 2 rfl
    have c3 := HR.out.cell 3 rfl
    have f2 := (HR.out.get 2 rfl).free
    have HW := Lib.hid (show IntKind.i64.wrap (O % m) = O % m from i64_small' _ (by omega) (by omega))
    clear h hok hE hk z3 z4 z5 z6
    go_enter Try.func16, Try.ntmps16
    go_wp2_with fail
    go_region
    generalize w.drew = w1 at *
    go_upto_region 4 with (fail)
    clear c1 c2 c3 f2
    have HR2 := Lib.hid (show RowAt (w1.setCell ⟨p, 2, none⟩ (.int .i64 (O + 1))) p [.int .i64 m, .int .i64 k, .int .i64 (O + 1), .int .i64 A] from HR.out.put 2 (.int .i64 (O + 1)) _ rfl)
    have HT2 := Lib.hid (HT.out.set (p := ⟨p, 2, none⟩) (Or.inl rfl) (.int .i64 (O + 1)))
    clear HR HT z1 dk
    generalize (w1.setCell ⟨p, 2, none⟩ (.int .i64 (O + 1))) = w2 at *
    have HR3 := Lib.hid HR2.out.drew
    have HT3 := Lib.hid HT2.out.drew
    have c0 := HR3.out.cell 0 rfl
    have c2 := HR3.out.cell 2 rfl
    have z3 : IntKind.i64.wrap O = O := HZ3.out
    have z4 : O.tmod m = O % m := HZ4.out
    have z8 : IntKind.i64.wrap (O % m) = O % m := HW.out
    clear z2
    go_region
    generalize w2.drew = w3 at *
    go_wp2_with fail
    exact bodyPost_ret (v := .tuple #[.int .i64 (O % m), .int .i64 0]) (by simp [results, Try.results16, go_sem]) rfl ⟨rfl, HR3.out, HT3.out⟩
theorem acks_mod (m A nr j : Int) (hm : m = 8 ∨ m = 128) (hn : 0 ≤ nr ∧ nr < m) (h0 : 0 ≤ j) (h1 : j ≤ farN m (A % m) nr) : ((A + j) % m = nr ↔ j = farN m (A % m) nr) := by
  rcases hm with e | e <;> subst e <;> unfold farN at h1 ⊢ <;> split at h1 <;> (rename_i h2; first | rw [if_pos h2] | rw [if_neg h2]) <;> omega
theorem acks_nums (m A n : Int) (hm : m = 8 ∨ m = 128) (hA : 0 ≤ A) (h0 : A ≤ n) (hb : n ≤ 200000) : n.tmod m = n % m ∧ IntKind.i64.wrap (n % m) = n % m ∧ IntKind.i64.wrap (n - A) = n - A ∧ IntKind.i64.wrap (n + 1) = n + 1 := by
  have h1 : 0 ≤ n % m ∧ n % m < 128 := by rcases hm with e | e <;> subst e <;> omega
  exact ⟨Int.tmod_eq_emod_of_nonneg (by omega), i64_small' _ (by omega) (by omega), i64_small' _ (by omega) (by omega), i64_small' _ (by omega) (by omega)⟩
set_option maxHeartbeats 1000000 in
theorem racks_any (p : Nat) (m k : Int) (s : So) (nr : Int) (w : World) (h : RowAt w p (soV m k s)) (hok : SoOk m k s) : Calls Try.prog 19 #[.pointer (some ⟨p, 0, none⟩), .int .i64 nr] w fun e w' =>
    e = .returned (.tuple #[.int .i64 (acksS m s nr).2.1, .int .i64 (acksS m s nr).2.2]) ∧ RowAt w' p (soV m k (acksS m s nr).1) ∧ Turn (fun x => x = p) w w' := by
  obtain ⟨O, A⟩ := s
  have HR := Lib.hid h
  have HT := Lib.hid (Turn.refl (fun x => x = p) w)
  simp only [soV] at HR
  have c0 := HR.out.cell 0 rfl
  have c2 := HR.out.cell 2 rfl
  have c3 := HR.out.cell 3 rfl
  cases hin : inR m nr with
  | false =>
    have hE : acksS m ⟨O, A⟩ nr = (⟨O, A⟩, 0, 1) := by unfold acksS; rw [hin]; rfl
    rw [hE]
    clear hE h hok
    by_cases h0 : nr < 0
    · have d0 : decide (nr < 0) = true := decide_eq_true h0
      clear h0 hin
      go_enter Try.func19, Try.ntmps19
      go_wp2_with fail
      exact bodyPost_ret (v := .tuple #[.int .i64 0, .int .i64 1]) (by simp [results, Try.results19, go_sem]) rfl ⟨rfl, HR.out, HT.out⟩
    · have d0 : decide (nr < 0) = false := decide_eq_false h0
      have d1 : decide (m ≤ nr) = true := decide_eq_true (by rcases inR_no hin with h | h <;> omega)
      clear h0 hin
      go_enter Try.func19, Try.ntmps19
      go_wp2_with fail
      exact bodyPost_ret (v := .tuple #[.int .i64 0, .int .i64 1]) (by simp [results, Try.results19, go_sem]) rfl ⟨rfl, HR.out, HT.out⟩
  | true =>
    have hn := inR_yes hin
    obtain ⟨d, hd⟩ : ∃ d, farN m (A % m) nr = d := ⟨_, rfl⟩
    have HE := Lib.hid (show acksS m ⟨O, A⟩ nr = if A + d ≤ O then (⟨O, A + d⟩, d, 0) else (⟨O, A⟩, 0, 1) from by unfold acksS; rw [hin, ← hd]; rfl)
    have hab := hok.ab
    have hmost := hok.most
    simp only at hab hmost
    have HMO := Lib.hid (fun j h0 h1 => hd ▸ acks_mod m A nr j hok.md hn h0 (hd ▸ h1))
    have HNU := Lib.hid (fun n h0 hb => acks_nums m A n hok.md hab.1 h0 hb)
    have d0 : decide (nr < 0) = false := decide_eq_false (by omega)
    have d1 : decide (m ≤ nr) = false := decide_eq_false (by omega)
    have hd0 : 0 ≤ d ∧ d < m := by
      rw [← hd]
      refine far_most m (A % m) nr ?_ hn
      rcases hok.md with e | e <;> subst e <;> omega
    have hm128 : m ≤ 128 ∧ ¬ (m = 0) := by rcases hok.md with e | e <;> omega
    have hm0 := hm128.2
    clear h hok hin hd
    go_enter Try.func19, Try.ntmps19
    go_wp2_with fail
    clear d0 d1
    go_loopw [6] (fun v wx => ∃ n : Int, v = .int .i64 n ∧ Hid (A ≤ n ∧ n - A ≤ d ∧ n ≤ O + 1 ∧ wx = w)) (fun v _ => (O + 1 - intOf v).toNat)
    case atStart => exact ⟨A, rfl, Lib.hid ⟨Int.le_refl _, by omega, by omega, rfl⟩⟩
    case round =>
      obtain ⟨n, rfl, HK⟩ := hrel
      obtain ⟨k0, k1, k2, rfl⟩ := HK.out
      clear HK
      by_cases hO : n ≤ O
      · have dO : decide (n ≤ O) = true := decide_eq_true hO
        obtain ⟨z1, z2, z3, z4⟩ := HNU.out n k0 (by omega)
        have hiff := HMO.out (n - A) (by omega) k1
        rw [show A + (n - A) = n by omega] at hiff
        have HZ3 := Lib.hid z3
        have HZ4 := Lib.hid z4
        by_cases hj : n - A = d
        · have de : (n % m == nr) = true := by rw [beq_iff_eq]; exact hiff.2 hj
          have HE2 := Lib.hid (show acksS m ⟨O, A⟩ nr = (⟨O, n⟩, d, 0) from by rw [HE.out, if_pos (by omega), show A + d = n by omega])
          have f3 := (HR.out.get 3 rfl).free
          have HJ := Lib.hid hj
          clear hiff z3 z4 hj
          go_upto_region 7 with (fail)
          have z3 := HZ3.out
          rw [HJ.out] at z3
          have z5 : n - A = d := HJ.out
          go_wp2_with fail
          have HR2 := Lib.hid (show RowAt (wr.setCell ⟨p, 3, none⟩ (.int .i64 n)) p [.int .i64 m, .int .i64 k, .int .i64 O, .int .i64 n] from HR.out.put 3 (.int .i64 n) _ rfl)
          have HT2 := Lib.hid (HT.out.set (p := ⟨p, 3, none⟩) (Or.inl rfl) (.int .i64 n))
          exact bodyPost_ret (v := .tuple #[.int .i64 d, .int .i64 0]) (by simp [results, Try.results19, go_sem]) rfl ⟨by rw [HE2.out], by rw [HE2.out]; exact HR2.out, HT2.out⟩
        · have de : (n % m == nr) = false := by rw [beq_eq_false_iff_ne]; exact fun e => hj (hiff.1 e)
          have HJ := Lib.hid hj
          clear hiff z3 hj
          go_wp2_with fail
          go_roundw
          case rel => exact ⟨n + 1, rfl, Lib.hid ⟨by omega, by have := HJ.out; omega, by omega, by first | rfl | trivial⟩⟩
          case measure => simp only [intOf]; omega
      · have dO : decide (n ≤ O) = false := decide_eq_false hO
        have HE2 := Lib.hid (show acksS m ⟨O, A⟩ nr = (⟨O, A⟩, 0, 1) from by rw [HE.out, if_neg (by omega)])
        clear hO k0 k1 k2
        go_wp2_with fail
        exact bodyPost_ret (v := .tuple #[.int .i64 0, .int .i64 1]) (by simp [results, Try.results19, go_sem]) rfl ⟨by rw [HE2.out], by rw [HE2.out]; exact HR.out, HT.out⟩
end Go.Proofs.Ytmokibjeanbabaa
