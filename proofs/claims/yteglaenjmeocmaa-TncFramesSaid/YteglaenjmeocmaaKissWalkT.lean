/-
Walk of the code's walk: behind FESC; and the whole.
-/
import Derived.Test.YteglaenjmeocmaaKissWalk4
namespace Go.Proofs.Yteglaenjmeocmaa
open Go.RowKit
theorem bad_next (most bad : Nat) (held : List UInt8) (c : UInt8) (l : List UInt8) (h1 : c ≠ 220) (h2 : c ≠ 221) : fedD most (2, bad, held) (c :: l) = fedD most (0, bad + 1, []) (c :: l) := by
  by_cases h3 : c = 192 <;> simp [fedD, stepD, h1, h2, h3]
set_option maxHeartbeats 1000000 in
set_option maxRecDepth 100000 in
theorem pass1 (w0 : World) (b most : Nat) (v0 : Value) (tgt : St × List Fr) (hb0 : b < w0.heap.size) (hm : most ≤ 4096) (hk : tgt.1.2.1 ≤ 1000000) : Pass w0 b most v0 tgt 1 := by
  obtain ⟨r4, hr4, hp4⟩ := pass4 w0 b most v0 tgt hb0 hm hk
  refine ⟨_, by rfl, ?_⟩
  intro n a w hnb ⟨x, v, tv, bad, held, r, c, F, ⟨hsz, hdf, h0, h1, h5, _⟩, ⟨hD, hW, hF, hheld⟩, hL⟩ hn
  obtain ⟨tmps, defers⟩ := a
  simp only at hsz hdf h0 h1 h5 hn
  obtain ⟨u, hu⟩ := arr89 tmps _ _ _ _ hsz h0 h1 h5 rfl
  generalize tmps.getD 6 undef = cv at hu
  subst hdf
  unfold pmu at hn
  simp only [h1, strLen] at hn
  subst hu
  clear hsz h0 h1 h5
  have HP := Lib.hid hp4
  have HR4 := Lib.hid hr4
  clear hp4 hr4
  have HD := Lib.hid hD
  have HW := Lib.hid hW
  have HF := Lib.hid hF
  have HL := Lib.hid hL
  clear hL hF hW
  obtain ⟨⟨⟨d0, d1, d2, d3⟩, z1, z2, z3⟩, _⟩ := hD
  by_cases hr : r.size = 0
  · have hr2 : r.data.toList = [] := by
      rw [← List.length_eq_zero_iff]; simpa using hr
    have he := isEmpty_yes r hr
    have HR2 := Lib.hid hr2
    clear hr hr2
    go_wp2
    rw [jumps_ret]
    go_ret
    have hl := HL.out
    rw [HR2.out] at hl
    simp only [Leads, fedD, ahead, List.append_nil] at hl
    subst hl
    exact ⟨v, tv, rfl, HD.out.at_ 2, HW.out.set _, HF.out.set hb0 _⟩
  · have hpos : 0 < r.size := by omega
    have he := isEmpty_no r hpos
    have HR := Lib.hid (list_rest r hpos)
    have HS := Lib.hid (rest_size r)
    clear hr
    by_cases e220 : r[0] = 220
    · have HM := Lib.hid (fun W => (by rw [e220]; exact meant_220 W : Calls Try.prog 28 #[.int .u8 ((r[0].toNat : Nat) : Int)] W fun e w' => e = .returned (.tuple #[.int .u8 192, .bool true]) ∧ W = w'))
      have E := Lib.hid e220
      clear e220
      go_wp2_with (go_at_call 28; refine (HM.out _).mono ?_; rintro e w' ⟨rfl, rfl⟩)
      go_step3
      rename_i hK
      refine hK _ _ ?_
      clear hK
      have hl := HL.out
      rw [HR.out, E.out] at hl
      have hl4 : Leads most tgt 4 2 bad held F (r.extract 1 r.size).data.toList 192 := by
        simp only [Leads, fedD, stepD, ahead] at hl ⊢
        simpa using hl
      refine fall HR4.out (HP.out n _ _ hnb ⟨2, v, tv, bad, held, r.extract 1 r.size, 192, F, ⟨rfl, rfl, rfl, rfl, rfl, fun _ => rfl⟩, ⟨HD.out.at_ 2, HW.out.set _, HF.out.set hb0 _, hheld⟩, hl4⟩ ?_) (by rfl)
      have hs := HS.out
      show 8 * (r.extract 1 r.size).size + rank 4 ≤ n
      rw [hs]; simp only [rank] at hn ⊢; simp at hn ⊢; omega
    by_cases e221 : r[0] = 221
    · have HM := Lib.hid (fun W => (by rw [e221]; exact meant_221 W : Calls Try.prog 28 #[.int .u8 ((r[0].toNat : Nat) : Int)] W fun e w' => e = .returned (.tuple #[.int .u8 219, .bool true]) ∧ W = w'))
      have E := Lib.hid e221
      clear e221
      go_wp2_with (go_at_call 28; refine (HM.out _).mono ?_; rintro e w' ⟨rfl, rfl⟩)
      go_step3
      rename_i hK
      refine hK _ _ ?_
      clear hK
      have hl := HL.out
      rw [HR.out, E.out] at hl
      have hl4 : Leads most tgt 4 2 bad held F (r.extract 1 r.size).data.toList 219 := by
        simp only [Leads, fedD, stepD, ahead] at hl ⊢
        simpa using hl
      refine fall HR4.out (HP.out n _ _ hnb ⟨2, v, tv, bad, held, r.extract 1 r.size, 219, F, ⟨rfl, rfl, rfl, rfl, rfl, fun _ => rfl⟩, ⟨HD.out.at_ 2, HW.out.set _, HF.out.set hb0 _, hheld⟩, hl4⟩ ?_) (by rfl)
      have hs := HS.out
      show 8 * (r.extract 1 r.size).size + rank 4 ≤ n
      rw [hs]; simp only [rank] at hn ⊢; simp at hn ⊢; omega
    · have HM := Lib.hid (fun W => meant_no ((r[0].toNat : Nat) : Int) W (by have := u8_ne (n := 220) (by omega) e220; omega) (by have := u8_ne (n := 221) (by omega) e221; omega))
      have HB := Lib.hid (bad_next most bad held r[0] (r.extract 1 r.size).data.toList e220 e221)
      clear e220 e221
      go_wp2_with (go_at_call 28; refine (HM.out _).mono ?_; rintro e w' ⟨rfl, rfl⟩)
      go_step3
      have hl := HL.out
      have hl5 : Leads most tgt 5 2 bad held F r.data.toList c := by
        simp only [Leads] at hl ⊢
        rw [hl, HR.out, HB.out]
      refine ⟨⟨2, v, tv, bad, held, r, c, F, ⟨rfl, rfl, rfl, rfl, rfl, fun h => by cases h⟩, ⟨HD.out.at_ 2, HW.out.set _, HF.out.set hb0 _, hheld⟩, hl5⟩, ?_⟩
      show 8 * r.size + rank 5 < n
      simp only [rank] at hn ⊢; simp at hn ⊢; omega
theorem Pass.any {w0 : World} {b most : Nat} {v0 : Value} {tgt : St × List Fr} {l : Nat} (h : Pass w0 b most v0 tgt l) {a : Act} {w : World} (hj : PJ w0 b most v0 tgt l a w) (hn : pmu l a w ≤ 9000000) :
    ∃ rest, findLabel (scopeIn Try.f25) l = some rest ∧ rest.wp Try.prog (jumps (fun l' a' w' => (PJ w0 b most v0 tgt l' a' w' ∧ pmu l' a' w' ≤ 9000000) ∧ pmu l' a' w' < pmu l a w) (bodyPost Try.prog Try.f25 (WalkTo w0 b most v0 tgt))) a w := by
  obtain ⟨r, hr, hp⟩ := h
  refine ⟨_, hr, wp_seq (wp_skip ?_)⟩
  refine wp_mono (hp (pmu l a w) a w hn hj (Nat.le_refl _)) ?_
  intro e a' w' hq
  cases e with
  | goto l' => exact ⟨⟨hq.1, by have := hq.2; omega⟩, hq.2⟩
  | _ => exact hq
set_option maxHeartbeats 1000000 in
set_option maxRecDepth 100000 in
theorem walk_any (b most place bad : Nat) (held : List UInt8) (v : Value) (s : ByteArray) (w : World) (hs : s.size ≤ 100000) (hm : most ≤ 4096) (hi : InvD most (place, bad, held))
    (hbad : bad ≤ 800000) (hD : DC w b place most bad v held) :
    Calls Try.prog 25 #[.pointer (some ⟨b, 0, none⟩), .string s] w fun e w' => WalkTo w b most v (fedD most (place, bad, held) s.data.toList) e w' := by
  have hinv := fedD_inv most (place, bad, held) s.data.toList hi
  have hsl : s.data.toList.length = s.size := by simp
  have hb0 := hD.1.lt
  obtain ⟨tgt, htgt⟩ : ∃ tgt, tgt = fedD most (place, bad, held) s.data.toList := ⟨_, rfl⟩
  rw [← htgt] at hinv ⊢
  have hk : tgt.1.2.1 ≤ 1000000 := by have := hinv.2.1; simp only at this; omega
  have hk2 : tgt.2.length ≤ 1000000 := by have := hinv.2.2; omega
  have H0 := Lib.hid (pass0 w b most v tgt hb0)
  have H1 := Lib.hid (pass1 w b most v tgt hb0 hm hk)
  have H2 := Lib.hid (pass2 w b most v tgt hb0 hm hk2)
  have H3 := Lib.hid (pass3 w b most v tgt hb0 hm hk2)
  have H4 := Lib.hid (pass4 w b most v tgt hb0 hm hk)
  have H5 := Lib.hid (pass5 w b most v tgt hb0 hk)
  have HD := Lib.hid hD
  have HT := Lib.hid htgt
  have hheld := hi.2.1
  have hp2 := hi.1
  have HI := Lib.hid hi.2.2
  simp only at hheld hp2 HI
  clear hinv hsl htgt hi hk hk2 hbad
  obtain ⟨⟨⟨d0, d1, d2, d3⟩, z1, z2, z3⟩, _⟩ := hD
  go_enter Try.func25, Try.ntmps25
  go_wp2
  refine scope_places (fun l a' w' => PJ w b most v tgt l a' w' ∧ pmu l a' w' ≤ 9000000) pmu ?_ ?_
  · rcases (show place = 0 ∨ place = 1 ∨ place = 2 by omega) with rfl | rfl | rfl
    · go_wp2
      go_step3
      rename_i hK
      refine hK _ _ ?_
      clear hK
      obtain ⟨r2, hr2, hq2⟩ := H2.out
      have he : held = [] := by simpa using HI.out
      have hl : Leads most tgt 2 0 bad held [] s.data.toList 0 := by
        refine ⟨he, rfl, ?_⟩
        rw [HT.out, he]; rfl
      refine fall hr2 (wp_mono (hq2 9000000 _ _ (Nat.le_refl _) ⟨0, v, .slice none 0 0, bad, held, s, 0, [], ⟨rfl, rfl, rfl, rfl, rfl, fun h => by cases h⟩, ⟨HD.out, Wrote.refl _ _ _, OwnF.nil _ _ _, hheld⟩, hl⟩ ?_) ?_) (by rfl)
      · show 8 * s.size + rank 2 ≤ 9000000
        simp only [rank]; simp; omega
      · intro e a' w' hq
        cases e with
        | goto l' => exact ⟨hq.1, Nat.le_of_lt hq.2⟩
        | _ => exact hq
    · go_wp2
      go_step3
      refine ⟨⟨1, v, .slice none 0 0, bad, held, s, 0, [], ⟨rfl, rfl, rfl, rfl, rfl, fun h => by cases h⟩, ⟨HD.out, Wrote.refl _ _ _, OwnF.nil _ _ _, hheld⟩, HT.out⟩, ?_⟩
      show 8 * s.size + rank 0 ≤ 9000000
      simp only [rank]; simp; omega
    · go_wp2
      go_step3
      refine ⟨⟨2, v, .slice none 0 0, bad, held, s, 0, [], ⟨rfl, rfl, rfl, rfl, rfl, fun h => by cases h⟩, ⟨HD.out, Wrote.refl _ _ _, OwnF.nil _ _ _, hheld⟩, HT.out⟩, ?_⟩
      show 8 * s.size + rank 1 ≤ 9000000
      simp only [rank]; simp; omega
  · intro l a' w' ⟨hj, hn⟩
    obtain ⟨x, v', tv, bad', held', r, c, F, _, _, hL⟩ := id hj
    rcases (show l = 0 ∨ l = 1 ∨ l = 2 ∨ l = 3 ∨ l = 4 ∨ l = 5 ∨ 6 ≤ l by omega) with rfl | rfl | rfl | rfl | rfl | rfl | h6
    · exact H0.out.any hj hn
    · exact H1.out.any hj hn
    · exact H2.out.any hj hn
    · exact H3.out.any hj hn
    · exact H4.out.any hj hn
    · exact H5.out.any hj hn
    · exfalso
      obtain ⟨m, rfl⟩ : ∃ m, l = m + 6 := ⟨l - 6, by omega⟩
      exact hL
end Go.Proofs.Yteglaenjmeocmaa
