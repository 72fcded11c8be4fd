/-
The document's Open.
-/
import Derived.Test.YtmokibjeanbabaaSeqROut
namespace Go.Proofs.Ytmokibjeanbabaa
open Go.RowKit
set_option maxRecDepth 20000
theorem openS_len (m : Int) (s : So) : (openS m s).length = (s.opened - s.acked).toNat := by simp [openS]
theorem openS_take (m : Int) (s : So) (j : Nat) (hj : j < (s.opened - s.acked).toNat) : (openS m s).take (j + 1) = (openS m s).take j ++ [(s.acked + j) % m] := by
  rw [List.take_succ_eq_append_getElem (by rw [openS_len]; exact hj)]
  simp [openS]
set_option maxHeartbeats 1000000 in
theorem ropen_any (p : Nat) (m k : Int) (s : So) (w : World) (h : RowAt w p (soV m k s)) (hok : SoOk m k s) : Calls Try.prog 22 #[.pointer (some ⟨p, 0, none⟩)] w fun e w' =>
    (∃ v, e = .returned v ∧ OwnL encI 3 w' w.heap.size v (openS m s)) ∧ Below w.heap.size w w' := by
  have HT := Lib.hid (fun j hj => openS_take m s j hj)
  have HL := Lib.hid (openS_len m s)
  generalize openS m s = L at *
  obtain ⟨O, A⟩ := s
  have hab := hok.ab
  have hob := hok.ob
  have hkb := hok.kb
  have hmost := hok.most
  simp only at hab hob hmost HT HL
  have hm0 : ¬ (m = 0) := by omega
  have HNU := Lib.hid (fun n h0 hb => acks_nums m A n hok.md hab.1 h0 hb)
  have hmk : m ≤ 128 := by rcases hok.md with e | e <;> omega
  obtain ⟨N, hN⟩ : ∃ N : Nat, (O - A).toNat = N := ⟨_, rfl⟩
  rw [hN] at HT HL
  have hNO : O = A + (N : Int) := by omega
  have hNb : N ≤ 128 := by omega
  have HR := Lib.hid h
  simp only [soV] at HR
  have HO0 := Lib.hid (OwnL.lit encI 3 w w.heap.size [] [] rfl (Nat.le_refl _) (by simp) 0 rfl)
  have HB0 := Lib.hid ((Below.refl _ w).alloc (Nat.le_refl _) (.cells #[] 3))
  have HNO := Lib.hid hNO
  clear h hok hN hNO
  go_enter Try.func22, Try.ntmps22
  go_upto_region 2 with (fail)
  generalize w.alloc (.cells #[] 3) = w1 at *
  have c3 := (HR.out.below HB0.out).cell 3 rfl
  go_wp2_with fail
  clear c3
  go_loopw [3, 4] (fun v n wx => ∃ (j : Nat) (tv : Value), j ≤ N ∧ n = .int .i64 (A + j) ∧ tv = v ∧ Hid (OwnL encI 3 wx w.heap.size tv (L.take j) ∧ Below w.heap.size w wx)) (fun _ n _ => (O - intOf n).toNat)
  case atStart => exact ⟨0, _, Nat.zero_le _, by simp, rfl, Lib.hid ⟨HO0.out, HB0.out⟩⟩
  case round =>
    obtain ⟨j, tv, hj, rfl, rfl, HK⟩ := hrel
    clear HO0 HB0
    have HO := Lib.hid HK.out.1
    have HB := Lib.hid HK.out.2
    have c0 := (HR.out.below HB.out).cell 0 rfl
    have c2 := (HR.out.below HB.out).cell 2 rfl
    obtain ⟨n, hn⟩ : ∃ n : Int, n = A + (j : Int) := ⟨_, rfl⟩
    rw [← hn]
    have HNN := Lib.hid hn
    clear HK
    by_cases hlt : j < N
    · have dO : decide (n < O) = true := decide_eq_true (by have := HNO.out; omega)
      obtain ⟨z1, z2, -, z4⟩ := HNU.out n (by omega) (by omega)
      have HTK := Lib.hid (HT.out j hlt)
      rw [← hn] at HTK
      have hlen : (L.take j).length ≤ 1000 := by rw [List.length_take]; omega
      have HO2 := Lib.hid (HO.out.alloc (.cells #[.int .i64 (n % m)] 3))
      have HB2 := Lib.hid (HB.out.alloc HB.out.size (.cells #[.int .i64 (n % m)] 3))
      have HM := Lib.hid (AtL.made encI 3 wr wr.heap.size (n % m) [.int .i64 (n % m)] rfl rfl)
      have HL1 := Lib.hid (show A + ((j + 1 : Nat) : Int) = n + 1 from by omega)
      generalize n % m = q at *
      clear hn
      go_wp2_with (at_builtin; go_loud (refine wpList_append_one encI 3 26 Try.underlying26 infoI rfl (by decide) _ rfl (.tmp 18) (.tmp 25) rfl w.heap.size tv (L.take j) rfl HO2.out wr.heap.size 1 rfl q HM.out (by omega) (by have := HB2.out.size; exact this) ?_; intro v' w2 hown hgr hwh; have HB3 := Lib.hid (HO2.out.appended HB2.out (Nat.le_refl _) HB2.out.size hgr); have HO3 := Lib.hid hown; clear hown hgr hwh))
      go_roundw
      case rel => exact ⟨j + 1, _, hlt, by rw [HL1.out], rfl, Lib.hid ⟨HTK.out ▸ HO3.out, HB3.out⟩⟩
      case measure => have := HNO.out; have := HNN.out; simp only [intOf]; omega
    · have dO : decide (n < O) = false := decide_eq_false (by have := HNO.out; omega)
      have e : L.take j = L := List.take_of_length_le (by rw [HL.out]; omega)
      have HOE := Lib.hid (show OwnL encI 3 wr w.heap.size tv L from e ▸ HO.out)
      clear e hn
      go_wp2_with fail
      exact bodyPost_ret (v := tv) (by simp [results, Try.results22, go_sem]) rfl ⟨⟨tv, rfl, HOE.out⟩, HB.out⟩
end Go.Proofs.Ytmokibjeanbabaa
