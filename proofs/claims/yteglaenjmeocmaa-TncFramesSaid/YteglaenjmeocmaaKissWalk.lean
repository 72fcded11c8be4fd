/-
Walk of the code's walk: inside a frame.
-/
import Derived.Test.YteglaenjmeocmaaKissPlaces
import Derived.BigQuiet
import Derived.Deep.QuietTactic
namespace Go.Proofs.Yteglaenjmeocmaa
open Go.RowKit
theorem list_rest (r : ByteArray) (h : 0 < r.size) : r.data.toList = r[0] :: (r.extract 1 r.size).data.toList := by
  rw [Lib.extract_to_end]
  have h2 : 0 < r.data.toList.length := by simpa using h
  have h3 := List.drop_eq_getElem_cons h2
  rw [List.drop_zero] at h3
  exact h3
theorem rest_size (r : ByteArray) : (r.extract 1 r.size).size = r.size - 1 := by simp
theorem isEmpty_yes (r : ByteArray) (h : r.size = 0) : r.toList.isEmpty = true := by
  rw [ByteArray.toList_eq, List.isEmpty_iff, ← List.length_eq_zero_iff]; simpa using h
theorem isEmpty_no (r : ByteArray) (h : 0 < r.size) : r.toList.isEmpty = false := by
  have h2 : r.data.toList.length = r.size := by simp
  rw [ByteArray.toList_eq, ← Bool.not_eq_true, List.isEmpty_iff, ← List.length_eq_zero_iff]; omega
set_option maxHeartbeats 1000000 in
set_option maxRecDepth 100000 in
theorem pass0 (w0 : World) (b most : Nat) (v0 : Value) (tgt : St × List Fr) (hb0 : b < w0.heap.size) : Pass w0 b most v0 tgt 0 := by
  refine ⟨_, by rfl, ?_⟩
  intro n a w hnb ⟨x, v, tv, bad, held, r, c, F, ⟨hsz, hdf, h0, h1, h5, _⟩, ⟨hD, hW, hF, hheld⟩, hL⟩ hn
  obtain ⟨tmps, defers⟩ := a
  simp only at hsz hdf h0 h1 h5 hn
  obtain ⟨u, hu⟩ := arr89 tmps _ _ _ _ hsz h0 h1 h5 rfl
  generalize tmps.getD 6 undef = cv at hu
  subst hdf
  unfold pmu at hn
  simp only [h1, strLen] at hn
  subst hu
  clear hsz h0 h1 h5
  have HD := Lib.hid hD
  have HW := Lib.hid hW
  have HF := Lib.hid hF
  have HL := Lib.hid hL
  clear hL hF hW
  obtain ⟨⟨⟨d0, d1, d2, d3⟩, z1, z2, z3⟩, _⟩ := hD
  by_cases hr : r.size = 0
  · have hr2 : r.data.toList = [] := by
      rw [← List.length_eq_zero_iff]; simpa using hr
    have he := isEmpty_yes r hr
    have HR2 := Lib.hid hr2
    clear hr hr2
    go_wp2
    rw [jumps_ret]
    go_ret
    have hl := HL.out
    rw [HR2.out] at hl
    simp only [Leads, fedD, ahead, List.append_nil] at hl
    subst hl
    exact ⟨v, tv, rfl, HD.out.at_ 1, HW.out.set _, HF.out.set hb0 _⟩
  · have hpos : 0 < r.size := by omega
    have he := isEmpty_no r hpos
    have HR := Lib.hid (list_rest r hpos)
    have HS := Lib.hid (rest_size r)
    clear hr
    by_cases e1 : r[0] = 192
    · have t1 : (((r[0].toNat : Nat) : Int) == 192) = true := by rw [e1]; rfl
      have E1 := Lib.hid e1
      clear e1
      go_wp2
      go_quiet (fail)
      go_wp2
      go_step3
      have hl := HL.out
      rw [HR.out, E1.out] at hl
      exact ⟨⟨1, v, tv, bad, held, r.extract 1 r.size, c, F, ⟨rfl, rfl, rfl, rfl, rfl, fun h => by cases h⟩, ⟨(HD.out.at_ 1).drewN nq, (HW.out.set _).drewN nq, (HF.out.set hb0 _).drewN nq, hheld⟩, hl⟩, by
        have hs := HS.out
        show 8 * (r.extract 1 r.size).size + rank 3 < n
        rw [hs]; simp only [rank] at hn ⊢; simp at hn ⊢; omega⟩
    by_cases e2 : r[0] = 219
    · have t1 : (((r[0].toNat : Nat) : Int) == 192) = false := by rw [e2]; rfl
      have t2 : (((r[0].toNat : Nat) : Int) == 219) = true := by rw [e2]; rfl
      have E2 := Lib.hid e2
      clear e1 e2
      go_wp2
      go_quiet (fail)
      go_wp2
      go_step3
      have hl := HL.out
      rw [HR.out, E2.out] at hl
      exact ⟨⟨1, v, tv, bad, held, r.extract 1 r.size, c, F, ⟨rfl, rfl, rfl, rfl, rfl, fun h => by cases h⟩, ⟨(HD.out.at_ 1).drewN nq, (HW.out.set _).drewN nq, (HF.out.set hb0 _).drewN nq, hheld⟩, hl⟩, by
        have hs := HS.out
        show 8 * (r.extract 1 r.size).size + rank 1 < n
        rw [hs]; simp only [rank] at hn ⊢; simp at hn ⊢; omega⟩
    · have n1 := u8_ne (n := 192) (by omega) e1
      have n2 := u8_ne (n := 219) (by omega) e2
      have t1 : (((r[0].toNat : Nat) : Int) == 192) = false := by rw [beq_eq_false_iff_ne]; omega
      have t2 : (((r[0].toNat : Nat) : Int) == 219) = false := by rw [beq_eq_false_iff_ne]; omega
      have E1 := Lib.hid e1
      have E2 := Lib.hid e2
      clear e1 e2 n1 n2
      go_wp2
      go_quiet (fail)
      go_wp2
      go_step3
      have hl := HL.out
      rw [HR.out] at hl
      have hl2 : Leads most tgt 4 1 bad held F (r.extract 1 r.size).data.toList r[0] := by
        simp only [Leads, fedD, stepD, E1.out, E2.out, ahead] at hl ⊢
        simpa using hl
      exact ⟨⟨1, v, tv, bad, held, r.extract 1 r.size, r[0], F, ⟨rfl, rfl, rfl, rfl, rfl, fun _ => rfl⟩, ⟨(HD.out.at_ 1).drewN nq, (HW.out.set _).drewN nq, (HF.out.set hb0 _).drewN nq, hheld⟩, hl2⟩, by
        have hs := HS.out
        show 8 * (r.extract 1 r.size).size + rank 4 < n
        rw [hs]; simp only [rank] at hn ⊢; simp at hn ⊢; omega⟩
end Go.Proofs.Yteglaenjmeocmaa
