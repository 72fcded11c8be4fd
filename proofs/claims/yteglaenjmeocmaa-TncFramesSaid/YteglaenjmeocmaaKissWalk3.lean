/-
Walk of the code's walk: at a frame's edge, and between frames.
-/
import Derived.Test.YteglaenjmeocmaaKissWalk
namespace Go.Proofs.Yteglaenjmeocmaa
open Go.RowKit
set_option maxHeartbeats 1000000 in
set_option maxRecDepth 100000 in
theorem pass3 (w0 : World) (b most : Nat) (v0 : Value) (tgt : St × List Fr) (hb0 : b < w0.heap.size) (hm : most ≤ 4096) (hk2 : tgt.2.length ≤ 1000000) : Pass w0 b most v0 tgt 3 := by
  obtain ⟨r0, hr0, hp0⟩ := pass0 w0 b most v0 tgt hb0
  refine ⟨_, by rfl, ?_⟩
  intro n a w hnb ⟨x, v, tv, bad, held, r, c, F, ⟨hsz, hdf, h0, h1, h5, _⟩, ⟨hD, hW, hF, hheld⟩, hL⟩ hn
  obtain ⟨tmps, defers⟩ := a
  simp only at hsz hdf h0 h1 h5 hn
  obtain ⟨u, hu⟩ := arr89 tmps _ _ _ _ hsz h0 h1 h5 rfl
  generalize tmps.getD 6 undef = cv at hu
  subst hdf
  unfold pmu at hn
  simp only [h1, strLen] at hn
  subst hu
  clear hsz h0 h1 h5
  have HP := Lib.hid hp0
  have HR0 := Lib.hid hr0
  clear hp0 hr0
  cases held with
  | nil =>
    have HE := Lib.hid (end_none b x most bad v tv w hD)
    have HD := Lib.hid hD
    have HW := Lib.hid hW
    have HF := Lib.hid hF
    have HL := Lib.hid hL
    clear hL hF hW hD
    go_wp2_with (go_at_call 27; refine (HE.out).mono ?_; rintro e w' ⟨rfl, rfl⟩)
    go_step3
    rename_i hK
    refine hK _ _ ?_
    clear hK
    have hl := HL.out
    simp only [Leads, fedD, stepD, if_pos, ahead, Nat.one_ne_zero, if_false, List.head?_nil, Option.map_none, Option.toList_none, List.nil_append] at hl
    refine fall HR0.out (HP.out n _ _ hnb ⟨x, v, tv, bad, [], r, c, F, ⟨rfl, rfl, rfl, rfl, rfl, fun h => by cases h⟩, ⟨HD.out, HW.out, HF.out, hheld⟩, hl⟩ ?_) (by rfl)
    show 8 * r.size + rank 0 ≤ n
    simp only [rank] at hn ⊢; simp at hn ⊢; omega
  | cons y l =>
    have hFl : F.length ≤ 1000000 := by
      simp only [Leads] at hL
      rw [hL] at hk2
      simp [ahead] at hk2
      omega
    have HE := Lib.hid (end_some b x most bad y l v0 v tv F w0 w (by simp at hheld; omega) hFl hb0 hD hW hF)
    have HL := Lib.hid hL
    clear hL hF hW hD
    go_wp2_with (go_at_call 27; refine (HE.out).mono ?_; rintro e w' ⟨tv', rfl, HT⟩; have HT2 := Lib.hid HT; clear HT)
    go_step3
    rename_i hK
    refine hK _ _ ?_
    clear hK
    have hl := HL.out
    have hl2 : Leads most tgt 0 x bad [] (F ++ [(y, l)]) r.data.toList c := by
      simp only [Leads, fedD, stepD, ahead] at hl ⊢
      simpa using hl
    refine fall HR0.out (HP.out n _ _ hnb ⟨x, _, tv', bad, [], r, c, F ++ [(y, l)], ⟨rfl, rfl, rfl, rfl, rfl, fun h => by cases h⟩, ⟨HT2.out.1, HT2.out.2.1, HT2.out.2.2, by simp⟩, hl2⟩ ?_) (by rfl)
    show 8 * r.size + rank 0 ≤ n
    simp only [rank] at hn ⊢; simp at hn ⊢; omega
set_option maxHeartbeats 1000000 in
set_option maxRecDepth 100000 in
theorem pass2 (w0 : World) (b most : Nat) (v0 : Value) (tgt : St × List Fr) (hb0 : b < w0.heap.size) (hm : most ≤ 4096) (hk2 : tgt.2.length ≤ 1000000) : Pass w0 b most v0 tgt 2 := by
  obtain ⟨r3, hr3, hp3⟩ := pass3 w0 b most v0 tgt hb0 hm hk2
  refine ⟨_, by rfl, ?_⟩
  intro n a w hnb ⟨x, v, tv, bad, held, r, c, F, ⟨hsz, hdf, h0, h1, h5, _⟩, ⟨hD, hW, hF, hheld⟩, hL⟩ hn
  obtain ⟨tmps, defers⟩ := a
  simp only at hsz hdf h0 h1 h5 hn
  obtain ⟨u, hu⟩ := arr89 tmps _ _ _ _ hsz h0 h1 h5 rfl
  generalize tmps.getD 6 undef = cv at hu
  subst hdf
  unfold pmu at hn
  simp only [h1, strLen] at hn
  subst hu
  clear hsz h0 h1 h5
  obtain ⟨rfl, rfl, hL⟩ := hL
  have HP := Lib.hid hp3
  have HR3 := Lib.hid hr3
  have HD := Lib.hid hD
  have HW := Lib.hid hW
  have HF := Lib.hid hF
  have HL := Lib.hid hL
  clear hp3 hr3 hL hF hW hD
  have hi := Lib.indexByte_ge r.data.toList 192
  have HX := Lib.hid (index_any r 192 w)
  by_cases hneg : Lib.indexByte r.data.toList 192 = -1
  · have HN := Lib.hid hneg
    rw [show (192 : Int).toNat.toUInt8 = 192 from rfl, hneg] at HX
    clear hneg hi
    go_wp2_with (go_at_call 26; refine (HX.out).mono ?_; rintro e w' ⟨rfl, rfl⟩)
    rw [jumps_ret]
    go_ret
    have hl := HL.out
    rw [fedD_between most bad _ HN.out] at hl
    simp only [ahead, List.append_nil] at hl
    subst hl
    exact ⟨v, tv, rfl, HD.out, HW.out, HF.out⟩
  · obtain ⟨i, hi2⟩ : ∃ i : Nat, Lib.indexByte r.data.toList 192 = i := ⟨(Lib.indexByte r.data.toList 192).toNat, by omega⟩
    have HF2 := Lib.hid (fedD_found most bad _ i hi2)
    rw [show (192 : Int).toNat.toUInt8 = 192 from rfl, hi2] at HX
    have hlt : i < r.size := by have := HF2.out.1; simpa using this
    have HS := Lib.hid (show (r.extract (i + 1) r.size).size = r.size - (i + 1) by simp)
    have HT := Lib.hid (Lib.extract_to_end r (i + 1))
    clear hneg hi hi2
    go_wp2_with (go_at_call 26; refine (HX.out).mono ?_; rintro e w' ⟨rfl, rfl⟩)
    go_step3
    rename_i hK
    refine hK _ _ ?_
    clear hK
    have hl := HL.out
    rw [HF2.out.2, ← HT.out] at hl
    have hl3 : Leads most tgt 3 0 bad [] F (r.extract (i + 1) r.size).data.toList c := hl
    refine fall HR3.out (HP.out n _ _ hnb ⟨0, v, tv, bad, [], r.extract (i + 1) r.size, c, F, ⟨rfl, rfl, rfl, rfl, rfl, fun h => by cases h⟩, ⟨HD.out, HW.out, HF.out, hheld⟩, hl3⟩ ?_) (by rfl)
    show 8 * (r.extract (i + 1) r.size).size + rank 3 ≤ n
    rw [HS.out]
    simp only [rank] at hn ⊢; simp at hn ⊢; omega
end Go.Proofs.Yteglaenjmeocmaa
