/-
Walk of the code's Feed.
-/
import Derived.Test.YteglaenjmeocmaaKissWalkT
import Derived.Test.YteglaenjmeocmaaFlat
import Derived.Laws.AppendOwnNone
namespace Go.Proofs.Yteglaenjmeocmaa
open Go.RowKit
/-- behind an append of frames that lie in a row -/
theorem told_more {w0 w w1 : World} {b : Nat} {at_ most bad : Int} {v0 v tv tv' : Value} {held : List UInt8} {F G : List Fr} (hb0 : b < w0.heap.size)
    (hd : DC w b at_ most bad v held) (hw : Wrote w0 w b v0 v) (hF : OwnF 25 w w0.heap.size tv F)
    (hown1 : w1.ownsRow w0.heap.size 25 3 tv' (F.length + G.length) (frsV F ++ frsV G)) (hg : w.grownBy w1 tv.ownBlock) :
    DC w1 b at_ most bad v held ∧ Wrote w0 w1 b v0 v ∧ OwnF 25 w1 w0.heap.size tv' (F ++ G) := by
  have hb := hd.1.lt
  refine ⟨⟨hd.1.same (hg.block b hb (fun e => ?_)), hd.2.grown hg (fun g hv => own_apart hd.2 hF (by decide) hv)⟩, hw.grown hg (fun g e => Or.inl (hF.ge e).1), ?_⟩
  · have := (hF.ge e.symm).1; omega
  · unfold OwnF
    rw [List.length_append, frsV_append]
    exact hown1
theorem OwnF.cases {T : TypeId} {w : World} {B : Nat} {v : Value} {F : List Fr} (h : OwnF T w B v F) : (v = .slice none 0 0 ∧ F = []) ∨ ∃ g cap, v = .slice (some ⟨g, 0, none⟩) F.length cap := by
  rcases h.2 with ⟨hv, h0⟩ | ⟨g, cap, _, hv, _⟩
  · exact Or.inl ⟨hv, List.length_eq_zero_iff.1 h0⟩
  · exact Or.inr ⟨g, cap, hv⟩
/-- told frames of a call that began at w1, held against one that began at w -/
theorem OwnF.wrote {T : TypeId} {w1 w2 : World} {b B : Nat} {v1 v2 tv : Value} {F : List Fr} (h : OwnF T w1 B tv F) (hb : b < B) (hw : Wrote w1 w2 b v1 v2) (hO : ∀ g, v1.ownBlock = some g → tv.ownBlock ≠ some g) : OwnF T w2 B tv F := by
  refine ⟨h.1, ?_⟩
  rcases h.2 with h0 | ⟨g, cap, cur, hv, hbg, hg, rest⟩
  · exact Or.inl h0
  · have hl : g < w1.heap.size := (h.ge (by rw [hv]; rfl)).2
    refine Or.inr ⟨g, cap, cur, hv, hbg, ?_, rest⟩
    rw [hw.block g hl (by omega) (fun e => hO g e.symm (by rw [hv]; rfl))]
    exact hg
/-- what Feed makes of its texts, up to k of them -/
def fedK (most : Nat) (st : St) (ss : List ByteArray) (k : Nat) : St × List Fr := fedD most st (flat (ss.take k))
theorem fedK_next (most : Nat) (st : St) (ss : List ByteArray) (k : Nat) (h : k < ss.length) :
    fedK most st ss (k + 1) = ((fedD most (fedK most st ss k).1 (ss.getD k ByteArray.empty).data.toList).1, (fedK most st ss k).2 ++ (fedD most (fedK most st ss k).1 (ss.getD k ByteArray.empty).data.toList).2) := by
  unfold fedK; rw [flat_take ss k h, fedD_append]
/-- Feed's memory behind k texts -/
def FMem (w : World) (b most : Nat) (v : Value) (q : St × List Fr) (tv : Value) (wx : World) : Prop :=
  ∃ v', DC wx b q.1.1 most q.1.2.1 v' q.1.2.2 ∧ Wrote w wx b v v' ∧ OwnF 25 wx w.heap.size tv q.2
theorem feed_nil (b most : Nat) (st : St) (v : Value) (a : Option Addr) (cap : Nat) (w : World) (hD : DC w b st.1 most st.2.1 v st.2.2) :
    Calls Try.prog 15 #[.pointer (some ⟨b, 0, none⟩), .slice a 0 cap] w fun e w' => WalkTo w b most v (fedD most st (flat [])) e w' := by
  have HD := Lib.hid hD
  go_enter Try.func15, Try.ntmps15
  go_wp2
  refine wp_loop_rounds 1 ?_
  rw [rounds_succ]
  go_wp2
  go_ret
  exact ⟨v, _, rfl, HD.out, Wrote.refl _ _ _, OwnF.nil _ _ _⟩
set_option maxHeartbeats 1000000 in
theorem feed_some (b most : Nat) (st : St) (v : Value) (lb off cap : Nat) (ss : List ByteArray) (w : World) (hl : ss.length ≤ 9223372036854775807) (hm : most ≤ 4096) (hi : InvD most st) (hbad : st.2.1 ≤ 100000) (hfl : (flat ss).length ≤ 50000)
    (hlb : lb < w.heap.size) (hne : lb ≠ b) (hnv : v.ownBlock ≠ some lb)
    (hD : DC w b st.1 most st.2.1 v st.2.2)
    (hc : ∀ j, j < ss.length → w.cell? ⟨lb, off + j, none⟩ = some (.string (ss.getD j ByteArray.empty))) :
    Calls Try.prog 15 #[.pointer (some ⟨b, 0, none⟩), .slice (some ⟨lb, off, none⟩) ss.length cap] w fun e w' => WalkTo w b most v (fedD most st (flat ss)) e w' := by
  obtain ⟨i0, hi0, hz0, hz1, hz2⟩ := info_parts infoF
  have hb0 := hD.1.lt
  have HD := Lib.hid hD
  have HC := Lib.hid (fun (wx : World) (v' : Value) (hw : Wrote w wx b v v') j hj => (World.cell?_of_block (a := ⟨lb, off + j, none⟩) (hw.block lb hlb hne (fun e => hnv e.symm))).trans (hc j hj))
  have HV := Lib.hid (fun k => (fedD_inv most st (flat (ss.take k)) hi))
  have HB := Lib.hid hbad
  have HFL := Lib.hid hfl
  clear hc hbad hfl hnv hD
  go_enter Try.func15, Try.ntmps15
  go_wp2
  go_loopw [5, 12] (fun tv i wx => ∃ k : Nat, k ≤ ss.length ∧ i = .int .i64 k ∧ Hid (FMem w b most v (fedK most st ss k) tv wx)) (fun _ i _ => ss.length - (intOf i).toNat)
  case atStart => exact ⟨0, by omega, rfl, ⟨v, HD.out, Wrote.refl _ _ _, OwnF.nil _ _ _⟩⟩
  case round =>
    obtain ⟨k, hk, rfl, HR⟩ := hrel
    obtain ⟨vk, hDk, hWk, hFk⟩ := HR.out
    obtain ⟨s, hs⟩ : ∃ s, s = ss.getD k ByteArray.empty := ⟨_, rfl⟩
    by_cases hlt : k < ss.length
    · have hcx := HC.out _ _ hWk k hlt
      rw [← hs] at hcx
      have hnx := fedK_next most st ss k hlt
      rw [← hs] at hnx
      have hik := HV.out k
      have hle := flat_take_le ss (k + 1)
      rw [flat_take_len ss k hlt, ← hs] at hle
      have hfl := HFL.out
      have hbd := HB.out
      obtain ⟨q, hq⟩ : ∃ q, q = fedK most st ss k := ⟨_, rfl⟩
      rw [← hq] at hDk hFk hnx
      have hik1 : InvD most (q.1.1, q.1.2.1, q.1.2.2) := by rw [hq]; exact hik.1
      have hik2 : q.1.2.1 ≤ 150000 := by rw [hq]; have := hik.2.1; unfold fedK; omega
      have hik3 : q.2.length ≤ 50000 := by rw [hq]; have := hik.2.2; unfold fedK; omega
      have hG := (fedD_inv most (q.1.1, q.1.2.1, q.1.2.2) s.data.toList hik1).2.2
      have hsz : s.data.toList.length = s.size := by simp
      have HW := Lib.hid (walk_any b most q.1.1 q.1.2.1 q.1.2.2 vk s wr (by omega) hm hik1 (by omega) hDk)
      obtain ⟨q2, hq2⟩ : ∃ q2, q2 = fedD most (q.1.1, q.1.2.1, q.1.2.2) s.data.toList := ⟨_, rfl⟩
      rw [← hq2] at HW
      have hG2 : q2.2.length ≤ 50000 := by rw [hq2]; omega
      have HN := Lib.hid (show fedK most st ss (k + 1) = (q2.1, q.2 ++ q2.2) by rw [hnx, hq2])
      have HWk := Lib.hid hWk
      have HFk := Lib.hid hFk
      have HDk := Lib.hid hDk
      have hnl := hlb
      clear hs hnx hik hle hq hik1 hik2 hsz hq2 hWk hFk hDk HR hG HV HC HD hfl hbd
      go_wp2_with fail
      go_at_call 25
      refine (HW.out).mono ?_
      rintro e w1 ⟨v1, tv2, rfl, hD1, hW1, hF1⟩
      have HF2 := Lib.hid (HFk.out.wrote hb0 hW1 (fun g hg => own_apart HDk.out.2 HFk.out (by decide) hg))
      have HW2 := Lib.hid (HWk.out.trans hW1)
      have HD2 := Lib.hid hD1
      have hz := HW2.out.size
      clear hD1 hW1 HDk HWk HFk HW
      rcases hF1.cases with ⟨h2, h3⟩ | ⟨g, cap2, h2⟩
      · subst h2
        have H3 := Lib.hid h3
        clear hF1 h3
        go_wp2_with (first
          | (at_builtin; refine wpList_append_own_none rfl (.tmp 16) (.tmp 19) 40 rfl w.heap.size 25 i0 3 Try.underlying40 hi0 _ _ _ rfl HF2.out rfl ?_))
        go_roundw
        case rel =>
          refine ⟨k + 1, by omega, by go_num, v1, ?_⟩
          rw [HN.out, H3.out, List.append_nil]
          exact ⟨HD2.out, HW2.out, HF2.out⟩
        case measure => simp [intOf]; omega
      · subst h2
        have HCL := Lib.hid (World.ownsRow.cells hF1 (g := g) rfl)
        clear hF1
        go_wp2_with (first
          | (at_builtin; refine wpList_append_own _ rfl (.tmp 16) (.tmp 19) 40 rfl w.heap.size 25 i0 _ 3 32 Try.underlying40 hi0 hz0 hz1 hz2 rfl (by decide) _ _ _ rfl HF2.out ⟨g, 0, none⟩ q2.2.length cap2 (frsV q2.2) rfl (frsV_length _) HCL.out (frsV_one _) (by unfold maxLen; omega) (by omega) hz ?_; intro v' w2 hown1 hgrow1 _; have HX := Lib.hid (told_more hb0 HD2.out HW2.out HF2.out hown1 hgrow1); clear hown1 hgrow1))
        go_roundw
        case rel =>
          refine ⟨k + 1, by omega, by go_num, v1, ?_⟩
          rw [HN.out]
          exact HX.out
        case measure => simp [intOf]; omega
    · obtain rfl : k = ss.length := by omega
      have he : fedK most st ss ss.length = fedD most st (flat ss) := by unfold fedK; rw [List.take_length]
      rw [he] at hDk hFk
      have HDk := Lib.hid hDk
      have HWk := Lib.hid hWk
      have HFk := Lib.hid hFk
      clear he hs hDk hWk hFk HR
      go_wp2
      go_ret
      exact ⟨vk, _, rfl, HDk.out, HWk.out, HFk.out⟩
end Go.Proofs.Yteglaenjmeocmaa
