/-
The document's Take of a taker's window, of any number; what holds of the window stays.
-/
import Derived.Test.YtmokibjeanbabaaSeqRTakeB
namespace Go.Proofs.Ytmokibjeanbabaa
open Go.RowKit
theorem atT_get (c : List Bool) (t i : Nat) : (atT c t).getD i false = c.getD (i + t) false := by
  unfold atT
  by_cases h : i < (c.drop t).length
  · rw [List.getD_eq_getElem?_getD, List.getElem?_append_left h, List.getElem?_drop, List.getD_eq_getElem?_getD, Nat.add_comm]
  · rw [List.getD_eq_getElem?_getD, List.getElem?_append_right (by omega), List.getElem?_replicate, List.getD_eq_getElem?_getD, List.getElem?_eq_none (by rw [List.length_drop] at h; omega)]
    split <;> rfl
theorem TiOk.take {m k : Int} {s : Ti} (h : TiOk m k s) (ns : Int) (hv : s.vr ≤ 99800) : TiOk m k (takeT m k s ns).1 := by
  unfold takeT
  split
  · exact h
  · split
    · exact h
    · split
      · exact h
      · rename_i hk
        obtain ⟨d, hd⟩ : ∃ d, (farN m (s.vr % m) ns).toNat = d := ⟨_, rfl⟩
        have hdk : (d : Int) < k := by have := h.kb; omega
        rw [hd]
        obtain ⟨C, hC⟩ : ∃ C, s.came.set d true = C := ⟨_, rfl⟩
        rw [hC]
        have hCl : C.length = 128 := by rw [← hC, List.length_set]; exact h.len
        have hCh : ∀ i : Nat, k ≤ i → C.getD i false = false := fun i hi => by
          rw [← hC, List.getD_eq_getElem?_getD, List.getElem?_set_ne (by omega), ← List.getD_eq_getElem?_getD]
          exact h.high i hi
        have hr := runT_most hCl (hCh 127 (by have := h.kb; rcases h.md with e | e <;> omega))
        have hvb := h.vb
        refine ⟨h.md, h.kb, ⟨by show 0 ≤ s.vr + (runT C : Nat); omega, by show s.vr + (runT C : Nat) ≤ 100000; omega⟩, ?_, fun i hi => ?_, ?_⟩
        · show (atT C (runT C)).length = 128
          rw [atT_len _ _ (by omega), hCl]
        · show (atT C (runT C)).getD i false = false
          rw [atT_get]
          exact hCh _ (by omega)
        · show (atT C (runT C)).getD 0 false = false
          rw [atT_head]
          exact runT_end C
theorem takeT_most {m k : Int} {s : Ti} (h : TiOk m k s) (ns : Int) : (takeT m k s ns).2.1.length ≤ 128 := by
  unfold takeT
  split
  · exact Nat.zero_le _
  · split
    · exact Nat.zero_le _
    · split
      · exact Nat.zero_le _
      · simp only [List.length_map, List.length_range]
        have := runT_le (s.came.set (farN m (s.vr % m) ns).toNat true)
        rw [List.length_set, h.len] at this
        exact this
theorem rtake11_any (p : Nat) (m k : Int) (s : Ti) (ns : Int) (w : World) (h : RowAt w p (tiV m k s)) (hok : TiOk m k s) : Calls Try.prog 27 #[.pointer (some ⟨p, 0, none⟩), .int .i64 ns] w (ITakeTo p m k w (takeT m k s ns)) := by
  cases hin : inR m ns with
  | false => exact rtake11_bad p m k s ns w h hin
  | true =>
    have hn := inR_yes hin
    have hA : 0 ≤ s.vr % m ∧ s.vr % m < m := by rcases hok.md with e | e <;> subst e <;> omega
    have hf := far_most m (s.vr % m) ns hA hn
    obtain ⟨d, hd⟩ : ∃ d : Nat, farN m (s.vr % m) ns = d := ⟨(farN m (s.vr % m) ns).toNat, by omega⟩
    cases hc : s.came.getD d false with
    | true => exact rtake11_there p m k s ns w h hok hin d hd hc
    | false =>
      by_cases hk : k ≤ (d : Int)
      · exact rtake11_far p m k s ns w h hok hin d hd hc hk
      · exact rtake11_in p m k s ns w h hok hin d hd hc (by omega)
end Go.Proofs.Ytmokibjeanbabaa
