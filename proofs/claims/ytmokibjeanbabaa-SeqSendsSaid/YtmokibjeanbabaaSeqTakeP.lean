/-
A taker's marks, moved on one by one: plain facts.
-/
import Derived.Test.YtmokibjeanbabaaSeqRHeld
namespace Go.Proofs.Ytmokibjeanbabaa
open Go.RowKit
theorem runT_lt : ∀ (c : List Bool) (t : Nat), t < runT c → c.getD t false = true
  | [], t, h => by simp [runT] at h
  | b :: l, t, h => by
    cases b with
    | false => simp [runT] at h
    | true =>
      cases t with
      | zero => rfl
      | succ t =>
        have := runT_lt l t (by simpa [runT] using h)
        simpa using this
theorem runT_end : ∀ (c : List Bool), c.getD (runT c) false = false
  | [] => rfl
  | b :: l => by
    cases b with
    | false => rfl
    | true =>
      have := runT_end l
      simpa [runT] using this
theorem runT_le (c : List Bool) : runT c ≤ c.length := (List.takeWhile_prefix _).length_le
theorem runT_most {c : List Bool} (hl : c.length = 128) (h : c.getD 127 false = false) : runT c ≤ 127 := by
  have := runT_le c
  by_cases h1 : runT c = 128
  · have := runT_lt c 127 (by omega)
    rw [h] at this
    cases this
  · omega
/-- the marks behind t rounds -/
def atT (c : List Bool) (t : Nat) : List Bool := c.drop t ++ List.replicate t false
theorem atT_zero (c : List Bool) : atT c 0 = c := by simp [atT]
theorem atT_len (c : List Bool) (t : Nat) (ht : t ≤ c.length) : (atT c t).length = c.length := by
  unfold atT
  rw [List.length_append, List.length_drop, List.length_replicate]
  omega
theorem atT_head (c : List Bool) (t : Nat) : (atT c t).getD 0 false = c.getD t false := by
  unfold atT
  by_cases h : t < c.length
  · rw [List.getD_eq_getElem?_getD, List.getElem?_append_left (by rw [List.length_drop]; omega), List.getElem?_drop, List.getD_eq_getElem?_getD, Nat.add_zero]
  · rw [List.drop_of_length_le (by omega), List.nil_append, List.getD_eq_getElem?_getD, List.getElem?_replicate, List.getD_eq_getElem?_getD, List.getElem?_eq_none (by omega)]
    split <;> rfl
theorem atT_next (c : List Bool) (t : Nat) (hl : c.length = 128) (h : c.getD 127 false = false) (ht : t < 128) : shiftT (atT c t) = atT c (t + 1) := by
  have hz : (atT c t).getD 127 false = false := by
    unfold atT
    by_cases h0 : t = 0
    · subst h0
      simpa using h
    · rw [List.getD_eq_getElem?_getD, List.getElem?_append_right (by rw [List.length_drop]; omega), List.getElem?_replicate]
      split <;> rfl
  unfold shiftT
  rw [hz]
  unfold atT
  rw [List.drop_append_of_le_length (by rw [List.length_drop]; omega), List.drop_drop, List.append_assoc, List.replicate_succ']
/-- the marks in the midst of a move -/
def midT (c : List Bool) (i : Nat) : List Bool := (c.drop 1).take i ++ c.drop i
theorem midT_zero (c : List Bool) : midT c 0 = c := by simp [midT]
theorem midT_len (c : List Bool) (i : Nat) (hl : c.length = 128) (hi : i ≤ 127) : (midT c i).length = 128 := by
  unfold midT
  rw [List.length_append, List.length_take, List.length_drop, List.length_drop]
  omega
theorem midT_get (c : List Bool) (i : Nat) (hl : c.length = 128) (hi : i < 127) : (midT c i)[i + 1]? = some (c.getD (i + 1) false) := by
  unfold midT
  rw [List.getElem?_append_right (by rw [List.length_take, List.length_drop]; omega), List.length_take, List.length_drop, List.getElem?_drop]
  rw [show i + (i + 1 - min i (c.length - 1)) = i + 1 by omega, List.getD_eq_getElem?_getD, List.getElem?_eq_getElem (by omega)]
  rfl
theorem midT_next (c : List Bool) (i : Nat) (hl : c.length = 128) (hi : i < 127) : (midT c i).set i (c.getD (i + 1) false) = midT c (i + 1) := by
  unfold midT
  have h1 : ((c.drop 1).take i).length = i := by rw [List.length_take, List.length_drop]; omega
  rw [List.set_append_right _ _ (by omega), h1, Nat.sub_self, List.drop_eq_getElem_cons (show i < c.length by omega), List.set_cons_zero, List.take_succ_eq_append_getElem (show i < (c.drop 1).length by rw [List.length_drop]; omega), List.append_assoc]
  congr 1
  rw [List.getElem_drop, List.singleton_append, List.getD_eq_getElem?_getD, List.getElem?_eq_getElem (show i + 1 < c.length by omega)]
  simp [Nat.add_comm]
theorem midT_last (c : List Bool) (hl : c.length = 128) : midT c 127 = shiftT c := by
  have e : c.drop 127 = [c.getD 127 false] := by
    have e2 : c.drop 128 = [] := List.drop_of_length_le (by omega)
    rw [List.drop_eq_getElem_cons (show 127 < c.length by omega), e2, List.getD_eq_getElem?_getD, List.getElem?_eq_getElem (show 127 < c.length by omega)]
    rfl
  unfold midT shiftT
  rw [List.take_of_length_le (by rw [List.length_drop]; omega), e]
/-- what comes in order in t rounds -/
def outT (m vr : Int) (t : Nat) : List Int := (List.range t).map fun (i : Nat) => (vr + i) % m
theorem outT_next (m vr : Int) (t : Nat) : outT m vr (t + 1) = outT m vr t ++ [(vr + t) % m] := by
  unfold outT
  rw [List.range_succ, List.map_append]
  rfl
theorem outT_len (m vr : Int) (t : Nat) : (outT m vr t).length = t := by simp [outT]
theorem takeT_in (m k : Int) (s : Ti) (ns : Int) (d : Nat) (hin : inR m ns = true) (hd : farN m (s.vr % m) ns = d) (h1 : s.came.getD d false = false) (h2 : (d : Int) < k) :
    takeT m k s ns = (⟨s.vr + runT (s.came.set d true), atT (s.came.set d true) (runT (s.came.set d true))⟩, outT m s.vr (runT (s.came.set d true)), 0) := by
  unfold takeT
  rw [hin, hd, Int.toNat_natCast, h1, if_neg (by simp), if_neg (by simp), if_neg (by omega)]
  rfl
def sliceLen : Value → Nat
  | .slice _ n _ => n
  | _ => 0
theorem OwnL.sliceLen {α : Type} {E : Enc α} {T : TypeId} {w : World} {B : Nat} {v : Value} {L : List α} (h : OwnL E T w B v L) : sliceLen v = L.length := by
  rcases h.2 with ⟨rfl, h0⟩ | ⟨g', cap, cur, rfl, _⟩
  · exact h0.symm
  · rfl
end Go.Proofs.Ytmokibjeanbabaa
