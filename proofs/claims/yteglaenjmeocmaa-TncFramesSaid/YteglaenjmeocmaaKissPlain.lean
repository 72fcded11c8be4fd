/-
Plain: what bytes make of a deframer; no program.
-/
import Derived.Lib.Bytealg
namespace Go.Proofs.Yteglaenjmeocmaa
/-- a byte is to be held -/
def pushD (most bad : Nat) (held : List UInt8) (x : UInt8) : Nat × Nat × List UInt8 := if held.length = most then (0, bad + 1, []) else (1, bad, held ++ [x])
/-- what a byte makes of place, count of bad ones and what is held; the frame that it tells -/
def stepD (most place bad : Nat) (held : List UInt8) (c : UInt8) : (Nat × Nat × List UInt8) × Option (UInt8 × List UInt8) :=
  if place = 0 then (if c = 192 then ((1, bad, []), none) else ((0, bad, held), none))
  else if place = 1 then (if c = 192 then ((1, bad, []), held.head?.map fun x => (x, held.tail)) else if c = 219 then ((2, bad, held), none) else (pushD most bad held c, none))
  else (if c = 220 then (pushD most bad held 192, none) else if c = 221 then (pushD most bad held 219, none) else if c = 192 then ((1, bad + 1, []), none) else ((0, bad + 1, []), none))
theorem u8_ne {c : UInt8} {n : Nat} (hn : n < 256) (h : c ≠ UInt8.ofNat n) : c.toNat ≠ n := fun e => h (UInt8.toNat_inj.1 (by rw [e, UInt8.toNat_ofNat', Nat.mod_eq_of_lt (by omega)]))
abbrev St := Nat × Nat × List UInt8
abbrev Fr := UInt8 × List UInt8
/-- what bytes make of place, bad ones and what is held; the frames that they tell -/
def fedD (most : Nat) : St → List UInt8 → St × List Fr
  | st, [] => (st, [])
  | st, c :: cs => ((fedD most (stepD most st.1 st.2.1 st.2.2 c).1 cs).1, (stepD most st.1 st.2.1 st.2.2 c).2.toList ++ (fedD most (stepD most st.1 st.2.1 st.2.2 c).1 cs).2)
theorem fedD_append (most : Nat) (st : St) (a b : List UInt8) : fedD most st (a ++ b) = ((fedD most (fedD most st a).1 b).1, (fedD most st a).2 ++ (fedD most (fedD most st a).1 b).2) := by
  induction a generalizing st with
  | nil => simp [fedD]
  | cons c cs ih => simp only [List.cons_append, fedD, ih, List.append_assoc]
theorem fedD_snoc (most : Nat) (st : St) (a : List UInt8) (c : UInt8) : fedD most st (a ++ [c]) = ((stepD most (fedD most st a).1.1 (fedD most st a).1.2.1 (fedD most st a).1.2.2 c).1, (fedD most st a).2 ++ (stepD most (fedD most st a).1.1 (fedD most st a).1.2.1 (fedD most st a).1.2.2 c).2.toList) := by
  rw [fedD_append]; simp [fedD]
/-- what always holds -/
def InvD (most : Nat) (st : St) : Prop := st.1 ≤ 2 ∧ st.2.2.length ≤ most ∧ (st.1 = 0 → st.2.2 = [])
theorem stepD_inv (most : Nat) (st : St) (c : UInt8) (h : InvD most st) : InvD most (stepD most st.1 st.2.1 st.2.2 c).1 ∧ (stepD most st.1 st.2.1 st.2.2 c).1.2.1 ≤ st.2.1 + 1 ∧ (stepD most st.1 st.2.1 st.2.2 c).2.toList.length ≤ 1 := by
  obtain ⟨p, bad, held⟩ := st
  obtain ⟨h1, h2, h3⟩ := h
  simp only at h1 h2 h3
  have hpush : ∀ x, InvD most (pushD most bad held x) ∧ (pushD most bad held x).2.1 ≤ bad + 1 := by
    intro x
    unfold pushD InvD
    split <;> simp <;> omega
  simp only [stepD]
  split
  · split <;> simp_all [InvD]
  · split
    · split
      · cases held <;> simp [InvD]
      · split
        · simp_all [InvD]
        · exact ⟨(hpush c).1, (hpush c).2, by simp⟩
    · split
      · exact ⟨(hpush 192).1, (hpush 192).2, by simp⟩
      · split
        · exact ⟨(hpush 219).1, (hpush 219).2, by simp⟩
        · split <;> simp [InvD]
theorem fedD_inv (most : Nat) (st : St) (l : List UInt8) (h : InvD most st) : InvD most (fedD most st l).1 ∧ (fedD most st l).1.2.1 ≤ st.2.1 + l.length ∧ (fedD most st l).2.length ≤ l.length := by
  induction l generalizing st with
  | nil => simp [fedD, h]
  | cons c cs ih =>
    obtain ⟨a, b, d⟩ := stepD_inv most st c h
    obtain ⟨a', b', d'⟩ := ih _ a
    simp only [fedD, List.length_append, List.length_cons]
    exact ⟨a', by omega, by omega⟩
theorem fedD_between (most bad : Nat) (l : List UInt8) (h : Lib.indexByte l 192 = -1) : fedD most (0, bad, []) l = ((0, bad, []), []) := by
  induction l with
  | nil => rfl
  | cons c cs ih =>
    by_cases hc : c = 192
    · subst hc; simp [Lib.indexByte] at h
    · have h' : Lib.indexByte cs 192 = -1 := by
        have hg := Lib.indexByte_ge cs 192
        simp only [Lib.indexByte] at h
        split at h
        · omega
        · split at h
          · simp_all
          · omega
      simp [fedD, stepD, hc, ih h']
theorem fedD_found (most bad : Nat) (l : List UInt8) (i : Nat) (h : Lib.indexByte l 192 = i) : i < l.length ∧ fedD most (0, bad, []) l = fedD most (1, bad, []) (l.drop (i + 1)) := by
  induction l generalizing i with
  | nil => simp only [Lib.indexByte] at h; omega
  | cons c cs ih =>
    by_cases hc : c = 192
    · subst hc
      simp [Lib.indexByte] at h
      obtain rfl : i = 0 := by omega
      simp [fedD, stepD]
    · simp only [Lib.indexByte] at h
      split at h
      · simp_all
      · split at h
        · omega
        · have hg := Lib.indexByte_ge cs 192
          rename_i hne
          have hne' : Lib.indexByte cs 192 ≠ -1 := by simpa using hne
          obtain ⟨j, hj⟩ : ∃ j : Nat, Lib.indexByte cs 192 = j := ⟨(Lib.indexByte cs 192).toNat, by omega⟩
          obtain ⟨h1, h2⟩ := ih j hj
          obtain rfl : i = j + 1 := by omega
          simp [fedD, stepD, hc, h2, h1]
end Go.Proofs.Yteglaenjmeocmaa
