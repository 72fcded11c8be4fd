/-
The pieces of a message taken one by one: whole with the last one, and not ahead; with one missing, or twice, never.
-/
import Derived.Test.YtchjljmcgjlkiaaSegPure
namespace Go.Proofs.Ytchjljmcgjlkiaa
open Go.RowKit
/-- the state behind the first so many pieces -/
def stG (g : Gs) (l : List Pc) (i : Nat) : Gs := (l.take i).foldl (fun s p => (takeD s p).1) g
theorem stG_zero (g : Gs) (l : List Pc) : stG g l 0 = g := by simp [stG]
theorem stG_succ (g : Gs) (l : List Pc) (i : Nat) (h : i < l.length) : stG g l (i + 1) = (takeD (stG g l i) l[i]).1 := by
  unfold stG
  rw [List.take_succ_eq_append_getElem h, List.foldl_append]
  rfl
theorem heads_get : ∀ (f : Bool) (cs : List (List UInt8)) (i : Nat) (h : i < cs.length),
    (heads f cs)[i]'(by rw [heads_length]; exact h) = ⟨8, ⟨(byteI ((cs.length - 1 - i : Nat) + if f && i == 0 then 128 else 0) :: cs[i]).toArray⟩⟩
  | f, c :: cs, 0, _ => by
    cases f <;> simp [heads]
  | f, c :: cs, i + 1, h => by
    have h' : i < cs.length := by simpa using h
    have := heads_get false cs i h'
    simp only [heads, List.getElem_cons_succ, List.length_cons]
    rw [this]
    have e : cs.length + 1 - 1 - (i + 1) = cs.length - 1 - i := by omega
    rw [e]
    simp
/-- the message's bytes in the first so many pieces -/
def gotG (d : List UInt8) (rest : List (List UInt8)) (i : Nat) : List UInt8 := d ++ (rest.take i).flatten
theorem gotG_succ (d : List UInt8) (rest : List (List UInt8)) (i : Nat) (h : i < rest.length) : gotG d rest (i + 1) = gotG d rest i ++ rest[i] := by
  unfold gotG
  rw [List.take_succ_eq_append_getElem h, List.flatten_append]
  simp only [List.flatten_cons, List.flatten_nil, List.append_nil, List.append_assoc]
theorem gotG_len (d : List UInt8) (rest : List (List UInt8)) (i : Nat) : (gotG d rest i).length ≤ (d ++ rest.flatten).length := by
  unfold gotG
  have : (rest.take i).flatten.length ≤ rest.flatten.length := by
    conv => rhs; rw [← List.take_append_drop i rest]
    rw [List.flatten_append, List.length_append]
    omega
  rw [List.length_append, List.length_append]
  omega
section
variable (pid : Int) (hp0 : 0 ≤ pid) (hp1 : pid ≤ 255) (d : List UInt8) (rest : List (List UInt8)) (hn : rest.length ≤ 100) (hz : (d ++ rest.flatten).length ≤ 600)
include hp0 hp1 hn hz
/-- several pieces, taken one by one -/
theorem run_many (g : Gs) : ∀ (i : Nat) (hi : i ≤ rest.length),
    takeD (stG g (heads true ((byteI pid :: d) :: rest)) i) ((heads true ((byteI pid :: d) :: rest))[i]'(by rw [heads_length]; simp; omega)) =
      if i = rest.length then (zeroG, ⟨pid, ⟨(d ++ rest.flatten).toArray⟩⟩, true, 0) else (midG pid (rest.length - i) (gotG d rest i), zeroP, false, 0)
  | 0, _ => by
    rw [stG_zero, heads_get true _ 0 (by simp)]
    have := take_first g pid d rest.length hp0 hp1 hn (by simp at hz; omega)
    simp only [List.length_cons, Nat.add_sub_cancel, Nat.sub_zero, Bool.true_and, beq_self_eq_true, if_true, List.getElem_cons_zero]
    rw [this]
    by_cases h0 : rest.length = 0
    · have e : rest = [] := List.length_eq_zero_iff.1 h0
      subst e
      simp
    · rw [if_neg h0, if_neg (by omega)]
      simp [gotG]
  | i + 1, h => by
    have ih := run_many g i (by omega)
    rw [if_neg (by omega)] at ih
    rw [stG_succ g _ i (by rw [heads_length]; simp; omega), ih, heads_get true _ (i + 1) (by simp; omega)]
    have e1 : rest.length - i = (rest.length - (i + 1)) + 1 := by omega
    have e2 : ((byteI pid :: d) :: rest).length - 1 - (i + 1) = rest.length - (i + 1) := by simp
    have hl := gotG_len d rest (i + 1)
    rw [gotG_succ d rest i (by omega)] at hl ⊢
    have := take_next pid (gotG d rest i) rest[i] (rest.length - (i + 1)) (by omega) (by simp at hl hz ⊢; omega)
    simp only [e1, e2, List.getElem_cons_succ, Bool.and_eq_true, beq_iff_eq, Nat.add_eq_zero_iff, Nat.succ_ne_self, and_false, if_false, Int.add_zero]
    rw [this]
    by_cases h1 : i + 1 = rest.length
    · rw [if_pos (by omega), if_pos h1]
      have e3 : gotG d rest i ++ rest[i] = d ++ rest.flatten := by
        rw [← gotG_succ d rest i (by omega), h1]
        unfold gotG
        rw [List.take_length]
      rw [e3]
    · rw [if_neg (by omega), if_neg h1]
theorem st_many (g : Gs) (i : Nat) (h : i < rest.length) : stG g (heads true ((byteI pid :: d) :: rest)) (i + 1) = midG pid (rest.length - i) (gotG d rest i) := by
  rw [stG_succ g _ i (by rw [heads_length]; simp; omega), run_many pid hp0 hp1 d rest hn hz g i (by omega), if_neg (by omega)]
end
/-- a message of several pieces -/
theorem split_many {pid : Int} {text : ByteArray} {n1 : Int} (h : (splitD pid text n1).2 = 0) (h2 : ¬ ((text.size : Int) ≤ n1 ∧ pid ≠ 8)) :
    ∃ d rest, (splitD pid text n1).1 = heads true ((byteI pid :: d) :: rest) ∧ 0 ≤ pid ∧ pid ≤ 255 ∧ rest.length ≤ 100 ∧ d ++ rest.flatten = text.data.toList ∧ text.size ≤ 600 := by
  unfold splitD at h ⊢
  split at h
  · cases h
  · split at h
    · cases h
    · rename_i h3 h4
      rw [if_neg h3, if_neg h4, if_neg h2]
      have hm : 15 ≤ n1.toNat - 1 := by omega
      have hs : text.data.toList.length = text.size := by simp
      have hc := chunk_count (n1.toNat - 1) hm _ (byteI pid :: text.data.toList) (Nat.le_refl _)
      have hj := chunk_join (n1.toNat - 1) (by omega) _ (byteI pid :: text.data.toList) (Nat.le_refl _)
      rw [chunk_cons _ (by omega) _ (by simp)] at hc hj ⊢
      obtain ⟨m, hm2⟩ : ∃ m, n1.toNat - 1 = m + 1 := ⟨n1.toNat - 2, by omega⟩
      rw [hm2] at hc hj ⊢
      rw [List.take_succ_cons, List.drop_succ_cons] at hc hj ⊢
      refine ⟨_, _, rfl, by omega, by omega, ?_, ?_, by omega⟩
      · simp only [List.length_cons] at hc
        omega
      · rw [List.flatten_cons, List.cons_append] at hj
        exact (List.cons.inj hj).2
theorem split_one {pid : Int} {text : ByteArray} {n1 : Int} (h : (splitD pid text n1).2 = 0) (h2 : (text.size : Int) ≤ n1 ∧ pid ≠ 8) :
    (splitD pid text n1).1 = [⟨pid, text⟩] ∧ 0 ≤ pid ∧ pid ≤ 255 ∧ text.size ≤ 600 := by
  unfold splitD at h ⊢
  split at h
  · cases h
  · split at h
    · cases h
    · rename_i h3 h4
      rw [if_neg h3, if_neg h4, if_pos h2]
      exact ⟨rfl, by omega, by omega, by omega⟩
/-- the pieces of a message, taken one by one, whatever had begun -/
theorem through (pid : Int) (text : ByteArray) (n1 : Int) (h : (splitD pid text n1).2 = 0) : 0 < (splitD pid text n1).1.length ∧ ∀ (g : Gs) (i : Nat) (hi : i < (splitD pid text n1).1.length),
    (takeD (stG g (splitD pid text n1).1 i) (splitD pid text n1).1[i]).2 = if i + 1 = (splitD pid text n1).1.length then (⟨pid, text⟩, true, 0) else (zeroP, false, 0) := by
  by_cases h2 : (text.size : Int) ≤ n1 ∧ pid ≠ 8
  · obtain ⟨e, h3, h4, h5⟩ := split_one h h2
    simp only [e, List.length_cons, List.length_nil]
    refine ⟨by omega, fun g i hi => ?_⟩
    obtain rfl : i = 0 := by omega
    simp only [stG_zero, List.getElem_cons_zero, if_true]
    unfold takeD
    rw [if_neg (show ¬ (pid < 0 ∨ 255 < pid) by omega), if_pos h2.2, if_neg (show ¬ 600 < text.size by omega)]
  · obtain ⟨d, rest, e, h3, h4, h5, h6, h7⟩ := split_many h h2
    have hz : (d ++ rest.flatten).length ≤ 600 := by rw [h6]; simpa using h7
    have et : text = ⟨(d ++ rest.flatten).toArray⟩ := bytes_ext' (by simp [h6])
    simp only [e, heads_length, List.length_cons]
    refine ⟨by omega, fun g i hi => ?_⟩
    rw [run_many pid h3 h4 d rest h5 hz g i (by omega)]
    by_cases hl : i = rest.length
    · rw [if_pos hl, if_pos (by omega), et]
    · rw [if_neg hl, if_neg (by omega)]
theorem split_none {pid : Int} {text : ByteArray} {n1 : Int} (h : (splitD pid text n1).2 ≠ 0) : (splitD pid text n1).1 = [] := by
  unfold splitD at h ⊢
  split
  · rfl
  · split
    · rfl
    · rename_i h1 h2
      rw [if_neg h1, if_neg h2] at h
      split at h <;> exact absurd rfl h
/-- what holds of the state ahead of the piece i, where the piece k is missing, or comes twice -/
def MissAt (l : List Pc) (k : Nat) (twice : Bool) (i : Nat) (s : Gs) : Prop :=
  (i ≤ k → s = stG zeroG l i) ∧ (k < i → (twice = false ∨ (0 < k ∧ k + 1 < l.length)) → (s.on = false ∨ s.left ≠ (l.length : Int) - i))
theorem miss_start (l : List Pc) (k : Nat) (twice : Bool) : MissAt l k twice 0 zeroG := ⟨fun _ => (stG_zero _ _).symm, fun h => by omega⟩
section
variable {pid : Int} {text : ByteArray} {n1 : Int} {l : List Pc} (hl : l = (splitD pid text n1).1) (h : (splitD pid text n1).2 = 0) (h2 : 2 ≤ l.length)
include hl h h2
theorem miss_form : ∃ d rest, l = heads true ((byteI pid :: d) :: rest) ∧ 0 ≤ pid ∧ pid ≤ 255 ∧ rest.length ≤ 100 ∧ (d ++ rest.flatten).length ≤ 600 ∧ l.length = rest.length + 1 := by
  by_cases h3 : (text.size : Int) ≤ n1 ∧ pid ≠ 8
  · obtain ⟨e, -⟩ := split_one h h3
    rw [hl, e] at h2
    simp at h2
  · obtain ⟨d, rest, e, h3, h4, h5, h6, h7⟩ := split_many h h3
    refine ⟨d, rest, hl.trans e, h3, h4, h5, by rw [h6]; simpa using h7, ?_⟩
    rw [hl, e, heads_length]
    simp
/-- a piece that isn't awaited -/
theorem miss_off (i : Nat) (hi : i < l.length) (h1 : 0 < i) (s : Gs) (hs : s.on = false ∨ s.left ≠ (l.length : Int) - i) : takeD s l[i] = (zeroG, zeroP, false, 7) := by
  obtain ⟨d, rest, e, h3, h4, h5, h6, h7⟩ := miss_form hl h h2
  subst e
  have hi' : i < rest.length + 1 := by rw [h7] at hi; exact hi
  rw [heads_get true _ i (by simpa using hi')]
  obtain ⟨j, rfl⟩ : ∃ j, i = j + 1 := ⟨i - 1, by omega⟩
  have e2 : ((byteI pid :: d) :: rest).length - 1 - (j + 1) = rest.length - (j + 1) := by simp
  simp only [e2, List.getElem_cons_succ, Bool.and_eq_true, beq_iff_eq, Nat.add_eq_zero_iff, Nat.succ_ne_self, and_false, if_false, Int.add_zero]
  refine take_off s _ _ (by omega) (hs.imp id fun hne he => hne ?_)
  rw [h7, he]
  omega
theorem miss_skip (k i : Nat) (hk : k < l.length) (s : Gs) (hs : MissAt l k false i s) (hi : i = k) : MissAt l k false (i + 1) s := by
  subst hi
  obtain ⟨d, rest, e, h3, h4, h5, h6, h7⟩ := miss_form hl h h2
  refine ⟨fun hc => by omega, fun _ _ => ?_⟩
  have e1 := hs.1 (Nat.le_refl _)
  subst e1
  cases i with
  | zero => left; rw [stG_zero]; rfl
  | succ i =>
    right
    rw [e, st_many pid h3 h4 d rest h5 h6 zeroG i (by omega), ← e, h7]
    show ((rest.length - i : Nat) : Int) ≠ _
    omega
theorem miss_step (k i : Nat) (twice : Bool) (hk : k < l.length) (hi : i < l.length) (s : Gs) (hs : MissAt l k twice i s) (hne : i ≠ k) :
    ((twice = false ∨ (0 < k ∧ k + 1 < l.length)) → (takeD s l[i]).2.2.1 = false) ∧ MissAt l k twice (i + 1) (takeD s l[i]).1 := by
  rcases Nat.lt_or_gt_of_ne hne with hlt | hgt
  · have e1 := hs.1 (by omega)
    subst e1
    have ht := (through pid text n1 h).2 zeroG i (by rw [← hl]; exact hi)
    simp only [← hl] at ht
    rw [if_neg (by omega)] at ht
    refine ⟨fun _ => by rw [ht], fun _ => (stG_succ zeroG l i hi).symm, fun hc => by omega⟩
  · refine ⟨fun hp => ?_, fun hc => by omega, fun _ hp => ?_⟩
    · rw [miss_off hl h h2 i hi (by omega) s (hs.2 (by omega) hp)]
    · left
      rw [miss_off hl h h2 i hi (by omega) s (hs.2 (by omega) hp)]
      rfl
theorem miss_twice (k i : Nat) (hk : k < l.length) (hi : i < l.length) (s : Gs) (hs : MissAt l k true i s) (he : i = k) :
    ((0 < k ∧ k + 1 < l.length) → (takeD s l[i]).2.2.1 = false ∧ (takeD (takeD s l[i]).1 l[i]).2.2.1 = false) ∧ MissAt l k true (i + 1) (takeD (takeD s l[i]).1 l[i]).1 := by
  subst he
  have e1 := hs.1 (Nat.le_refl _)
  subst e1
  have key : (0 < i ∧ i + 1 < l.length) → (takeD (stG zeroG l i) l[i]).2.2.1 = false ∧ takeD (takeD (stG zeroG l i) l[i]).1 l[i] = (zeroG, zeroP, false, 7) := by
    intro hp
    obtain ⟨d, rest, e, h3, h4, h5, h6, h7⟩ := miss_form hl h h2
    have hr : takeD (stG zeroG l i) l[i] = (midG pid (rest.length - i) (gotG d rest i), zeroP, false, 0) := by
      have := run_many pid h3 h4 d rest h5 h6 zeroG i (by omega)
      rw [if_neg (by omega)] at this
      simpa only [← e] using this
    refine ⟨by rw [hr], ?_⟩
    rw [hr]
    refine miss_off hl h h2 i hi hp.1 _ (Or.inr ?_)
    show ((rest.length - i : Nat) : Int) ≠ _
    omega
  refine ⟨fun hp => ⟨(key hp).1, by rw [(key hp).2]⟩, fun hc => by omega, fun _ hp => ?_⟩
  left
  rw [(key (hp.resolve_left (by simp))).2]
  rfl
end
end Go.Proofs.Ytchjljmcgjlkiaa
