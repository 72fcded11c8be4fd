/-
What the next digipeater sends on, as plain facts: it is right again, and its bytes are the same but for one, whose mark is set.
-/
import Derived.Test.YtplandmnmdkjmaaDoorFrmBytes
import Derived.Test.YtplandmnmdkjmaaDoorPathBytesP
import Derived.Test.YtplandmnmdkjmaaDoorPathCSentO
import Derived.Laws.RangeAny
namespace Go.Proofs.YtplandmnmdkjmaaDoor
open Go.RowKit Go.Sort
set_option maxRecDepth 20000
theorem sent_form (D : List Ent) (h : fstD D < D.length) : sentD D = D.take (fstD D) ++ (D[fstD D].1, D[fstD D].2.1, true) :: D.drop (fstD D + 1) := by
  unfold sentD markD
  rw [List.getElem?_eq_getElem h]
  dsimp only
  rw [List.set_eq_take_append_cons_drop, if_pos h]
theorem sent_len (D : List Ent) : (sentD D).length = D.length := by unfold sentD; exact mark_len D _
theorem sent_at (D : List Ent) (h : fstD D < D.length) (j : Nat) (hj : j < D.length) (hne : j ≠ fstD D) : (sentD D)[j]'(by rw [sent_len]; exact hj) = D[j] := by
  have e : sentD D = D.set (fstD D) (D[fstD D].1, D[fstD D].2.1, true) := by
    unfold sentD markD
    rw [List.getElem?_eq_getElem h]
  simp only [e]
  rw [List.getElem_set_ne (fun q => hne q.symm)]
theorem sent_here (D : List Ent) (h : fstD D < D.length) : (sentD D)[fstD D]'(by rw [sent_len]; exact h) = (D[fstD D].1, D[fstD D].2.1, true) := by
  have e : sentD D = D.set (fstD D) (D[fstD D].1, D[fstD D].2.1, true) := by
    unfold sentD markD
    rw [List.getElem?_eq_getElem h]
  simp only [e]
  rw [List.getElem_set_self]
theorem sent_right (x y : Ent) (D : List Ent) (h : fstD D < D.length) (hr : rightP (x :: y :: D) = true) : rightP (x :: y :: sentD D) = true := by
  rw [right_cons] at hr ⊢
  simp only [Bool.and_eq_true, decide_eq_true_eq] at hr ⊢
  obtain ⟨⟨h1, h2⟩, h3⟩ := hr
  refine ⟨⟨by rw [sent_len]; exact h1, ?_⟩, ?_⟩
  · rw [ord_iff] at h2 ⊢
    intro i hi hm
    have hi' : i + 1 < D.length := by rw [sent_len] at hi; exact hi
    by_cases e1 : i = fstD D
    · subst e1
      rw [sent_here D h]
    · by_cases e2 : i + 1 = fstD D
      · rw [sent_at D h i (by omega) e1]
        exact fst_has D i (by omega)
      · rw [sent_at D h (i + 1) hi' e2] at hm
        rw [sent_at D h i (by omega) e1]
        exact h2 i hi' hm
  · rw [List.all_eq_true] at h3 ⊢
    intro e he
    rcases List.mem_cons.1 he with rfl | he
    · exact h3 _ List.mem_cons_self
    · rcases List.mem_cons.1 he with rfl | he
      · exact h3 _ (List.mem_cons_of_mem _ List.mem_cons_self)
      · obtain ⟨j, hj, rfl⟩ := List.getElem_of_mem he
        have hj' : j < D.length := by rw [sent_len] at hj; exact hj
        have hx := h3 D[j] (List.mem_cons_of_mem _ (List.mem_cons_of_mem _ (List.getElem_mem hj')))
        by_cases e1 : j = fstD D
        · subst e1
          rw [sent_here D h]
          exact hx
        · rw [sent_at D h j hj' e1]
          exact hx
/-- the six letters of a call's bytes -/
def sixD (b : List UInt8) (n : Nat) : List UInt8 := (List.range 6).map fun j => UInt8.ofNat (putF b n b.length j).toNat
theorem put_parts (b : List UInt8) (n : Nat) (mk la : Bool) : putD b n mk la = sixD b n ++ [UInt8.ofNat (96 + 2 * (n : Int) + mkD mk la).toNat] := by
  unfold putD sixD
  rw [show List.range 7 = List.range 6 ++ [6] from rfl, List.map_append]
  congr 1
theorem bytesP_same (L L' : List Ent) (hl : L'.length = L.length) : ∀ m, m ≤ L.length → (∀ j (_ : j < m) (hm : j < L.length), L'[j]'(by omega) = L[j]) → bytesP L' m = bytesP L m
  | 0, _, _ => rfl
  | m + 1, hm, h => by
    rw [bytesP_next L m (by omega), bytesP_next L' m (by omega), bytesP_same L L' hl m (by omega) (fun j hj hm' => h j (by omega) hm'), h m (by omega) (by omega), hl]
/-- where the bytes differ -/
theorem sent_bytes (x y : Ent) (D : List Ent) (h : fstD D < D.length) (hr : rightP (x :: y :: D) = true) :
    ∃ (pre : List UInt8) (c c' : UInt8) (post : List UInt8), bytesP (x :: y :: D) (x :: y :: D).length = pre ++ c :: post ∧ bytesP (x :: y :: sentD D) (x :: y :: sentD D).length = pre ++ c' :: post ∧ pre.length = 7 * (2 + fstD D) + 6 ∧ c.toNat < 128 ∧ c'.toNat = c.toNat + 128 := by
  obtain ⟨q, hq⟩ : ∃ q, q = fstD D := ⟨_, rfl⟩
  have hl : (x :: y :: sentD D).length = (x :: y :: D).length := by simp [sent_len]
  have hqn : 2 + q < (x :: y :: D).length := by simp; omega
  have hb1 := bytes_rest (x :: y :: D) (2 + q) (by omega)
  have hb2 := bytes_rest (x :: y :: sentD D) (2 + q) (by omega)
  have hs := bytesP_same (x :: y :: D) (x :: y :: sentD D) hl (2 + q) (by omega) (fun j hj hm => by
    obtain rfl | rfl | ⟨i, rfl⟩ : j = 0 ∨ j = 1 ∨ ∃ i, j = i + 2 := by
      rcases j with _ | _ | i
      · exact Or.inl rfl
      · exact Or.inr (Or.inl rfl)
      · exact Or.inr (Or.inr ⟨i, rfl⟩)
    · rfl
    · rfl
    · show (sentD D)[i]'_ = D[i]'_
      exact sent_at D h i (by simpa using hm) (by omega))
  have hd1 : (x :: y :: D).drop (2 + q) = D[fstD D] :: D.drop (fstD D + 1) := by
    rw [Nat.add_comm 2 q]
    show D.drop q = _
    rw [hq, List.drop_eq_getElem_cons h]
  have hd2 : (x :: y :: sentD D).drop (2 + q) = (D[fstD D].1, D[fstD D].2.1, true) :: D.drop (fstD D + 1) := by
    rw [Nat.add_comm 2 q]
    show (sentD D).drop q = _
    rw [sent_form D h, hq]
    exact List.drop_left' (by simp; omega)
  rw [hs, hl, hd2] at hb2
  rw [hd1] at hb1
  have hnm := fst_not D h
  have hrd : rightD D[fstD D].1 D[fstD D].2.1 = true := by
    have h3 := (right_path _ hr).1
    exact h3 _ (List.mem_cons_of_mem _ (List.mem_cons_of_mem _ (List.getElem_mem h)))
  obtain ⟨_, _, n0, n15, _⟩ := right_facts _ _ hrd
  generalize D[fstD D] = e at *
  obtain ⟨eb, en, em⟩ := e
  dsimp only at hnm hrd n0 n15 hb1 hb2
  subst hnm
  obtain ⟨n, rfl⟩ : ∃ n : Nat, en = n := ⟨en.toNat, by omega⟩
  unfold restP at hb1 hb2
  dsimp only at hb1 hb2
  rw [put_parts] at hb1 hb2
  obtain ⟨la, hla⟩ : ∃ la, la = decide (2 + q + 1 = (x :: y :: D).length) := ⟨_, rfl⟩
  rw [← hla] at hb1 hb2
  have hpl : (bytesP (x :: y :: D) (2 + q)).length = 7 * (2 + q) := bytesP_len' _ _ (by omega)
  refine ⟨bytesP (x :: y :: D) (2 + q) ++ sixD eb.data.toList n, UInt8.ofNat (96 + 2 * (n : Int) + mkD false la).toNat, UInt8.ofNat (96 + 2 * (n : Int) + mkD true la).toNat, restP (x :: y :: D).length (2 + q + 1) (D.drop (fstD D + 1)), ?_, ?_, ?_, ?_, ?_⟩
  · rw [← hb1]
    simp [hq]
  · rw [hl, ← hb2]
    simp [hq]
  · rw [List.length_append, hpl, hq]
    simp [sixD]
  · have : (96 + 2 * (n : Int) + mkD false la).toNat < 128 := by unfold mkD; cases la <;> simp <;> omega
    rw [UInt8.toNat_ofNat', Nat.mod_eq_of_lt (by omega)]
    exact this
  · have e1 : (96 + 2 * (n : Int) + mkD false la).toNat < 128 := by unfold mkD; cases la <;> simp <;> omega
    have e2 : (96 + 2 * (n : Int) + mkD true la).toNat = (96 + 2 * (n : Int) + mkD false la).toNat + 128 := by unfold mkD; cases la <;> simp <;> omega
    rw [UInt8.toNat_ofNat', UInt8.toNat_ofNat', e2, Nat.mod_eq_of_lt (by omega), Nat.mod_eq_of_lt (by omega)]
/-- no letter of one byte is passed over -/
theorem decode_jump (s : ByteArray) (p j : Nat) (h1 : 1 ≤ j) (h2 : j < (Utf8.decode s p).2) : 128 ≤ (s.get! (p + j)).toNat := by
  have key : ∀ k, (decide (p + k < s.size) && (s.get! (p + k)).toNat / 64 == 2) = true → 128 ≤ (s.get! (p + k)).toNat := fun k h => by
    simp only [Bool.and_eq_true, beq_iff_eq] at h
    omega
  unfold Utf8.decode at h2
  dsimp only at h2
  split at h2
  · dsimp only at h2; omega
  · split at h2
    · rename_i hc
      simp only [Bool.and_eq_true] at hc
      have k1 := key 1 (by simp only [Bool.and_eq_true]; exact hc.2)
      split at h2 <;> dsimp only at h2
      · obtain rfl : j = 1 := by omega
        exact k1
      · omega
    · split at h2
      · rename_i hc
        simp only [Bool.and_eq_true] at hc
        have k1 := key 1 (by simp only [Bool.and_eq_true]; exact hc.1.2)
        have k2 := key 2 (by simp only [Bool.and_eq_true]; exact hc.2)
        split at h2 <;> dsimp only at h2
        · obtain rfl | rfl : j = 1 ∨ j = 2 := by omega
          · exact k1
          · exact k2
        · omega
      · split at h2
        · rename_i hc
          simp only [Bool.and_eq_true] at hc
          have k1 := key 1 (by simp only [Bool.and_eq_true]; exact hc.1.1.2)
          have k2 := key 2 (by simp only [Bool.and_eq_true]; exact hc.1.2)
          have k3 := key 3 (by simp only [Bool.and_eq_true]; exact hc.2)
          split at h2 <;> dsimp only at h2
          · obtain rfl | rfl | rfl : j = 1 ∨ j = 2 ∨ j = 3 := by omega
            · exact k1
            · exact k2
            · exact k3
          · omega
        · dsimp only at h2; omega
theorem width_one (s : ByteArray) (p : Nat) (h : p < s.size) : 1 ≤ (Utf8.decode s p).2 := by
  by_cases ha : (s[p]'h).toNat < 128
  · rw [decode_ascii s p h ha]
    exact Nat.le_refl _
  · exact (decode_high s p h (by omega)).2
end Go.Proofs.YtplandmnmdkjmaaDoor
