/-
Marks in a row as plain facts: how many have it ahead of the first that hasn't, and whether none has it behind one that hasn't.
-/
import Derived.Test.YtfmcngchcalcmaaDoorPathEnts
namespace Go.Proofs.YtfmcngchcalcmaaDoor
open Go.RowKit Go.Sort
theorem ord_cons_true (e : Ent) (M : List Ent) (h : e.2.2 = true) : ordD (e :: M) = ordD M := by
  unfold ordD fstD
  rw [List.takeWhile_cons, if_pos h]
  rfl
theorem ord_cons_false (e : Ent) (M : List Ent) (h : e.2.2 = false) : ordD (e :: M) = M.all (!·.2.2) := by
  unfold ordD fstD
  rw [List.takeWhile_cons, if_neg (by rw [h]; simp)]
  show List.all (e :: M) _ = _
  rw [List.all_cons, h]
  rfl
theorem ord_iff : ∀ M : List Ent, ordD M = true ↔ ∀ i (h : i + 1 < M.length), M[i + 1].2.2 = true → M[i].2.2 = true
  | [] => by simp [ordD, fstD]
  | e :: M => by
    have ih := ord_iff M
    cases hm : e.2.2
    · rw [ord_cons_false e M hm, List.all_eq_true]
      constructor
      · intro h i hi hx
        exfalso
        have hlt : i < M.length := by simpa using hi
        have := h M[i] (List.getElem_mem hlt)
        rw [List.getElem_cons_succ] at hx
        rw [hx] at this
        simp at this
      · intro h x hx
        obtain ⟨i, hi, rfl⟩ := List.getElem_of_mem hx
        have key : ∀ i (hi : i < M.length), M[i].2.2 = false := by
          intro i
          induction i with
          | zero =>
            intro hi
            cases hq : M[0].2.2
            · rfl
            · have := h 0 (by simpa using hi) (by rw [List.getElem_cons_succ]; exact hq)
              rw [List.getElem_cons_zero, hm] at this
              cases this
          | succ i ih2 =>
            intro hi
            cases hq : M[i + 1].2.2
            · rfl
            · have := h (i + 1) (by simpa using hi) (by rw [List.getElem_cons_succ]; exact hq)
              rw [List.getElem_cons_succ, ih2 (by omega)] at this
              cases this
        rw [key i hi]
        rfl
    · rw [ord_cons_true e M hm, ih]
      constructor
      · intro h i hi hx
        cases i with
        | zero => exact hm
        | succ i =>
          rw [List.getElem_cons_succ] at hx ⊢
          exact h i (by simpa using hi) hx
      · intro h i hi hx
        have := h (i + 1) (by simpa using hi) (by rw [List.getElem_cons_succ]; exact hx)
        rw [List.getElem_cons_succ] at this
        exact this
theorem fst_stop : ∀ (M : List Ent) (k : Nat) (h : k < M.length), (∀ j (hj : j < k), M[j].2.2 = true) → M[k].2.2 = false → fstD M = k
  | [], k, h, _, _ => by simp at h
  | e :: M, 0, h, _, h0 => by
    rw [List.getElem_cons_zero] at h0
    unfold fstD
    rw [List.takeWhile_cons, if_neg (by rw [h0]; simp)]
    rfl
  | e :: M, k + 1, h, ha, h0 => by
    have hk : k < M.length := by simpa using h
    have he := ha 0 (by omega)
    rw [List.getElem_cons_zero] at he
    have ih := fst_stop M k hk (fun j hj => by have := ha (j + 1) (by omega); rwa [List.getElem_cons_succ] at this) (by rwa [List.getElem_cons_succ] at h0)
    unfold fstD at ih ⊢
    rw [List.takeWhile_cons, if_pos he, List.length_cons, ih]
theorem fst_all : ∀ (M : List Ent), (∀ j (hj : j < M.length), M[j].2.2 = true) → fstD M = M.length
  | [], _ => rfl
  | e :: M, h => by
    have he := h 0 (by simp)
    rw [List.getElem_cons_zero] at he
    have ih := fst_all M (fun j hj => by have := h (j + 1) (by simpa using hj); rwa [List.getElem_cons_succ] at this)
    unfold fstD at ih ⊢
    rw [List.takeWhile_cons, if_pos he, List.length_cons, ih, List.length_cons]
theorem fst_has : ∀ (M : List Ent) (j : Nat) (h : j < fstD M), M[j]'(Nat.lt_of_lt_of_le h (fstD_le M)) |>.2.2 = true
  | [], j, h => by simp [fstD] at h
  | e :: M, j, h => by
    cases he : e.2.2
    · unfold fstD at h
      rw [List.takeWhile_cons, if_neg (by rw [he]; simp)] at h
      simp at h
    · cases j with
      | zero => exact he
      | succ j =>
        have : j < fstD M := by
          unfold fstD at h ⊢
          rw [List.takeWhile_cons, if_pos he, List.length_cons] at h
          omega
        rw [List.getElem_cons_succ]
        exact fst_has M j this
theorem fst_not (M : List Ent) (h : fstD M < M.length) : M[fstD M].2.2 = false := by
  cases hm : M[fstD M].2.2
  · rfl
  · exfalso
    have key : ∀ (M : List Ent) (h : fstD M < M.length), M[fstD M].2.2 = false := by
      intro M
      induction M with
      | nil => intro h; simp at h
      | cons e M ih =>
        intro h
        cases he : e.2.2
        · have e0 : fstD (e :: M) = 0 := fst_stop _ 0 (by simp) (fun j hj => by omega) he
          simp only [e0, List.getElem_cons_zero]
          exact he
        · have e1 : fstD (e :: M) = fstD M + 1 := by
            unfold fstD
            rw [List.takeWhile_cons, if_pos he, List.length_cons]
          simp only [e1, List.getElem_cons_succ]
          exact ih (by rw [e1] at h; simpa using h)
    rw [key M h] at hm
    cases hm
end Go.Proofs.YtfmcngchcalcmaaDoor
