/-
What both Parse make of any word, and that it is a right path.
-/
import Derived.Test.YteiappicdnekoaaDoorPathRParse
import Derived.Test.YteiappicdnekoaaDoorPathCAll
namespace Go.Proofs.YteiappicdnekoaaDoor
open Go.RowKit Go.Sort
set_option maxRecDepth 20000
theorem rparse_p (s : ByteArray) (w : World) (hs : s.size ≤ 300) : Calls Tryd.prog 31 #[.string s] w fun e w' => RParTo w (parseP s.data.toList) e w' := by
  obtain ⟨x, y, f, hc, hx, _, hf0, hf1⟩ := parted 62 s
  cases f
  · obtain ⟨rfl, _⟩ := hf0 rfl
    have e : parseP x.data.toList = (2, []) := by unfold parseP; rw [hc]; rfl
    rw [e]
    exact rparse_none x w hs hx
  · exact rparse_some s x y w hs (hf1 rfl).1 hx
theorem read_right (s : List UInt8) (h : (readD s).1 = true) : rightD ⟨(readD s).2.1.toArray⟩ (((readD s).2.2 : Nat) : Int) = true := by
  unfold readD at h ⊢
  dsimp only at h ⊢
  split
  · rename_i h1
    rw [h1] at h
    dsimp only at h
    split at h
    · rename_i h2; rw [if_pos h2]; exact h2
    · cases h
  · rename_i h1
    rw [h1] at h
    dsimp only at h
    split at h
    · rename_i h2
      rw [if_pos h2]
      simp only [Bool.and_eq_true] at h2
      exact h2.2
    · cases h
theorem ord_cons (a : Ent) (D : List Ent) : ordD (a :: D) = if a.2.2 then ordD D else (a :: D).all (!·.2.2) := by
  unfold ordD fstD
  rw [List.takeWhile_cons]
  split
  · simp
  · simp
theorem ord_snoc (e : Ent) (he : e.2.2 = false) : ∀ D, ordD D = true → ordD (D ++ [e]) = true
  | [], _ => by rw [List.nil_append, ord_cons, he]; simp [he]
  | a :: D, h => by
    rw [List.cons_append, ord_cons]
    rw [ord_cons] at h
    split
    · rename_i h1
      rw [if_pos h1] at h
      exact ord_snoc e he D h
    · rename_i h1
      rw [if_neg h1] at h
      rw [← List.cons_append, List.all_append, h]
      simp [he]
theorem ord_mark : ∀ D : List Ent, ordD (D.map markE) = true
  | [] => rfl
  | a :: D => by
    rw [List.map_cons, ord_cons, if_pos (show (markE a).2.2 = true from rfl)]
    exact ord_mark D
theorem steps_right : ∀ (ws : List (List UInt8)) (k : Nat) (D : List Ent) (st : Nat), (∀ e ∈ D, rightD e.1 e.2.1 = true) → ordD D = true → D.length + k = 8 → (stepsP k D st ws).1 = 0 →
    (∀ e ∈ (stepsP k D st ws).2, rightD e.1 e.2.1 = true) ∧ ordD (stepsP k D st ws).2 = true ∧ (stepsP k D st ws).2.length ≤ 8
  | [], k, D, st, hr, ho, hk, h => by
    unfold stepsP at h ⊢
    split
    · rename_i h1; rw [if_pos h1] at h; cases h
    · exact ⟨hr, ho, by show D.length ≤ 8; omega⟩
  | w :: ws, 0, D, st, hr, ho, hk, h => by
    unfold stepsP at h; cases h
  | w :: ws, k + 1, D, st, hr, ho, hk, h => by
    unfold stepsP at h ⊢
    by_cases h1 : (readD (starD w).2).1 = true
    · have hn : ∀ e ∈ D ++ [callE (readD (starD w).2)], rightD e.1 e.2.1 = true := fun e he => by
        rcases List.mem_append.1 he with he | he
        · exact hr e he
        · rw [List.mem_singleton.1 he]
          exact read_right _ h1
      rw [if_pos h1] at h ⊢
      by_cases h2 : (starD w).1 = true
      · rw [if_pos h2] at h ⊢
        exact steps_right ws k _ _ (fun e he => by
          obtain ⟨e', he', rfl⟩ := List.mem_map.1 he
          exact hn e' he') (ord_mark _) (by simp; omega) h
      · rw [if_neg h2] at h ⊢
        exact steps_right ws k _ _ hn (ord_snoc _ rfl D ho) (by simp; omega) h
    · rw [if_neg h1] at h; cases h
theorem parse_right (s : List UInt8) (h : (parseP s).1 = 0) : rightP (parseP s).2 = true := by
  unfold parseP at h ⊢
  split
  · rename_i h1
    rw [if_pos h1] at h
    split
    · rename_i h2; rw [h2] at h; cases h
    · rename_i t ws h2
      rw [h2] at h
      dsimp only at h
      split
      · rename_i h3
        rw [if_pos h3] at h
        simp only [Bool.and_eq_true] at h3
        split
        · rename_i h4
          obtain ⟨a1, a2, a3⟩ := steps_right ws 8 [] 0 (fun e he => by cases he) rfl rfl h4
          dsimp only
          rw [right_cons, a2, decide_eq_true a3, List.all_eq_true.2]
          · rfl
          · intro e he
            rcases List.mem_cons.1 he with rfl | he
            · exact read_right _ h3.2
            · rcases List.mem_cons.1 he with rfl | he
              · exact read_right _ h3.1
              · exact a1 e he
        · rename_i h4; rw [if_neg h4] at h; exact absurd h h4
      · rename_i h3; rw [if_neg h3] at h; cases h
  · rename_i h1; rw [if_neg h1] at h; cases h
end Go.Proofs.YteiappicdnekoaaDoor
