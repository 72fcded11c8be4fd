/-
What goes on, and how often, as plain facts.
-/
import Derived.Test.YtikabflmgckdnaaDoorMix33
namespace Go.Proofs.YtikabflmgckdnaaDoor
open Go.RowKit Go.Sort
set_option maxRecDepth 20000
/-- how many of these have not sent it -/
def freeN (D : List Ent) : Nat := (D.filter fun e => !e.2.2).length
theorem free_ord : ∀ (D : List Ent), ordD D = true → freeN D = D.length - fstD D
  | [], _ => rfl
  | e :: M, h => by
    cases he : e.2.2 with
    | true =>
      rw [ord_cons_true e M he] at h
      have ih := free_ord M h
      have hf : fstD (e :: M) = fstD M + 1 := by
        unfold fstD
        rw [List.takeWhile_cons, he]
        rfl
      unfold freeN at ih ⊢
      rw [List.filter_cons, he, hf, if_neg (by decide), ih, List.length_cons]
      omega
    | false =>
      rw [ord_cons_false e M he] at h
      have hf : fstD (e :: M) = 0 := by
        unfold fstD
        rw [List.takeWhile_cons, he]
        rfl
      have h3 : M.filter (fun e => !e.2.2) = M := by
        rw [List.filter_eq_self]
        exact fun x hx => List.all_eq_true.1 h x hx
      unfold freeN
      rw [List.filter_cons, he, hf, if_pos (by decide), h3]
      rfl
/-- of those from the third on, up to i -/
def freeK (L : List Ent) (i : Nat) : Nat := freeN ((L.take i).drop 2)
theorem freeK_two (L : List Ent) : freeK L 2 = 0 := by
  unfold freeK
  rw [List.drop_eq_nil_of_le (by rw [List.length_take]; omega)]
  rfl
theorem freeK_all (L : List Ent) : freeK L L.length = freeN (L.drop 2) := by
  unfold freeK
  rw [List.take_length]
theorem freeK_next (L : List Ent) (i : Nat) (h2 : 2 ≤ i) (hi : i < L.length) : freeK L (i + 1) = freeK L i + if L[i].2.2 = false then 1 else 0 := by
  unfold freeK freeN
  rw [List.take_succ_eq_append_getElem hi, List.drop_append_of_le_length (by rw [List.length_take]; omega), List.filter_append, List.length_append]
  cases h : L[i].2.2 with
  | true => simp [h]
  | false => simp [h]
theorem freeK_le (L : List Ent) (i : Nat) : freeK L i ≤ L.length := by
  unfold freeK freeN
  refine Nat.le_trans (List.length_filter_le _ _) ?_
  rw [List.length_drop, List.length_take]
  omega
theorem made_one (x : Cl) (h : rightD x.1 x.2 = true) : madeD [x] = 0 := by
  unfold madeD okC okC
  rw [h]
  rfl
theorem path_right {s : List UInt8} (h : decB s = true) : rightP (pathL s) = true := (read_path s (decB_get h)).1
/-- it is not for its end while a digipeater has to send it -/
theorem for_not {s : List UInt8} {e : Ent} (hx : (pathL s)[2 + fstD ((pathL s).drop 2)]? = some e) (c : Cl) : forD c s = false := by
  unfold forD
  rw [hx, decide_eq_false (by simp), Bool.and_false]
theorem once_end {s : List UInt8} (hd : decB s = true) (hx : (pathL s)[2 + fstD ((pathL s).drop 2)]? = none) (C : List Cl) : onD C s = ([], 1) := by
  unfold onD
  rw [hd, if_neg (by decide), hx]
theorem for_end {s : List UInt8} (hd : decB s = true) (hx : (pathL s)[2 + fstD ((pathL s).drop 2)]? = none) (e : Ent) (he : (pathL s)[0]? = some e) : forD (e.1, e.2.1) s = true := by
  unfold forD
  rw [hd, hx, he, decide_eq_true rfl]
  simp
/-- what its next digipeater sends on -/
theorem once_step {s : List UInt8} (hd : decB s = true) {e : Ent} (hx : (pathL s)[2 + fstD ((pathL s).drop 2)]? = some e) :
    ∃ t, onD [(e.1, e.2.1)] s = (t, 0) ∧ decB t = true ∧ pathL t = sentL (pathL s) ∧ freeN ((pathL t).drop 2) + 1 = freeN ((pathL s).drop 2) ∧
      ∃ pre c c' post, s = pre ++ c :: post ∧ t = pre ++ c' :: post ∧ c.toNat < 128 ∧ c'.toNat = c.toNat + 128 := by
  obtain ⟨hr, hby⟩ := read_path s (decB_get hd)
  have hsr := sentL_right _ hr
  have hsl := sentL_len (pathL s)
  obtain ⟨rest, hrest⟩ : ∃ rest, rest = s.drop (7 * (pathL s).length) := ⟨_, rfl⟩
  rw [← hrest] at hby
  have hon : onD [(e.1, e.2.1)] s = (bytesP (sentL (pathL s)) (sentL (pathL s)).length ++ rest, 0) := by
    unfold onD
    rw [hd, if_neg (by decide), hx]
    simp only
    rw [if_pos (mine_self (e.1, e.2.1)), hsl, hrest]
  have hpt : pathL (bytesP (sentL (pathL s)) (sentL (pathL s)).length ++ rest) = sentL (pathL s) := by
    unfold pathL
    rw [get_bytes _ rest hsr]
  refine ⟨_, hon, ?_, hpt, ?_, ?_⟩
  · rw [decB_same (pathL s) (sentL (pathL s)) rest hr hsr hsl, ← hby]
    exact hd
  · rw [hpt]
    obtain ⟨-, h2, -, ho⟩ := right_path _ hr
    obtain ⟨-, h2', -, ho'⟩ := right_path _ hsr
    rw [free_ord _ ho, free_ord _ ho']
    have hlt := (List.getElem?_eq_some_iff.1 hx).1
    generalize pathL s = L at *
    match L, h2 with
    | x :: y :: D, _ =>
      rw [sentL_cons]
      show (sentD D).length - fstD (sentD D) + 1 = D.length - fstD D
      have hf : fstD D < D.length := by
        have : 2 + fstD D < D.length + 2 := hlt
        omega
      have hfs : fstD (sentD D) = fstD D + 1 := by
        by_cases hl : fstD D + 1 < D.length
        · refine fst_stop (sentD D) (fstD D + 1) (by rw [sent_len]; exact hl) (fun j hj => ?_) ?_
          · by_cases e1 : j = fstD D
            · subst e1
              rw [sent_here D hf]
            · rw [sent_at D hf j (by omega) e1]
              exact fst_has D j (by omega)
          · rw [sent_at D hf _ hl (by omega)]
            cases hm : (D[fstD D + 1]).2.2 with
            | false => rfl
            | true =>
              have := ord_false D (fstD D + 1) (by omega) hl hm
              have ho2 : ordD D = true := ho
              rw [this] at ho2
              cases ho2
        · rw [fst_all (sentD D) (fun j hj => by
            rw [sent_len] at hj
            by_cases e1 : j = fstD D
            · subst e1
              rw [sent_here D hf]
            · rw [sent_at D hf j hj e1]
              exact fst_has D j (by omega)), sent_len]
          omega
      rw [hfs, sent_len]
      omega
  · have h2 := (right_path _ hr).2.1
    have hlt := (List.getElem?_eq_some_iff.1 hx).1
    generalize pathL s = L at *
    match L, h2 with
    | x :: y :: D, _ =>
      have hf : fstD D < D.length := by
        have : 2 + fstD D < D.length + 2 := hlt
        omega
      obtain ⟨pre, c, c', post, b1, b2, -, b4, b5⟩ := sent_bytes x y D hf hr
      rw [sentL_cons]
      rw [b1] at hby
      rw [b2]
      exact ⟨pre, c, c', post ++ rest, by rw [hby]; simp, by simp, b4, b5⟩
where
  mine_self (x : Cl) : mineB [x] x = true := by
    unfold mineB
    rw [List.any_cons, decide_eq_true rfl, Bool.true_or]
end Go.Proofs.YtikabflmgckdnaaDoor
