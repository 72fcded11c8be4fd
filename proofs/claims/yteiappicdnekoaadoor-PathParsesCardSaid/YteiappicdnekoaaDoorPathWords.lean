/-
A path's word as plain functions: words that commas part, a star behind a word, what the digipeaters' words tell.
-/
import Derived.Test.YteiappicdnekoaaDoorPathRNext
import Derived.Test.YteiappicdnekoaaDoorCallCParse
namespace Go.Proofs.YteiappicdnekoaaDoor
open Go.RowKit Go.Sort
theorem byte_none' (c : UInt8) (l : List UInt8) (h : ∀ x ∈ l, x ≠ c) : Lib.indexByte l c = -1 := by
  induction l with
  | nil => rfl
  | cons x l ih =>
    have hx : (x == c) = false := by rw [beq_eq_false_iff_ne]; exact h x List.mem_cons_self
    unfold Lib.indexByte
    rw [hx, ih (fun y hy => h y (List.mem_cons_of_mem _ hy))]
    rfl
theorem byte_at' (c : UInt8) (l r : List UInt8) (h : ∀ x ∈ l, x ≠ c) : Lib.indexByte (l ++ c :: r) c = l.length := by
  induction l with
  | nil =>
    rw [List.nil_append]
    unfold Lib.indexByte
    rw [beq_self_eq_true]
    rfl
  | cons x l ih =>
    have hx : (x == c) = false := by rw [beq_eq_false_iff_ne]; exact h x List.mem_cons_self
    have h1 := ih (fun y hy => h y (List.mem_cons_of_mem _ hy))
    have h2 : (((l.length : Nat) : Int) == -1) = false := by rw [beq_eq_false_iff_ne]; omega
    rw [List.cons_append]
    unfold Lib.indexByte
    rw [hx, h1, h2]
    simp
theorem cut_none' (c : UInt8) (l : List UInt8) (h : ∀ x ∈ l, x ≠ c) : Lib.cut l [c] = (l, [], false) := by
  unfold Lib.cut
  rw [Lib.index_one, byte_none' c l h, if_neg (by omega)]
theorem cut_at' (c : UInt8) (l r : List UInt8) (h : ∀ x ∈ l, x ≠ c) : Lib.cut (l ++ c :: r) [c] = (l, r, true) := by
  unfold Lib.cut
  rw [Lib.index_one, byte_at' c l r h, if_pos (by omega)]
  have e1 : ((l.length : Nat) : Int).toNat = l.length := by omega
  have e2 : l ++ c :: r = (l ++ [c]) ++ r := by simp
  have e3 : (l ++ c :: r).drop (l.length + [c].length) = r := by rw [e2, List.drop_left' (by simp)]
  have e4 : (l ++ c :: r).take l.length = l := List.take_left' rfl
  rw [e1, e3, e4]
theorem sep_or (c : UInt8) (s : List UInt8) : (∀ x ∈ s, x ≠ c) ∨ ∃ l r, s = l ++ c :: r ∧ ∀ x ∈ l, x ≠ c := by
  induction s with
  | nil => exact Or.inl (fun x hx => by cases hx)
  | cons a s ih =>
    by_cases h : a = c
    · exact Or.inr ⟨[], s, by rw [h]; rfl, fun x hx => by cases hx⟩
    · rcases ih with ih | ⟨l, r, e, hl⟩
      · exact Or.inl (fun x hx => by
          rcases List.mem_cons.1 hx with rfl | hx
          · exact h
          · exact ih x hx)
      · exact Or.inr ⟨a :: l, r, by rw [e]; rfl, fun x hx => by
          rcases List.mem_cons.1 hx with rfl | hx
          · exact h
          · exact hl x hx⟩
/-- the words that commas part -/
def wordsD : List UInt8 → List (List UInt8)
  | [] => [[]]
  | x :: s => if x = 44 then [] :: wordsD s else match wordsD s with
    | [] => [[x]]
    | w :: ws => (x :: w) :: ws
theorem words_none : ∀ (s : List UInt8), (∀ x ∈ s, x ≠ 44) → wordsD s = [s]
  | [], _ => rfl
  | x :: s, h => by
    unfold wordsD
    rw [if_neg (h x List.mem_cons_self), words_none s (fun y hy => h y (List.mem_cons_of_mem _ hy))]
theorem words_at : ∀ (l r : List UInt8), (∀ x ∈ l, x ≠ 44) → wordsD (l ++ 44 :: r) = l :: wordsD r
  | [], r, _ => by rw [List.nil_append]; conv => lhs; unfold wordsD
                   rw [if_pos rfl]
  | x :: l, r, h => by
    rw [List.cons_append]
    conv => lhs; unfold wordsD
    rw [if_neg (h x List.mem_cons_self), words_at l r (fun y hy => h y (List.mem_cons_of_mem _ hy))]
/-- a word without its star: has it one -/
def starD (w : List UInt8) : Bool × List UInt8 := if w.getLast? = some 42 then (true, w.dropLast) else (false, w)
theorem star_le (w : List UInt8) : (starD w).2.length ≤ w.length := by
  unfold starD
  split
  · simp
  · exact Nat.le_refl _
def markE (e : Ent) : Ent := (e.1, e.2.1, true)
/-- what a word that was read is, as an entry -/
def callE (x : Bool × List UInt8 × Nat) : Ent := (⟨x.2.1.toArray⟩, (x.2.2 : Int), false)
/-- what the digipeaters' words tell behind the entries that were read; k: how many more there may be -/
def stepsP : Nat → List Ent → Nat → List (List UInt8) → Nat × List Ent
  | _, l, st, [] => if 1 < st then (2, []) else (0, l)
  | 0, _, _, _ :: _ => (11, [])
  | k + 1, l, st, w :: ws => if (readD (starD w).2).1 then (if (starD w).1 then stepsP k ((l ++ [callE (readD (starD w).2)]).map markE) (st + 1) ws else stepsP k (l ++ [callE (readD (starD w).2)]) st ws) else (12, [])
/-- the first n have it -/
def marked (n : Nat) (L : List Ent) : List Ent := (L.take n).map markE ++ L.drop n
theorem marked_len (n : Nat) (L : List Ent) : (marked n L).length = L.length := by unfold marked; simp; omega
theorem marked_zero (L : List Ent) : marked 0 L = L := rfl
theorem marked_next (L : List Ent) (i : Nat) (h : i < L.length) : markD (marked i L) i = marked (i + 1) L := by
  have hl : ((L.take i).map markE).length = i := by simp; omega
  unfold markD marked
  rw [List.getElem?_append_right (by omega), hl, Nat.sub_self, List.getElem?_drop, Nat.add_zero, List.getElem?_eq_getElem h]
  show ((L.take i).map markE ++ L.drop i).set i (L[i].1, L[i].2.1, true) = _
  rw [List.set_append_right _ _ (by omega), hl, Nat.sub_self, List.drop_eq_getElem_cons h, List.set_cons_zero, List.take_succ_eq_append_getElem h, List.map_append, List.append_assoc]
  rfl
theorem mark_mark (e : Ent) : markE (markE e) = markE e := rfl
theorem marked_star (L : List Ent) (n : Nat) (e : Ent) : (marked n L ++ [e]).map markE = marked (L.length + 1) (L ++ [e]) := by
  unfold marked
  have e1 : (L ++ [e]).take (L.length + 1) = L ++ [e] := List.take_of_length_le (by simp)
  have e2 : (L ++ [e]).drop (L.length + 1) = [] := List.drop_of_length_le (by simp)
  rw [e1, e2, List.append_nil, List.map_append, List.map_append, List.map_map, List.map_append]
  congr 1
  conv => rhs; rw [← List.take_append_drop n L, List.map_append]
  rfl
theorem marked_plain (L : List Ent) (n : Nat) (e : Ent) (h : n ≤ L.length) : marked n L ++ [e] = marked n (L ++ [e]) := by
  unfold marked
  rw [List.take_append_of_le_length h, List.drop_append_of_le_length h, List.append_assoc]
end Go.Proofs.YteiappicdnekoaaDoor
