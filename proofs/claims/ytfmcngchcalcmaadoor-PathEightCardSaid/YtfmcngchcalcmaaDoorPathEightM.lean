/-
A path's digipeaters when the first k have sent it: plain facts.
-/
import Derived.Test.YtfmcngchcalcmaaDoorPathRBack
import Derived.Test.YtfmcngchcalcmaaDoorPathCVia
import Derived.Test.YtfmcngchcalcmaaDoorPathCNext
import Derived.Test.YtfmcngchcalcmaaDoorPathCSentO
namespace Go.Proofs.YtfmcngchcalcmaaDoor
open Go.RowKit
set_option maxRecDepth 20000
/-- the digipeaters of calls C of which the first k have sent -/
def goD (C : List (ByteArray × Int)) (k : Nat) : List Ent := ((C.take k).map fun c => (c.1, c.2, true)) ++ (C.drop k).map fun c => (c.1, c.2, false)
theorem goD_len (C : List (ByteArray × Int)) (k : Nat) : (goD C k).length = C.length := by simp [goD]; omega
theorem goD_zero (C : List (ByteArray × Int)) : goD C 0 = freshD C := rfl
theorem takeW_all {α : Type} (p : α → Bool) : ∀ l : List α, (∀ x ∈ l, p x = true) → l.takeWhile p = l
  | [], _ => rfl
  | x :: l, h => by rw [List.takeWhile_cons, if_pos (h x (List.mem_cons_self ..)), takeW_all p l (fun y hy => h y (List.mem_cons_of_mem _ hy))]
theorem goD_fst (C : List (ByteArray × Int)) (k : Nat) (h : k ≤ C.length) : fstD (goD C k) = k := by
  unfold fstD goD
  have h1 : (((C.take k).map fun c => (c.1, c.2, true)) : List Ent).takeWhile (·.2.2) = (C.take k).map fun c => (c.1, c.2, true) := by
    refine takeW_all _ _ fun e he => ?_
    obtain ⟨c, -, rfl⟩ := List.mem_map.1 he
    rfl
  have h2 : (((C.drop k).map fun c => (c.1, c.2, false)) : List Ent).takeWhile (·.2.2) = [] := by
    cases C.drop k with
    | nil => rfl
    | cons c l => rfl
  rw [List.takeWhile_append, h1]
  simp only [if_pos, h2, List.append_nil]
  simp
  omega
theorem goD_at (C : List (ByteArray × Int)) (k : Nat) (h : k < C.length) : (goD C k)[k]? = some (C[k].1, C[k].2, false) := by
  unfold goD
  have hl : (((C.take k).map fun c => (c.1, c.2, true)) : List Ent).length = k := by simp; omega
  rw [List.getElem?_append_right (by omega), hl, Nat.sub_self, List.drop_eq_getElem_cons h]
  rfl
theorem goD_next (C : List (ByteArray × Int)) (k : Nat) (h : k < C.length) : nextV (goD C k) = .tuple #[.agg #[.string C[k].1, .int .i64 C[k].2], .bool true] := by
  unfold nextV
  rw [goD_fst C k (by omega), goD_at C k h]
theorem goD_end (C : List (ByteArray × Int)) : nextV (goD C C.length) = .tuple #[.agg #[.string ⟨#[]⟩, .int .i64 0], .bool false] := by
  unfold nextV
  rw [goD_fst C _ (Nat.le_refl _), List.getElem?_eq_none (by rw [goD_len]; exact Nat.le_refl _)]
theorem goD_sent (C : List (ByteArray × Int)) (k : Nat) (h : k < C.length) : sentD (goD C k) = goD C (k + 1) := by
  unfold sentD markD
  rw [goD_fst C k (by omega), goD_at C k h]
  show (goD C k).set k (C[k].1, C[k].2, true) = _
  unfold goD
  have hl : (((C.take k).map fun c => (c.1, c.2, true)) : List Ent).length = k := by simp; omega
  rw [List.set_append_right _ _ (by omega), hl, Nat.sub_self, List.drop_eq_getElem_cons h, List.map_cons, List.set_cons_zero, List.take_succ_eq_append_getElem h, List.map_append, List.append_assoc]
  rfl
theorem goD_done (C : List (ByteArray × Int)) : sentD (goD C C.length) = goD C C.length := by
  unfold sentD markD
  rw [goD_fst C _ (Nat.le_refl _), List.getElem?_eq_none (by rw [goD_len]; exact Nat.le_refl _)]
theorem goD_ord (C : List (ByteArray × Int)) (k : Nat) (h : k ≤ C.length) : ordD (goD C k) = true := by
  unfold ordD
  rw [goD_fst C k h]
  unfold goD
  have hl : (((C.take k).map fun c => (c.1, c.2, true)) : List Ent).length = k := by simp; omega
  rw [List.drop_append, hl, Nat.sub_self, List.drop_zero, List.drop_of_length_le (by omega), List.nil_append, List.all_eq_true]
  intro e he
  obtain ⟨c, -, rfl⟩ := List.mem_map.1 he
  rfl
theorem goD_all (C : List (ByteArray × Int)) (k : Nat) : ((goD C k).all fun e => rightD e.1 e.2.1) = C.all fun c => rightD c.1 c.2 := by
  unfold goD
  rw [List.all_append, List.all_map, List.all_map]
  conv => rhs; rw [← List.take_append_drop k C, List.all_append]
  rfl
theorem goD_right (C : List (ByteArray × Int)) (k : Nat) (h : k ≤ C.length) (x y : Ent) : rightP (x :: y :: goD C k) = rightP (x :: y :: freshD C) := by
  rw [right_cons, right_cons, goD_ord C k h, ← goD_zero, goD_ord C 0 (by omega), goD_len, goD_len, List.all_cons, List.all_cons, List.all_cons, List.all_cons, goD_all, goD_all]
theorem goD_rev (C : List (ByteArray × Int)) (k : Nat) : revD (goD C k) = freshD C.reverse := by
  unfold revD goD freshD
  rw [List.map_reverse, List.map_append, List.map_map, List.map_map, List.map_reverse]
  congr 1
  conv => rhs; rw [← List.take_append_drop k C, List.map_append]
  rfl
theorem fresh_rev (C : List (ByteArray × Int)) : revD (freshD C.reverse) = freshD C := by
  rw [← goD_zero, goD_rev, List.reverse_reverse]
theorem fresh_right (x y : Ent) (C : List (ByteArray × Int)) (h : rightP (x :: y :: freshD C) = true) : C.length ≤ 8 := by
  rw [right_cons] at h
  simp only [Bool.and_eq_true, decide_eq_true_eq] at h
  have := h.1.1
  simpa [freshD] using this
end Go.Proofs.YtfmcngchcalcmaaDoor
