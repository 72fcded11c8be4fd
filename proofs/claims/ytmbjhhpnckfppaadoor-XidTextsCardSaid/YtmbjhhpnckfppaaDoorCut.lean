/-
strings.Cut at one byte, as plain lists and as a contract.
-/
import Derived.Test.YtmbjhhpnckfppaaDoorVars
import Derived.Test.YtmbjhhpnckfppaaDoorShelf
import Derived.Lib.IndexBytes
import Derived.Lib.Strings
namespace Go.Proofs.YtmbjhhpnckfppaaDoor
open Go.RowKit Go.Sort
theorem byte_none' (c : UInt8) (l : List UInt8) (h : ∀ x ∈ l, x ≠ c) : Lib.indexByte l c = -1 := by
  induction l with
  | nil => rfl
  | cons x l ih =>
    have hx : (x == c) = false := by rw [beq_eq_false_iff_ne]; exact h x List.mem_cons_self
    unfold Lib.indexByte
    rw [hx, ih (fun y hy => h y (List.mem_cons_of_mem _ hy))]
    rfl
theorem byte_at' (c : UInt8) (l r : List UInt8) (h : ∀ x ∈ l, x ≠ c) : Lib.indexByte (l ++ c :: r) c = l.length := by
  induction l with
  | nil =>
    rw [List.nil_append]
    unfold Lib.indexByte
    rw [beq_self_eq_true]
    rfl
  | cons x l ih =>
    have hx : (x == c) = false := by rw [beq_eq_false_iff_ne]; exact h x List.mem_cons_self
    have h1 := ih (fun y hy => h y (List.mem_cons_of_mem _ hy))
    have h2 : (((l.length : Nat) : Int) == -1) = false := by rw [beq_eq_false_iff_ne]; omega
    rw [List.cons_append]
    unfold Lib.indexByte
    rw [hx, h1, h2]
    simp
theorem cut_none' (c : UInt8) (l : List UInt8) (h : ∀ x ∈ l, x ≠ c) : Lib.cut l [c] = (l, [], false) := by
  unfold Lib.cut
  rw [Lib.index_one, byte_none' c l h, if_neg (by omega)]
theorem cut_at' (c : UInt8) (l r : List UInt8) (h : ∀ x ∈ l, x ≠ c) : Lib.cut (l ++ c :: r) [c] = (l, r, true) := by
  unfold Lib.cut
  rw [Lib.index_one, byte_at' c l r h, if_pos (by omega)]
  have e1 : ((l.length : Nat) : Int).toNat = l.length := by omega
  have e2 : l ++ c :: r = (l ++ [c]) ++ r := by simp
  have e3 : (l ++ c :: r).drop (l.length + [c].length) = r := by rw [e2, List.drop_left' (by simp)]
  have e4 : (l ++ c :: r).take l.length = l := List.take_left' rfl
  rw [e1, e3, e4]
theorem sep_or (c : UInt8) (s : List UInt8) : (∀ x ∈ s, x ≠ c) ∨ ∃ l r, s = l ++ c :: r ∧ ∀ x ∈ l, x ≠ c := by
  induction s with
  | nil => exact Or.inl (fun x hx => by cases hx)
  | cons a s ih =>
    by_cases h : a = c
    · exact Or.inr ⟨[], s, by rw [h]; rfl, fun x hx => by cases hx⟩
    · rcases ih with ih | ⟨l, r, e, hl⟩
      · exact Or.inl (fun x hx => by
          rcases List.mem_cons.1 hx with rfl | hx
          · exact h
          · exact ih x hx)
      · exact Or.inr ⟨a :: l, r, by rw [e]; rfl, fun x hx => by
          rcases List.mem_cons.1 hx with rfl | hx
          · exact h
          · exact hl x hx⟩
theorem cut_sep (c : UInt8) (s : ByteArray) (w : World) (hV : VarsOk w) (h : s.size ≤ 300) (x y : ByteArray) (f : Bool) (hc : Lib.cut s.data.toList [c] = (x.data.toList, y.data.toList, f)) (W : World) (hb : Below w.heap.size w W) :
    Calls Tryd.prog 22 #[.string s, .string ⟨#[c]⟩] W fun e w' => e = .returned (.tuple #[.string x, .string y, .bool f]) ∧ Below W.heap.size W w' := by
  obtain ⟨m, hm⟩ := (hV.below hb).len
  have k := Tryd.strings_Cut s ⟨#[c]⟩ m W (by omega) hm
  rw [show ((⟨#[c]⟩ : ByteArray).data.toList) = [c] from rfl, hc] at k
  refine k.mono fun e w' ⟨he, n, hw⟩ => ⟨?_, ?_⟩
  · rw [he, back_bytes, back_bytes]
  · rw [hw]
    exact Joins.below_draws _ _ _
/-- a text is parted by its first c, or not -/
theorem parted (c : UInt8) (s : ByteArray) : ∃ (x y : ByteArray) (f : Bool), Lib.cut s.data.toList [c] = (x.data.toList, y.data.toList, f) ∧ (∀ z ∈ x.data.toList, z ≠ c) ∧ x.size ≤ s.size ∧ (f = false → x = s ∧ y = ⟨#[]⟩) ∧ (f = true → s.data.toList = x.data.toList ++ c :: y.data.toList ∧ y.size < s.size) := by
  have hl : s.data.toList.length = s.size := by simp
  rcases sep_or c s.data.toList with h | ⟨l, r, e, h⟩
  · exact ⟨s, ⟨#[]⟩, false, (by rw [cut_none' c _ h]), h, Nat.le_refl _, fun _ => ⟨rfl, rfl⟩, fun q => (by cases q)⟩
  · refine ⟨⟨l.toArray⟩, ⟨r.toArray⟩, true, (by rw [e, cut_at' c l r h]), h, ?_, fun q => (by cases q), fun _ => ⟨e, ?_⟩⟩
    · show l.toArray.size ≤ _
      rw [← hl, e]; simp
    · show r.toArray.size < _
      rw [← hl, e]; simp; omega
end Go.Proofs.YtmbjhhpnckfppaaDoor
