/-
The document's Take, of any piece in any state; a state's text stays short.
-/
import Derived.Test.YtaelhickopeocaaSegRTake
namespace Go.Proofs.Ytaelhickopeocaa
open Go.RowKit
theorem rtake_any (m : Nat) (s : Gs) (p : Pc) (w : World) (h : RowAt w m (gsV s)) (hzT : s.text.size ≤ 600) (hzI : p.info.size ≤ 2000) :
    Calls Try.prog 15 #[.pointer (some ⟨m, 0, none⟩), pcV p] w (RTakeTo m w (takeD s p)) := by
  by_cases hP : p.pid < 0 ∨ 255 < p.pid
  · exact rtake_pid m s p w h hP
  by_cases h8 : p.pid = 8
  · cases hI : p.info.data.toList with
    | nil => exact rtake_none m s p w h h8 hI
    | cons x l =>
      by_cases hx : 128 ≤ int8 x
      · cases l with
        | nil => exact rtake_head m s p w h x h8 hI hx
        | cons y t =>
          by_cases hl : 600 < ((0 : Nat) : Int) + t.length
          · exact rtake_first_long m s p w h x y t h8 hI hx hzT hzI hl
          · by_cases hk : 0 < int8 x - 128
            · exact rtake_first_more m s p w h x y t h8 hI hx hzT hzI hl hk
            · exact rtake_first_whole m s p w h x y t h8 hI hx hzT hzI hl hk
      · cases ho : s.on with
        | false => exact rtake_next_off m s p w h x l h8 hI hx hzT hzI (Or.inl ho)
        | true =>
          by_cases hl : int8 x + 1 = s.left
          · by_cases hz : 600 < (s.text.size : Int) + l.length
            · exact rtake_next_long m s p w h x l h8 hI hx hzT hzI ho hl hz
            · by_cases hk : 0 < int8 x
              · exact rtake_next_more m s p w h x l h8 hI hx hzT hzI ho hl hz hk
              · exact rtake_next_whole m s p w h x l h8 hI hx hzT hzI ho hl hz hk
          · exact rtake_next_off m s p w h x l h8 hI hx hzT hzI (Or.inr ⟨ho, hl⟩)
  · by_cases hz : 600 < p.info.size
    · exact rtake_long m s p w h hP h8 hz
    · exact rtake_self m s p w h hP h8 hz
theorem goOn_text (s : Gs) (k : Int) (t : List UInt8) : (goOn s k t).1.text.size ≤ 600 := by
  unfold goOn
  split
  · exact Nat.zero_le _
  · split
    · exact Nat.zero_le _
    · split
      · rename_i h _
        show (s.text ++ ⟨t.toArray⟩ : ByteArray).size ≤ 600
        rw [ByteArray.size_append, show (⟨t.toArray⟩ : ByteArray).size = t.length by show t.toArray.size = _; simp]
        omega
      · exact Nat.zero_le _
theorem take_text (s : Gs) (p : Pc) (h : s.text.size ≤ 600) : (takeD s p).1.text.size ≤ 600 := by
  unfold takeD
  split
  · exact h
  · split
    · split
      · exact Nat.zero_le _
      · exact h
    · split
      · exact Nat.zero_le _
      · split
        · split
          · exact Nat.zero_le _
          · exact goOn_text _ _ _
        · exact goOn_text _ _ _
end Go.Proofs.Ytaelhickopeocaa
