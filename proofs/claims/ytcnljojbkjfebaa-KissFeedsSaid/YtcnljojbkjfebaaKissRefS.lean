/-
The document's own Deframer.Byte, all ways in one.
-/
import Derived.Test.YtcnljojbkjfebaaKissRefT
import Derived.Test.YtcnljojbkjfebaaKissPlain
namespace Go.Proofs.Ytcnljojbkjfebaa
open Go.RowKit
/-- a byte's answer as a value -/
def toldV : Option (UInt8 × List UInt8) → Value
  | none => noFrame
  | some (x, l) => aFrame x l
theorem byte_any {av : Nat} (b most place bad : Nat) (held : List UInt8) (c : UInt8) (w : World) (hav : av < w.heap.size) (hp : place ≤ 2) (hb : bad < 4611686018427387904) (hl : held.length ≤ 4096) (hd : DefIs av w b most place bad held) :
    Calls Try.prog 25 #[.pointer (some ⟨b, 0, none⟩), .int .u8 ((c.toNat : Nat) : Int)] w fun e w' =>
      ByteTo av w b most (stepD most place bad held c).1.1 (stepD most place bad held c).1.2.1 (stepD most place bad held c).1.2.2 (toldV (stepD most place bad held c).2) e w' := by
  have hpush : ∀ x : UInt8, held.length ≠ most → (held.length : Int) ≠ (most : Int) := fun _ h => by omega
  rcases (show place = 0 ∨ place = 1 ∨ place = 2 by omega) with rfl | rfl | rfl
  · by_cases h1 : c = 192
    · subst h1
      exact byte_0_end b most bad held w hd
    · have e : stepD most 0 bad held c = ((0, bad, held), none) := by simp [stepD, h1]
      rw [e]
      exact byte_0_drop b most bad held c.toNat w (u8_ne (by omega) h1) hd
  · by_cases h1 : c = 192
    · subst h1
      cases held with
      | nil => exact byte_1_none b most bad w hd
      | cons x l => exact byte_1_told b most bad x l w (by simp at hl; omega) hd
    by_cases h2 : c = 219
    · subst h2
      exact byte_1_esc b most bad held w hd
    have e : stepD most 1 bad held c = (pushD most bad held c, none) := by simp [stepD, h1, h2]
    rw [e]
    unfold pushD
    by_cases hf : held.length = most
    · rw [if_pos hf]
      exact byte_1_full b most bad held c.toNat w (u8_ne (by omega) h1) (u8_ne (by omega) h2) (by omega) (by omega) (by omega) hd
    · rw [if_neg hf]
      cases held with
      | nil => exact byte_1_push0 b most bad c w hav (u8_ne (by omega) h1) (u8_ne (by omega) h2) (by simp at hf; omega) hd
      | cons x l => exact byte_1_push b most bad (x :: l) c w hav (u8_ne (by omega) h1) (u8_ne (by omega) h2) (by simp) hl (by omega) hd
  · by_cases h1 : c = 220
    · subst h1
      have e : stepD most 2 bad held 220 = (pushD most bad held 192, none) := rfl
      rw [e]
      unfold pushD
      by_cases hf : held.length = most
      · rw [if_pos hf]
        exact byte_2_full220 b most bad held 220 w rfl (by omega) (by omega) (by omega) hd
      · rw [if_neg hf]
        cases held with
        | nil => exact byte_2_push220n b most bad 220 w hav rfl (by simp at hf; omega) hd
        | cons x l => exact byte_2_push220 b most bad (x :: l) 220 w hav rfl (by simp) hl (by omega) hd
    by_cases h2 : c = 221
    · subst h2
      have e : stepD most 2 bad held 221 = (pushD most bad held 219, none) := rfl
      rw [e]
      unfold pushD
      by_cases hf : held.length = most
      · rw [if_pos hf]
        exact byte_2_full221 b most bad held 221 w rfl (by omega) (by omega) (by omega) hd
      · rw [if_neg hf]
        cases held with
        | nil => exact byte_2_push221n b most bad 221 w hav rfl (by simp at hf; omega) hd
        | cons x l => exact byte_2_push221 b most bad (x :: l) 221 w hav rfl (by simp) hl (by omega) hd
    by_cases h3 : c = 192
    · subst h3
      exact byte_2_end b most bad held 192 w rfl (by omega) (by omega) hd
    · have e : stepD most 2 bad held c = ((0, bad + 1, []), none) := by simp [stepD, h1, h2, h3]
      rw [e]
      exact byte_2_bad b most bad held c.toNat w (u8_ne (by omega) h1) (u8_ne (by omega) h2) (u8_ne (by omega) h3) (by omega) (by omega) hd
end Go.Proofs.Ytcnljojbkjfebaa
