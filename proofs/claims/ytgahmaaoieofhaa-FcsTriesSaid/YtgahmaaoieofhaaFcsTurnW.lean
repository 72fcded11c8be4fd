/-
Walk of turn: a text with its k-th bit turned.
-/
import Derived.Test.YtgahmaaoieofhaaFcsTurn
import Derived.Test.YtgahmaaoieofhaaFcsBytes
namespace Go.Proofs.Ytgahmaaoieofhaa
open Go.RowKit
/-- the bit's value in its byte -/
def bitOf (k : Nat) : UInt8 := UInt8.ofNat (2 ^ (k % 8))
theorem bitOf_nat (k : Nat) : (bitOf k).toNat = 2 ^ (k % 8) := by
  have h : k % 8 < 8 := by omega
  have : 2 ^ (k % 8) < 2 ^ 8 := Nat.pow_lt_pow_right (by omega) h
  rw [bitOf, UInt8.toNat_ofNat', Nat.mod_eq_of_lt this]
/-- a list with its k-th bit turned -/
def turnL (L : List UInt8) (k : Nat) : List UInt8 := L.set (k / 8) (L.getD (k / 8) 0 ^^^ bitOf k)
set_option maxHeartbeats 400000 in
theorem turn_any (s : ByteArray) (k : Nat) (w : World) (hk : k < 8 * s.size) (hs : s.size ≤ 3000) :
    Calls Try.prog 27 #[.string s, .int .i64 k] w fun e w' => e = .returned (.string ⟨(turnL s.data.toList k).toArray⟩) ∧ Below w.heap.size w w' := by
  obtain ⟨cap, W6, hconv, hcap, hz6, hh6, hb6⟩ := conv_bytes s w
  have hjl : k / 8 < s.data.toList.length := by simp; omega
  have HC := hh6 (k / 8) hjl
  have hcg : s.data.toList.getD (k / 8) 0 = s.data.toList[k / 8] := by rw [List.getD_eq_getElem?_getD, List.getElem?_eq_getElem hjl]; rfl
  rw [← hcg] at HC
  have h8 := hh6.set (k / 8) hjl (s.data.toList.getD (k / 8) 0 ^^^ bitOf k)
  have hTL : s.data.toList.set (k / 8) (s.data.toList.getD (k / 8) 0 ^^^ bitOf k) = turnL s.data.toList k := rfl
  rw [hTL] at h8
  have hlen : (turnL s.data.toList k).length = s.size := by simp [turnL]
  generalize s.data.toList.getD (k / 8) 0 = c at *
  have hv0 : bits .xor .u8 ((c.toNat : Nat) : Int) ((2 : Int) ^ (k % 8) % 256) = (((c ^^^ bitOf k).toNat : Nat) : Int) := by
    have h8k : k % 8 < 8 := by omega
    have hp : 2 ^ (k % 8) < 2 ^ 8 := Nat.pow_lt_pow_right (by omega) h8k
    have e : ((2 : Int) ^ (k % 8) % 256) = ((2 ^ (k % 8) : Nat) : Int) := by
      have e2 : ((2 : Int) ^ (k % 8)) = ((2 ^ (k % 8) : Nat) : Int) := by push_cast; rfl
      rw [e2]
      generalize (2 ^ (k % 8) : Nat) = pw at hp ⊢
      omega
    rw [e, u8_xor_nat _ _ (blt _) (by omega), UInt8.toNat_xor, bitOf_nat]
  obtain ⟨V, hV⟩ : ∃ V, V = (c ^^^ bitOf k).toNat := ⟨_, rfl⟩
  rw [← hV] at hv0 h8
  have c1 := HC.1
  have f1 := HC.2
  have b1 : (k : Int) / 8 < (s.size : Int) := by omega
  have b2 : (0 : Int) ≤ (k : Int) / 8 := by omega
  have b3 : ((k : Int) / 8).toNat = k / 8 := by omega
  have b4 : (0 : Int) ≤ (k : Int) % 8 := by omega
  have b5 : (0 : Int) ≤ (k : Int) := by omega
  have ht := h8.drew.text s.size cap hlen.symm
  have HB8 := Lib.hid ((hb6.setCell (p := ⟨w.heap.size, k / 8, none⟩) (Nat.le_refl _) (.int .u8 ((V : Nat) : Int))).drew)
  clear HC hh6 hz6 h8 hV hTL hlen hcg hjl hb6
  go_enter Try.func27, Try.ntmps27
  go_wp2
  go_region
  go_wp2
  go_ret
  exact ⟨rfl, HB8.out⟩
end Go.Proofs.Ytgahmaaoieofhaa
