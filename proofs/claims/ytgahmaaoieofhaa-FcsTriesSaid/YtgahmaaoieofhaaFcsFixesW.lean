/-
Walk of the statement FcsFixes.
-/
import Derived.Test.YtgahmaaoieofhaaFcsFixW
namespace Go.Proofs.Ytgahmaaoieofhaa
open Go.RowKit
theorem turnL_length (L : List UInt8) (k : Nat) : (turnL L k).length = L.length := by simp [turnL]
theorem turnL_twice (L : List UInt8) (k : Nat) (hk : k / 8 < L.length) : turnL (turnL L k) k = L := by
  have hg : L.getD (k / 8) 0 = L[k / 8] := by rw [List.getD_eq_getElem?_getD, List.getElem?_eq_getElem hk]; rfl
  have hg2 : (turnL L k).getD (k / 8) 0 = L[k / 8] ^^^ bitOf k := by
    rw [List.getD_eq_getElem?_getD, turnL, List.getElem?_set_self hk, hg]; rfl
  rw [turnL, hg2, turnL, hg, List.set_set, UInt8.xor_assoc, UInt8.xor_self, UInt8.xor_zero, List.set_getElem_self]
theorem syndK_ne (n k : Nat) : syndK n k ≠ 0 := fun h => by
  have hp := pow_16 (show k % 8 < 8 by omega)
  have h2 := sn_zero _ hp h
  have h3 : 0 < 2 ^ (8 + k % 8) := Nat.pow_pos (by omega)
  omega
/-- a text of whose bits one is turned -/
def turnB (s : ByteArray) (k : Nat) : ByteArray := ⟨(turnL s.data.toList k).toArray⟩
theorem turnB_list (s : ByteArray) (k : Nat) : (turnB s k).data.toList = turnL s.data.toList k := rfl
theorem turnB_size (s : ByteArray) (k : Nat) : (turnB s k).size = s.size := by
  show (turnL s.data.toList k).toArray.size = _
  simp [turnL]
/-- Fix at what was sealed -/
theorem fix_sealed (b : Nat) (s : ByteArray) (w : World) (hs : s.size ≤ 338) (ht : IsTab w b) (hb : b < w.heap.size) :
    Calls Try.prog 20 #[.pointer (some ⟨b, 0, none⟩), .string (sealB s)] w fun e w' => e = .returned (.tuple #[.string s, .int .i64 (-1), .int .i64 0]) ∧ Below w.heap.size w w' := by
  have h := fix_yes b (sealB s) w (by rw [sealB_size]; omega) (by rw [sealB_size]; omega) ht hb (sealed_sealB s)
  rw [held_sealB] at h
  exact h
/-- Fix at what was sealed, a bit turned -/
theorem fix_turned (b : Nat) (s : ByteArray) (k : Nat) (w : World) (hs : s.size ≤ 338) (hk : k < 8 * (s.size + 2)) (ht : IsTab w b) (hb : b < w.heap.size) :
    Calls Try.prog 20 #[.pointer (some ⟨b, 0, none⟩), .string (turnB (sealB s) k)] w fun e w' => e = .returned (.tuple #[.string s, .int .i64 k, .int .i64 0]) ∧ Below w.heap.size w w' := by
  have hz : (turnB (sealB s) k).size = s.size + 2 := by rw [turnB_size, sealB_size]
  have hl : (sealB s).data.toList.length = s.size + 2 := by rw [← sealB_size]; simp
  have hw : wrongL (turnB (sealB s) k).data.toList = syndK (s.size + 2) k := by
    rw [turnB_list, wrong_turnL _ k (by omega) (by omega), sealB_wrong, Nat.zero_xor, hl]
  have hS : ¬ Sealed (turnB (sealB s) k) := fun h => by
    have := (sealed_wrong _ (by omega)).1 h
    rw [hw] at this
    exact syndK_ne _ _ this
  have h := fix_bit b (turnB (sealB s) k) k w (by omega) (by omega) ht hb hS (by omega) (by rw [hw, hz])
  have e : (⟨(turnL (turnB (sealB s) k).data.toList k).toArray⟩ : ByteArray) = sealB s := bytes_ext (by
    show turnL (turnL (sealB s).data.toList k) k = _
    exact turnL_twice _ k (by omega))
  rw [e, held_sealB] at h
  exact h
theorem fixes_big (s : ByteArray) (at_ : Int) (w : World) (h : 338 < s.size) (hs : s.size ≤ 140737488351232) :
    Calls Try.prog 8 #[.string s, .int .i64 at_] w fun e w' => e = .returned (.bool true) ∧ Below w.heap.size w w' := by
  go_enter Try.func8, Try.ntmps8
  go_wp2_with (go_at_call 10; refine (awake_any _).mono ?_; rintro e w1 ⟨rfl, hb⟩)
  go_ret
  exact ⟨rfl, hb⟩
set_option maxHeartbeats 400000 in
theorem fixes_out (s : ByteArray) (at_ : Int) (w : World) (hs : s.size ≤ 338) (h : at_ < 0 ∨ 8 * ((s.size : Int) + 2) ≤ at_) :
    Calls Try.prog 8 #[.string s, .int .i64 at_] w fun e w' => e = .returned (.bool true) ∧ Below w.heap.size w w' := by
  have HX := sealB_size s
  rcases h with h | h
  all_goals
    go_enter Try.func8, Try.ntmps8
    go_wp2_with (first
      | (go_at_call 10; refine (awake_any _).mono ?_; rintro e w1 ⟨rfl, hb⟩)
      | (go_at_call 12; refine (new_tab _).mono ?_; rintro e w2 ⟨rfl, hs2, ht2, hb2⟩; have L2 := Lib.hid (show w1.heap.size < w2.heap.size by omega); have HT2 := Lib.hid ht2; have HB2 := Lib.hid (hb.trans (hb2.mono hb.size)); clear hs2 hb2 ht2)
      | (go_at_call 16; refine (seal_b _ _ s _ _ rfl HT2.out L2.out (by omega)).mono ?_; rintro e w3 ⟨rfl, hb3⟩; have L3 := Lib.hid (Nat.lt_of_lt_of_le L2.out hb3.size); have HT3 := Lib.hid (HT2.out.below L2.out hb3))
      | (go_at_call 20; refine (fix_sealed _ s _ hs HT3.out L3.out).mono ?_; rintro e w4 ⟨rfl, hb4⟩))
    go_ret
    have h2 := HB2.out
    exact ⟨rfl, h2.trans ((hb3.trans (hb4.mono hb3.size)).mono h2.size)⟩
theorem bit_val (c : UInt8) (k : Nat) : bits .xor .u8 ((c.toNat : Nat) : Int) ((2 : Int) ^ (k % 8) % 256) = (((c ^^^ bitOf k).toNat : Nat) : Int) := by
  have h8k : k % 8 < 8 := by omega
  have hp : 2 ^ (k % 8) < 2 ^ 8 := Nat.pow_lt_pow_right (by omega) h8k
  have e : ((2 : Int) ^ (k % 8) % 256) = ((2 ^ (k % 8) : Nat) : Int) := by
    have e2 : ((2 : Int) ^ (k % 8)) = ((2 ^ (k % 8) : Nat) : Int) := by push_cast; rfl
    rw [e2]
    generalize (2 ^ (k % 8) : Nat) = pw at hp ⊢
    omega
  rw [e, u8_xor_nat _ _ (blt _) (by omega), UInt8.toNat_xor, bitOf_nat]
set_option maxHeartbeats 1000000 in
theorem fixes_in (s : ByteArray) (k : Nat) (w : World) (hs : s.size ≤ 338) (h : k < 8 * (s.size + 2)) :
    Calls Try.prog 8 #[.string s, .int .i64 k] w fun e w' => e = .returned (.bool true) ∧ Below w.heap.size w w' := by
  have HX := sealB_size s
  go_enter Try.func8, Try.ntmps8
  go_wp2_with (first
    | (go_at_call 10; refine (awake_any _).mono ?_; rintro e w1 ⟨rfl, hb⟩)
    | (go_at_call 12; refine (new_tab _).mono ?_; rintro e w2 ⟨rfl, hs2, ht2, hb2⟩; have L2 := Lib.hid (show w1.heap.size < w2.heap.size by omega); have HT2 := Lib.hid ht2; have HB2 := Lib.hid (hb.trans (hb2.mono hb.size)); clear hs2 hb2 ht2)
    | (go_at_call 16; refine (seal_b _ _ s _ _ rfl HT2.out L2.out (by omega)).mono ?_; rintro e w3 ⟨rfl, hb3⟩; have L3 := Lib.hid (Nat.lt_of_lt_of_le L2.out hb3.size); have HT3 := Lib.hid (HT2.out.below L2.out hb3); have HB3 := Lib.hid (HB2.out.trans (hb3.mono HB2.out.size)); clear hb3))
  refine (fix_sealed _ s _ hs HT3.out L3.out).mono ?_
  rintro e w4 ⟨rfl, hb4⟩
  have L4 := Lib.hid (Nat.lt_of_lt_of_le L3.out hb4.size)
  have HT4 := Lib.hid (HT3.out.below L3.out hb4)
  have HB4 := Lib.hid (HB3.out.trans (hb4.mono HB3.out.size))
  clear hb4
  obtain ⟨cap, W6, hconv, hcap, hz6, hh6, hb6⟩ := conv_bytes (sealB s) w4
  have hll : (sealB s).data.toList.length = s.size + 2 := by rw [← sealB_size]; simp
  have hjl : k / 8 < (sealB s).data.toList.length := by omega
  have HC := hh6 (k / 8) hjl
  have hcg : (sealB s).data.toList.getD (k / 8) 0 = (sealB s).data.toList[k / 8] := by rw [List.getD_eq_getElem?_getD, List.getElem?_eq_getElem hjl]; rfl
  rw [← hcg] at HC
  have h8 := hh6.set (k / 8) hjl ((sealB s).data.toList.getD (k / 8) 0 ^^^ bitOf k)
  have hTL : (sealB s).data.toList.set (k / 8) ((sealB s).data.toList.getD (k / 8) 0 ^^^ bitOf k) = turnL (sealB s).data.toList k := rfl
  rw [hTL] at h8
  have hlen : (turnL (sealB s).data.toList k).length = s.size + 2 := by rw [turnL_length, hll]
  have hv0 := bit_val ((sealB s).data.toList.getD (k / 8) 0) k
  generalize (sealB s).data.toList.getD (k / 8) 0 = c at *
  obtain ⟨V, hV⟩ : ∃ V, V = (c ^^^ bitOf k).toNat := ⟨_, rfl⟩
  rw [← hV] at hv0 h8
  have c1 := HC.1
  have f1 := HC.2
  have htx := h8.text (s.size + 2) cap hlen.symm
  rw [show (⟨(turnL (sealB s).data.toList k).toArray⟩ : ByteArray) = turnB (sealB s) k from rfl] at htx
  have hb8 : Below w4.heap.size w4 (W6.setCell ⟨w4.heap.size, k / 8, none⟩ (.int .u8 ((V : Nat) : Int))) := hb6.setCell (p := ⟨w4.heap.size, k / 8, none⟩) (Nat.le_refl _) _
  have HF := Lib.hid (fix_turned w1.heap.size s k _ hs h (HT4.out.below L4.out hb8) (Nat.lt_of_lt_of_le L4.out hb8.size))
  have HB8 := Lib.hid (HB4.out.trans (hb8.mono HB4.out.size))
  rw [HX] at hconv
  have b1 : (k : Int) / 8 < (s.size : Int) + 2 := by omega
  have b2 : (0 : Int) ≤ (k : Int) / 8 := by omega
  have b3 : ((k : Int) / 8).toNat = k / 8 := by omega
  have b4 : (0 : Int) ≤ (k : Int) % 8 := by omega
  have b5 : (0 : Int) ≤ (k : Int) := by omega
  have b6 : (k : Int) < 8 * ((s.size : Int) + 2) := by omega
  clear HC hh6 hz6 h8 hV hTL hlen hcg hjl hb6 hb8 hll hcap
  go_wp2_with (go_at_call 20; refine HF.out.mono ?_; rintro e w9 ⟨rfl, hb9⟩)
  go_ret
  exact ⟨rfl, HB8.out.trans (hb9.mono HB8.out.size)⟩
theorem fixes_any (s : ByteArray) (at_ : Int) (w : World) (hs : s.size ≤ 140737488351232) :
    Calls Try.prog 8 #[.string s, .int .i64 at_] w fun e w' => e = .returned (.bool true) ∧ Below w.heap.size w w' := by
  by_cases h1 : 338 < s.size
  · exact fixes_big s at_ w h1 hs
  by_cases h2 : at_ < 0 ∨ 8 * ((s.size : Int) + 2) ≤ at_
  · exact fixes_out s at_ w (by omega) h2
  obtain ⟨k, rfl⟩ := Int.eq_ofNat_of_zero_le (show 0 ≤ at_ by omega)
  exact fixes_in s k w (by omega) (by omega)
end Go.Proofs.Ytgahmaaoieofhaa
