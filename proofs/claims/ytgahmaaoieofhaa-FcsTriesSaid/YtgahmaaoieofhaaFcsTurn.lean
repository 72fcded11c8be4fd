/-
What a turned byte of a text makes wrong, as plain numbers.
-/
import Derived.Test.YtgahmaaoieofhaaFcsOpensW
namespace Go.Proofs.Ytgahmaaoieofhaa
/-- where the sum at the end of a list isn't that of the rest -/
def wrongL (L : List UInt8) : Nat := (sumOf (L.take (L.length - 2)) ^^^ (L.getD (L.length - 2) 0).toNat) ^^^ (256 * (L.getD (L.length - 1) 0).toNat)
theorem wrongL_lt (L : List UInt8) : wrongL L < 65536 := xlt (xlt (sumOf_lt _) (by have := blt (L.getD (L.length - 2) 0); omega)) (by have := blt (L.getD (L.length - 1) 0); omega)
theorem wrongOf_list (s : ByteArray) (h : 2 ≤ s.size) : wrongOf s h = wrongL s.data.toList := by
  have hl : s.data.toList.length = s.size := by simp
  unfold wrongOf wrongL
  rw [held_list, hl]
  have e : ∀ i (hi : i < s.size), s.data.toList.getD i 0 = s[i] := fun i hi => by
    rw [List.getD_eq_getElem?_getD, List.getElem?_eq_getElem (by omega)]; rfl
  rw [e _ (by omega), e _ (by omega)]
theorem sealed_wrong (s : ByteArray) (h : 2 ≤ s.size) : Sealed s ↔ wrongL s.data.toList = 0 := by rw [sealed_iff s h, wrongOf_list]
theorem split_end (L : List UInt8) (h : 2 ≤ L.length) : L = L.take (L.length - 2) ++ [L.getD (L.length - 2) 0, L.getD (L.length - 1) 0] := by
  have e : ∀ i (hi : i < L.length), L.getD i 0 = L[i] := fun i hi => by
    rw [List.getD_eq_getElem?_getD, List.getElem?_eq_getElem hi]; rfl
  rw [e _ (by omega), e _ (by omega)]
  have h3 : L.take (L.length - 2 + 1) = L.take (L.length - 2) ++ [L[L.length - 2]] := List.take_succ_eq_append_getElem (by omega)
  have h4 : L.take (L.length - 1 + 1) = L.take (L.length - 1) ++ [L[L.length - 1]] := List.take_succ_eq_append_getElem (by omega)
  rw [show L.length - 2 + 1 = L.length - 1 from by omega] at h3
  rw [show L.length - 1 + 1 = L.length from by omega, List.take_length, h3, List.append_assoc] at h4
  exact h4
/-- the register behind all bytes tells what is wrong -/
theorem crc_wrong (L : List UInt8) (h : 2 ≤ L.length) : crc 65535 L = sn 16 (65535 ^^^ wrongL L) := by
  have hs := split_end L h
  have hR := crc_lt (L.take (L.length - 2)) 65535 (by omega)
  unfold wrongL sumOf
  generalize L.getD (L.length - 2) 0 = x at *
  generalize L.getD (L.length - 1) 0 = y at *
  generalize L.take (L.length - 2) = T at *
  rw [hs, crc_append]
  generalize crc 65535 T = R at *
  have e : 65535 ^^^ (65535 ^^^ R ^^^ x.toNat ^^^ 256 * y.toNat) = (R ^^^ x.toNat) ^^^ 256 * y.toNat := by
    have e2 : 65535 ^^^ (65535 ^^^ R ^^^ x.toNat ^^^ 256 * y.toNat) = (65535 ^^^ 65535) ^^^ ((R ^^^ x.toNat) ^^^ 256 * y.toNat) := by ac_rfl
    rw [e2, Nat.xor_self, Nat.zero_xor]
  rw [e, show (16 : Nat) = 8 + 8 from rfl, sn_add, sn_lin 8 (R ^^^ x.toNat)]
  rw [show sn 8 (256 * y.toNat) = y.toNat from s8_high _]
  rfl
theorem wrongL_turn (L : List UInt8) (i : Nat) (v : UInt8) (h2 : 2 ≤ L.length) (h : i < L.length) :
    wrongL (L.set i (L[i] ^^^ v)) = wrongL L ^^^ sn (8 * (L.length - 1 - i)) (256 * v.toNat) := by
  have hv := blt v
  have h1 := crc_turn L 65535 i v h
  rw [crc_wrong _ (by simpa using h2), crc_wrong L h2] at h1
  have e : sn (8 * (L.length - i)) v.toNat = sn 16 (sn (8 * (L.length - 1 - i)) (256 * v.toNat)) := by
    rw [← sn_add, show 8 * (L.length - 1 - i) + 16 = 8 + 8 * (L.length - i) from by omega, sn_add, show sn 8 (256 * v.toNat) = v.toNat from s8_high _]
  rw [e, ← sn_lin] at h1
  have h3 := sn_inj 16 (xlt (by omega) (wrongL_lt _)) (xlt (xlt (by omega) (wrongL_lt _)) (sn_lt _ _ (by omega))) h1
  have h4 := congrArg (65535 ^^^ ·) h3
  have c : ∀ a : Nat, 65535 ^^^ (65535 ^^^ a) = a := fun a => by rw [← Nat.xor_assoc, Nat.xor_self, Nat.zero_xor]
  rw [c] at h4
  rw [h4, Nat.xor_assoc, c]
theorem wrongL_two (L : List UInt8) (k : Nat) (x y : UInt8) (h2 : 2 ≤ L.length) (h : k + 1 < L.length) (h0 : wrongL L = 0) :
    wrongL ((L.set k (L[k] ^^^ x)).set (k + 1) (((L.set k (L[k] ^^^ x))[k + 1]'(by simpa using h)) ^^^ y)) = sn (8 * (L.length - 2 - k)) (256 * y.toNat + x.toNat) := by
  rw [wrongL_turn _ (k + 1) y (by simpa using h2) (by simpa using h), wrongL_turn L k x h2 (by omega), h0, Nat.zero_xor, List.length_set]
  rw [show 8 * (L.length - 1 - k) = 8 + 8 * (L.length - 2 - k) from by omega, sn_add, show sn 8 (256 * x.toNat) = x.toNat from s8_high _, show L.length - 1 - (k + 1) = L.length - 2 - k from by omega, ← sn_lin, Nat.xor_comm, xor256 (blt x)]
theorem wrongL_two_ne (L : List UInt8) (k : Nat) (x y : UInt8) (h2 : 2 ≤ L.length) (h : k + 1 < L.length) (h0 : wrongL L = 0) (hxy : ¬ (x = 0 ∧ y = 0)) :
    wrongL ((L.set k (L[k] ^^^ x)).set (k + 1) (((L.set k (L[k] ^^^ x))[k + 1]'(by simpa using h)) ^^^ y)) ≠ 0 := by
  rw [wrongL_two L k x y h2 h h0]
  intro hz
  have hx := blt x
  have hy := blt y
  have := sn_zero _ (by omega) hz
  exact hxy ⟨UInt8.toNat_inj.1 (by rw [UInt8.toNat_zero]; omega), UInt8.toNat_inj.1 (by rw [UInt8.toNat_zero]; omega)⟩
theorem sealB_wrong (s : ByteArray) : wrongL (sealB s).data.toList = 0 := (sealed_wrong (sealB s) (by rw [sealB_size]; omega)).1 (sealed_sealB s)
end Go.Proofs.Ytgahmaaoieofhaa
