/-
A control's bytes as plain numbers, and what bytes begin with.
-/
import Derived.Test.YtfmcngchcalcmaaDoorCtlCFind
namespace Go.Proofs.YtfmcngchcalcmaaDoor
open Go.RowKit
set_option maxRecDepth 20000
def codeN (k : Nat) : Nat := [0, 0, 1, 5, 9, 13, 47, 111, 67, 15, 99, 135, 3, 175, 227].getD k 0
theorem codeD_nat (k : Nat) (h : k < 15) : codeD k = (codeN k : Int) ∧ codeN k < 256 := by
  have : ∀ k : Fin 15, codeD k.1 = (codeN k.1 : Int) ∧ codeN k.1 < 256 := by decide
  exact this ⟨k, h⟩
/-- the one byte -/
def oneN (k nr ns : Nat) (pf : Bool) : Nat := (codeN k ||| ns * 2) ||| (nr * 32 ||| (if pf then 16 else 0))
/-- the first of two bytes -/
def firN (k ns : Nat) : Nat := codeN k ||| ns * 2
/-- the second of two bytes -/
def secN (nr : Nat) (pf : Bool) : Nat := nr * 2 ||| (if pf then 1 else 0)
theorem or8 {a b : Nat} (ha : a < 256) (hb : b < 256) : a ||| b < 256 := Nat.or_lt_two_pow (n := 8) ha hb
theorem one_bits (k nr ns : Nat) (pf : Bool) (hk : k < 15) (hnr : nr < 8) (hns : ns < 128) :
    bits BinOp.or .u8 (bits BinOp.or .u8 (codeD k) ((ns : Int) * 2)) (bits BinOp.or .u8 ((nr : Int) * 32) (if pf then 16 else 0)) = (oneN k nr ns pf : Int) ∧ oneN k nr ns pf < 256 := by
  obtain ⟨e, h⟩ := codeD_nat k hk
  have hp : (if pf then 16 else 0 : Int) = ((if pf then 16 else 0 : Nat) : Int) ∧ (if pf then 16 else 0 : Nat) < 256 := by cases pf <;> decide
  have e1 : (ns : Int) * 2 = ((ns * 2 : Nat) : Int) := by omega
  have e2 : (nr : Int) * 32 = ((nr * 32 : Nat) : Int) := by omega
  unfold oneN
  rw [e, e1, e2, hp.1, u8_or_nat _ _ h (by omega), u8_or_nat _ _ (by omega) hp.2, u8_or_nat _ _ (or8 h (by omega)) (or8 (by omega) hp.2)]
  exact ⟨rfl, or8 (or8 h (by omega)) (or8 (by omega) hp.2)⟩
theorem fir_bits (k ns : Nat) (hk : k < 15) (hns : ns < 128) : bits BinOp.or .u8 (codeD k) ((ns : Int) * 2) = (firN k ns : Int) ∧ firN k ns < 256 := by
  obtain ⟨e, h⟩ := codeD_nat k hk
  have e1 : (ns : Int) * 2 = ((ns * 2 : Nat) : Int) := by omega
  unfold firN
  rw [e, e1, u8_or_nat _ _ h (by omega)]
  exact ⟨rfl, or8 h (by omega)⟩
theorem sec_bits (nr : Nat) (pf : Bool) (hnr : nr < 128) : bits BinOp.or .u8 ((nr : Int) * 2) (if pf then 1 else 0) = (secN nr pf : Int) ∧ secN nr pf < 256 := by
  have hp : (if pf then 1 else 0 : Int) = ((if pf then 1 else 0 : Nat) : Int) ∧ (if pf then 1 else 0 : Nat) < 256 := by cases pf <;> decide
  have e1 : (nr : Int) * 2 = ((nr * 2 : Nat) : Int) := by omega
  unfold secN
  rw [e1, hp.1, u8_or_nat _ _ (by omega) hp.2]
  exact ⟨rfl, or8 (by omega) hp.2⟩
/-- a right control's bytes -/
def putB (k nr ns : Nat) (pf wide : Bool) : List UInt8 := if wide && hasD k then [UInt8.ofNat (firN k ns), UInt8.ofNat (secN nr pf)] else [UInt8.ofNat (oneN k nr ns pf)]
theorem rightC_facts {k nr ns : Int} {w : Bool} (h : rightC k nr ns w = true) : ∃ K R S : Nat, k = K ∧ nr = R ∧ ns = S ∧ 1 ≤ K ∧ K < 15 ∧ (hasD K = false → R = 0) ∧ (K ≠ 1 → S = 0) ∧ (w = false → R < 8 ∧ S < 8) ∧ R < 128 ∧ S < 128 := by
  simp only [rightC, Bool.and_eq_true, kindD, belowD, decide_eq_true_eq] at h
  obtain ⟨⟨⟨h1, h2⟩, h3, h4⟩, h5, h6⟩ := h
  have hm : modD w ≤ 128 ∧ (w = false → modD w = 8) := by cases w <;> decide
  have r1 : nr < 128 := by split at h4 <;> omega
  have s1 : ns < 128 := by split at h6 <;> omega
  refine ⟨k.toNat, nr.toNat, ns.toNat, by omega, by omega, by omega, by omega, by omega, ?_, ?_, ?_, by omega, by omega⟩
  · intro hh
    rw [show ((k.toNat : Nat) : Int) = k from by omega] at hh
    rw [hh] at h4
    simp at h4
    omega
  · intro hk
    rw [if_neg (by omega)] at h6
    omega
  · intro hw
    have := hm.2 hw
    refine ⟨?_, ?_⟩
    · split at h4 <;> omega
    · split at h6 <;> omega
end Go.Proofs.YtfmcngchcalcmaaDoor
