/-
What a right control's bytes are, and that they are read as it: plain numbers.
-/
import Derived.Test.YtfmcngchcalcmaaDoorCtlBytes
import Derived.Test.YtfmcngchcalcmaaDoorCtlCGet
namespace Go.Proofs.YtfmcngchcalcmaaDoor
open Go.RowKit
set_option maxRecDepth 20000
theorem rightC_iff (k nr ns : Int) (w : Bool) : rightC k nr ns w = true ↔ 1 ≤ k ∧ k ≤ 14 ∧ 0 ≤ nr ∧ 0 ≤ ns ∧ nr < modD w ∧ ns < modD w ∧ (k = 1 ∨ ns = 0) ∧ (k ≤ 5 ∨ nr = 0) := by
  have hm : modD w = 8 ∨ modD w = 128 := by cases w <;> decide
  simp only [rightC, Bool.and_eq_true, kindD, belowD, hasD, supD, Bool.or_eq_true, decide_eq_true_eq]
  constructor
  · rintro ⟨⟨⟨h1, h2⟩, h3, h4⟩, h5, h6⟩
    refine ⟨h1, h2, h3, h5, ?_, ?_, ?_, ?_⟩
    · split at h4 <;> omega
    · split at h6 <;> omega
    · split at h6 <;> omega
    · split at h4 <;> omega
  · rintro ⟨h1, h2, h3, h4, h5, h6, h7, h8⟩
    refine ⟨⟨⟨h1, h2⟩, h3, ?_⟩, h4, ?_⟩
    · split <;> omega
    · split <;> omega
/-- the document's bytes as numbers -/
def docN (k nr ns : Nat) (pf wide : Bool) : List Nat :=
  if 5 < k then [codeN k + (if pf then 16 else 0)]
  else if wide then [if 1 < k then codeN k else 2 * ns, 2 * nr + (if pf then 1 else 0)]
  else [32 * nr + (if pf then 16 else 0) + (if 1 < k then codeN k else 2 * ns)]
theorem one_facts : ∀ k : Fin 15, ∀ nr : Fin 8, ∀ ns : Fin 8, ∀ pf : Bool, rightC k.1 nr.1 ns.1 false = true →
    docN k.1 nr.1 ns.1 pf false = [oneN k.1 nr.1 ns.1 pf] ∧ lenD (oneN k.1 nr.1 ns.1 pf) false = 1 ∧ findD (oneN k.1 nr.1 ns.1 pf) false = k.1 ∧
    (if hasD (k.1 : Nat) then wrap64 ((oneN k.1 nr.1 ns.1 pf : Int) / 32) else 0) = (nr.1 : Int) ∧ (if ((k.1 : Nat) : Int) == 1 then (wrap64 ((oneN k.1 nr.1 ns.1 pf : Int) / 2)).tmod 8 else 0) = (ns.1 : Int) ∧ (bits BinOp.and .u8 (oneN k.1 nr.1 ns.1 pf : Int) 16 != 0) = pf := by decide +kernel
theorem high_facts : ∀ k : Fin 15, ∀ pf : Bool, 5 < k.1 →
    docN k.1 0 0 pf true = [oneN k.1 0 0 pf] ∧ lenD (oneN k.1 0 0 pf) true = 1 ∧ findD (oneN k.1 0 0 pf) true = k.1 ∧ hasD (k.1 : Nat) = false ∧ (((k.1 : Nat) : Int) == 1) = false ∧ (bits BinOp.and .u8 (oneN k.1 0 0 pf : Int) 16 != 0) = pf := by decide +kernel
theorem fir_facts : ∀ k : Fin 6, ∀ ns : Fin 128, 1 ≤ k.1 → (k.1 = 1 ∨ ns.1 = 0) →
    (if 1 < k.1 then codeN k.1 else 2 * ns.1) = firN k.1 ns.1 ∧ lenD (firN k.1 ns.1) true = 2 ∧ findD (firN k.1 ns.1) true = k.1 ∧ hasD (k.1 : Nat) = true ∧ (if ((k.1 : Nat) : Int) == 1 then wrap64 ((firN k.1 ns.1 : Int) / 2) else 0) = (ns.1 : Int) := by decide +kernel
theorem sec_facts : ∀ nr : Fin 128, ∀ pf : Bool, 2 * nr.1 + (if pf then 1 else 0) = secN nr.1 pf ∧ wrap64 ((secN nr.1 pf : Int) / 2) = (nr.1 : Int) ∧ (bits BinOp.and .u8 (secN nr.1 pf : Int) 1 != 0) = pf := by decide +kernel
theorem one_lt (k nr ns : Nat) (pf : Bool) (hk : k < 15) (hnr : nr < 8) (hns : ns < 128) : oneN k nr ns pf < 256 := (one_bits k nr ns pf hk hnr hns).2
theorem u8nn (N : Nat) (h : N < 256) : (N : Int) = (((UInt8.ofNat N).toNat : Nat) : Int) := by
  have e : (UInt8.ofNat N).toNat = N % 256 := rfl
  omega
theorem u8to (N : Nat) (h : N < 256) : (((UInt8.ofNat N).toNat : Nat) : Int) = (N : Int) := (u8nn N h).symm
/-- what Get answers of a right control's bytes -/
def gotV (k nr ns : Nat) (pf : Bool) (n : Nat) : Value := .tuple #[.agg #[.int .i64 (k : Int), .int .i64 (nr : Int), .int .i64 (ns : Int), .bool pf], .int .i64 (n : Int), .int .i64 0]
theorem get_one (k nr ns N : Nat) (pf w : Bool) (t : List UInt8) (hN : N < 256) (hk : 1 ≤ k) (h1 : lenD (N : Int) w = 1) (h2 : findD (N : Int) w = k) (h3 : (if hasD k then wrap64 ((N : Int) / 32) else 0) = (nr : Int)) (h4 : (if (k : Int) == 1 then (wrap64 ((N : Int) / 2)).tmod 8 else 0) = (ns : Int)) (h5 : (bits BinOp.and .u8 (N : Int) 16 != 0) = pf) :
    cgetE ([UInt8.ofNat N] ++ t) w = gotV k nr ns pf 1 := by
  show cgetE (UInt8.ofNat N :: t) w = _
  dsimp only [cgetE]
  rw [u8to N hN, h1, if_neg (by decide), h2, if_neg (by omega)]
  unfold read1V gotV
  rw [u8to N hN, h3, h4, h5]
  rfl
theorem get_two (k nr ns N M : Nat) (pf : Bool) (t : List UInt8) (hN : N < 256) (hM : M < 256) (hk : 1 ≤ k) (h1 : lenD (N : Int) true = 2) (h2 : findD (N : Int) true = k) (h3 : wrap64 ((M : Int) / 2) = (nr : Int)) (h4 : (if (k : Int) == 1 then wrap64 ((N : Int) / 2) else 0) = (ns : Int)) (h5 : (bits BinOp.and .u8 (M : Int) 1 != 0) = pf) :
    cgetE ([UInt8.ofNat N, UInt8.ofNat M] ++ t) true = gotV k nr ns pf 2 := by
  show cgetE (UInt8.ofNat N :: UInt8.ofNat M :: t) true = _
  dsimp only [cgetE]
  rw [u8to N hN, h1, if_pos rfl, h2, if_neg (by omega)]
  unfold read2V gotV
  rw [u8to N hN, u8to M hM, h3, h4, h5]
  rfl
theorem get_put (k nr ns : Nat) (pf w : Bool) (t : List UInt8) (h : rightC k nr ns w = true) :
    cgetE (putB k nr ns pf w ++ t) w = gotV k nr ns pf (putB k nr ns pf w).length ∧ (docN k nr ns pf w).map UInt8.ofNat = putB k nr ns pf w ∧ (∀ x ∈ docN k nr ns pf w, x < 256) := by
  obtain ⟨g1, g2, g3, g4, g5, g6, g7, g8⟩ := (rightC_iff k nr ns w).1 h
  cases w
  · have hm : modD false = 8 := rfl
    rw [hm] at g5 g6
    obtain ⟨f1, f2, f3, f4, f5, f6⟩ := one_facts ⟨k, by omega⟩ ⟨nr, by omega⟩ ⟨ns, by omega⟩ pf h
    dsimp only at f1 f2 f3 f4 f5 f6
    have hl := one_lt k nr ns pf (by omega) (by omega) (by omega)
    have hp : putB k nr ns pf false = [UInt8.ofNat (oneN k nr ns pf)] := rfl
    rw [hp, f1]
    exact ⟨get_one k nr ns _ pf false t hl (by omega) f2 f3 f4 f5 f6, rfl, fun x hx => by rw [List.mem_singleton.1 hx]; exact hl⟩
  · have hm : modD true = 128 := rfl
    rw [hm] at g5 g6
    by_cases h5 : 5 < k
    · have e1 : nr = 0 := by omega
      have e2 : ns = 0 := by omega
      subst e1 e2
      obtain ⟨f1, f2, f3, f4, f5, f6⟩ := high_facts ⟨k, by omega⟩ pf h5
      dsimp only at f1 f2 f3 f4 f5 f6
      have hl := one_lt k 0 0 pf (by omega) (by omega) (by omega)
      have hp : putB k 0 0 pf true = [UInt8.ofNat (oneN k 0 0 pf)] := if_neg (by rw [f4]; simp)
      rw [hp, f1]
      exact ⟨get_one k 0 0 _ pf true t hl (by omega) f2 f3 (by rw [f4]; rfl) (by rw [f5]; rfl) f6, rfl, fun x hx => by rw [List.mem_singleton.1 hx]; exact hl⟩
    · have hl := (fir_bits k ns (by omega) (by omega)).2
      have hl2 := (sec_bits nr pf (by omega)).2
      have hk1 : 1 ≤ k := by omega
      obtain ⟨f1, f2, f3, f4, f5⟩ := fir_facts ⟨k, by omega⟩ ⟨ns, by omega⟩ (by show 1 ≤ k; omega) (by show k = 1 ∨ ns = 0; omega)
      obtain ⟨s1, s2, s3⟩ := sec_facts ⟨nr, by omega⟩ pf
      dsimp only at f1 f2 f3 f4 f5 s1 s2 s3
      have hp : putB k nr ns pf true = [UInt8.ofNat (firN k ns), UInt8.ofNat (secN nr pf)] := if_pos (by rw [f4]; rfl)
      have hd : docN k nr ns pf true = [firN k ns, secN nr pf] := by unfold docN; rw [if_neg h5, if_pos rfl, f1, s1]
      rw [hp, hd]
      exact ⟨get_two k nr ns _ _ pf t hl hl2 hk1 f2 f3 s2 f5 s3, rfl, fun x hx => by
        rcases List.mem_cons.1 hx with rfl | hx
        · exact hl
        · rw [List.mem_singleton.1 hx]; exact hl2⟩
/-- unlike controls, unlike bytes -/
theorem put_inj (k nr ns k' nr' ns' : Nat) (pf pf' w : Bool) (h : rightC k nr ns w = true) (h' : rightC k' nr' ns' w = true) (e : putB k nr ns pf w = putB k' nr' ns' pf' w) : k = k' ∧ nr = nr' ∧ ns = ns' ∧ pf = pf' := by
  have a := (get_put k nr ns pf w [] h).1
  have b := (get_put k' nr' ns' pf' w [] h').1
  rw [e] at a
  have c := a.symm.trans b
  simp only [gotV, Value.tuple.injEq, Array.mk.injEq, List.cons.injEq, Value.agg.injEq, Value.int.injEq, Value.bool.injEq, true_and, and_true] at c
  obtain ⟨c1, c2, c3, c4⟩ := c
  exact ⟨by omega, by omega, by omega, c4⟩
end Go.Proofs.YtfmcngchcalcmaaDoor
