/-
Kinds from SABM on are told alike narrow and wide, as plain facts.
-/
import Derived.Test.YtplandmnmdkjmaaDoorFrmCKind
namespace Go.Proofs.YtplandmnmdkjmaaDoor
open Go.RowKit Go.Sort
set_option maxRecDepth 20000
def numV : Value → Int
  | .int _ k => k
  | _ => 0
def partV (v : Value) (i : Nat) : Value := match v with
  | .tuple a => a.getD i undef
  | .agg a => a.getD i undef
  | _ => undef
def kindV (v : Value) : Int := numV (partV (partV v 0) 0)
def errV (v : Value) : Int := numV (partV v 2)
theorem kind_got (r : Nat × Nat × Nat × Bool × Nat × Nat) : kindV (gotU r) = (r.1 : Int) := rfl
theorem err_got (r : Nat × Nat × Nat × Bool × Nat × Nat) : errV (gotU r) = (r.2.2.2.2.2 : Int) := rfl
theorem find_same : ∀ b : Fin 256, b.1 % 4 = 3 → findD (b.1 : Nat) true = findD (b.1 : Nat) false := by decide +kernel
/-- narrow -/
theorem kind_narrow (b : UInt8) (t : List UInt8) : (refGet (b :: t) false).1 = findD (b.toNat : Int) false ∧ (findD (b.toNat : Int) false ≠ 0 → (refGet (b :: t) false).2.2.2.2.2 = 0) := by
  have h := ref_get (b :: t) false
  have hk := kind_got (refGet (b :: t) false)
  have he := err_got (refGet (b :: t) false)
  rw [← h] at hk he
  have hl : lenD (b.toNat : Int) false = 1 := rfl
  unfold cgetE at hk he
  dsimp only at hk he
  rw [hl, if_neg (show ¬ ((1 : Int) = 2) by decide)] at hk he
  by_cases h0 : findD (b.toNat : Int) false = 0
  · rw [if_pos h0] at hk
    refine ⟨?_, fun q => absurd h0 q⟩
    have : (0 : Int) = ((refGet (b :: t) false).1 : Int) := hk
    omega
  · rw [if_neg h0] at hk he
    refine ⟨?_, fun _ => ?_⟩
    · have : ((findD (b.toNat : Int) false : Nat) : Int) = ((refGet (b :: t) false).1 : Int) := hk
      omega
    · have : (0 : Int) = ((refGet (b :: t) false).2.2.2.2.2 : Int) := he
      omega
theorem kind_le (u : List UInt8) : (refGet u false).1 ≤ 14 := by
  cases u with
  | nil => simp [refGet]
  | cons b t =>
    rw [(kind_narrow b t).1]
    exact find_le ⟨b.toNat, b.toNat_lt⟩ false
theorem kind_wide (u : List UInt8) (h : 6 ≤ (refGet u true).1) : (refGet u false).1 = (refGet u true).1 ∧ (refGet u false).2.2.2.2.2 = 0 := by
  cases u with
  | nil => simp [refGet] at h
  | cons b t =>
    have e := ref_get (b :: t) true
    have hk := kind_got (refGet (b :: t) true)
    rw [← e] at hk
    unfold cgetE at hk
    dsimp only at hk
    obtain ⟨n1, n2⟩ := kind_narrow b t
    by_cases h3 : b.toNat % 4 = 3
    · have s1 := wide_seek1 ⟨b.toNat, b.toNat_lt⟩ h3
      have s2 := find_same ⟨b.toNat, b.toNat_lt⟩ h3
      dsimp only at s1 s2
      rw [s1.2.2, if_neg (show ¬ ((1 : Int) = 2) by decide)] at hk
      by_cases h0 : findD (b.toNat : Int) true = 0
      · rw [if_pos h0] at hk
        have : (0 : Int) = ((refGet (b :: t) true).1 : Int) := hk
        omega
      · rw [if_neg h0] at hk
        have k1 : ((findD (b.toNat : Int) true : Nat) : Int) = ((refGet (b :: t) true).1 : Int) := hk
        rw [s2] at h0 k1
        exact ⟨by rw [n1]; omega, n2 h0⟩
    · have s1 := wide_seek2 ⟨b.toNat, b.toNat_lt⟩ h3
      dsimp only at s1
      rw [s1.1, if_pos rfl] at hk
      exfalso
      cases t with
      | nil =>
        have : (0 : Int) = ((refGet [b] true).1 : Int) := hk
        omega
      | cons y t =>
        dsimp only at hk
        by_cases h0 : findD (b.toNat : Int) true = 0
        · rw [if_pos h0] at hk
          have : (0 : Int) = ((refGet (b :: y :: t) true).1 : Int) := hk
          omega
        · rw [if_neg h0] at hk
          have k1 : ((findD (b.toNat : Int) true : Nat) : Int) = ((refGet (b :: y :: t) true).1 : Int) := hk
          have := s1.2.1
          omega
theorem kindF_le (s : List UInt8) : kindF s ≤ 14 := by
  unfold kindF
  split
  · omega
  · exact kind_le _
theorem kindF_narrow (s : List UInt8) (h : begE s false = 0) : kindF s = (ctlOf s false).1 := by
  unfold kindF
  rw [if_neg (fun q => q h)]
theorem kindF_wide (s : List UInt8) (h : begE s true = 0) (h6 : 6 ≤ (ctlOf s true).1) : kindF s = (ctlOf s true).1 := by
  obtain ⟨a, b⟩ := kind_wide _ h6
  have hg : (getP 10 [] s).1 = 0 := by
    unfold begE at h
    by_cases q : (getP 10 [] s).1 = 0
    · exact q
    · rw [if_pos q] at h; exact h
  have hf : begE s false = 0 := by
    unfold begE
    rw [if_neg (fun q => q hg)]
    exact b
  rw [kindF_narrow s hf]
  exact a
end Go.Proofs.YtplandmnmdkjmaaDoor
