/-
The document's own Apply, all ways in one.
-/
import Derived.Test.YteglaenjmeocmaaTncApp
import Derived.Test.YteglaenjmeocmaaTncSet
namespace Go.Proofs.Yteglaenjmeocmaa
open Go.RowKit
/-- what Apply answers, as a value -/
def parE (q : Par × Int) : Value := .tuple #[q.1.v, .int .i64 q.2]
theorem list_head (s : ByteArray) (h : 0 < s.size) : ∃ r, s.data.toList = s[0] :: r := by
  have h2 : 0 < s.data.toList.length := by simpa using h
  have h3 := List.drop_eq_getElem_cons h2
  rw [List.drop_zero] at h3
  exact ⟨_, h3⟩
theorem u8_pos (x : UInt8) : decide (x ≠ 0) = decide (0 < x.toNat) := by
  rw [Bool.eq_iff_iff]
  simp only [decide_eq_true_eq, ne_eq]
  constructor
  · intro h
    have h2 : x.toNat ≠ 0 := fun e => h (UInt8.toNat_inj.1 (by rw [e]; rfl))
    omega
  · intro h e
    rw [e] at h
    exact absurd h (by decide)
theorem rapp_any (p : Par) (port cmd : Int) (s : ByteArray) (w : World) :
    Calls Try.prog 8 #[p.v, .agg #[.int .i64 port, .int .i64 cmd, .string s]] w fun e w' => e = .returned (parE (appD p port cmd s.data.toList)) ∧ Below w.heap.size w w' := by
  obtain ⟨a, b, c, d, f⟩ := p
  cases hok : Par.ok ⟨a, b, c, d, f⟩
  · have e : appD ⟨a, b, c, d, f⟩ port cmd s.data.toList = (⟨a, b, c, d, f⟩, 1) := by simp [appD, hok]
    rw [e]
    exact rapp_no a b c d f port cmd s w hok
  by_cases h2 : port < 0 ∨ 15 < port ∨ cmd < 0 ∨ 15 < cmd ∨ (cmd = 15 ∧ port ≠ 15)
  · have e : appD ⟨a, b, c, d, f⟩ port cmd s.data.toList = (⟨a, b, c, d, f⟩, 2) := by
      unfold appD
      rw [if_neg (by rw [hok]; simp), if_pos h2]
    rw [e]
    by_cases g1 : port < 0
    · exact rapp_form0 a b c d f port cmd s w hok g1
    by_cases g2 : 15 < port
    · exact rapp_form1 a b c d f port cmd s w hok g2
    by_cases g3 : cmd < 0
    · exact rapp_form2 a b c d f port cmd s w hok (by omega) (by omega) g3
    by_cases g4 : 15 < cmd
    · exact rapp_form3 a b c d f port cmd s w hok (by omega) (by omega) g4
    · have g5 : cmd = 15 ∧ port ≠ 15 := by omega
      obtain ⟨rfl, g6⟩ := g5
      exact rapp_form4 a b c d f port s w hok (by omega) (by omega) g6
  by_cases h3 : 7 ≤ cmd ∧ cmd ≤ 14
  · have e : appD ⟨a, b, c, d, f⟩ port cmd s.data.toList = (⟨a, b, c, d, f⟩, 7) := by
      unfold appD
      rw [if_neg (by rw [hok]; simp), if_neg h2, if_pos h3]
    rw [e]
    exact rapp_none a b c d f port cmd s w hok (by omega) (by omega) h3.1 h3.2
  by_cases h4 : cmd = 0 ∨ cmd = 6 ∨ cmd = 15
  · have e : appD ⟨a, b, c, d, f⟩ port cmd s.data.toList = (⟨a, b, c, d, f⟩, 0) := by
      unfold appD
      rw [if_neg (by rw [hok]; simp), if_neg h2, if_neg h3, if_pos h4]
    rw [e]
    rcases h4 with rfl | rfl | rfl
    · exact rapp_data0 a b c d f port s w hok (by omega) (by omega)
    · exact rapp_data6 a b c d f port s w hok (by omega) (by omega)
    · obtain rfl : port = 15 := by omega
      exact rapp_data15 a b c d f s w hok
  have e : appD ⟨a, b, c, d, f⟩ port cmd s.data.toList = (match s.data.toList with
    | [] => (⟨a, b, c, d, f⟩, 4)
    | x :: _ => if cmd = 5 then (⟨a, b, c, d, decide (x ≠ 0)⟩, 0) else if cmd = 1 then (⟨(x.toNat : Nat), b, c, d, f⟩, 0) else if cmd = 2 then (⟨a, (x.toNat : Nat), c, d, f⟩, 0) else if cmd = 3 then (⟨a, b, (x.toNat : Nat), d, f⟩, 0) else (⟨a, b, c, (x.toNat : Nat), f⟩, 0)) := by
    unfold appD
    rw [if_neg (by rw [hok]; simp), if_neg h2, if_neg h3, if_neg h4]
    cases s.data.toList <;> rfl
  rw [e]
  by_cases h0 : s.size = 0
  · have hl : s.data.toList = [] := by rw [← List.length_eq_zero_iff]; simpa using h0
    have hs : s = ⟨#[]⟩ := bytes_ext' (by rw [hl])
    rw [hl]
    subst hs
    exact rapp_short a b c d f port cmd w hok (by omega) (by omega) (by omega) (by omega)
  · have hpos : 0 < s.size := by omega
    obtain ⟨r, hr⟩ := list_head s hpos
    rw [hr]
    have hcmd : cmd = 1 ∨ cmd = 2 ∨ cmd = 3 ∨ cmd = 4 ∨ cmd = 5 := by omega
    rcases hcmd with rfl | rfl | rfl | rfl | rfl
    · exact rapp_num1 a b c d f port s w hok (by omega) (by omega) hpos
    · exact rapp_num2 a b c d f port s w hok (by omega) (by omega) hpos
    · exact rapp_num3 a b c d f port s w hok (by omega) (by omega) hpos
    · exact rapp_num4 a b c d f port s w hok (by omega) (by omega) hpos
    · simp only [if_true, u8_pos]
      exact rapp_full a b c d f port s w hok (by omega) (by omega) hpos
end Go.Proofs.Yteglaenjmeocmaa
