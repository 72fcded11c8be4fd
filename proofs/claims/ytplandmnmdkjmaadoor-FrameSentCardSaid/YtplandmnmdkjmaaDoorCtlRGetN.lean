/-
The document's own Get of controls, narrow.
-/
import Derived.Test.YtplandmnmdkjmaaDoorCtlRGetP
import Derived.Test.YtplandmnmdkjmaaDoorCtlText
import Derived.IntWalk
namespace Go.Proofs.YtplandmnmdkjmaaDoor
open Go.RowKit
set_option maxRecDepth 20000
theorem seek_step (w : Bool) (b : Nat) (t : List UInt8) (k p : Nat) (h1 : 1 ≤ k) (h2 : k ≤ 14) (hp : p < 2) :
    seekD w b t (28 - (2 * (k - 1) + p)) (2 * (k - 1) + p) = if hitD k (p == 1) w b t then some (k, p == 1) else seekD w b t (28 - (2 * (k - 1) + p + 1)) (2 * (k - 1) + p + 1) := by
  obtain ⟨f, hf⟩ : ∃ f, 28 - (2 * (k - 1) + p) = f + 1 := ⟨27 - (2 * (k - 1) + p), by omega⟩
  rw [hf]
  conv => lhs; unfold seekD
  have e1 : (2 * (k - 1) + p) / 2 + 1 = k := by omega
  have e2 : (2 * (k - 1) + p) % 2 = p := by omega
  rw [e1, e2, show 28 - (2 * (k - 1) + p + 1) = f from by omega]
theorem doc_lt (k nr ns : Nat) (pf w : Bool) (hk : k < 15) (hr : if w then nr < 128 else nr < 8) (hs : if w then ns < 128 else ns < 8) : ∀ x ∈ docN k nr ns pf w, x < 256 := by
  have hc : codeN k + 16 < 256 := by
    have : ∀ k : Fin 15, codeN k.1 + 16 < 256 := by decide
    exact this ⟨k, hk⟩
  have hc5 : k ≤ 5 → codeN k < 16 := fun h => by
    have : ∀ k : Fin 6, codeN k.1 < 16 := by decide
    exact this ⟨k, by omega⟩
  intro x hx
  unfold docN at hx
  by_cases h : 5 < k
  · rw [if_pos h, List.mem_singleton] at hx
    rw [hx]; cases pf <;> simp <;> omega
  · rw [if_neg h] at hx
    have := hc5 (by omega)
    cases w
    · rw [if_neg (by decide), List.mem_singleton] at hx
      rw [if_neg (by decide)] at hr hs
      rw [hx]; cases pf <;> by_cases h1 : 1 < k <;> simp [h1] <;> omega
    · rw [if_pos rfl] at hx hr hs
      simp only [List.mem_cons, List.not_mem_nil, or_false] at hx
      rcases hx with rfl | rfl
      · by_cases h1 : 1 < k <;> simp [h1] <;> omega
      · cases pf <;> simp <;> omega
theorem doc_len (k nr ns : Nat) (pf w : Bool) : (docN k nr ns pf w).length = if w && decide (k ≤ 5) then 2 else 1 := by
  unfold docN
  by_cases h : 5 < k
  · rw [if_pos h, decide_eq_false (by omega), Bool.and_false]; rfl
  · rw [if_neg h, decide_eq_true (by omega), Bool.and_true]
    cases w <;> rfl
/-- the document's Put of what is tried, and its text, as one number of bytes n -/
theorem try_put (k b y : Nat) (pf w : Bool) (hk1 : 1 ≤ k) (hk : k ≤ 14) (hb : b < 256) (hy : y < 256) (W : World) :
    Calls Tryd.prog 37 #[.agg #[.int .i64 (k : Int), .int .i64 ((tryNr k b y w : Nat) : Int), .int .i64 ((tryNs k b w : Nat) : Int), .bool pf], .bool w] W fun e w' => Put6To W (docN k (tryNr k b y w) (tryNs k b w) pf w) e w' := by
  by_cases h5 : 5 < k
  · have e1 : tryNr k b y w = 0 := by unfold tryNr; rw [if_neg (by omega)]
    have e2 : tryNs k b w = 0 := by unfold tryNs; rw [if_neg (by omega)]
    rw [e1, e2]
    exact rput6_high k pf w W h5 (by omega)
  · have l1 : tryNr k b y w < 128 := by unfold tryNr; cases w <;> simp <;> split <;> omega
    by_cases h1 : k = 1
    · subst h1
      have l2 : tryNs 1 b w < 128 := by unfold tryNs; cases w <;> simp <;> omega
      exact rput6_i _ _ pf w W l1 l2
    · have e2 : tryNs k b w = 0 := by unfold tryNs; rw [if_neg h1]
      rw [e2]
      exact rput6_sup k _ pf w W (by omega) (by omega) l1
theorem try_lt (k b y : Nat) (pf w : Bool) (hk1 : 1 ≤ k) (hk : k ≤ 14) (hb : b < 256) (hy : y < 256) : ∀ x ∈ docN k (tryNr k b y w) (tryNs k b w) pf w, x < 256 := by
  refine doc_lt k _ _ pf w (by omega) ?_ ?_
  · unfold tryNr; cases w <;> simp <;> split <;> omega
  · unfold tryNs; cases w <;> simp <;> split <;> omega
end Go.Proofs.YtplandmnmdkjmaaDoor
