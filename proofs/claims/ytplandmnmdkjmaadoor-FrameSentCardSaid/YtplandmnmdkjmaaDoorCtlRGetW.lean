/-
The document's own Get of controls: what is tried hits just if its text stands ahead.
-/
import Derived.Test.YtplandmnmdkjmaaDoorCtlRGetN
import Derived.Test.YtplandmnmdkjmaaDoorCtlEq
namespace Go.Proofs.YtplandmnmdkjmaaDoor
open Go.RowKit
set_option maxRecDepth 20000
theorem map_num : ∀ (l : List Nat) (u : List UInt8), (∀ x ∈ l, x < 256) → (l.map UInt8.ofNat = u ↔ l = u.map UInt8.toNat)
  | [], [], _ => by simp
  | [], x :: u, _ => by simp
  | a :: l, [], _ => by simp
  | a :: l, x :: u, h => by
    have ih := map_num l u (fun z hz => h z (List.mem_cons_of_mem _ hz))
    have ha := h a List.mem_cons_self
    simp only [List.map_cons, List.cons.injEq, ih]
    apply and_congr_left
    intro _
    constructor
    · intro e; rw [← e]; simp; omega
    · intro e; rw [e]; simp
/-- the second byte, if there is one -/
def sndN : List UInt8 → Nat
  | [] => 0
  | y :: _ => y.toNat
/-- the bytes that are tried: those of kind k, mark p -/
def tryL (k : Nat) (p w : Bool) (b : UInt8) (t : List UInt8) : List Nat := docN k (tryNr k b.toNat (sndN t) w) (tryNs k b.toNat w) p w
theorem hit_doc (k : Nat) (p w : Bool) (b : UInt8) (t : List UInt8) (hk : 1 ≤ k) (hk' : k ≤ 14) (hw : (w && decide (k ≤ 5)) = true → t ≠ []) :
    hitD k p w b.toNat t = decide ((tryL k p w b t).map UInt8.ofNat = (b :: t).take (tryL k p w b t).length) ∧ (tryL k p w b t).length ≤ (b :: t).length ∧ (∀ x ∈ tryL k p w b t, x < 256) := by
  have hb := b.toNat_lt
  have hl : (tryL k p w b t).length = if w && decide (k ≤ 5) then 2 else 1 := doc_len k _ _ p w
  have hx : ∀ x ∈ tryL k p w b t, x < 256 := try_lt k b.toNat _ p w hk hk' hb (by cases t with | nil => decide | cons y t => exact y.toNat_lt)
  refine ⟨?_, ?_, hx⟩
  · rw [show decide ((tryL k p w b t).map UInt8.ofNat = (b :: t).take (tryL k p w b t).length) = decide (tryL k p w b t = ((b :: t).take (tryL k p w b t).length).map UInt8.toNat) from decide_eq_decide.2 (map_num _ _ hx)]
    cases t with
    | nil =>
      have h0 : (w && decide (k ≤ 5)) = false := by
        cases h : (w && decide (k ≤ 5))
        · rfl
        · exact absurd rfl (hw h)
      rw [h0] at hl
      unfold hitD
      rw [h0]
      show decide (tryL k p w b [] = [b.toNat]) = _
      apply decide_eq_decide.2
      rw [hl]
      rfl
    | cons y t =>
      unfold hitD
      show decide (tryL k p w b (y :: t) = [b.toNat] ∨ tryL k p w b (y :: t) = [b.toNat, y.toNat]) = _
      apply decide_eq_decide.2
      generalize tryL k p w b (y :: t) = l at *
      cases h0 : (w && decide (k ≤ 5))
      · rw [h0] at hl
        obtain ⟨z, rfl⟩ := List.length_eq_one_iff.1 hl
        simp
      · rw [h0] at hl
        match l, hl with
        | [z, z'], _ => simp
  · rw [hl]
    cases h0 : (w && decide (k ≤ 5))
    · simp
    · have := hw h0
      cases t with
      | nil => exact absurd rfl this
      | cons y t => simp
theorem snd_lt (t : List UInt8) : sndN t < 256 := by
  cases t with
  | nil => decide
  | cons y t => exact y.toNat_lt
theorem get_seek (b : UInt8) (t : List UInt8) (w : Bool) (h : (w && b.toNat % 4 != 3 && t.isEmpty) = false) : refGet (b :: t) w = match seekD w b.toNat t 28 0 with
    | none => (0, 0, 0, false, 0, 2)
    | some (k, p) => (k, tryNr k b.toNat (sndN t) w, tryNs k b.toNat w, p, (if w && decide (k ≤ 5) then 2 else 1), 0) := by
  unfold refGet
  dsimp only
  rw [h]
  cases t <;> rfl
end Go.Proofs.YtplandmnmdkjmaaDoor
