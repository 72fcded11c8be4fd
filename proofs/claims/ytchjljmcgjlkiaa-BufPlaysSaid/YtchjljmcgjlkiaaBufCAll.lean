/-
The landed box keeps what it is asked.
-/
import Derived.Test.YtchjljmcgjlkiaaBufCNextW
namespace Go.Proofs.Ytchjljmcgjlkiaa
open Go.RowKit
theorem cnext19 (w : World) (q : Nat) (n1 : Int) (b : Bx) (F : Nat → Prop) (h : BoL w q n1 b F) (hb : BOk b) : Calls Try.prog 12 #[ptrB q] w (NextTo19 w q n1 b F) := by
  obtain ⟨M, hM⟩ : ∃ M, b.M = M := ⟨_, rfl⟩
  match M, hM with
  | [], hM => exact cnext19_none w q n1 b F h hM
  | [] :: M, hM => exact absurd rfl (hb.some_ [] (by rw [hM]; exact List.mem_cons_self))
  | [p] :: M, hM => exact cnext19_last w q n1 b F h hb p M hM
  | (p :: p2 :: P) :: M, hM => exact cnext19_more w q n1 b F h hb p p2 P M hM
abbrev boL : BoP := BoL
theorem boC : BoC boL where
  mem := fun ⟨_, _, h, _, hF⟩ k hk => h.mem k (by rw [hF] at hk; exact hk)
  stay := fun ⟨v, Z, h, hM, hF⟩ hs => ⟨v, Z, h.stay (by rw [hF] at hs; exact hs), hM, hF⟩
  newNo := cnew19_no
  newYes := cnew19_yes
  put := fun w q n1 pid text b F h hb hc _ => cput19 w q n1 pid text b F h hb hc
  next := cnext19
  len := fun w q n1 b F h _ => (clen19 w q n1 b F h).mono fun _ _ ⟨he, hw⟩ => ⟨he, by rw [hw]; exact Below.refl _ _⟩
  left := cleft19
  total := fun w q n1 b F h _ => ctotal19 w q n1 b F h
  reset := fun w q n1 b F h _ => creset19 w q n1 b F h
  put0 := fun w pid text _ => cput19_nil w pid text
  next0 := cnext19_nil
  len0 := fun w => (clen19_nil w).mono fun _ _ ⟨he, hw⟩ => ⟨he, by rw [hw]; exact Below.refl _ _⟩
  left0 := cleft19_nil
  total0 := ctotal19_nil
  reset0 := creset19_nil
end Go.Proofs.Ytchjljmcgjlkiaa
