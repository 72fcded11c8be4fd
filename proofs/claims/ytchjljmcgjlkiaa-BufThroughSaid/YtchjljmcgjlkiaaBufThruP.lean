/-
Pieces taken out of a box and gathered: what holds from piece to piece, as plain facts.
-/
import Derived.Test.YtchjljmcgjlkiaaBufPure
import Derived.Test.YtchjljmcgjlkiaaSegCTake
namespace Go.Proofs.Ytchjljmcgjlkiaa
open Go.RowKit
/-- the pieces of a message -/
abbrev pcs (n1 : Int) (m : Pc) : List Pc := (splitD m.pid m.info n1).1
/-- so many messages were gathered of those that were put; the box has the rest of the next one, and all of the others; the gatherer has begun just that one -/
def ThInv (n1 : Int) (want : List Pc) (got : Nat) (M : List (List Pc)) (g : Gs) : Prop :=
  GOk g ∧ (∀ m ∈ want, (splitD m.pid m.info n1).2 = 0) ∧
  ((M = [] ∧ got = want.length) ∨ ∃ (h : got < want.length) (k : Nat) (g0 : Gs), GOk g0 ∧ k < (pcs n1 want[got]).length ∧ M = (pcs n1 want[got]).drop k :: (want.drop (got + 1)).map (pcs n1) ∧ g = stG g0 (pcs n1 want[got]) k)
theorem th_start (n1 : Int) : ThInv n1 [] 0 [] zeroG := ⟨GOk.zero, fun _ h => (List.not_mem_nil h).elim, Or.inl ⟨rfl, rfl⟩⟩
theorem th_got {n1 : Int} {want : List Pc} {got : Nat} {M : List (List Pc)} {g : Gs} (h : ThInv n1 want got M g) : got ≤ want.length := by
  rcases h.2.2 with ⟨-, h⟩ | ⟨h, -⟩ <;> omega
theorem th_put {n1 : Int} {want : List Pc} {got : Nat} {M : List (List Pc)} {g : Gs} (h : ThInv n1 want got M g) (m : Pc) (hm : (splitD m.pid m.info n1).2 = 0) : ThInv n1 (want ++ [m]) got (M ++ [pcs n1 m]) g := by
  obtain ⟨h1, h2, h3⟩ := h
  refine ⟨h1, fun x hx => ?_, Or.inr ?_⟩
  · rcases List.mem_append.1 hx with hx | hx
    · exact h2 x hx
    · rw [List.mem_singleton.1 hx]; exact hm
  · rcases h3 with ⟨rfl, rfl⟩ | ⟨hlt, k, g0, k1, k2, k3, k4⟩
    · refine ⟨by simp, 0, g, h1, ?_, ?_, ?_⟩
      · rw [List.getElem_append_right (Nat.le_refl _)]
        simp only [Nat.sub_self, List.getElem_cons_zero]
        exact (through m.pid m.info n1 hm).1
      · rw [List.getElem_append_right (Nat.le_refl _)]
        simp [pcs]
      · rw [stG_zero]
    · refine ⟨by simp; omega, k, g0, k1, ?_, ?_, ?_⟩
      · rw [List.getElem_append_left hlt]; exact k2
      · rw [List.getElem_append_left hlt, k3, List.drop_append_of_le_length (by omega), List.map_append]
        rfl
      · rw [List.getElem_append_left hlt]; exact k4
theorem th_none {n1 : Int} {want : List Pc} {got : Nat} {b : Bx} {g : Gs} (h : ThInv n1 want got b.M g) (h0 : b.M = []) : nextB b = (b, zeroP, false) ∧ got = want.length := by
  obtain ⟨-, -, h3⟩ := h
  refine ⟨?_, ?_⟩
  · unfold nextB
    rw [h0]
    obtain ⟨c, M⟩ := b
    simp only at h0
    subst h0
    rfl
  · rcases h3 with ⟨-, h⟩ | ⟨h4, k, g0, h5, h6, k3, h7⟩
    · exact h
    · rw [h0] at k3; cases k3
theorem th_next {n1 : Int} {want : List Pc} {got : Nat} {b : Bx} {g : Gs} (h : ThInv n1 want got b.M g) (hb : BOk b) (h0 : b.M ≠ []) :
    ∃ p : Pc, (nextB b).2 = (p, true) ∧ p.info.size ≤ 2000 ∧
      (((takeD g p).2 = (zeroP, false, 0) ∧ ThInv n1 want got (nextB b).1.M (takeD g p).1) ∨
       ∃ hlt : got < want.length, (takeD g p).2 = (want[got], true, 0) ∧ ThInv n1 want (got + 1) (nextB b).1.M (takeD g p).1) := by
  obtain ⟨h1, h2, h3⟩ := h
  rcases h3 with ⟨h3, -⟩ | ⟨hlt, k, g0, k1, k2, k3, k4⟩
  · exact absurd h3 h0
  have hm := h2 want[got] (List.getElem_mem hlt)
  obtain ⟨-, hth⟩ := through want[got].pid want[got].info n1 hm
  have hth := hth g0 k k2
  obtain ⟨L, hL⟩ : ∃ L, pcs n1 want[got] = L := ⟨_, rfl⟩
  have hL' : (splitD want[got].pid want[got].info n1).1 = L := hL
  simp only [hL'] at hth
  simp only [hL] at k2 k3 k4
  have hd : L.drop k = L[k] :: L.drop (k + 1) := List.drop_eq_getElem_cons k2
  rw [hd] at k3
  have hsz : L[k].info.size ≤ 2000 := by
    have := hb.small (L[k] :: L.drop (k + 1)) (by rw [k3]; exact List.mem_cons_self) L[k] List.mem_cons_self
    omega
  have hnx : nextB b = (⟨b.cnt, behind (L.drop (k + 1)) ((want.drop (got + 1)).map (pcs n1))⟩, L[k], true) := by
    unfold nextB nextM
    rw [k3]
  rw [hnx]
  refine ⟨L[k], rfl, hsz, ?_⟩
  have hg' : (takeD g L[k]).1 = stG g0 L (k + 1) := by rw [stG_succ g0 L k k2, k4]
  have hok' : GOk (takeD g L[k]).1 := take_ok _ _ h1
  rw [← k4] at hth
  by_cases hlast : k + 1 = L.length
  · rw [if_pos hlast] at hth
    right
    refine ⟨hlt, hth, hok', h2, ?_⟩
    have hnil : L.drop (k + 1) = [] := List.drop_eq_nil_of_le (by omega)
    show (behind (L.drop (k + 1)) _ = [] ∧ _) ∨ _
    rw [hnil]
    by_cases hend : got + 1 = want.length
    · left
      refine ⟨?_, hend⟩
      show (want.drop (got + 1)).map (pcs n1) = []
      rw [List.drop_eq_nil_of_le (by omega)]
      rfl
    · right
      have hlt2 : got + 1 < want.length := by omega
      refine ⟨hlt2, 0, _, hok', ?_, ?_, ?_⟩
      · have hm2 := h2 want[got + 1] (List.getElem_mem hlt2)
        exact (through want[got + 1].pid want[got + 1].info n1 hm2).1
      · show (want.drop (got + 1)).map (pcs n1) = _
        rw [List.drop_eq_getElem_cons hlt2]
        rfl
      · rw [stG_zero]
  · rw [if_neg hlast] at hth
    left
    refine ⟨hth, hok', h2, Or.inr ⟨hlt, k + 1, g0, k1, by rw [hL]; omega, ?_, ?_⟩⟩
    · show behind (L.drop (k + 1)) _ = _
      rw [hL, List.drop_eq_getElem_cons (show k + 1 < L.length by omega)]
      rfl
    · rw [hL, hg']
theorem left_zero {b : Bx} (hb : BOk b) (h : leftM b.M = 0) : b.M = [] := by
  obtain ⟨c, M⟩ := b
  cases M with
  | nil => rfl
  | cons m R =>
    exfalso
    have h1 := hb.some_ m List.mem_cons_self
    have h2 : 0 < m.length := List.length_pos_iff.2 h1
    have h3 : leftM (m :: R) = m.length + leftM R := rfl
    simp only at h
    omega
end Go.Proofs.Ytchjljmcgjlkiaa
