/-
A gate's step as plain facts.
-/
import Derived.Test.YtofodlaebhjneaaTncParL
import Derived.Test.YtofodlaebhjneaaInPlace
namespace Go.Proofs.Ytofodlaebhjneaa
set_option maxRecDepth 20000
/-- the count behind a step, and whether it is now -/
def stepG (n : Int) (p : Par) (waits busy : Bool) (draw : Int) : Int × Bool :=
  if p.ok = false then (n, false) else if waits = false then (0, false) else if p.f = true then (n, true) else if 0 < n then (n - 1, false) else if busy = true then (n, false) else if draw % 256 ≤ p.b then (n, true) else (p.c, false)
theorem par_in {p : Par} (h : p.ok = true) : (0 ≤ p.b ∧ p.b ≤ 255) ∧ 0 ≤ p.c ∧ p.c ≤ 255 := by
  simp only [Par.ok, Bool.and_eq_true] at h
  exact ⟨(okN_iff p.b).1 h.1.1.2, (okN_iff p.c).1 h.1.2⟩
theorem stepG_in (n : Int) (p : Par) (waits busy : Bool) (draw : Int) (h : 0 ≤ n ∧ n ≤ 255) : 0 ≤ (stepG n p waits busy draw).1 ∧ (stepG n p waits busy draw).1 ≤ 255 := by
  unfold stepG
  by_cases hp : p.ok = false
  · rw [if_pos hp]; exact h
  · rw [if_neg hp]
    have := par_in (p := p) (by cases hq : p.ok; exact absurd hq hp; rfl)
    split
    · exact ⟨Int.le_refl _, by decide⟩
    · split
      · exact h
      · split
        · dsimp only; omega
        · split
          · exact h
          · split
            · exact h
            · exact this.2
/-- never while it is busy, or nothing waits, but if Full -/
theorem stepG_now (n : Int) (p : Par) (waits busy : Bool) (draw : Int) (h : (stepG n p waits busy draw).2 = true) : waits = true ∧ (busy = false ∨ p.f = true) := by
  unfold stepG at h
  split at h
  · cases h
  · split at h
    · cases h
    · rename_i hw
      have hw2 : waits = true := by cases waits; exact absurd rfl hw; rfl
      split at h
      · rename_i hf
        exact ⟨hw2, Or.inr hf⟩
      · split at h
        · cases h
        · split at h
          · cases h
          · rename_i hb
            exact ⟨hw2, Or.inl (by cases busy; rfl; exact absurd rfl hb)⟩
/-- no more than the greatest Slot -/
theorem stepG_most (n : Int) (p : Par) (waits busy : Bool) (draw m : Int) (h : 0 ≤ n ∧ n ≤ m) : (stepG n p waits busy draw).1 ≤ if p.ok = true then max m p.c else m := by
  unfold stepG
  by_cases hp : p.ok = false
  · rw [if_pos hp, hp, if_neg Bool.false_ne_true]; exact h.2
  · have hp2 : p.ok = true := by cases hq : p.ok; exact absurd hq hp; rfl
    have := par_in hp2
    rw [if_neg hp, if_pos hp2]
    split
    · dsimp only; omega
    · split
      · dsimp only; omega
      · split
        · dsimp only; omega
        · split
          · dsimp only; omega
          · split <;> (dsimp only; omega)
/-- free, something waits, and the draw wins -/
theorem stepG_win (n : Int) (p : Par) (hp : p.ok = true) : stepG n p true false 0 = if p.f = true then (n, true) else if 0 < n then (n - 1, false) else (n, true) := by
  have := par_in hp
  unfold stepG
  rw [hp, if_neg (by decide), if_neg (by decide)]
  split
  · rfl
  · split
    · rfl
    · rw [if_neg (by decide), if_pos (by omega)]
end Go.Proofs.Ytofodlaebhjneaa
