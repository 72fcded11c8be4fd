/-
The landed air keeps the contracts.
-/
import Derived.Test.YtgfipndilngfbaaAirCTick
namespace Go.Proofs.Ytgfipndilngfbaa
open Go.RowKit
set_option maxRecDepth 20000
theorem airC : AirC AirL where
  mem := airL_mem
  stay := airL_stay
  new := fun w p g L F n h hl hn hs => cnew15 w p g L F n h hl hn hs
  send := by
    rintro w a n H S F i lead tail v fs ⟨p, m, hh, Fp, M, G, T, hA, hT, rfl⟩ hi hl ht hf hs hv hS
    refine (csend15 hA i lead tail v fs hi hl ht hf hs hv hS).mono ?_
    rintro e w' ⟨b, G', w3, rfl, hb3, hA3, hbu, hge, -, hon, hmt⟩
    have hM : M i = none := by
      cases hM : M i with
      | none => rfl
      | some b =>
        obtain ⟨B, h1, -⟩ := hA.bu i b hM
        rw [hS] at h1
        cases h1
    have hok : BuOk ⟨lead, tail, fs, 0, noneC⟩ := ⟨hl, ht, hf.2, hs, fun _ => rfl, fun _ => rfl, fun f r _ => by show 0 < longN f; unfold longN; omega⟩
    have ht3 := Turn.of_map hmt
    have hput := hA3.put i b hi hM hon ht3 _ _ _ hbu hok w.heap.size hA.mem hge
    refine ⟨_, rfl, ⟨p, m, hh, Fp, _, _, _, hput, fun j B hB => ?_, rfl⟩, Turn.trans (Turn.of_below hb3) (ht3.mono fun k hk => Or.inr (Or.inl hk)) (Grew.refl _ _), foot_grew fun j => ?_⟩
    · by_cases e : j = i
      · rw [Ai.put, if_pos e] at hB
        cases hB
        refine ⟨fun q => absurd q (Nat.lt_irrefl 0), ?_⟩
        unfold Bu.left
        have := hok.in_
        cases hfs : fs with
        | nil => rw [hfs] at hf; exact absurd hf.1 (by simp)
        | cons f r =>
          have e : sumL (f :: r) = longN f + sumL r := rfl
          dsimp only
          rw [e]
          unfold longN
          omega
      · rw [Ai.put, if_neg e] at hB
        simp only [if_neg e]
        exact hT j B hB
    · by_cases e : j = i
      · subst e
        simp only [if_pos]
        intro k hk
        exact Or.inr (hge k hk)
      · simp only [if_neg e]
        exact Grew.refl _ _
  busy := by
    rintro w a n H S F i lead tail v fs ⟨p, m, hh, Fp, M, G, T, hA, hT, rfl⟩ hi hl ht hf hs hv hS
    exact cbusy15 hA i lead tail v fs hi hl ht hf hs hv hS
  on := by
    rintro w a n H S F i ⟨p, m, hh, Fp, M, G, T, hA, hT, rfl⟩ hi
    have := hA.many
    refine (con15 hA.base i (by omega)).mono ?_
    rintro e w' ⟨rfl, rfl⟩
    exact ⟨rfl, Below.refl _ _⟩
  left := by
    rintro w a n H S F i ⟨p, m, hh, Fp, M, G, T, hA, hT, rfl⟩ hi
    have := hA.many
    exact cleft15 hA i (by omega)
  hears := by
    rintro w a n H S F i ⟨p, m, hh, Fp, M, G, T, hA, hT, rfl⟩ hi
    exact chears15 hA i hi
  quiet := by
    rintro w a n H S F ⟨p, m, hh, Fp, M, G, T, hA, hT, rfl⟩
    refine (cquiet15 hA).mono ?_
    rintro e w' ⟨rfl, rfl⟩
    exact ⟨rfl, Below.refl _ _⟩
  tick := fun w a n H S F h => ctick15 w a n H S F h
  long := fun w f hf => clong15 f hf w
end Go.Proofs.Ytgfipndilngfbaa
