/-
One that sends alone, among three, as plain facts.
-/
import Derived.Test.YtgfipndilngfbaaAirPure
namespace Go.Proofs.Ytgfipndilngfbaa
set_option maxRecDepth 20000
def soloS (b : Option Bu) : Ai := fun i => if i = 2 then b else none
def c13 : Nat → Bool := fun j => decide (j = 1 ∨ j = 3)
/-- what is left: so many ticks of lead, of tail, frames, and how many ticks of the first one went by -/
def bt (l tl : Nat) (fs : List ByteArray) (e : Nat) : Bu := ⟨l, tl, fs, e, if e = 0 then noneC else c13⟩
theorem bt_left (l tl : Nat) (fs : List ByteArray) (e : Nat) : (bt l tl fs e).left = l + tl + sumL fs - e := rfl
theorem solo_none (b : Option Bu) (i : Nat) (h : i ≠ 2) : soloS b i = none := if_neg h
theorem solo_two (b : Option Bu) : soloS b 2 = b := if_pos rfl
theorem solo_hears (b : Option Bu) (j : Nat) : hearsO (fullH 3) 3 (soloS b) j 2 = false := by
  unfold hearsO
  rw [List.any_eq_false]
  intro k _
  by_cases h : k + 1 = 2
  · simp [h]
  · rw [solo_none b _ h]
    simp
theorem solo_heard (b : Bu) : hearsO (fullH 3) 3 (soloS (some b)) 1 0 = true := by
  unfold hearsO
  rw [List.any_eq_true]
  exact ⟨1, by decide, by rw [show 1 + 1 = 2 from rfl, solo_two]; rfl⟩
theorem solo_clear (l tl : Nat) (fs : List ByteArray) (e : Nat) : clearB (fullH 3) 3 (soloS (some (bt l tl fs e))) 2 (bt l tl fs e) = c13 := by
  funext j
  unfold clearB
  rw [solo_hears]
  have e1 : (fullH 3 j 2 && (!(soloS (some (bt l tl fs e)) j).isSome && !false)) = c13 j := by
    unfold fullH c13
    by_cases h2 : j = 2
    · subst h2
      rfl
    · rw [solo_none _ _ h2]
      show (decide (1 ≤ j ∧ j ≤ 3 ∧ 1 ≤ 2 ∧ 2 ≤ 3 ∧ j ≠ 2) && true) = _
      rw [Bool.and_true, decide_eq_decide]
      omega
  rw [e1]
  unfold bt
  dsimp only
  by_cases h : e = 0
  · rw [decide_eq_true h]
    rfl
  · rw [decide_eq_false h, if_neg h]
    simp
theorem solo_tick (b : Bu) : tickS (fullH 3) 3 (soloS (some b)) = soloS (if (stepB (fullH 3) 3 (soloS (some b)) 2 b).left = 0 then none else some (stepB (fullH 3) 3 (soloS (some b)) 2 b)) ∧ toldS (fullH 3) 3 (soloS (some b)) = comesB (fullH 3) 3 (soloS (some b)) 2 b := by
  constructor
  · funext i
    unfold tickS
    by_cases h : i = 2
    · subst h
      rw [solo_two, solo_two]
      rfl
    · rw [solo_none _ _ h, solo_none _ _ h]
      rfl
  · show [] ++ ((match soloS (some b) 2 with | none => [] | some b' => comesB (fullH 3) 3 (soloS (some b)) 2 b') ++ ([] ++ [])) = _
    rw [solo_two]
    simp
theorem solo_quiet : soloS none = Ai.quiet := by
  funext i
  unfold soloS Ai.quiet
  split <;> rfl
/-- a tick of lead -/
theorem step_lead (l tl : Nat) (fs : List ByteArray) (S : Ai) : stepB (fullH 3) 3 S 2 (bt (l + 1) tl fs 0) = bt l tl fs 0 ∧ comesB (fullH 3) 3 S 2 (bt (l + 1) tl fs 0) = [] := by
  constructor
  · unfold stepB
    rw [if_pos (show 0 < (bt (l + 1) tl fs 0).lead from Nat.succ_pos l)]
    rfl
  · unfold comesB
    rw [if_pos (show 0 < (bt (l + 1) tl fs 0).lead from Nat.succ_pos l)]
section
variable {H : Nat → Nat → Bool} {n i : Nat} {S : Ai} {b : Bu}
theorem stepB_frame {f : ByteArray} {r : List ByteArray} (h0 : b.lead = 0) (hf : b.frames = f :: r) : stepB H n S i b = if b.went + 1 = longN f then ⟨0, b.tail, r, 0, noneC⟩ else ⟨0, b.tail, f :: r, b.went + 1, clearB H n S i b⟩ := by
  simp only [stepB, h0, hf, Nat.lt_irrefl, if_false]
theorem comesB_frame {f : ByteArray} {r : List ByteArray} (h0 : b.lead = 0) (hf : b.frames = f :: r) : comesB H n S i b = if b.went + 1 = longN f then (((List.range n).map (· + 1)).filter (clearB H n S i b)).map fun j => ⟨i, j, f⟩ else [] := by
  simp only [comesB, h0, hf, Nat.lt_irrefl, if_false]
theorem stepB_tail (h0 : b.lead = 0) (hf : b.frames = []) : stepB H n S i b = ⟨0, b.tail - 1, [], 0, noneC⟩ ∧ comesB H n S i b = [] := by
  constructor
  · simp only [stepB, h0, hf, Nat.lt_irrefl, if_false]
  · simp only [comesB, h0, hf, Nat.lt_irrefl, if_false]
end
/-- a tick of a frame, not its last one -/
theorem step_frame (tl e : Nat) (f : ByteArray) (r : List ByteArray) (h : e + 1 < longN f) :
    stepB (fullH 3) 3 (soloS (some (bt 0 tl (f :: r) e))) 2 (bt 0 tl (f :: r) e) = bt 0 tl (f :: r) (e + 1) ∧ comesB (fullH 3) 3 (soloS (some (bt 0 tl (f :: r) e))) 2 (bt 0 tl (f :: r) e) = [] := by
  have hn : ¬ (bt 0 tl (f :: r) e).went + 1 = longN f := by
    show ¬ e + 1 = longN f
    omega
  rw [stepB_frame (f := f) (r := r) rfl rfl, comesB_frame (f := f) (r := r) rfl rfl, if_neg hn, if_neg hn, solo_clear]
  refine ⟨?_, rfl⟩
  show (⟨0, tl, f :: r, e + 1, c13⟩ : Bu) = ⟨0, tl, f :: r, e + 1, if e + 1 = 0 then noneC else c13⟩
  rw [if_neg (Nat.succ_ne_zero e)]
/-- its last tick -/
theorem step_last (tl e : Nat) (f : ByteArray) (r : List ByteArray) (h : e + 1 = longN f) :
    stepB (fullH 3) 3 (soloS (some (bt 0 tl (f :: r) e))) 2 (bt 0 tl (f :: r) e) = bt 0 tl r 0 ∧ comesB (fullH 3) 3 (soloS (some (bt 0 tl (f :: r) e))) 2 (bt 0 tl (f :: r) e) = [⟨2, 1, f⟩, ⟨2, 3, f⟩] := by
  have hn : (bt 0 tl (f :: r) e).went + 1 = longN f := h
  rw [stepB_frame (f := f) (r := r) rfl rfl, comesB_frame (f := f) (r := r) rfl rfl, if_pos hn, if_pos hn, solo_clear]
  exact ⟨rfl, rfl⟩
/-- a tick of tail -/
theorem step_tail (tl : Nat) (S : Ai) : stepB (fullH 3) 3 S 2 (bt 0 tl [] 0) = bt 0 (tl - 1) [] 0 ∧ comesB (fullH 3) 3 S 2 (bt 0 tl [] 0) = [] := by
  obtain ⟨h1, h2⟩ := stepB_tail (H := fullH 3) (n := 3) (i := 2) (S := S) (b := bt 0 tl [] 0) rfl rfl
  exact ⟨h1, h2⟩
/-- amid a burst: t ticks of n went by, k frames came, the last one (or the lead) was over behind at_ ticks -/
structure LongAt (tail n : Nat) (L : List ByteArray) (k at_ t : Nat) (S : Ai) : Prop where
  hk : k ≤ L.length
  ht : t ≤ n
  st : ∃ l tl e, S = (if t < n then soloS (some (bt l tl (L.drop k) e)) else Ai.quiet) ∧ l + tl + sumL (L.drop k) = e + (n - t) ∧ (0 < l → e = 0) ∧
    (∀ h : k < L.length, t + l = at_ + e ∧ e < longN L[k]) ∧ (k = L.length → l = 0 ∧ e = 0)
theorem sumL_cons (f : ByteArray) (l : List ByteArray) : sumL (f :: l) = longN f + sumL l := rfl
theorem longN_pos (f : ByteArray) : 0 < longN f := Nat.succ_pos _
theorem LongAt.over {tail n : Nat} {L : List ByteArray} {k at_ : Nat} {S : Ai} (h : LongAt tail n L k at_ n S) : S = Ai.quiet ∧ k = L.length := by
  obtain ⟨l, tl, e, h1, h2, h3, h4, h5⟩ := h.st
  rw [if_neg (Nat.lt_irrefl n)] at h1
  refine ⟨h1, ?_⟩
  by_cases hk : k < L.length
  · obtain ⟨q1, q2⟩ := h4 hk
    rw [List.drop_eq_getElem_cons hk, sumL_cons] at h2
    omega
  · have := h.hk
    omega
theorem LongAt.amid {tail n : Nat} {L : List ByteArray} {k at_ t : Nat} {S : Ai} (h : LongAt tail n L k at_ t S) (ht : t < n) : ∃ b, S = soloS (some b) ∧ b.left = n - t := by
  obtain ⟨l, tl, e, h1, h2, h3, h4, h5⟩ := h.st
  rw [if_pos ht] at h1
  refine ⟨_, h1, ?_⟩
  rw [bt_left, h2]
  omega
/-- one tick on -/
theorem LongAt.next {tail n : Nat} {L : List ByteArray} {k at_ t : Nat} {S : Ai} (h : LongAt tail n L k at_ t S) (ht : t < n) :
    (∃ hk : k < L.length, t + 1 = at_ + longN L[k] ∧ toldS (fullH 3) 3 S = [⟨2, 1, L[k]⟩, ⟨2, 3, L[k]⟩] ∧ LongAt tail n L (k + 1) (t + 1) (t + 1) (tickS (fullH 3) 3 S)) ∨
    ((∀ hk : k < L.length, t + 1 ≠ at_ + longN L[k]) ∧ toldS (fullH 3) 3 S = [] ∧ LongAt tail n L k at_ (t + 1) (tickS (fullH 3) 3 S)) := by
  obtain ⟨l, tl, e, h1, h2, h3, h4, h5⟩ := h.st
  rw [if_pos ht] at h1
  subst h1
  obtain ⟨t1, t2⟩ := solo_tick (bt l tl (L.drop k) e)
  -- the state behind it, as it is told
  have key : ∀ l' tl' k' e', stepB (fullH 3) 3 (soloS (some (bt l tl (L.drop k) e))) 2 (bt l tl (L.drop k) e) = bt l' tl' (L.drop k') e' → l' + tl' + sumL (L.drop k') = e' + (n - (t + 1)) →
      tickS (fullH 3) 3 (soloS (some (bt l tl (L.drop k) e))) = (if t + 1 < n then soloS (some (bt l' tl' (L.drop k') e')) else Ai.quiet) := by
    intro l' tl' k' e' hs hq
    rw [t1, hs, bt_left, hq]
    by_cases hn : t + 1 < n
    · rw [if_pos hn, if_neg (by omega)]
    · rw [if_neg hn, if_pos (by omega), solo_quiet]
  by_cases hl : 0 < l
  · obtain ⟨l', rfl⟩ : ∃ l', l = l' + 1 := ⟨l - 1, by omega⟩
    obtain rfl := h3 hl
    obtain ⟨s1, s2⟩ := step_lead l' tl (L.drop k) (soloS (some (bt (l' + 1) tl (L.drop k) 0)))
    refine Or.inr ⟨fun hk he => ?_, by rw [t2, s2], ⟨h.hk, ht, l', tl, 0, key l' tl k 0 s1 (by omega), by omega, fun _ => rfl, fun hk => ?_, fun hk => ?_⟩⟩
    · have := (h4 hk).1
      have := longN_pos L[k]
      omega
    · have := h4 hk
      omega
    · have := h5 hk
      omega
  · obtain rfl : l = 0 := by omega
    by_cases hk : k < L.length
    · obtain ⟨q1, q2⟩ := h4 hk
      have hd := List.drop_eq_getElem_cons hk
      rw [hd] at t2 key h2
      rw [sumL_cons] at h2
      by_cases he : e + 1 = longN L[k]
      · obtain ⟨s1, s2⟩ := step_last tl e L[k] (L.drop (k + 1)) he
        refine Or.inl ⟨hk, by omega, by rw [hd, t2, s2], ⟨hk, ht, 0, tl, 0, by rw [hd]; exact key 0 tl (k + 1) 0 s1 (by omega), by omega, fun _ => rfl, fun hk' => ⟨by omega, longN_pos _⟩, fun _ => ⟨rfl, rfl⟩⟩⟩
      · obtain ⟨s1, s2⟩ := step_frame tl e L[k] (L.drop (k + 1)) (by omega)
        refine Or.inr ⟨fun _ => by omega, by rw [hd, t2, s2], ⟨h.hk, ht, 0, tl, e + 1, ?_, ?_, fun q => by omega, fun _ => ⟨by omega, by omega⟩, fun q => by omega⟩⟩
        · rw [hd]
          have := key 0 tl k (e + 1) (by rw [hd]; exact s1) (by rw [hd, sumL_cons]; omega)
          rw [hd] at this
          exact this
        · rw [hd, sumL_cons]
          omega
    · have hkl : k = L.length := by have := h.hk; omega
      obtain ⟨-, rfl⟩ := h5 hkl
      have hd : L.drop k = [] := List.drop_eq_nil_of_le (by omega)
      rw [hd] at t2 key h2
      obtain ⟨s1, s2⟩ := step_tail tl (soloS (some (bt 0 tl [] 0)))
      have h0 : sumL [] = 0 := rfl
      rw [h0] at h2
      refine Or.inr ⟨fun q => absurd q hk, by rw [hd, t2, s2], ⟨h.hk, ht, 0, tl - 1, 0, ?_, ?_, fun _ => rfl, fun q => absurd q hk, fun _ => ⟨rfl, rfl⟩⟩⟩
      · rw [hd]
        have := key 0 (tl - 1) k 0 (by rw [hd]; exact s1) (by rw [hd, h0]; omega)
        rw [hd] at this
        exact this
      · rw [hd, h0]
        omega
/-- at first -/
theorem LongAt.start (lead tail : Nat) (L : List ByteArray) (h : 0 < L.length) : LongAt tail (lead + tail + sumL L) L 0 lead 0 (Ai.quiet.put 2 ⟨lead, tail, L, 0, noneC⟩) := by
  have hs : 0 < sumL L := by
    match L, h with
    | f :: r, _ => rw [sumL_cons]; have := longN_pos f; omega
  refine ⟨Nat.zero_le _, Nat.zero_le _, lead, tail, 0, ?_, by simp, fun _ => rfl, fun _ => ⟨by omega, longN_pos _⟩, fun q => by omega⟩
  rw [if_pos (by omega)]
  rfl
end Go.Proofs.Ytgfipndilngfbaa
