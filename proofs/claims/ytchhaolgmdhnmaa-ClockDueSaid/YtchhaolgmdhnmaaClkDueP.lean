/-
A timer that nobody stops or sets again: what is left of it, and with which tick it is told; plain facts.
-/
import Derived.Test.YtchhaolgmdhnmaaClkPure
namespace Go.Proofs.Ytchhaolgmdhnmaa
open Go.RowKit
theorem leftT_filter (a : Nm) (q : Tm → Bool) : ∀ L : List Tm, (∀ t ∈ L, isT a t = true → q t = true) → leftT a (L.filter q) = leftT a L
  | [], _ => rfl
  | t :: L, h => by
    have ih := leftT_filter a q L (fun s hs => h s (List.mem_cons_of_mem _ hs))
    have h1 := h t List.mem_cons_self
    rw [List.filter_cons]
    cases hq : isT a t with
    | true =>
      rw [h1 hq, if_pos rfl]
      unfold leftT
      rw [hq, if_pos rfl, if_pos rfl]
    | false =>
      have e : leftT a (t :: L) = leftT a L := by
        show (if isT a t = true then t.l else leftT a L) = leftT a L
        rw [hq]
        simp
      rw [e]
      split
      · have e2 : leftT a (t :: L.filter q) = leftT a (L.filter q) := by
          show (if isT a t = true then t.l else leftT a (L.filter q)) = _
          rw [hq]
          simp
        rw [e2, ih]
      · exact ih
theorem leftT_append (a : Nm) (t : Tm) (h : isT a t = false) : ∀ L : List Tm, leftT a (L ++ [t]) = leftT a L
  | [] => by
    show (if isT a t = true then t.l else 0) = 0
    rw [h]
    simp
  | s :: L => by
    have ih := leftT_append a t h L
    show (if isT a s = true then s.l else leftT a (L ++ [t])) = (if isT a s = true then s.l else leftT a L)
    rw [ih]
theorem eqN_ne {a b c : Nm} (h : eqN a b = false) (hc : eqN c b = true) : eqN c a = false := by
  cases hq : eqN c a with
  | false => rfl
  | true =>
    rw [eqN_iff.1 hc] at hq
    rw [eqN_iff.1 hq, eqN_iff.2 rfl] at h
    cases h
theorem left_stop {a m : Nm} (h : eqN a m = false) (L : List Tm) : leftT m (stopT a L) = leftT m L :=
  leftT_filter m _ L (fun t _ ht => by
    show (!isT a t) = true
    have : isT a t = false := eqN_ne h ht
    rw [this]
    rfl)
theorem left_set {a m : Nm} (h : eqN a m = false) (x : Int) (L : List Tm) : leftT m (setT a x L).1 = leftT m L := by
  unfold setT
  split
  · rfl
  · split
    · rfl
    · rw [leftT_append m ⟨a.k, a.n, x⟩ h, left_stop h]
theorem left_only {m : Nm} {n : Int} (h : n ≠ m.n) (L : List Tm) : leftT m (onlyT n L) = leftT m L :=
  leftT_filter m _ L (fun t _ ht => by
    have e := eqN_iff.1 ht
    have e2 : t.n = m.n := congrArg Nm.n e
    show (!numT n t) = true
    have : numT n t = false := decide_eq_false (by rw [e2]; exact fun q => h q.symm)
    rw [this]
    rfl)
/-- how often it is among names -/
def cntN (a : Nm) (N : List Nm) : Nat := (N.filter fun b => eqN b a).length
theorem tickT_cons (t : Tm) (L : List Tm) : tickT (t :: L) = if t.l - 1 = 0 then tickT L else decT t :: tickT L := by
  unfold tickT
  rw [List.map_cons, List.filter_cons]
  have e : (!goneT (decT t)) = !decide (t.l - 1 = 0) := rfl
  rw [e]
  by_cases h : t.l - 1 = 0
  · rw [decide_eq_true h, if_pos h]
    rfl
  · rw [decide_eq_false h, if_neg h]
    rfl
theorem toldT_cons (t : Tm) (L : List Tm) : toldT (t :: L) = if t.l - 1 = 0 then t.nm :: toldT L else toldT L := by
  unfold toldT
  rw [List.map_cons, List.filter_cons]
  have e : goneT (decT t) = decide (t.l - 1 = 0) := rfl
  rw [e]
  by_cases h : t.l - 1 = 0
  · rw [decide_eq_true h, if_pos h]
    rfl
  · rw [decide_eq_false h, if_neg h]
    rfl
theorem tick_none (a : Nm) : ∀ L : List Tm, (∀ t ∈ L, isT a t = false) → leftT a (tickT L) = 0 ∧ cntN a (toldT L) = 0
  | [], _ => ⟨rfl, rfl⟩
  | t :: L, h => by
    obtain ⟨h1, h2⟩ := tick_none a L (fun s hs => h s (List.mem_cons_of_mem _ hs))
    have h3 := h t List.mem_cons_self
    rw [tickT_cons, toldT_cons]
    constructor
    · split
      · exact h1
      · show (if isT a (decT t) = true then (decT t).l else leftT a (tickT L)) = 0
        have : isT a (decT t) = false := h3
        rw [this]
        simpa using h1
    · split
      · unfold cntN at h2 ⊢
        rw [List.filter_cons]
        have : eqN t.nm a = false := h3
        rw [this]
        simpa using h2
      · exact h2
theorem tick_left (a : Nm) : ∀ L : List Tm, (∀ t ∈ L, 1 ≤ t.l) → (L.Pairwise fun s t => eqN s.nm t.nm = false) →
    leftT a (tickT L) = (if leftT a L ≤ 1 then 0 else leftT a L - 1) ∧ cntN a (toldT L) = if leftT a L = 1 then 1 else 0
  | [], _, _ => ⟨rfl, rfl⟩
  | t :: L, h, hp => by
    obtain ⟨p1, p2⟩ := List.pairwise_cons.1 hp
    obtain ⟨h1, h2⟩ := tick_left a L (fun s hs => h s (List.mem_cons_of_mem _ hs)) p2
    have h3 := h t List.mem_cons_self
    rw [tickT_cons, toldT_cons]
    cases hq : isT a t with
    | true =>
      have e : leftT a (t :: L) = t.l := by
        show (if isT a t = true then t.l else leftT a L) = t.l
        rw [hq, if_pos rfl]
      have hno : ∀ s ∈ L, isT a s = false := by
        intro s hs
        cases hs2 : isT a s with
        | false => rfl
        | true =>
          have := p1 s hs
          rw [eqN_iff.1 hq, eqN_iff.1 hs2, eqN_iff.2 rfl] at this
          cases this
      obtain ⟨k1, k2⟩ := tick_none a L hno
      rw [e]
      by_cases hl : t.l - 1 = 0
      · rw [if_pos hl, if_pos hl, if_pos (by omega), if_pos (by omega)]
        refine ⟨k1, ?_⟩
        unfold cntN at k2 ⊢
        rw [List.filter_cons]
        have : eqN t.nm a = true := hq
        rw [this, if_pos rfl, List.length_cons, k2]
      · rw [if_neg hl, if_neg hl, if_neg (by omega), if_neg (by omega)]
        refine ⟨?_, k2⟩
        show (if isT a (decT t) = true then (decT t).l else leftT a (tickT L)) = t.l - 1
        have : isT a (decT t) = true := hq
        rw [this, if_pos rfl]
        rfl
    | false =>
      have e : leftT a (t :: L) = leftT a L := by
        show (if isT a t = true then t.l else leftT a L) = leftT a L
        rw [hq]
        simp
      rw [e]
      refine ⟨?_, ?_⟩
      · split
        · exact h1
        · show (if isT a (decT t) = true then (decT t).l else leftT a (tickT L)) = _
          have : isT a (decT t) = false := hq
          rw [this]
          simpa using h1
      · split
        · unfold cntN at h2 ⊢
          rw [List.filter_cons]
          have : eqN t.nm a = false := hq
          rw [this]
          simpa using h2
        · exact h2
/-- what is left of it behind so many ticks -/
def restN (N now : Int) : Int := if now < N then N - now else 0
theorem rest_tick {N now : Int} : (if restN N now ≤ 1 then 0 else restN N now - 1) = restN N (now + 1) := by
  unfold restN
  by_cases h1 : now < N
  · rw [if_pos h1]
    by_cases h2 : now + 1 < N
    · rw [if_pos h2, if_neg (by omega)]
      omega
    · rw [if_neg h2, if_pos (by omega)]
  · rw [if_neg h1, if_neg (show ¬ (now + 1 < N) by omega)]
    rfl
theorem rest_one {N now : Int} : restN N now = 1 ↔ now + 1 = N := by
  unfold restN
  split <;> omega
theorem rest_pos {N now : Int} : decide (0 < restN N now) = decide (now < N) := by
  rw [decide_eq_decide]
  unfold restN
  split <;> omega
theorem cntN_take (a : Nm) (N : List Nm) (i : Nat) (hi : i < N.length) : cntN a (N.take (i + 1)) = cntN a (N.take i) + if eqN N[i] a = true then 1 else 0 := by
  unfold cntN
  rw [List.take_succ_eq_append_getElem hi, List.filter_append, List.length_append, List.filter_cons]
  congr 1
  cases eqN N[i] a <;> rfl
end Go.Proofs.Ytchhaolgmdhnmaa
