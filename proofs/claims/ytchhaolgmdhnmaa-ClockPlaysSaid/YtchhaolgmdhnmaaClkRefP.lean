/-
Where a timer stands; the document's list of dues and the landed one's list of what is left.
-/
import Derived.Test.YtchhaolgmdhnmaaClkPure
namespace Go.Proofs.Ytchhaolgmdhnmaa
open Go.RowKit
theorem atF_spec (a : Nm) : ∀ (L : List Tm) (m : Int), (atF a L m = -1 ∧ ∀ t ∈ L, isT a t = false) ∨ ∃ A t Z, L = A ++ t :: Z ∧ atF a L m = m + (A.length : Nat) ∧ isT a t = true ∧ ∀ s ∈ A, isT a s = false
  | [], m => Or.inl ⟨rfl, fun t h => by cases h⟩
  | t :: L, m => by
    unfold atF
    cases hq : isT a t with
    | true =>
      simp only [if_true]
      exact Or.inr ⟨[], t, L, rfl, by simp, hq, fun s h => by cases h⟩
    | false =>
      simp only [Bool.false_eq_true, if_false]
      rcases atF_spec a L (m + 1) with ⟨h1, h2⟩ | ⟨A, s, Z, h1, h2, h3, h4⟩
      · exact Or.inl ⟨h1, fun s hs => by
          rcases List.mem_cons.1 hs with rfl | e
          · exact hq
          · exact h2 s e⟩
      · refine Or.inr ⟨t :: A, s, Z, by rw [h1]; rfl, by rw [h2, List.length_cons]; omega, h3, fun r hr => ?_⟩
        rcases List.mem_cons.1 hr with rfl | e
        · exact hq
        · exact h4 r e
theorem stopT_split {a : Nm} {A Z : List Tm} {t : Tm} (hA : ∀ s ∈ A, isT a s = false) (ht : isT a t = true) (hp : (A ++ t :: Z).Pairwise fun s t => eqN s.nm t.nm = false) : stopT a (A ++ t :: Z) = A ++ Z ∧ cntT (isT a) (A ++ t :: Z) = 1 := by
  have hZ : ∀ s ∈ Z, isT a s = false := by
    intro s hs
    have h1 := (List.pairwise_append.1 hp).2.1
    have h2 := (List.pairwise_cons.1 h1).1 s hs
    cases hq : isT a s with
    | false => rfl
    | true =>
      rw [eqN_iff.1 ht, eqN_iff.1 hq, eqN_iff.2 rfl] at h2
      cases h2
  constructor
  · have e1 : stopT a A = A := stopT_none hA
    have e2 : stopT a Z = Z := stopT_none hZ
    unfold stopT at *
    rw [List.filter_append, List.filter_cons, ht, e1]
    simp [e2]
  · unfold cntT
    rw [List.filter_append, List.filter_cons, ht, if_pos rfl, List.filter_eq_nil_iff.2 (fun s hs => by rw [hA s hs]; simp), List.filter_eq_nil_iff.2 (fun s hs => by rw [hZ s hs]; simp)]
    rfl
theorem stopT_zero {a : Nm} {L : List Tm} (h : ∀ s ∈ L, isT a s = false) : cntT (isT a) L = 0 := by
  unfold cntT
  rw [List.filter_eq_nil_iff.2 (fun s hs => by rw [h s hs]; simp)]
  rfl
/-- when it is due -/
def addT (now : Int) (t : Tm) : Tm := ⟨t.k, t.n, now + t.l⟩
abbrev dueL (now : Int) (L : List Tm) : List Tm := L.map (addT now)
theorem atF_due (a : Nm) (now : Int) : ∀ (L : List Tm) (m : Int), atF a (dueL now L) m = atF a L m
  | [], _ => rfl
  | t :: L, m => by
    have ih := atF_due a now L (m + 1)
    show atF a (addT now t :: dueL now L) m = _
    unfold atF
    rw [ih]
    rfl
theorem filter_due (now : Int) (q q' : Tm → Bool) (L : List Tm) (h : ∀ t ∈ L, q' (addT now t) = q t) : (dueL now L).filter q' = dueL now (L.filter q) := by
  unfold dueL
  rw [List.filter_map]
  congr 1
  apply List.filter_congr
  intro t ht
  exact h t ht
theorem pair_due {now : Int} {L : List Tm} (h : L.Pairwise fun s t => eqN s.nm t.nm = false) : (dueL now L).Pairwise fun s t => eqN s.nm t.nm = false := List.pairwise_map.2 (h.imp fun q => q)
theorem stop_due (a : Nm) (now : Int) (L : List Tm) : stopT a (dueL now L) = dueL now (stopT a L) := filter_due now _ _ L (fun _ _ => rfl)
theorem cnt_due (q q' : Tm → Bool) (now : Int) (L : List Tm) (h : ∀ t ∈ L, q' (addT now t) = q t) : cntT q' (dueL now L) = cntT q L := by
  unfold cntT
  rw [filter_due now q q' L h, List.length_map]
/-- the document's Set, Tick -/
def rsetT (a : Nm) (x now : Int) (D : List Tm) : List Tm × Int :=
  if x < 1 ∨ 10000 < x then (D, 1) else if atF a D 0 < 0 ∧ D.length = 32 then (D, 6) else (stopT a D ++ [⟨a.k, a.n, now + x⟩], 0)
def nowT (now : Int) (t : Tm) : Bool := decide (t.l = now)
theorem left_at {L : List Tm} (h : ClkOk L) (a : Nm) : leftT a L = 0 ↔ atF a L 0 < 0 := by
  rw [leftT_none a L (fun t ht => (h.left t ht).1)]
  rcases atF_spec a L 0 with ⟨h1, h2⟩ | ⟨A, t, Z, rfl, h2, h3, h4⟩
  · rw [h1]
    exact ⟨fun _ => by omega, fun _ => h2⟩
  · rw [h2]
    constructor
    · intro q
      have := q t (by simp)
      rw [h3] at this
      cases this
    · intro q
      omega
theorem set_due {L : List Tm} (h : ClkOk L) (a : Nm) (x now : Int) : rsetT a x now (dueL now L) = (dueL now (setT a x L).1, (setT a x L).2) := by
  unfold rsetT setT
  rw [atF_due, List.length_map]
  have hl := left_at h a
  have h32 := h.len
  by_cases hx : x < 1 ∨ 10000 < x
  · rw [if_pos hx, if_pos hx]
  · rw [if_neg hx, if_neg hx]
    by_cases hf : atF a L 0 < 0 ∧ L.length = 32
    · rw [if_pos hf, if_pos ⟨hl.2 hf.1, by omega⟩]
    · rw [if_neg hf, if_neg (fun q => hf ⟨hl.1 q.1, by omega⟩), stop_due]
      simp [dueL, addT]
theorem due_dec (now : Int) (L : List Tm) : dueL now L = dueL (now + 1) (L.map decT) := by
  unfold dueL
  rw [List.map_map]
  apply List.map_congr_left
  intro t _
  show (⟨t.k, t.n, now + t.l⟩ : Tm) = ⟨t.k, t.n, now + 1 + (t.l - 1)⟩
  congr 1
  omega
theorem tick_due (now : Int) (L : List Tm) : (dueL now L).filter (nowT (now + 1)) = dueL (now + 1) ((L.map decT).filter goneT) ∧ (dueL now L).filter (fun t => !nowT (now + 1) t) = dueL (now + 1) (tickT L) := by
  have hq : ∀ t, nowT (now + 1) (addT (now + 1) t) = goneT t := by
    intro t
    show decide (now + 1 + t.l = now + 1) = decide (t.l = 0)
    rw [decide_eq_decide]
    omega
  constructor
  · rw [due_dec]
    exact filter_due (now + 1) _ _ _ (fun t _ => hq t)
  · rw [due_dec]
    exact filter_due (now + 1) _ _ _ (fun t _ => by rw [hq t])
/-- what is left, by when it is due -/
theorem left_due {L : List Tm} (a : Nm) : ∀ (m : Int), 0 ≤ m → (atF a L m < 0 → leftT a L = 0) ∧ (0 ≤ atF a L m → ∃ A t Z, L = A ++ t :: Z ∧ atF a L m = m + (A.length : Nat) ∧ leftT a L = t.l) := by
  induction L with
  | nil => intro m _; exact ⟨fun _ => rfl, fun h => by simp [atF] at h⟩
  | cons t L ih =>
    intro m hm
    unfold atF leftT
    cases hq : isT a t with
    | true =>
      simp only [if_true]
      exact ⟨fun h => by omega, fun _ => ⟨[], t, L, rfl, by simp, rfl⟩⟩
    | false =>
      simp only [Bool.false_eq_true, if_false]
      obtain ⟨h1, h2⟩ := ih (m + 1) (by omega)
      refine ⟨h1, fun h => ?_⟩
      obtain ⟨A, s, Z, e1, e2, e3⟩ := h2 h
      exact ⟨t :: A, s, Z, by rw [e1]; rfl, by rw [e2, List.length_cons]; omega, e3⟩
end Go.Proofs.Ytchhaolgmdhnmaa
