/-
A clock's timers as plain lists.
-/
import Derived.Test.YtchhaolgmdhnmaaMemK
namespace Go.Proofs.Ytchhaolgmdhnmaa
open Go.RowKit
/-- a name -/
structure Nm where
  k : Int
  n : Int
/-- a timer: its name, and what is left (of the document's: when it is due) -/
structure Tm where
  k : Int
  n : Int
  l : Int
def Tm.nm (t : Tm) : Nm := ⟨t.k, t.n⟩
/-- two names are one -/
def eqN (a b : Nm) : Bool := decide (a.k = b.k ∧ a.n = b.n)
theorem eqN_iff {a b : Nm} : eqN a b = true ↔ a = b := by
  obtain ⟨ak, an⟩ := a
  obtain ⟨bk, bn⟩ := b
  simp [eqN]
theorem eqN_comm (a b : Nm) : eqN a b = eqN b a := by
  unfold eqN
  rw [decide_eq_decide]
  constructor <;> (rintro ⟨h1, h2⟩; exact ⟨h1.symm, h2.symm⟩)
/-- the timer is of this name -/
def isT (a : Nm) (t : Tm) : Bool := eqN t.nm a
/-- what is left of it -/
def leftT (a : Nm) : List Tm → Int
  | [] => 0
  | t :: L => if isT a t = true then t.l else leftT a L
/-- where it stands; -1: nowhere -/
def atF (a : Nm) : List Tm → Int → Int
  | [], _ => -1
  | t :: L, i => if isT a t = true then i else atF a L (i + 1)
def stopT (a : Nm) (L : List Tm) : List Tm := L.filter fun t => !isT a t
def cntT (q : Tm → Bool) (L : List Tm) : Nat := (L.filter q).length
def setT (a : Nm) (x : Int) (L : List Tm) : List Tm × Int :=
  if x < 1 ∨ 10000 < x then (L, 1) else if leftT a L = 0 ∧ 32 ≤ L.length then (L, 6) else (stopT a L ++ [⟨a.k, a.n, x⟩], 0)
def decT (t : Tm) : Tm := ⟨t.k, t.n, t.l - 1⟩
def goneT (t : Tm) : Bool := decide (t.l = 0)
def numT (n : Int) (t : Tm) : Bool := decide (t.n = n)
def tickT (L : List Tm) : List Tm := (L.map decT).filter fun t => !goneT t
def toldT (L : List Tm) : List Nm := ((L.map decT).filter goneT).map Tm.nm
def onlyT (n : Int) (L : List Tm) : List Tm := L.filter fun t => !numT n t
/-- what holds of a clock's timers -/
structure ClkOk (L : List Tm) : Prop where
  len : L.length ≤ 32
  left : ∀ t ∈ L, 1 ≤ t.l ∧ t.l ≤ 10000
  one : L.Pairwise fun s t => eqN s.nm t.nm = false
theorem ClkOk.nil : ClkOk [] := ⟨by simp, (fun t h => by cases h), List.Pairwise.nil⟩
theorem ClkOk.filter {L : List Tm} (h : ClkOk L) (q : Tm → Bool) : ClkOk (L.filter q) :=
  ⟨Nat.le_trans (List.length_filter_le _ _) h.len, fun t ht => h.left t (List.mem_filter.1 ht).1, h.one.filter _⟩
theorem leftT_none (a : Nm) : ∀ L : List Tm, (∀ t ∈ L, 1 ≤ t.l) → (leftT a L = 0 ↔ ∀ t ∈ L, isT a t = false)
  | [], _ => by simp [leftT]
  | t :: L, h => by
    have ih := leftT_none a L (fun s hs => h s (List.mem_cons_of_mem _ hs))
    have h1 := h t List.mem_cons_self
    unfold leftT
    cases hq : isT a t with
    | true =>
      simp only [if_true, List.forall_mem_cons, hq]
      constructor
      · intro e; omega
      · rintro ⟨e, _⟩; cases e
    | false =>
      simp only [Bool.false_eq_true, if_false, List.forall_mem_cons, hq, true_and]
      exact ih
theorem leftT_bound {L : List Tm} (h : ClkOk L) (a : Nm) : 0 ≤ leftT a L ∧ leftT a L ≤ 10000 := by
  have hl := h.left
  clear h
  induction L with
  | nil => simp [leftT]
  | cons t L ih =>
    unfold leftT
    have := hl t List.mem_cons_self
    split
    · omega
    · exact ih (fun s hs => hl s (List.mem_cons_of_mem _ hs))
theorem stopT_none {a : Nm} {L : List Tm} (h : ∀ t ∈ L, isT a t = false) : stopT a L = L := by
  unfold stopT
  rw [List.filter_eq_self]
  intro t ht
  rw [h t ht]
  rfl
theorem pairwise_one {a : Nm} : ∀ {L : List Tm}, (L.Pairwise fun s t => eqN s.nm t.nm = false) → cntT (isT a) L ≤ 1
  | [], _ => by simp [cntT]
  | t :: L, h => by
    obtain ⟨h1, h2⟩ := List.pairwise_cons.1 h
    have ih := pairwise_one (a := a) h2
    unfold cntT at ih ⊢
    rw [List.filter_cons]
    cases hq : isT a t with
    | true =>
      have hz : L.filter (isT a) = [] := by
        rw [List.filter_eq_nil_iff]
        intro s hs hsq
        have e1 := eqN_iff.1 hq
        have e2 := eqN_iff.1 hsq
        have := h1 s hs
        rw [e1, e2, eqN_iff.2 rfl] at this
        cases this
      simp [hz]
    | false => simpa using ih
theorem stopT_len {a : Nm} {L : List Tm} : (stopT a L).length + cntT (isT a) L = L.length := by
  unfold stopT cntT
  induction L with
  | nil => rfl
  | cons t L ih =>
    rw [List.filter_cons, List.filter_cons]
    cases isT a t <;> simp <;> omega
theorem ClkOk.set {L : List Tm} (h : ClkOk L) (a : Nm) (x : Int) : ClkOk (setT a x L).1 := by
  unfold setT
  split
  · exact h
  · split
    · exact h
    · rename_i hx hf
      have hF := h.filter (fun t => !isT a t)
      refine ⟨?_, ?_, ?_⟩
      · rw [List.length_append]
        show (stopT a L).length + 1 ≤ 32
        have hl := stopT_len (a := a) (L := L)
        have h32 := h.len
        by_cases h0 : leftT a L = 0
        · omega
        · have : ¬ ∀ t ∈ L, isT a t = false := fun q => h0 ((leftT_none a L (fun t ht => (h.left t ht).1)).2 q)
          have hc : 0 < cntT (isT a) L := by
            refine Nat.pos_of_ne_zero fun q => this ?_
            have := List.length_eq_zero_iff.1 q
            intro t ht
            have := (List.filter_eq_nil_iff.1 this) t ht
            simpa using this
          omega
      · intro t ht
        rcases List.mem_append.1 ht with h1 | h1
        · exact hF.left t h1
        · rw [List.mem_singleton.1 h1]
          show 1 ≤ x ∧ x ≤ 10000
          omega
      · rw [List.pairwise_append]
        refine ⟨hF.one, List.pairwise_singleton _ _, fun s hs t ht => ?_⟩
        rw [List.mem_singleton.1 ht]
        have := (List.mem_filter.1 hs).2
        show isT a s = false
        simpa using this
theorem ClkOk.tick {L : List Tm} (h : ClkOk L) : ClkOk (tickT L) := by
  unfold tickT
  refine ⟨Nat.le_trans (List.length_filter_le _ _) (by rw [List.length_map]; exact h.len), ?_, ?_⟩
  · intro t ht
    obtain ⟨h1, h2⟩ := List.mem_filter.1 ht
    obtain ⟨s, hs, rfl⟩ := List.mem_map.1 h1
    have := h.left s hs
    have h3 : ¬ (s.l - 1 = 0) := by
      simp only [goneT, decT, Bool.not_eq_true'] at h2
      exact of_decide_eq_false h2
    show 1 ≤ s.l - 1 ∧ s.l - 1 ≤ 10000
    omega
  · refine List.Pairwise.filter _ (List.pairwise_map.2 ?_)
    exact h.one.imp fun q => q
end Go.Proofs.Ytchhaolgmdhnmaa
