/-
The air as plain facts: who is on, and how far; a tick; what it tells.
-/
import Derived.Test.YtgfipndilngfbaaSlices
namespace Go.Proofs.Ytgfipndilngfbaa
set_option maxRecDepth 20000
/-- a burst, and what is left of it; clear: to whom the present frame was clear in its ticks that went by -/
structure Bu where
  lead : Nat
  tail : Nat
  frames : List ByteArray
  went : Nat
  clear : Nat → Bool
/-- what comes -/
structure Gt where
  from_ : Nat
  to : Nat
  bytes : ByteArray
def longN (f : ByteArray) : Nat := f.size / 40 + 1
def sumL (l : List ByteArray) : Nat := (l.map longN).sum
def Bu.left (b : Bu) : Nat := b.lead + b.tail + sumL b.frames - b.went
/-- who is on -/
abbrev Ai := Nat → Option Bu
def Ai.quiet : Ai := fun _ => none
def Ai.put (S : Ai) (i : Nat) (b : Bu) : Ai := fun k => if k = i then some b else S k
/-- does one hear somebody who is on, but for one? -/
def hearsO (H : Nat → Nat → Bool) (n : Nat) (S : Ai) (j but : Nat) : Bool := (List.range n).any fun k => decide (k + 1 ≠ but) && ((S (k + 1)).isSome && H j (k + 1))
/-- is a frame clear to one in this tick, and was it ahead? -/
def clearB (H : Nat → Nat → Bool) (n : Nat) (S : Ai) (i : Nat) (b : Bu) (j : Nat) : Bool := (decide (b.went = 0) || b.clear j) && (H j i && (!(S j).isSome && !hearsO H n S j i))
def noneC : Nat → Bool := fun _ => false
def stepB (H : Nat → Nat → Bool) (n : Nat) (S : Ai) (i : Nat) (b : Bu) : Bu :=
  if 0 < b.lead then ⟨b.lead - 1, b.tail, b.frames, b.went, b.clear⟩
  else match b.frames with
    | [] => ⟨0, b.tail - 1, [], 0, noneC⟩
    | f :: r => if b.went + 1 = longN f then ⟨0, b.tail, r, 0, noneC⟩ else ⟨0, b.tail, f :: r, b.went + 1, clearB H n S i b⟩
def comesB (H : Nat → Nat → Bool) (n : Nat) (S : Ai) (i : Nat) (b : Bu) : List Gt :=
  if 0 < b.lead then []
  else match b.frames with
    | [] => []
    | f :: _ => if b.went + 1 = longN f then (((List.range n).map (· + 1)).filter (clearB H n S i b)).map fun j => ⟨i, j, f⟩ else []
def tickS (H : Nat → Nat → Bool) (n : Nat) (S : Ai) : Ai := fun i => (S i).bind fun b => if (stepB H n S i b).left = 0 then none else some (stepB H n S i b)
def toldS (H : Nat → Nat → Bool) (n : Nat) (S : Ai) : List Gt := (List.range n).flatMap fun k => match S (k + 1) with
  | none => []
  | some b => comesB H n S (k + 1) b
/-- all hear each other -/
def fullH (n : Nat) : Nat → Nat → Bool := fun j i => decide (1 ≤ j ∧ j ≤ n ∧ 1 ≤ i ∧ i ≤ n ∧ j ≠ i)
theorem quiet_hears (H : Nat → Nat → Bool) (n j but : Nat) : hearsO H n Ai.quiet j but = false := by
  unfold hearsO Ai.quiet
  rw [List.any_eq_false]
  intro k _
  simp
/-! ## some that send one frame each, all as long, from one tick on -/
/-- to whom one's frame is clear then -/
def clC (n : Nat) (P : Nat → Bool) (i j : Nat) : Bool := fullH n j i && (!P j && !(List.range n).any fun k => decide (k + 1 ≠ i) && (P (k + 1) && fullH n j (k + 1)))
def crowdS (n : Nat) (P : Nat → Bool) (fr : Nat → ByteArray) (t : Nat) : Ai := fun i => if P i then some ⟨0, 0, [fr i], t, fun j => decide (0 < t) && clC n P i j⟩ else none
theorem crowd_some (n : Nat) (P : Nat → Bool) (fr : Nat → ByteArray) (t i : Nat) : (crowdS n P fr t i).isSome = P i := by
  unfold crowdS
  cases P i <;> rfl
theorem crowd_hears (n : Nat) (P : Nat → Bool) (fr : Nat → ByteArray) (t j but : Nat) : hearsO (fullH n) n (crowdS n P fr t) j but = (List.range n).any fun k => decide (k + 1 ≠ but) && (P (k + 1) && fullH n j (k + 1)) := by
  unfold hearsO
  congr 1
  funext k
  rw [crowd_some]
theorem crowd_clear (n : Nat) (P : Nat → Bool) (fr : Nat → ByteArray) (t i : Nat) : clearB (fullH n) n (crowdS n P fr t) i ⟨0, 0, [fr i], t, fun j => decide (0 < t) && clC n P i j⟩ = clC n P i := by
  funext j
  unfold clearB
  rw [crowd_some, crowd_hears]
  show ((decide (t = 0) || (decide (0 < t) && clC n P i j)) && clC n P i j) = clC n P i j
  by_cases h : t = 0
  · rw [decide_eq_true h]
    simp
  · rw [decide_eq_false h, decide_eq_true (show 0 < t by omega)]
    simp
/-- what comes with the last tick -/
def crowdT (n : Nat) (P : Nat → Bool) (fr : Nat → ByteArray) : List Gt := (List.range n).flatMap fun k => if P (k + 1) then (((List.range n).map (· + 1)).filter (clC n P (k + 1))).map fun j => ⟨k + 1, j, fr (k + 1)⟩ else []
theorem crowd_step (n : Nat) (P : Nat → Bool) (fr : Nat → ByteArray) (m t : Nat) (hm : ∀ i, P i = true → longN (fr i) = m) (ht : t + 1 < m) :
    tickS (fullH n) n (crowdS n P fr t) = crowdS n P fr (t + 1) ∧ toldS (fullH n) n (crowdS n P fr t) = [] := by
  constructor
  · funext i
    cases hp : P i
    · simp only [tickS, crowdS, hp]
      rfl
    · have hl := hm i hp
      have e1 : crowdS n P fr t i = some ⟨0, 0, [fr i], t, fun j => decide (0 < t) && clC n P i j⟩ := by simp only [crowdS, hp, if_true]
      have e2 : crowdS n P fr (t + 1) i = some ⟨0, 0, [fr i], t + 1, fun j => decide (0 < t + 1) && clC n P i j⟩ := by simp only [crowdS, hp, if_true]
      have e3 : stepB (fullH n) n (crowdS n P fr t) i ⟨0, 0, [fr i], t, fun j => decide (0 < t) && clC n P i j⟩ = ⟨0, 0, [fr i], t + 1, fun j => decide (0 < t + 1) && clC n P i j⟩ := by
        unfold stepB
        dsimp only
        rw [if_neg (Nat.lt_irrefl 0), if_neg (by omega), crowd_clear]
        have : (fun j => decide (0 < t + 1) && clC n P i j) = clC n P i := by
          funext j
          rw [decide_eq_true (Nat.succ_pos t), Bool.true_and]
        rw [this]
      rw [e2]
      unfold tickS
      rw [e1]
      dsimp only [Option.bind]
      rw [e3]
      have e4 : (Bu.left ⟨0, 0, [fr i], t + 1, fun j => decide (0 < t + 1) && clC n P i j⟩) = m - (t + 1) := by
        simp only [Bu.left, sumL, List.map_cons, List.map_nil, List.sum_cons, List.sum_nil, hl]
        all_goals omega
      rw [e4, if_neg (by omega)]
  · unfold toldS
    rw [List.flatMap_eq_nil_iff]
    intro k _
    cases hp : P (k + 1)
    · simp only [crowdS, hp]
      rfl
    · have e1 : crowdS n P fr t (k + 1) = some ⟨0, 0, [fr (k + 1)], t, fun j => decide (0 < t) && clC n P (k + 1) j⟩ := by simp only [crowdS, hp, if_true]
      have hl := hm (k + 1) hp
      rw [e1]
      dsimp only
      unfold comesB
      dsimp only
      rw [if_neg (Nat.lt_irrefl 0), if_neg (by omega)]
theorem crowd_last (n : Nat) (P : Nat → Bool) (fr : Nat → ByteArray) (m t : Nat) (hm : ∀ i, P i = true → longN (fr i) = m) (ht : t + 1 = m) :
    tickS (fullH n) n (crowdS n P fr t) = Ai.quiet ∧ toldS (fullH n) n (crowdS n P fr t) = crowdT n P fr := by
  constructor
  · funext i
    cases hp : P i
    · simp only [tickS, crowdS, hp]
      rfl
    · have hl := hm i hp
      have e1 : crowdS n P fr t i = some ⟨0, 0, [fr i], t, fun j => decide (0 < t) && clC n P i j⟩ := by simp only [crowdS, hp, if_true]
      unfold tickS
      rw [e1]
      dsimp only [Option.bind]
      have e3 : stepB (fullH n) n (crowdS n P fr t) i ⟨0, 0, [fr i], t, fun j => decide (0 < t) && clC n P i j⟩ = ⟨0, 0, [], 0, noneC⟩ := by
        unfold stepB
        dsimp only
        rw [if_neg (Nat.lt_irrefl 0), if_pos (by omega)]
      rw [e3]
      rfl
  · unfold toldS crowdT
    congr 1
    funext k
    cases hp : P (k + 1)
    · simp only [crowdS, hp]
      rfl
    · have e1 : crowdS n P fr t (k + 1) = some ⟨0, 0, [fr (k + 1)], t, fun j => decide (0 < t) && clC n P (k + 1) j⟩ := by simp only [crowdS, hp, if_true]
      have hl := hm (k + 1) hp
      rw [e1]
      dsimp only
      unfold comesB
      dsimp only
      rw [if_neg (Nat.lt_irrefl 0), if_pos (by omega), crowd_clear, if_pos rfl]
/-- how many send -/
def sendN (n : Nat) (P : Nat → Bool) : Nat := (List.range n).countP fun k => P (k + 1)
theorem clC_two (n : Nat) (P : Nat → Bool) (i k j : Nat) (hk : 1 ≤ k ∧ k ≤ n) (hne : k ≠ i) (hp : P k = true) : clC n P i j = false := by
  unfold clC
  by_cases hj : j = k
  · subst hj
    rw [hp]
    simp
  · cases hf : fullH n j i
    · rfl
    · unfold fullH at hf
      rw [decide_eq_true_eq] at hf
      have : ((List.range n).any fun k => decide (k + 1 ≠ i) && (P (k + 1) && fullH n j (k + 1))) = true := by
        rw [List.any_eq_true]
        refine ⟨k - 1, by rw [List.mem_range]; omega, ?_⟩
        rw [show k - 1 + 1 = k by omega, hp]
        unfold fullH
        rw [decide_eq_true hne, decide_eq_true (show 1 ≤ j ∧ j ≤ n ∧ 1 ≤ k ∧ k ≤ n ∧ j ≠ k by omega)]
        rfl
      rw [this]
      simp
theorem clC_one (n : Nat) (P : Nat → Bool) (i j : Nat) (ho : ∀ k, P k = true → k = i) : clC n P i j = (fullH n j i && !P j) := by
  unfold clC
  have : ((List.range n).any fun k => decide (k + 1 ≠ i) && (P (k + 1) && fullH n j (k + 1))) = false := by
    rw [List.any_eq_false]
    intro k _
    cases hp : P (k + 1)
    · simp
    · have := ho _ hp
      simp [this]
  rw [this]
  simp
/-- two different ones -/
theorem two_of_count : ∀ (l : List Nat) (p : Nat → Bool), l.Nodup → 2 ≤ l.countP p → ∀ i, ∃ k ∈ l, k ≠ i ∧ p k = true
  | [], _, _, h, _ => by simp at h
  | a :: l, p, hd, h, i => by
    rw [List.countP_cons] at h
    rw [List.nodup_cons] at hd
    by_cases ha : p a = true
    · by_cases hi : a = i
      · rw [if_pos ha] at h
        have h1 : 0 < l.countP p := by omega
        obtain ⟨k, hk, hpk⟩ := List.countP_pos_iff.1 h1
        exact ⟨k, List.mem_cons_of_mem _ hk, fun e => hd.1 (by rw [hi, ← e]; exact hk), hpk⟩
      · exact ⟨a, List.mem_cons_self, hi, ha⟩
    · rw [if_neg ha] at h
      obtain ⟨k, hk, h1, h2⟩ := two_of_count l p hd.2 (by omega) i
      exact ⟨k, List.mem_cons_of_mem _ hk, h1, h2⟩
theorem one_of_count : ∀ (l : List Nat) (p : Nat → Bool), l.countP p ≤ 1 → l.Nodup → ∀ i k, i ∈ l → k ∈ l → p i = true → p k = true → i = k
  | [], _, _, _, _, _, hi, _, _, _ => by simp at hi
  | a :: l, p, h, hd, i, k, hi, hk, hpi, hpk => by
    rw [List.countP_cons] at h
    rw [List.nodup_cons] at hd
    rcases List.mem_cons.1 hi with e1 | e1
    · rcases List.mem_cons.1 hk with e2 | e2
      · rw [e1, e2]
      · rw [← e1, if_pos hpi] at h
        have : 0 < l.countP p := List.countP_pos_iff.2 ⟨k, e2, hpk⟩
        omega
    · rcases List.mem_cons.1 hk with e2 | e2
      · rw [← e2, if_pos hpk] at h
        have : 0 < l.countP p := List.countP_pos_iff.2 ⟨i, e1, hpi⟩
        omega
      · exact one_of_count l p (by omega) hd.2 i k e1 e2 hpi hpk
/-- nobody takes anything when several send -/
theorem crowd_many (n : Nat) (P : Nat → Bool) (fr : Nat → ByteArray) (h : sendN n P ≠ 1) : crowdT n P fr = [] := by
  unfold crowdT
  rw [List.flatMap_eq_nil_iff]
  intro k hk
  cases hp : P (k + 1)
  · rfl
  · rw [if_pos rfl, List.map_eq_nil_iff, List.filter_eq_nil_iff]
    intro j _
    have h1 : 0 < sendN n P := List.countP_pos_iff.2 ⟨k, hk, hp⟩
    obtain ⟨q, hq, hqk, hpq⟩ := two_of_count (List.range n) (fun k => P (k + 1)) List.nodup_range (by unfold sendN at *; omega) k
    rw [clC_two n P (k + 1) (q + 1) j (by rw [List.mem_range] at hq; omega) (by omega) hpq]
    simp
/-- one: all others take it -/
theorem crowd_single (n s : Nat) (P : Nat → Bool) (fr : Nat → ByteArray) (hs : s < n) (hP : ∀ k, P k = true ↔ k = s + 1) :
    crowdT n P fr = (((List.range n).map (· + 1)).filter fun j => decide (j ≠ s + 1)).map fun j => ⟨s + 1, j, fr (s + 1)⟩ := by
  have e : ∀ k ∈ List.range n, (if P (k + 1) then (((List.range n).map (· + 1)).filter (clC n P (k + 1))).map fun j => (⟨k + 1, j, fr (k + 1)⟩ : Gt) else []) = if k = s then (((List.range n).map (· + 1)).filter fun j => decide (j ≠ s + 1)).map fun j => ⟨s + 1, j, fr (s + 1)⟩ else [] := by
    intro k _
    by_cases hk : k = s
    · subst hk
      rw [if_pos ((hP _).2 rfl), if_pos rfl]
      congr 1
      apply List.filter_congr
      intro j hj
      rw [clC_one n P (k + 1) j (fun q hq => (hP q).1 hq)]
      obtain ⟨j', hj', rfl⟩ := List.mem_map.1 hj
      rw [List.mem_range] at hj'
      unfold fullH
      by_cases hjk : j' + 1 = k + 1
      · rw [decide_eq_false (show ¬ (1 ≤ j' + 1 ∧ j' + 1 ≤ n ∧ 1 ≤ k + 1 ∧ k + 1 ≤ n ∧ j' + 1 ≠ k + 1) by omega), decide_eq_false (show ¬ (j' + 1 ≠ k + 1) by omega)]
        rfl
      · rw [decide_eq_true (show 1 ≤ j' + 1 ∧ j' + 1 ≤ n ∧ 1 ≤ k + 1 ∧ k + 1 ≤ n ∧ j' + 1 ≠ k + 1 by omega), decide_eq_true (show j' + 1 ≠ k + 1 by omega)]
        have : P (j' + 1) = false := by
          cases hq : P (j' + 1)
          · rfl
          · exact absurd ((hP _).1 hq) hjk
        rw [this]
        rfl
    · rw [if_neg hk]
      cases hp : P (k + 1)
      · rfl
      · exact absurd ((hP _).1 hp) (by omega)
  unfold crowdT
  have ef : ∀ (f g : Nat → List Gt), (∀ k ∈ List.range n, f k = g k) → (List.range n).flatMap f = (List.range n).flatMap g := fun f g h => congrArg List.flatten (List.map_congr_left h)
  rw [ef _ _ e]
  have e2 : List.range n = List.range s ++ s :: (List.range (n - s - 1)).map (s + 1 + ·) := by
    have : n = s + (1 + (n - s - 1)) := by omega
    conv => lhs; rw [this, List.range_add, List.range_add]
    simp [Nat.add_assoc]
  generalize (((List.range n).map (· + 1)).filter fun j => decide (j ≠ s + 1)).map (fun j => (⟨s + 1, j, fr (s + 1)⟩ : Gt)) = X
  rw [e2, List.flatMap_append, List.flatMap_cons, if_pos rfl]
  have z1 : (List.range s).flatMap (fun k => if k = s then X else []) = [] := by
    rw [List.flatMap_eq_nil_iff]
    intro k hk
    rw [List.mem_range] at hk
    rw [if_neg (by omega)]
  have z2 : ((List.range (n - s - 1)).map (s + 1 + ·)).flatMap (fun k => if k = s then X else []) = [] := by
    rw [List.flatMap_eq_nil_iff]
    intro k hk
    obtain ⟨q, _, rfl⟩ := List.mem_map.1 hk
    rw [if_neg (by omega)]
  rw [z1, z2]
  simp
theorem count_range (s : Nat) : ∀ n, (List.range n).countP (fun k => decide (k = s)) = if s < n then 1 else 0
  | 0 => by simp
  | n + 1 => by
    rw [List.range_succ, List.countP_append, count_range s n, List.countP_cons, List.countP_nil]
    by_cases h1 : n = s
    · subst h1
      simp
    · have hd : decide (n = s) = false := decide_eq_false h1
      rw [hd]
      by_cases h2 : s < n
      · rw [if_pos h2, if_pos (show s < n + 1 by omega)]
        rfl
      · rw [if_neg h2, if_neg (show ¬ s < n + 1 by omega)]
        rfl
theorem count_others (n s : Nat) (hs : s < n) : (((List.range n).map (· + 1)).filter fun j => decide (j ≠ s + 1)).length = n - 1 := by
  rw [← List.countP_eq_length_filter, List.countP_map]
  have e := List.length_eq_countP_add_countP (fun k => decide (k ≠ s)) (l := List.range n)
  rw [List.length_range] at e
  have h1 : (List.range n).countP (fun k => !decide (k ≠ s)) = 1 := by
    have : (List.range n).countP (fun k => !decide (k ≠ s)) = (List.range n).countP (fun k => decide (k = s)) := by
      apply List.countP_congr
      intro k _
      by_cases q : k = s <;> simp [q]
    rw [this, count_range, if_pos hs]
  have h2 : (List.range n).countP ((fun j => decide (j ≠ s + 1)) ∘ fun x => x + 1) = (List.range n).countP (fun k => decide (k ≠ s)) := by
    apply List.countP_congr
    intro k _
    simp
  rw [h2]
  have h3 : (List.range n).countP (fun a => decide (¬(decide (a ≠ s)) = true)) = (List.range n).countP (fun k => !decide (k ≠ s)) := by
    apply List.countP_congr
    intro k _
    simp
  rw [h3, h1] at e
  omega
end Go.Proofs.Ytgfipndilngfbaa
