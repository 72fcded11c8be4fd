/-
A box as plain facts: the messages that have pieces left, each with these; the document's one list of pieces, each with its message's number.
-/
import Derived.Test.YtchjljmcgjlkiaaSegRun
namespace Go.Proofs.Ytchjljmcgjlkiaa
/-- a box: how many messages were put; the pieces of each that has some left -/
structure Bx where
  cnt : Int
  M : List (List Pc)
def noB : Bx := ⟨0, []⟩
/-- what an attempt to put answers -/
def putErrB (n1 pid : Int) (text : ByteArray) (b : Bx) : Int := if (splitD pid text n1).2 ≠ 0 then (splitD pid text n1).2 else if b.M.length = 8 then 6 else 0
def putB (n1 pid : Int) (text : ByteArray) (b : Bx) : Bx := if putErrB n1 pid text b = 0 then ⟨b.cnt + 1, b.M ++ [(splitD pid text n1).1]⟩ else b
/-- what is left behind the first piece of a message -/
def behind : List Pc → List (List Pc) → List (List Pc)
  | [], R => R
  | p :: ps, R => (p :: ps) :: R
def nextM : List (List Pc) → List (List Pc) × Pc × Bool
  | (p :: ps) :: R => (behind ps R, p, true)
  | M => (M, zeroP, false)
def nextB (b : Bx) : Bx × Pc × Bool := (⟨b.cnt, (nextM b.M).1⟩, (nextM b.M).2)
def leftM (M : List (List Pc)) : Nat := (M.map List.length).sum
/-- what holds of a box -/
structure BOk (b : Bx) : Prop where
  many : b.M.length ≤ 8
  some_ : ∀ m ∈ b.M, m ≠ []
  few : ∀ m ∈ b.M, m.length ≤ 45
  small : ∀ m ∈ b.M, ∀ p ∈ m, p.info.size ≤ 256
theorem noB_ok : BOk noB := ⟨by simp [noB], by simp [noB], by simp [noB], by simp [noB]⟩
theorem split_good {pid : Int} {text : ByteArray} {n1 : Int} (h : (splitD pid text n1).2 = 0) : n1 ≤ 256 ∧ (splitD pid text n1).1 ≠ [] ∧ (splitD pid text n1).1.length ≤ 45 ∧ ∀ p ∈ (splitD pid text n1).1, p.info.size ≤ 256 := by
  have hsm := split_small pid text n1
  have hth := (through pid text n1 h).1
  have hn : n1 ≤ 256 := by
    unfold splitD at h
    split at h
    · cases h
    · omega
  refine ⟨hn, fun e => by rw [e] at hth; simp at hth, ?_, fun p hp => by have := hsm p hp; omega⟩
  unfold splitD at h ⊢
  split at h
  · cases h
  · split at h
    · cases h
    · rename_i h1 h2
      rw [if_neg h1, if_neg h2]
      split
      · simp
      · have := chunk_count (n1.toNat - 1) (by omega) _ (byteI pid :: text.data.toList) (Nat.le_refl _)
        have e : text.data.toList.length = text.size := by simp
        rw [List.length_cons, e] at this
        show (heads true _).length ≤ 45
        rw [heads_length]
        omega
theorem putB_no {n1 pid : Int} {text : ByteArray} {b : Bx} (h : putErrB n1 pid text b ≠ 0) : putB n1 pid text b = b := if_neg h
theorem putB_yes {n1 pid : Int} {text : ByteArray} {b : Bx} (h : putErrB n1 pid text b = 0) : putB n1 pid text b = ⟨b.cnt + 1, b.M ++ [(splitD pid text n1).1]⟩ := if_pos h
theorem putErr_zero {n1 pid : Int} {text : ByteArray} {b : Bx} (h : putErrB n1 pid text b = 0) : (splitD pid text n1).2 = 0 ∧ b.M.length ≠ 8 := by
  unfold putErrB at h
  split at h
  · rename_i h1
    exact absurd h h1
  · rename_i h1
    split at h
    · cases h
    · rename_i h2
      exact ⟨Classical.byContradiction h1, h2⟩
theorem putB_ok {n1 pid : Int} {text : ByteArray} {b : Bx} (hb : BOk b) : BOk (putB n1 pid text b) := by
  by_cases h : putErrB n1 pid text b = 0
  · rw [putB_yes h]
    obtain ⟨h1, h2⟩ := putErr_zero h
    obtain ⟨-, g1, g2, g3⟩ := split_good h1
    have h3 := hb.many
    refine ⟨by simp; omega, fun m hm => ?_, fun m hm => ?_, fun m hm => ?_⟩
    · rcases List.mem_append.1 hm with hm | hm
      · exact hb.some_ m hm
      · rw [List.mem_singleton.1 hm]; exact g1
    · rcases List.mem_append.1 hm with hm | hm
      · exact hb.few m hm
      · rw [List.mem_singleton.1 hm]; exact g2
    · rcases List.mem_append.1 hm with hm | hm
      · exact hb.small m hm
      · rw [List.mem_singleton.1 hm]; exact g3
  · rw [putB_no h]; exact hb
theorem nextB_ok {b : Bx} (hb : BOk b) : BOk (nextB b).1 := by
  obtain ⟨c, M⟩ := b
  match M, hb with
  | [], hb => exact hb
  | [] :: R, hb => exact hb
  | [p] :: R, hb =>
    have := hb.many
    exact ⟨by simp [nextB, nextM, behind] at this ⊢; omega, fun m hm => hb.some_ m (List.mem_cons_of_mem _ hm), fun m hm => hb.few m (List.mem_cons_of_mem _ hm), fun m hm => hb.small m (List.mem_cons_of_mem _ hm)⟩
  | (p :: q :: ps) :: R, hb =>
    refine ⟨hb.many, fun m hm => ?_, fun m hm => ?_, fun m hm => ?_⟩
    · rcases List.mem_cons.1 hm with rfl | hm
      · simp
      · exact hb.some_ m (List.mem_cons_of_mem _ hm)
    · rcases List.mem_cons.1 hm with rfl | hm
      · have := hb.few _ List.mem_cons_self
        simp at this ⊢; omega
      · exact hb.few m (List.mem_cons_of_mem _ hm)
    · rcases List.mem_cons.1 hm with rfl | hm
      · exact fun x hx => hb.small _ List.mem_cons_self x (List.mem_cons_of_mem _ hx)
      · exact hb.small m (List.mem_cons_of_mem _ hm)
theorem left_le {b : Bx} (hb : BOk b) : leftM b.M ≤ 360 := by
  have h : ∀ M : List (List Pc), (∀ m ∈ M, m.length ≤ 45) → leftM M ≤ 45 * M.length := by
    intro M
    induction M with
    | nil => intro _; simp [leftM]
    | cons m R ih =>
      intro h
      have h1 := ih (fun x hx => h x (List.mem_cons_of_mem _ hx))
      have h2 := h m List.mem_cons_self
      unfold leftM at h1 ⊢
      simp only [List.map_cons, List.sum_cons, List.length_cons]
      omega
  have h1 := h b.M hb.few
  have h2 := hb.many
  omega
/-- the document's list: numbers ahead of pieces -/
def tagB : Int → List (List Pc) → List (Int × Pc)
  | _, [] => []
  | t, m :: R => m.map (fun p => (t, p)) ++ tagB (t + 1) R
theorem tag_append : ∀ (M N : List (List Pc)) (t : Int), tagB t (M ++ N) = tagB t M ++ tagB (t + M.length) N
  | [], N, t => by simp [tagB]
  | m :: R, N, t => by
    simp only [List.cons_append, tagB, tag_append R N (t + 1), List.append_assoc, List.length_cons]
    congr 3
    omega
theorem tag_one (t : Int) (m : List Pc) : tagB t [m] = m.map (fun p => (t, p)) := by simp [tagB]
theorem tag_length : ∀ (M : List (List Pc)) (t : Int), (tagB t M).length = leftM M
  | [], t => rfl
  | m :: R, t => by simp [tagB, leftM, tag_length R (t + 1)]
theorem tag_low : ∀ (M : List (List Pc)) (t : Int), ∀ x ∈ tagB t M, x.1 < t + M.length
  | [], t, x, h => by simp [tagB] at h
  | m :: R, t, x, h => by
    rcases List.mem_append.1 h with h | h
    · obtain ⟨p, -, rfl⟩ := List.mem_map.1 h
      simp only [List.length_cons]
      omega
    · have := tag_low R (t + 1) x h
      simp only [List.length_cons]
      omega
/-- how many messages' pieces stand among the first i -/
def runF (D : List (Int × Pc)) : Nat → Nat
  | 0 => 0
  | i + 1 => runF D i + if i = 0 ∨ (D[i]?.map Prod.fst) ≠ (D[i - 1]?.map Prod.fst) then 1 else 0
theorem runF_succ (D : List (Int × Pc)) (i : Nat) : runF D (i + 1) = runF D i + if i = 0 ∨ (D[i]?.map Prod.fst) ≠ (D[i - 1]?.map Prod.fst) then 1 else 0 := rfl
theorem runF_le (D : List (Int × Pc)) : ∀ i, runF D i ≤ i
  | 0 => Nat.le_refl _
  | i + 1 => by
    have := runF_le D i
    unfold runF
    split <;> omega
theorem runF_left (A B : List (Int × Pc)) : ∀ i, i ≤ A.length → runF (A ++ B) i = runF A i
  | 0, _ => rfl
  | i + 1, h => by
    unfold runF
    rw [runF_left A B i (by omega), List.getElem?_append_left (by omega), List.getElem?_append_left (by omega)]
theorem runF_more (A : List (Int × Pc)) (t : Int) (m : List Pc) (hA : ∀ x ∈ A, x.1 < t) (hm : m ≠ []) : ∀ k, k + 1 ≤ m.length → runF (A ++ m.map (fun p => (t, p))) (A.length + (k + 1)) = runF A A.length + 1
  | 0, h => by
    rw [show A.length + (0 + 1) = A.length + 1 from rfl, runF_succ, runF_left A _ A.length (Nat.le_refl _)]
    congr 1
    rw [if_pos]
    by_cases h0 : A.length = 0
    · exact Or.inl h0
    · right
      rw [List.getElem?_append_right (Nat.le_refl _), List.getElem?_append_left (by omega), Nat.sub_self, List.getElem?_map, List.getElem?_eq_getElem (show 0 < m.length by omega), List.getElem?_eq_getElem (show A.length - 1 < A.length by omega)]
      simp only [Option.map_some, ne_eq, Option.some.injEq]
      have := hA A[A.length - 1] (List.getElem_mem _)
      omega
  | k + 1, h => by
    have ih := runF_more A t m hA hm k (by omega)
    rw [show A.length + (k + 1 + 1) = (A.length + (k + 1)) + 1 from rfl, runF_succ, ih, if_neg]
    intro hc
    rcases hc with hc | hc
    · omega
    · apply hc
      have e1 : A.length + (k + 1) - A.length = k + 1 := by omega
      have e2 : A.length + (k + 1) - 1 - A.length = k := by omega
      rw [List.getElem?_append_right (by omega), List.getElem?_append_right (by omega), e1, e2, List.getElem?_map, List.getElem?_map, List.getElem?_eq_getElem (show k + 1 < m.length by omega), List.getElem?_eq_getElem (show k < m.length by omega)]
      rfl
/-- the document's count is how many messages there are -/
theorem runF_tag : ∀ (n : Nat) (M : List (List Pc)) (t : Int), M.length = n → (∀ m ∈ M, m ≠ []) → runF (tagB t M) (tagB t M).length = n
  | 0, M, t, h, _ => by
    obtain rfl : M = [] := List.length_eq_zero_iff.1 h
    rfl
  | n + 1, M, t, h, hs => by
    have hne : M ≠ [] := fun e => by rw [e] at h; simp at h
    obtain ⟨R, m, rfl⟩ : ∃ R m, M = R ++ [m] := ⟨M.dropLast, M.getLast hne, (List.dropLast_concat_getLast hne).symm⟩
    have hR : R.length = n := by simpa using h
    have ih := runF_tag n R t hR (fun x hx => hs x (List.mem_append_left _ hx))
    have hm : m ≠ [] := hs m (List.mem_append_right _ (List.mem_singleton.2 rfl))
    rw [tag_append, tag_one, hR]
    have hl : 0 < m.length := List.length_pos_iff.2 hm
    obtain ⟨k, hk⟩ : ∃ k, m.length = k + 1 := ⟨m.length - 1, by omega⟩
    have := runF_more (tagB t R) (t + n) m (fun x hx => by have := tag_low R t x hx; omega) hm k (by omega)
    rw [List.length_append, List.length_map, hk, this, ih]
/-- the document's box of this one -/
def docB (b : Bx) : List (Int × Pc) := tagB (b.cnt - b.M.length + 1) b.M
theorem doc_len {b : Bx} (hb : BOk b) : runF (docB b) (docB b).length = b.M.length := runF_tag _ _ _ rfl hb.some_
theorem doc_left (b : Bx) : (docB b).length = leftM b.M := tag_length _ _
theorem doc_put {n1 pid : Int} {text : ByteArray} {b : Bx} (h : putErrB n1 pid text b = 0) : docB (putB n1 pid text b) = docB b ++ (splitD pid text n1).1.map (fun p => (b.cnt + 1, p)) := by
  rw [putB_yes h]
  unfold docB
  simp only [List.length_append, List.length_cons, List.length_nil]
  rw [tag_append, tag_one]
  congr 2
  · congr 1
    omega
  · congr 1
    funext p
    congr 1
    omega
theorem doc_next {b : Bx} (hb : BOk b) : docB (nextB b).1 = (docB b).drop 1 ∧ ((docB b = [] ∧ (nextB b).2 = (zeroP, false)) ∨ ∃ x r, docB b = x :: r ∧ (nextB b).2 = (x.2, true)) := by
  obtain ⟨c, M⟩ := b
  match M, hb with
  | [], hb => exact ⟨rfl, Or.inl ⟨rfl, rfl⟩⟩
  | [] :: R, hb => exact absurd rfl (hb.some_ [] List.mem_cons_self)
  | [p] :: R, hb =>
    refine ⟨?_, Or.inr ⟨_, _, rfl, rfl⟩⟩
    unfold docB nextB nextM behind
    simp only [List.length_cons, tagB, List.map_cons, List.map_nil, List.cons_append, List.nil_append, List.drop_succ_cons, List.drop_zero]
    congr 1
    omega
  | (p :: q :: ps) :: R, hb =>
    refine ⟨?_, Or.inr ⟨_, _, rfl, rfl⟩⟩
    unfold docB nextB nextM behind
    simp only [List.length_cons, tagB, List.map_cons, List.cons_append, List.drop_succ_cons, List.drop_zero]
theorem left_next {b : Bx} (hb : BOk b) : leftM (nextB b).1.M = leftM b.M - 1 := by
  have h1 := (doc_next hb).1
  have h2 := congrArg List.length h1
  rw [doc_left, List.length_drop, doc_left] at h2
  exact h2
end Go.Proofs.Ytchjljmcgjlkiaa
