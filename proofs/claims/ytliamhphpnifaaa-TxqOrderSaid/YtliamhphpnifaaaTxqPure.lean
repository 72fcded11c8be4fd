/-
Queues as plain facts: what waits, by class; what goes.
-/
import Derived.Test.YtliamhphpnifaaaSlices
namespace Go.Proofs.Ytliamhphpnifaaa
set_option maxRecDepth 20000
/-- a frame that waits -/
structure Ent where
  cls : Int
  key : Int
  fr : ByteArray
abbrev ofC (c : Int) (L : List Ent) : List Ent := L.filter fun e => decide (e.cls = c)
def sortE (L : List Ent) : List Ent := ofC 0 L ++ (ofC 1 L ++ ofC 2 L)
def okE (L : List Ent) : Prop := ∀ e ∈ L, 0 ≤ e.cls ∧ e.cls ≤ 2
theorem ofC_ofC (c d : Int) (L : List Ent) : ofC c (ofC d L) = if c = d then ofC c L else [] := by
  unfold ofC
  rw [List.filter_filter]
  by_cases h : c = d
  · rw [if_pos h]
    apply List.filter_congr
    intro e _
    rw [h]
    simp
  · rw [if_neg h, List.filter_eq_nil_iff]
    intro e _
    simp
    omega
theorem ofC_append (c : Int) (L M : List Ent) : ofC c (L ++ M) = ofC c L ++ ofC c M := List.filter_append ..
theorem ofC_sort (c : Int) (hc : 0 ≤ c ∧ c ≤ 2) (L : List Ent) : ofC c (sortE L) = ofC c L := by
  unfold sortE
  rw [ofC_append, ofC_append, ofC_ofC, ofC_ofC, ofC_ofC]
  obtain rfl | rfl | rfl : c = 0 ∨ c = 1 ∨ c = 2 := by omega
  · simp
  · simp
  · simp
theorem sort_append (L M : List Ent) : sortE (sortE L ++ M) = sortE (L ++ M) := by
  have e : ∀ c : Int, 0 ≤ c ∧ c ≤ 2 → ofC c (sortE L ++ M) = ofC c (L ++ M) := fun c hc => by rw [ofC_append, ofC_append, ofC_sort c hc]
  show ofC 0 (sortE L ++ M) ++ (ofC 1 (sortE L ++ M) ++ ofC 2 (sortE L ++ M)) = ofC 0 (L ++ M) ++ (ofC 1 (L ++ M) ++ ofC 2 (L ++ M))
  rw [e 0 (by omega), e 1 (by omega), e 2 (by omega)]
theorem sort_sort (L : List Ent) : sortE (sortE L) = sortE L := by
  have := sort_append L []
  rwa [List.append_nil, List.append_nil] at this
theorem sort_filter (p : Ent → Bool) (L : List Ent) : sortE (L.filter p) = (sortE L).filter p := by
  have e : ∀ c : Int, ofC c (L.filter p) = (ofC c L).filter p := fun c => by
    unfold ofC
    rw [List.filter_filter, List.filter_filter]
    apply List.filter_congr
    intro x _
    rw [Bool.and_comm]
  show ofC 0 (L.filter p) ++ (ofC 1 (L.filter p) ++ ofC 2 (L.filter p)) = (ofC 0 L ++ (ofC 1 L ++ ofC 2 L)).filter p
  rw [e, e, e, List.filter_append, List.filter_append]
theorem sort_perm (L : List Ent) (h : okE L) : (sortE L).Perm L := by
  have h1 := List.filter_append_perm (fun e : Ent => decide (e.cls = 0)) L
  have h2 := List.filter_append_perm (fun e : Ent => decide (e.cls = 1)) (L.filter fun e => !decide (e.cls = 0))
  have e1 : (L.filter fun e => !decide (e.cls = 0)).filter (fun e => decide (e.cls = 1)) = ofC 1 L := by
    rw [List.filter_filter]
    apply List.filter_congr
    intro e _
    by_cases q : e.cls = 1
    · simp [q]
    · simp [q]
  have e2 : (L.filter fun e => !decide (e.cls = 0)).filter (fun e => !decide (e.cls = 1)) = ofC 2 L := by
    rw [List.filter_filter]
    apply List.filter_congr
    intro e he
    have := h e he
    by_cases q : e.cls = 2
    · simp [q]
    · have : e.cls = 0 ∨ e.cls = 1 := by omega
      rcases this with q2 | q2 <;> simp [q2]
  rw [e1, e2] at h2
  exact (List.Perm.append_left _ h2).trans h1
theorem sort_ok (L : List Ent) : okE (sortE L) := by
  intro e he
  unfold sortE ofC at he
  simp only [List.mem_append, List.mem_filter, decide_eq_true_eq] at he
  omega
theorem ok_filter {L : List Ent} (h : okE L) (p : Ent → Bool) : okE (L.filter p) := fun e he => h e (List.mem_filter.1 he).1
theorem ok_drop {L : List Ent} (h : okE L) (k : Nat) : okE (L.drop k) := fun e he => h e (List.mem_of_mem_drop he)
/-- they stand by class -/
abbrev byCls (L : List Ent) : Prop := L.Pairwise fun a b => a.cls ≤ b.cls
theorem sort_by (L : List Ent) : byCls (sortE L) := by
  have one : ∀ c, byCls (ofC c L) := fun c => by
    refine List.pairwise_iff_forall_sublist.2 fun {a b} hs => ?_
    have ha : a ∈ ofC c L := hs.subset (by simp)
    have hb : b ∈ ofC c L := hs.subset (by simp)
    simp only [ofC, List.mem_filter, decide_eq_true_eq] at ha hb
    omega
  unfold sortE
  refine List.pairwise_append.2 ⟨one 0, List.pairwise_append.2 ⟨one 1, one 2, fun a ha b hb => ?_⟩, fun a ha b hb => ?_⟩
  · simp only [ofC, List.mem_filter, decide_eq_true_eq] at ha hb
    omega
  · simp only [ofC, List.mem_append, List.mem_filter, decide_eq_true_eq] at ha hb
    omega
theorem sort_fix : ∀ (L : List Ent), okE L → byCls L → sortE L = L
  | [], _, _ => rfl
  | e :: r, ho, hb => by
    have ih := sort_fix r (fun x hx => ho x (List.mem_cons_of_mem _ hx)) (List.pairwise_cons.1 hb).2
    have hle := (List.pairwise_cons.1 hb).1
    have he := ho e List.mem_cons_self
    have nil : ∀ c, c < e.cls → ofC c r = [] := fun c hc => by
      rw [List.filter_eq_nil_iff]
      intro x hx
      have := hle x hx
      simp
      omega
    unfold sortE at ih ⊢
    obtain q | q | q : e.cls = 0 ∨ e.cls = 1 ∨ e.cls = 2 := by omega
    · have f0 : ofC 0 (e :: r) = e :: ofC 0 r := by simp [ofC, q]
      have f1 : ofC 1 (e :: r) = ofC 1 r := by simp [ofC, q]
      have f2 : ofC 2 (e :: r) = ofC 2 r := by simp [ofC, q]
      rw [f0, f1, f2, List.cons_append, ih]
    · have f0 : ofC 0 (e :: r) = [] := by
        have := nil 0 (by omega)
        simpa [ofC, q] using this
      have f1 : ofC 1 (e :: r) = e :: ofC 1 r := by simp [ofC, q]
      have f2 : ofC 2 (e :: r) = ofC 2 r := by simp [ofC, q]
      rw [nil 0 (by omega), List.nil_append] at ih
      rw [f0, f1, f2, List.nil_append, List.cons_append, ih]
    · have f0 : ofC 0 (e :: r) = [] := by
        have := nil 0 (by omega)
        simpa [ofC, q] using this
      have f1 : ofC 1 (e :: r) = [] := by
        have := nil 1 (by omega)
        simpa [ofC, q] using this
      have f2 : ofC 2 (e :: r) = e :: ofC 2 r := by simp [ofC, q]
      rw [nil 0 (by omega), nil 1 (by omega), List.nil_append, List.nil_append] at ih
      rw [f0, f1, f2, List.nil_append, List.nil_append, ih]
theorem sort_drop (L : List Ent) (k : Nat) : sortE ((sortE L).drop k) = (sortE L).drop k :=
  sort_fix _ (ok_drop (sort_ok L) k) ((sort_by L).sublist (List.drop_sublist k _))
/-- what Put answers -/
def putErr (c : Int) (n : Nat) (L : List Ent) : Int := if c < 0 ∨ 2 < c then 1 else if 333 < n then 5 else if 16 ≤ L.length ∨ 8 ≤ (ofC c L).length then 6 else 0
def putE (c k : Int) (f : ByteArray) (L : List Ent) : List Ent := if putErr c f.size L = 0 then L ++ [⟨c, k, f⟩] else L
theorem put_sort (c k : Int) (f : ByteArray) (L : List Ent) (h : okE L) : putErr c f.size (sortE L) = putErr c f.size L ∧ sortE (putE c k f (sortE L)) = sortE (putE c k f L) := by
  have e : putErr c f.size (sortE L) = putErr c f.size L := by
    unfold putErr
    by_cases hc : c < 0 ∨ 2 < c
    · rw [if_pos hc, if_pos hc]
    · rw [if_neg hc, if_neg hc, (sort_perm L h).length_eq, ofC_sort c (by omega)]
  refine ⟨e, ?_⟩
  unfold putE
  rw [e]
  split
  · exact sort_append L _
  · exact sort_sort L
theorem put_ok {c k : Int} {f : ByteArray} {L : List Ent} (h : okE L) : okE (putE c k f L) := by
  unfold putE
  split
  · rename_i hz
    intro e he
    rcases List.mem_append.1 he with he | he
    · exact h e he
    · rw [List.mem_singleton.1 he]
      unfold putErr at hz
      by_cases hc : c < 0 ∨ 2 < c
      · rw [if_pos hc] at hz; omega
      · exact ⟨by dsimp only; omega, by dsimp only; omega⟩
  · exact h
/-- how many go: from the k-th on, of which n bytes go already -/
def takeN (most bytes : Int) : Nat → Int → List Ent → Nat
  | _, _, [] => 0
  | k, n, e :: r => if (k : Int) < most ∧ (k = 0 ∨ n + e.fr.size ≤ bytes) then takeN most bytes (k + 1) (n + e.fr.size) r + 1 else 0
theorem takeN_le (most bytes : Int) : ∀ (l : List Ent) (k : Nat) (n : Int), takeN most bytes k n l ≤ l.length
  | [], _, _ => Nat.le_refl _
  | e :: r, k, n => by
    unfold takeN
    split
    · have := takeN_le most bytes r (k + 1) (n + e.fr.size)
      rw [List.length_cons]
      omega
    · exact Nat.zero_le _
/-- so many bytes have the first k -/
def sumF (L : List Ent) : Int := (L.map fun e => (e.fr.size : Int)).sum
theorem sumF_take (L : List Ent) (k : Nat) (hk : k < L.length) : sumF (L.take (k + 1)) = sumF (L.take k) + (L[k].fr.size : Int) := by
  unfold sumF
  rw [List.take_succ_eq_append_getElem hk, List.map_append, List.sum_append]
  simp
/-- one goes with the others -/
def goesE (most bytes : Int) (L : List Ent) (k : Nat) (f : ByteArray) : Bool := decide ((k : Int) < most) && (decide (k = 0) || decide (sumF (L.take k) + f.size ≤ bytes))
theorem take_from (most bytes : Int) (L : List Ent) (k : Nat) (hk : k ≤ L.length) :
    takeN most bytes k (sumF (L.take k)) (L.drop k) = if h : k < L.length then (if goesE most bytes L k L[k].fr = true then takeN most bytes (k + 1) (sumF (L.take (k + 1))) (L.drop (k + 1)) + 1 else 0) else 0 := by
  by_cases h : k < L.length
  · rw [dif_pos h, List.drop_eq_getElem_cons h]
    unfold goesE
    conv => lhs; unfold takeN
    rw [sumF_take L k h]
    simp only [Bool.and_eq_true, Bool.or_eq_true, decide_eq_true_eq]
  · rw [dif_neg h, List.drop_eq_nil_of_le (by omega)]
    rfl
def roomE (c : Int) (L : List Ent) : Int := if 0 ≤ c ∧ c ≤ 2 then min (8 - ((ofC c L).length : Int)) (16 - (L.length : Int)) else 0
theorem room_sort (c : Int) (L : List Ent) (h : okE L) : roomE c (sortE L) = roomE c L := by
  unfold roomE
  by_cases hc : 0 ≤ c ∧ c ≤ 2
  · rw [if_pos hc, if_pos hc, (sort_perm L h).length_eq, ofC_sort c hc]
  · rw [if_neg hc, if_neg hc]
/-- how many have a key of these -/
def cntK (K : List Int) (L : List Ent) : Nat := L.countP fun e => decide (e.key ∈ K)
def offK (K : List Int) (L : List Ent) : List Ent := L.filter fun e => !decide (e.key ∈ K)
theorem cnt_sort (K : List Int) (L : List Ent) (h : okE L) : cntK K (sortE L) = cntK K L := (sort_perm L h).countP_eq _
theorem off_sort (K : List Int) (L : List Ent) : sortE (offK K L) = offK K (sortE L) := sort_filter _ L
theorem off_two (a b : Int) (L : List Ent) : offK [b] (offK [a] L) = offK [a, b] L := by
  unfold offK
  rw [List.filter_filter]
  apply List.filter_congr
  intro e _
  by_cases h1 : e.key = a <;> by_cases h2 : e.key = b <;> simp [h1, h2]
theorem count_or (p q : Ent → Bool) : ∀ L : List Ent, L.countP p + (L.filter fun e => !p e).countP q = L.countP fun e => p e || q e
  | [] => rfl
  | e :: r => by
    have ih := count_or p q r
    rw [List.countP_cons, List.countP_cons, List.filter_cons]
    cases hp : p e
    · simp only [Bool.not_false, if_true, List.countP_cons, Bool.false_or, Bool.false_eq_true, if_false]
      omega
    · simp only [Bool.not_true, Bool.false_eq_true, if_false, Bool.true_or, if_true]
      omega
theorem cnt_two (a b : Int) (L : List Ent) : cntK [a] L + cntK [b] (offK [a] L) = cntK [a, b] L := by
  unfold cntK offK
  rw [count_or]
  apply List.countP_congr
  intro e _
  simp
theorem off_len (K : List Int) (L : List Ent) : (offK K L).length + cntK K L = L.length := by
  unfold offK cntK
  have := List.length_eq_countP_add_countP (fun e : Ent => decide (e.key ∈ K)) (l := L)
  rw [← List.countP_eq_length_filter]
  have e : L.countP (fun a => !decide (a.key ∈ K)) = L.countP (fun a => decide ¬(decide (a.key ∈ K)) = true) := by
    apply List.countP_congr
    intro x _
    simp
  omega
end Go.Proofs.Ytliamhphpnifaaa
