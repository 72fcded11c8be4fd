/-
What goes and what stays, asked one by one; how it lies amid it.
-/
import Derived.Test.YtliamhphpnifaaaTxqCSee
namespace Go.Proofs.Ytliamhphpnifaaa
open Go.RowKit
set_option maxRecDepth 20000
/-- those of which the function says so, the first one being number j; the others -/
def goI (g : Nat → Bool) : Nat → List Ent → List Ent
  | _, [] => []
  | j, e :: r => if g j = true then e :: goI g (j + 1) r else goI g (j + 1) r
def stI (g : Nat → Bool) : Nat → List Ent → List Ent
  | _, [] => []
  | j, e :: r => if g j = true then stI g (j + 1) r else e :: stI g (j + 1) r
theorem goI_append (g : Nat → Bool) : ∀ (A B : List Ent) (j : Nat), goI g j (A ++ B) = goI g j A ++ goI g (j + A.length) B
  | [], _, _ => rfl
  | e :: r, B, j => by
    have ih := goI_append g r B (j + 1)
    have e1 : j + 1 + r.length = j + (e :: r).length := by rw [List.length_cons]; omega
    rw [e1] at ih
    show (if g j = true then e :: goI g (j + 1) (r ++ B) else goI g (j + 1) (r ++ B)) = (if g j = true then e :: goI g (j + 1) r else goI g (j + 1) r) ++ _
    rw [ih]
    split <;> rfl
theorem stI_append (g : Nat → Bool) : ∀ (A B : List Ent) (j : Nat), stI g j (A ++ B) = stI g j A ++ stI g (j + A.length) B
  | [], _, _ => rfl
  | e :: r, B, j => by
    have ih := stI_append g r B (j + 1)
    have e1 : j + 1 + r.length = j + (e :: r).length := by rw [List.length_cons]; omega
    rw [e1] at ih
    show (if g j = true then stI g (j + 1) (r ++ B) else e :: stI g (j + 1) (r ++ B)) = (if g j = true then stI g (j + 1) r else e :: stI g (j + 1) r) ++ _
    rw [ih]
    split <;> rfl
theorem goI_len (g : Nat → Bool) : ∀ (A : List Ent) (j : Nat), (goI g j A).length ≤ A.length
  | [], _ => Nat.le_refl _
  | e :: r, j => by
    have ih := goI_len g r (j + 1)
    unfold goI
    split <;> simp <;> omega
theorem stI_sub (g : Nat → Bool) : ∀ (A : List Ent) (j : Nat), (stI g j A).Sublist A
  | [], _ => List.Sublist.refl _
  | e :: r, j => by
    have ih := stI_sub g r (j + 1)
    unfold stI
    split
    · exact ih.cons e
    · exact ih.cons_cons e
theorem goI_filter (g : Nat → Bool) (p : Ent → Bool) : ∀ (A : List Ent) (j : Nat), (∀ i (h : i < A.length), g (j + i) = p A[i]) → goI g j A = A.filter p ∧ stI g j A = A.filter fun e => !p e
  | [], _, _ => ⟨rfl, rfl⟩
  | e :: r, j, h => by
    obtain ⟨h1, h2⟩ := goI_filter g p r (j + 1) fun i hi => by
      have := h (i + 1) (by rw [List.length_cons]; omega)
      rw [show j + 1 + i = j + (i + 1) by omega]
      exact this
    have h0 : g j = p e := h 0 (by rw [List.length_cons]; omega)
    unfold goI stI
    rw [h1, h2, h0, List.filter_cons, List.filter_cons]
    cases p e <;> exact ⟨rfl, rfl⟩
theorem goI_first (t : Nat) : ∀ (A : List Ent) (j : Nat), goI (fun i => decide (i < t)) j A = A.take (t - j) ∧ stI (fun i => decide (i < t)) j A = A.drop (t - j)
  | [], _ => by simp [goI, stI]
  | e :: r, j => by
    obtain ⟨h1, h2⟩ := goI_first t r (j + 1)
    unfold goI stI
    by_cases hj : j < t
    · obtain ⟨x, hx⟩ : ∃ x, t - j = x + 1 := ⟨t - j - 1, by omega⟩
      rw [h1, h2, decide_eq_true hj, if_pos rfl, if_pos rfl, hx, show t - (j + 1) = x by omega]
      exact ⟨rfl, rfl⟩
    · rw [h1, h2, decide_eq_false hj, if_neg Bool.false_ne_true, if_neg Bool.false_ne_true, show t - j = 0 by omega, show t - (j + 1) = 0 by omega]
      exact ⟨rfl, rfl⟩
/-- the classes, by number -/
abbrev clsE (S : List Ent) (i : Nat) : List Ent := ofC (i : Int) S
theorem ofC_stI (g : Nat → Bool) (c d : Int) (S : List Ent) (j : Nat) : ofC c (stI g j (ofC d S)) = if c = d then stI g j (ofC d S) else [] := by
  have h : ∀ e ∈ stI g j (ofC d S), e.cls = d := fun e he => by
    have := (stI_sub g (ofC d S) j).subset he
    simp only [ofC, List.mem_filter, decide_eq_true_eq] at this
    exact this.2
  split
  · rename_i hcd
    unfold ofC at h ⊢
    rw [List.filter_eq_self]
    intro e he
    rw [hcd]
    exact decide_eq_true (h e he)
  · rename_i hcd
    unfold ofC at h ⊢
    rw [List.filter_eq_nil_iff]
    intro e he
    rw [h e he]
    simp
    omega
/-- how many stand ahead of a class -/
abbrev offE (S : List Ent) (c : Nat) : Nat := (joinU (clsE S) c).length
theorem ofC_stay (g : Nat → Bool) (S : List Ent) (h : SOk S) (c : Nat) (hc : c < 3) : ofC (c : Int) (stI g 0 S) = stI g (offE S c) (clsE S c) := by
  have e : stI g 0 S = stI g 0 (clsE S 0) ++ (stI g (offE S 1) (clsE S 1) ++ stI g (offE S 2) (clsE S 2)) := by
    conv => lhs; rw [h.parts]
    rw [stI_append, stI_append]
    have e1 : offE S 1 = 0 + (ofC 0 S).length := by
      unfold offE
      rw [joinU_next, List.length_append]
      rfl
    have e2 : offE S 2 = 0 + (ofC 0 S).length + (ofC 1 S).length := by
      unfold offE
      rw [joinU_next, List.length_append, joinU_next, List.length_append]
      rfl
    rw [e1, e2]
    rfl
  rw [e, ofC_append, ofC_append, ofC_stI, ofC_stI, ofC_stI]
  obtain rfl | rfl | rfl : c = 0 ∨ c = 1 ∨ c = 2 := by omega
  · simp [offE, joinU]
    rfl
  · simp
    rfl
  · simp
    rfl
theorem goI_next (g : Nat → Bool) (S : List Ent) (c i : Nat) (hi : i < (clsE S c).length) :
    goI g 0 (joinU (clsE S) c ++ (clsE S c).take (i + 1)) = goI g 0 (joinU (clsE S) c ++ (clsE S c).take i) ++ (if g (offE S c + i) = true then [(clsE S c)[i]] else []) ∧
    stI g (offE S c) ((clsE S c).take (i + 1)) = stI g (offE S c) ((clsE S c).take i) ++ (if g (offE S c + i) = true then [] else [(clsE S c)[i]]) := by
  have hl : ((clsE S c).take i).length = i := by rw [List.length_take]; omega
  rw [List.take_succ_eq_append_getElem hi]
  constructor
  · rw [← List.append_assoc, goI_append, List.length_append, hl, Nat.zero_add]
    rfl
  · rw [stI_append, hl]
    rfl
theorem part_at (S P A R : List Ent) (i : Nat) (hi : i < A.length) (e : S = P ++ (A ++ R)) : ∃ hj : P.length + i < S.length, S[P.length + i] = A[i] := by
  subst e
  refine ⟨by rw [List.length_append, List.length_append]; omega, ?_⟩
  rw [List.getElem_append_right (by omega), List.getElem_append_left (by omega)]
  congr 1
  omega
theorem at_off (S : List Ent) (h : SOk S) (c i : Nat) (hc : c < 3) (hi : i < (clsE S c).length) : ∃ hj : offE S c + i < S.length, S[offE S c + i] = (clsE S c)[i] := by
  have e : S = joinU (clsE S) c ++ (clsE S c ++ (joinU (clsE S) 3).drop (offE S (c + 1))) := by
    have e3 : joinU (clsE S) 3 = S := by rw [joinU_three]; exact h.parts.symm
    have : ∃ Z, joinU (clsE S) 3 = joinU (clsE S) (c + 1) ++ Z := by
      obtain rfl | rfl | rfl : c = 0 ∨ c = 1 ∨ c = 2 := by omega
      · exact ⟨clsE S 1 ++ clsE S 2, by rw [joinU_next, joinU_next]; simp [List.append_assoc]⟩
      · exact ⟨clsE S 2, by rw [joinU_next]⟩
      · exact ⟨[], by rw [List.append_nil]⟩
    obtain ⟨Z, hZ⟩ := this
    rw [← List.append_assoc, ← joinU_next, hZ, List.drop_left, ← hZ, e3]
  exact part_at S (joinU (clsE S) c) (clsE S c) _ i hi e
/-- a function that says which go, and may keep what it is asked: called by the number k with what it holds -/
structure Says16 (k : Nat) (cap : Array Value) (S : List Ent) (g : Nat → Bool) (G R : Nat → Prop) (I : Nat → World → Prop) : Prop where
  sub : ∀ b, G b → R b
  enters : ∀ args W, (callFunc k args).run Try.prog W = .ok (.enter k args) W
  mem : ∀ j W, I j W → ∀ b, R b → b < W.heap.size
  stay : ∀ j W W', I j W → SameOn R W W' → I j W'
  call : ∀ j (hj : j < S.length) W, I j W → Calls Try.prog k (#[.agg #[.int .i64 S[j].key, .string S[j].fr]] ++ cap) W fun e W' => e = .returned (.bool (g j)) ∧ I (j + 1) W' ∧ Turn G W W'
/-- amid it -/
structure PtAt (w : World) (q : Nat) (u0 : Nat → Value) (G : Nat → Prop) (I : Nat → World → Prop) (M : Nat → List Ent) (m : Nat) (T A : List Ent) (tv sv : Value) (u : Nat → Value) (W : World) : Prop where
  qu : QuAt W q u M
  told : OwnS16 W w.heap.size tv (frs T)
  st : OwnW W w.heap.size sv A
  sap : ∀ b, sv.ownBlock = some b → ∀ x, x < 3 → (u x).ownBlock ≠ some b
  inv : I m W
  turn : Turn (fun b => footQ q u0 b ∨ G b) w W
  grew : ∀ x, x < 3 → ∀ b, (u x).ownBlock = some b → footQ q u0 b ∨ w.heap.size ≤ b
  lt : q < w.heap.size
section
variable {w : World} {q : Nat} {u0 : Nat → Value} {G R : Nat → Prop} {I : Nat → World → Prop} {M : Nat → List Ent} {m : Nat} {T A : List Ent} {tv sv : Value} {u : Nat → Value} {W W' : World}
variable {k : Nat} {cap : Array Value} {S : List Ent} {g : Nat → Bool}
theorem PtAt.below (h : PtAt w q u0 G I M m T A tv sv u W) (hs : Says16 k cap S g G R I) (hb : Below W.heap.size W W') : PtAt w q u0 G I M m T A tv sv u W' :=
  ⟨h.qu.below hb, h.told.below hb, h.st.below hb, h.sap, hs.stay m W W' h.inv (SameOn.of_below hb (hs.mem m W h.inv)), h.turn.then_ hb, h.grew, h.lt⟩
theorem PtAt.called (h : PtAt w q u0 G I M m T A tv sv u W) (hs : Says16 k cap S g G R I) (hR : ∀ b, R b → b < w.heap.size ∧ ¬ footQ q u0 b) {m' : Nat} (hi : I m' W') (ht : Turn G W W') : PtAt w q u0 G I M m' T A tv sv u W' := by
  have hG : ∀ b, G b → b < w.heap.size ∧ ¬ footQ q u0 b := fun b hb => hR b (hs.sub b hb)
  have hoff : ∀ b, footQ q u b → ¬ G b := by
    rintro b (rfl | ⟨x, hx, e⟩) hg
    · exact (hG _ hg).2 (Or.inl rfl)
    · rcases h.grew x hx b e with hf | hge
      · exact (hG b hg).2 hf
      · have := (hG b hg).1; omega
  refine ⟨h.qu.stay ⟨ht.size, fun b hb => ht.block b (h.qu.mem b hb) (hoff b hb)⟩, h.told.turn ht fun b e hg => ?_, h.st.turn ht fun b e hg => ?_, h.sap, hi, ?_, h.grew, h.lt⟩
  · have := (h.told.ge e).1; have := (hG b hg).1; omega
  · have := (h.st.ge e).1; have := (hG b hg).1; omega
  · have h1 := h.turn
    exact ⟨ht.os.trans h1.os, ht.tape.trans h1.tape, ht.output.trans h1.output, Nat.le_trans h1.size ht.size, fun b hb hF => (ht.block b (Nat.lt_of_lt_of_le hb h1.size) fun hg => hF (Or.inr hg)).trans (h1.block b hb hF)⟩
theorem PtAt.new_off (h : PtAt w q u0 G I M m T A tv sv u W) (v : Value) (hv : ∀ b, v.ownBlock = some b → w.heap.size ≤ b) : v.ownBlock ≠ some q := fun e => by
  have := hv q e
  have := h.lt
  omega
theorem turn_grown {F : Nat → Prop} {w W W' : World} {r : Option Nat} (h : Turn F w W) (hg : W.grownBy W' r) (hr : ∀ b, r = some b → w.heap.size ≤ b) : Turn F w W' :=
  ⟨hg.os.trans h.os, hg.tape.trans h.tape, hg.output.trans h.output, Nat.le_trans h.size hg.size, fun b hb hF => (hg.block b (Nat.lt_of_lt_of_le hb h.size) fun e => by have := hr b e.symm; omega).trans (h.block b hb hF)⟩
theorem PtAt.more (h : PtAt w q u0 G I M m T A tv sv u W) (hs : Says16 k cap S g G R I) (hR : ∀ b, R b → b < w.heap.size ∧ ¬ footQ q u0 b) {e : Ent} {tv' : Value} (ho : OwnS16 W' w.heap.size tv' (frs T ++ [e.fr])) (hg : W.grownBy W' tv.ownBlock) : PtAt w q u0 G I M m (T ++ [e]) A tv' sv u W' := by
  have hge : ∀ b, tv.ownBlock = some b → w.heap.size ≤ b := fun b e => (h.told.ge e).1
  have apW : ∀ {B : Nat} {v : Value} {L : List Ent}, OwnW W B v L → ∀ b, v.ownBlock = some b → tv.ownBlock ≠ some b := fun k b e => k.apart h.told (by decide) e
  refine ⟨h.qu.stay ⟨hg.size, ?_⟩, by unfold frs at ho ⊢; rw [List.map_append]; exact ho, h.st.grown hg fun b e => apW h.st b e, h.sap, hs.stay m W W' h.inv ⟨hg.size, fun b hb => hg.block b (hs.mem m W h.inv b hb) fun e => ?_⟩, turn_grown h.turn hg hge, h.grew, h.lt⟩
  · rintro b hb
    refine hg.block b (h.qu.mem b hb) fun e => ?_
    rcases hb with rfl | ⟨x, hx, hb⟩
    · have := hge _ e.symm; have := h.lt; omega
    · exact apW (h.qu.own x hx) b hb e.symm
  · have := hge _ e.symm; have := (hR b hb).1; omega
theorem PtAt.stays (h : PtAt w q u0 G I M m T A tv sv u W) (hs : Says16 k cap S g G R I) (hR : ∀ b, R b → b < w.heap.size ∧ ¬ footQ q u0 b) {e : Ent} {sv' : Value} (ho : OwnW W' w.heap.size sv' (A ++ [e])) (hg : W.grownBy W' sv.ownBlock) (hv : sv'.ownBlock = sv.ownBlock ∨ ∃ n, W.heap.size ≤ n ∧ sv'.ownBlock = some n) : PtAt w q u0 G I M m T (A ++ [e]) tv sv' u W' := by
  have hge : ∀ b, sv.ownBlock = some b → w.heap.size ≤ b := fun b e => (h.st.ge e).1
  refine ⟨h.qu.stay ⟨hg.size, ?_⟩, h.told.grown hg fun b e hsv => h.st.apart h.told (by decide) hsv e, ho, fun b hb x hx hu => ?_, hs.stay m W W' h.inv ⟨hg.size, fun b hb => hg.block b (hs.mem m W h.inv b hb) fun e => ?_⟩, turn_grown h.turn hg hge, h.grew, h.lt⟩
  · rintro b hb
    refine hg.block b (h.qu.mem b hb) fun e => ?_
    rcases hb with rfl | ⟨x, hx, hb⟩
    · have := hge _ e.symm; have := h.lt; omega
    · exact h.sap b e.symm x hx hb
  · rcases hv with hv | ⟨n, hn, hv⟩
    · rw [hv] at hb
      exact h.sap b hb x hx hu
    · rw [hv] at hb
      have := ((h.qu.own x hx).ge hu).2
      have := Option.some.inj hb
      omega
  · have := hge _ e.symm; have := (hR b hb).1; omega
/-- a class is done: what stays of it is stored -/
theorem PtAt.stored (h : PtAt w q u0 G I M m T A tv sv u W) (hs : Says16 k cap S g G R I) (hR : ∀ b, R b → b < w.heap.size ∧ ¬ footQ q u0 b) (c : Nat) (hc : c < 3) : PtAt w q u0 G I (updL M c A) m T [] tv (.slice none 0 0) (updU u c sv) (W.setCell ⟨q, c, none⟩ sv) := by
  have hge : ∀ b, sv.ownBlock = some b → w.heap.size ≤ b := fun b e => (h.st.ge e).1
  refine ⟨h.qu.put c hc sv A (h.st.base (Nat.zero_le _)) (h.new_off sv hge) (fun b e x hx _ => h.sap b e x hx), h.told.same fun b e => Below.heap_setCell _ _ _ _ (show b ≠ q from fun k => ?_), OwnL.nil _ _ _ _, fun b e => (by cases e), hs.stay m W _ h.inv (SameOn.of_set (p := ⟨q, c, none⟩) (fun hg => (hR q hg).2 (Or.inl rfl)) sv), h.turn.set (p := ⟨q, c, none⟩) (Or.inl (Or.inl (Or.inl rfl))) sv, fun x hx b e => ?_, h.lt⟩
  · have := (h.told.ge e).1; have := h.lt; omega
  · unfold updU at e
    split at e
    · exact Or.inr (hge b e)
    · exact h.grew x hx b e
end
end Go.Proofs.Ytliamhphpnifaaa
