/-
The landed clock: how it lies; its drop, over whatever function says which ones go.
-/
import Derived.Test.YtchhaolgmdhnmaaClkMem
import Derived.Test.YtchhaolgmdhnmaaFactsUpto
import Derived.Deep.RegionHeld
import Derived.Deep.DeepCutAuto
import Derived.Shelf.Abstract
namespace Go.Proofs.Ytchhaolgmdhnmaa
open Go.RowKit
set_option maxRecDepth 20000
theorem infoT : (Try.prog.info? 54).map (fun i => (i.zero, i.size, i.bytes)) = some (some (.agg #[.int .i64 0, .int .i64 0, .int .i64 0]), 3, 24) := by kernel_rfl
theorem infoN : (Try.prog.info? 31).map (fun i => (i.zero, i.size, i.bytes)) = some (some (.agg #[.int .i64 0, .int .i64 0]), 2, 16) := by kernel_rfl
abbrev OwnT (w : World) (v : Value) (L : List Tm) : Prop := OwnL encT 54 w 0 v L
abbrev OwnN (w : World) (B : Nat) (v : Value) (L : List Nm) : Prop := OwnL encN 31 w B v L
/-- how a clock lies: at p, with these timers, in these blocks -/
def CkL (w : World) (p : Nat) (L : List Tm) (F : Nat → Prop) : Prop := ∃ v, RowAt w p [v] ∧ OwnT w v L ∧ v.ownBlock ≠ some p ∧ F = (fun b => b = p ∨ v.ownBlock = some b)
theorem CkL.mem {w : World} {p : Nat} {L : List Tm} {F : Nat → Prop} (h : CkL w p L F) : ∀ b, F b → b < w.heap.size := by
  obtain ⟨v, hr, ho, -, rfl⟩ := h
  rintro b (rfl | e)
  · exact hr.lt
  · exact (ho.ge e).2
theorem CkL.stay {w w' : World} {p : Nat} {L : List Tm} {F : Nat → Prop} (h : CkL w p L F) (hs : SameOn F w w') : CkL w' p L F := by
  obtain ⟨v, hr, ho, hn, rfl⟩ := h
  exact ⟨v, hr.block (hs.2 p (Or.inl rfl)) hs.1, ho.same (fun g e => hs.2 g (Or.inr e)), hn, rfl⟩
theorem CkL.below {w w' : World} {p : Nat} {L : List Tm} {F : Nat → Prop} (h : CkL w p L F) (hb : Below w.heap.size w w') : CkL w' p L F := h.stay (SameOn.of_below hb h.mem)
theorem CkL.drew {w : World} {p : Nat} {L : List Tm} {F : Nat → Prop} (h : CkL w p L F) : CkL w.drew p L F := h.below ((Below.refl _ w).drew)
/-- three cells of a timer -/
theorem OwnT.get {w : World} {g n c : Nat} {L : List Tm} (h : OwnT w (.slice (some ⟨g, 0, none⟩) n c) L) (i : Nat) (hi : i < L.length) :
    w.cell? ⟨g, i * 3, none⟩ = some (.int .i64 L[i].k) ∧ w.cell? ⟨g, i * 3 + 1, none⟩ = some (.int .i64 L[i].n) ∧ w.cell? ⟨g, i * 3 + 2, none⟩ = some (.int .i64 L[i].l) := by
  obtain ⟨a, cap, hv, hA⟩ := h.see
  simp only [Value.slice.injEq] at hv
  obtain ⟨rfl, -, -⟩ := hv
  have h0 := hA.get i hi 0 (u := .int .i64 L[i].k) rfl
  have h1 := hA.get i hi 1 (u := .int .i64 L[i].n) rfl
  have h2 := hA.get i hi 2 (u := .int .i64 L[i].l) rfl
  simp only [Nat.zero_add, Nat.add_zero] at h0 h1 h2
  exact ⟨h0, h1, h2⟩
/-- the timers of which the function says so, and the others -/
abbrev goN (q : Tm → Bool) (L : List Tm) : List Nm := (L.filter q).map Tm.nm
abbrev keepL (q : Tm → Bool) (L : List Tm) : List Tm := L.filter fun t => !q t
theorem take_one {α : Type} (L : List α) (i : Nat) (hi : i < L.length) : L.take (i + 1) = L.take i ++ [L[i]] := List.take_succ_eq_append_getElem hi
theorem goN_yes (q : Tm → Bool) (L : List Tm) (i : Nat) (hi : i < L.length) (h : q L[i] = true) : goN q (L.take (i + 1)) = goN q (L.take i) ++ [L[i].nm] ∧ keepL q (L.take (i + 1)) = keepL q (L.take i) := by
  unfold goN keepL
  rw [take_one L i hi, List.filter_append, List.filter_append, List.filter_cons, List.filter_cons, h]
  simp
theorem goN_no (q : Tm → Bool) (L : List Tm) (i : Nat) (hi : i < L.length) (h : q L[i] = false) : goN q (L.take (i + 1)) = goN q (L.take i) ∧ keepL q (L.take (i + 1)) = keepL q (L.take i) ++ [L[i]] := by
  unfold goN keepL
  rw [take_one L i hi, List.filter_append, List.filter_append, List.filter_cons, List.filter_cons, h]
  simp
theorem keep_len (q : Tm → Bool) (L : List Tm) (i : Nat) (hi : i ≤ L.length) : (keepL q (L.take i)).length ≤ i := by
  refine Nat.le_trans (List.length_filter_le _ _) ?_
  rw [List.length_take]
  omega
/-- amid letting them go: i are looked at, those that are kept are the first ones of the array -/
structure DrAt (w : World) (p g c : Nat) (L : List Tm) (q : Tm → Bool) (i : Nat) (tv : Value) (W : World) : Prop where
  row : RowAt W p [.slice (some ⟨g, 0, none⟩) L.length c]
  own : ∃ M, OwnT W (.slice (some ⟨g, 0, none⟩) L.length c) M ∧ M.length = L.length ∧ M.take (keepL q (L.take i)).length = keepL q (L.take i) ∧ M.drop i = L.drop i
  told : OwnN W w.heap.size tv (goN q (L.take i))
  turn : Turn (fun b => b = p ∨ b = g) w W
  lt : p < w.heap.size ∧ g < w.heap.size ∧ p ≠ g
section
variable {w : World} {p g c : Nat} {L : List Tm} {q : Tm → Bool} {i : Nat} {tv : Value} {W : World}
theorem DrAt.below {W' : World} (h : DrAt w p g c L q i tv W) (hb : Below W.heap.size W W') : DrAt w p g c L q i tv W' := by
  obtain ⟨M, h1, h2⟩ := h.own
  exact ⟨h.row.below hb, ⟨M, h1.below hb, h2⟩, h.told.below hb, h.turn.then_ hb, h.lt⟩
theorem DrAt.get (h : DrAt w p g c L q i tv W) (hi : i < L.length) : W.cell? ⟨g, i * 3, none⟩ = some (.int .i64 L[i].k) ∧ W.cell? ⟨g, i * 3 + 1, none⟩ = some (.int .i64 L[i].n) ∧ W.cell? ⟨g, i * 3 + 2, none⟩ = some (.int .i64 L[i].l) := by
  obtain ⟨M, h1, h2, -, h4⟩ := h.own
  have e : M[i]'(by omega) = L[i] := by
    have : (M.drop i)[0]? = (L.drop i)[0]? := by rw [h4]
    simpa [List.getElem?_drop, List.getElem?_eq_getElem, hi, h2] using this
  have := h1.get i (by omega)
  rw [e] at this
  exact this
theorem DrAt.gone (h : DrAt w p g c L q i tv W) (hi : i < L.length) (hq : q L[i] = true) {W' : World} {tv' : Value} (hg : W.grownBy W' tv.ownBlock) (ho : OwnN W' w.heap.size tv' (goN q (L.take i) ++ [L[i].nm])) : DrAt w p g c L q (i + 1) tv' W' := by
  obtain ⟨M, h1, h2, h3, h4⟩ := h.own
  obtain ⟨e1, e2⟩ := goN_yes q L i hi hq
  have hge : ∀ b, tv.ownBlock = some b → w.heap.size ≤ b := fun b e => (h.told.ge e).1
  have hlt := h.lt
  have hsz := h.turn.size
  refine ⟨h.row.block (hg.block p (by omega) fun e => by have := hge p e.symm; omega) hg.size, ⟨M, h1.grown hg (fun b e => ?_), h2, by rw [e2]; exact h3, ?_⟩, by rw [e1]; exact ho, ?_, h.lt⟩
  · simp only [Value.ownBlock, Option.some.injEq] at e
    intro e'
    have := hge b e'
    omega
  · rw [← List.drop_drop, ← List.drop_drop, h4]
  · have ht := h.turn
    exact ⟨hg.os.trans ht.os, hg.tape.trans ht.tape, hg.output.trans ht.output, Nat.le_trans ht.size hg.size, fun y hy hF => (hg.block y (Nat.lt_of_lt_of_le hy ht.size) fun e => by have := hge y e.symm; omega).trans (ht.block y hy hF)⟩
theorem DrAt.kept (h : DrAt w p g c L q i tv W) (hi : i < L.length) (hq : q L[i] = false) : DrAt w p g c L q (i + 1) tv (W.setCells g ((keepL q (L.take i)).length * 3) (encT.enc L[i])) := by
  obtain ⟨M, h1, h2, h3, h4⟩ := h.own
  obtain ⟨e1, e2⟩ := goN_no q L i hi hq
  have hk := keep_len q L i (by omega)
  have hlt := h.lt
  have hsz := h.turn.size
  have ho := h1.setAll (keepL q (L.take i)).length L[i] (by omega) _ rfl
  have hb : ∀ b, b ≠ g → (W.setCells g ((keepL q (L.take i)).length * 3) (encT.enc L[i])).heap[b]? = W.heap[b]? := fun b hb => setCells_block g _ _ W b hb
  have hs := (setCells_rest g (encT.enc L[i]) ((keepL q (L.take i)).length * 3) W).2.2.2
  refine ⟨h.row.block (hb p hlt.2.2) (by omega), ⟨_, ho, by rw [List.length_set]; exact h2, ?_, ?_⟩, by rw [e1]; exact h.told.same (fun b e => hb b (by have := (h.told.ge e).1; omega)), h.turn.setCells (Or.inl (Or.inr rfl)) _ _, h.lt⟩
  · rw [e2, List.length_append, List.length_singleton, take_one _ _ (by rw [List.length_set]; omega), List.getElem_set_self, List.take_set_of_le (Nat.le_refl _), h3]
  · rw [List.drop_set_of_lt (by omega), ← List.drop_drop, ← List.drop_drop, h4]
end
end Go.Proofs.Ytchhaolgmdhnmaa
