/-
The landed clock among other blocks; the law's same; the document's example.
-/
import Derived.Test.YtchhaolgmdhnmaaClkSet
import Derived.Test.YtchhaolgmdhnmaaFactsSt
namespace Go.Proofs.Ytchhaolgmdhnmaa
open Go.RowKit
set_option maxRecDepth 20000
/-- a clock of the call's own, and other blocks that stay -/
structure CkO (w : World) (p : Nat) (L : List Tm) (O : List (Nat × List Value)) (W : World) : Prop where
  at_ : ∃ F, CkL W p L F ∧ (∀ b, F b → w.heap.size ≤ b) ∧ ∀ m row, (m, row) ∈ O → ¬ F m
  oth : ∀ m row, (m, row) ∈ O → RowAt W m row ∧ m < W.heap.size
  bel : Below w.heap.size w W
section
variable {w : World} {p : Nat} {L : List Tm} {O : List (Nat × List Value)} {W : World}
theorem CkO.below {W' : World} (h : CkO w p L O W) (hb : Below W.heap.size W W') : CkO w p L O W' := by
  obtain ⟨F, h1, h2, h3⟩ := h.at_
  exact ⟨⟨F, h1.below hb, h2, h3⟩, fun m row hm => ⟨(h.oth m row hm).1.below hb, Nat.lt_of_lt_of_le (h.oth m row hm).2 hb.size⟩, h.bel.trans (hb.mono h.bel.size)⟩
theorem CkO.row (h : CkO w p L O W) {m : Nat} {row : List Value} (hm : (m, row) ∈ O) : RowAt W m row := (h.oth m row hm).1
theorem CkO.box (h : CkO w p L O W) (V : List Value) (T : TypeId) : CkO w p L ((W.heap.size, V) :: O) (W.alloc (.cells V.toArray T)) := by
  have ha := h.below ((Below.refl _ W).alloc (Nat.le_refl _) (.cells V.toArray T))
  obtain ⟨F0, g1, g2, g3⟩ := h.at_
  obtain ⟨F, h1, h2, h3⟩ := ha.at_
  have hb : Below W.heap.size W (W.alloc (.cells V.toArray T)) := (Below.refl _ W).alloc (Nat.le_refl _) _
  refine ⟨⟨F0, g1.below hb, g2, fun m row hm => ?_⟩, fun m row hm => ?_, ha.bel⟩
  · rcases List.mem_cons.1 hm with e | e
    · intro hf
      have := g1.mem m hf
      simp only [Prod.mk.injEq] at e
      omega
    · exact g3 m row e
  · rcases List.mem_cons.1 hm with e | e
    · simp only [Prod.mk.injEq] at e
      obtain ⟨rfl, rfl⟩ := e
      exact ⟨RowAt.new W _ rfl _ T, by simp⟩
    · exact ha.oth m row e
theorem CkO.step {W' : World} {L' : List Tm} {F F' : Nat → Prop} (h : CkO w p L O W) (h2 : ∀ b, F b → w.heap.size ≤ b) (h3 : ∀ m row, (m, row) ∈ O → ¬ F m) (hc : CkL W' p L' F') (ht : Turn F W W') (hg : Grew F F' W) : CkO w p L' O W' :=
  ⟨⟨F', hc, hg.ge h2 h.bel.size, fun m row hm hf => (hg m hf).elim (h3 m row hm) (fun q => by have := (h.oth m row hm).2; omega)⟩, fun m row hm => ⟨(h.oth m row hm).1.turn ht (h3 m row hm), Nat.lt_of_lt_of_le (h.oth m row hm).2 ht.size⟩, h.bel.trans (ht.below h.bel.size h2)⟩
theorem CkO.set (h : CkO w p L O W) (hok : ClkOk L) (a : Nm) (x : Int) : Calls Try.prog 8 #[.pointer (some ⟨p, 0, none⟩), .agg #[.int .i64 a.k, .int .i64 a.n], .int .i64 x] W fun e W' => e = .returned (.int .i64 (setT a x L).2) ∧ CkO w p (setT a x L).1 O W' := by
  obtain ⟨F, h1, h2, h3⟩ := h.at_
  exact (cset13_any a x p L F W h1 hok).mono fun e W' ⟨F', he, hc, ht, hg⟩ => ⟨he, h.step h2 h3 hc ht hg⟩
theorem CkO.tick (h : CkO w p L O W) (hok : ClkOk L) : Calls Try.prog 13 #[.pointer (some ⟨p, 0, none⟩)] W fun e W' => ∃ v, e = .returned v ∧ OwnN W' W.heap.size v (toldT L) ∧ CkO w p (tickT L) O W' := by
  obtain ⟨F, h1, h2, h3⟩ := h.at_
  exact (ctick13_any p L F W h1 hok).mono fun e W' ⟨v, he, ho, hc, ht⟩ => ⟨v, he, ho, h.step h2 h3 hc ht (Grew.refl F W)⟩
/-- one is told -/
theorem CkO.tick1 (h : CkO w p L O W) (hok : ClkOk L) (a : Nm) (ha : toldT L = [a]) : Calls Try.prog 13 #[.pointer (some ⟨p, 0, none⟩)] W fun e W' => ∃ g c, e = .returned (.slice (some ⟨g, 0, none⟩) 1 c) ∧ CkO w p (tickT L) ((g, [.int .i64 a.k, .int .i64 a.n]) :: O) W' := by
  obtain ⟨F, h1, h2, h3⟩ := h.at_
  refine (ctick13_any p L F W h1 hok).mono fun e W' ⟨v, he, ho, hc, ht⟩ => ?_
  rw [ha] at ho
  obtain ⟨g, c, rfl, hb, hg, hA⟩ := ho.some_ (by simp)
  have hs := h.step h2 h3 hc ht (Grew.refl F W)
  refine ⟨g, c, he, ⟨F, hc, h2, fun m row hm => ?_⟩, fun m row hm => ?_, hs.bel⟩
  · rcases List.mem_cons.1 hm with e | e
    · intro hf
      have := h1.mem m hf
      simp only [Prod.mk.injEq] at e
      omega
    · exact h3 m row e
  · rcases List.mem_cons.1 hm with e | e
    · simp only [Prod.mk.injEq] at e
      obtain ⟨rfl, rfl⟩ := e
      have q := AtL.nm hA 0 (by simp)
      simp only [Nat.zero_add, Nat.zero_mul, List.getElem_cons_zero] at q
      refine ⟨fun i v e => ?_, hg⟩
      match i, e with
      | 0, e =>
        simp only [List.getElem?_cons_zero, Option.some.injEq] at e
        subst e
        exact ⟨q.1, (ho.cells' 0 (by simp [encN])).2, hg⟩
      | 1, e =>
        simp only [List.getElem?_cons_succ, List.getElem?_cons_zero, Option.some.injEq] at e
        subst e
        exact ⟨q.2, (ho.cells' 1 (by simp [encN])).2, hg⟩
      | i + 2, e => simp at e
    · exact hs.oth m row e
theorem CkO.stop (h : CkO w p L O W) (hok : ClkOk L) (m : Nat) (a : Nm) (hA : AtL encN W (some ⟨m, 0, none⟩) [a]) (hm : ∀ F, CkL W p L F → ¬ F m) : Calls Try.prog 10 #[.pointer (some ⟨p, 0, none⟩), .slice (some ⟨m, 0, none⟩) 1 1] W fun e W' =>
    e = .returned (.int .i64 (cntT (isT a) L : Nat)) ∧ CkO w p (stopT a L) O W' := by
  obtain ⟨F, h1, h2, h3⟩ := h.at_
  have hc := cstop13_any p L F (some ⟨m, 0, none⟩) 1 1 [a] W h1 hok.len rfl hA (by omega) (fun q e => by cases e; exact hm F h1)
  rw [anyN_one a] at hc
  exact hc.mono fun e W' ⟨he, hc, ht⟩ => ⟨he, h.step h2 h3 hc ht (Grew.refl F W)⟩
theorem CkO.only (h : CkO w p L O W) (hok : ClkOk L) (n : Int) : Calls Try.prog 15 #[.pointer (some ⟨p, 0, none⟩), .int .i64 n] W fun e W' => e = .returned (.int .i64 (cntT (numT n) L : Nat)) ∧ CkO w p (onlyT n L) O W' := by
  obtain ⟨F, h1, h2, h3⟩ := h.at_
  exact (conly13_any p L F n W h1 hok.len).mono fun e W' ⟨he, hc, ht⟩ => ⟨he, h.step h2 h3 hc ht (Grew.refl F W)⟩
theorem CkO.left (h : CkO w p L O W) (hok : ClkOk L) (a : Nm) : Calls Try.prog 19 #[.pointer (some ⟨p, 0, none⟩), .agg #[.int .i64 a.k, .int .i64 a.n]] W fun e W' => e = .returned (.int .i64 (leftT a L)) ∧ Below W.heap.size W W' := by
  obtain ⟨F, h1, h2, h3⟩ := h.at_
  have := hok.len
  exact cleft_any a p L F W h1 (by omega)
theorem CkO.all (h : CkO w p L O W) (hok : ClkOk L) : Calls Try.prog 18 #[.pointer (some ⟨p, 0, none⟩)] W fun e W' => ∃ v, e = .returned v ∧ OwnN W' W.heap.size v (L.map Tm.nm) ∧ Below W.heap.size W W' := by
  obtain ⟨F, h1, h2, h3⟩ := h.at_
  have := hok.len
  exact call13_any p L F W h1 (by omega)
theorem CkO.new (w W : World) (hb : Below w.heap.size w W) : Calls Try.prog 7 #[] W fun e W' => ∃ p, e = .returned (.pointer (some ⟨p, 0, none⟩)) ∧ CkO w p [] [] W' :=
  (cnew13 W).mono fun _ _ ⟨p, F, he, hc, hF, hb2⟩ => ⟨p, he, ⟨F, hc, fun b h => Nat.le_trans hb.size (hF b h), fun _ _ hm => nomatch hm⟩, (fun _ _ hm => nomatch hm), hb.trans (hb2.mono hb.size)⟩
end
/-- a slice of one thing -/
theorem own_one {E : Enc Nm} {T : TypeId} {w : World} {B : Nat} {v : Value} {a : Nm} (h : OwnL E T w B v [a]) : ∃ g c, v = .slice (some ⟨g, 0, none⟩) 1 c ∧ AtL E w (some ⟨g, 0, none⟩) [a] := by
  obtain ⟨g, c, hv, -, -, hA⟩ := h.some_ (by simp)
  exact ⟨g, c, hv, hA⟩
end Go.Proofs.Ytchhaolgmdhnmaa
