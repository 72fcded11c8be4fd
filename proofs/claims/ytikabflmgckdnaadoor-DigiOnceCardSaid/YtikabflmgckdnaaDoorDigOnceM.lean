/-
What the walk of DigiOnce keeps: the path that was read last, in its box; an iterator over a text.
-/
import Derived.Test.YtikabflmgckdnaaDoorDigOnceP
import Derived.Test.YtikabflmgckdnaaDoorMix40
import Derived.Lib.OthersKept
namespace Go.Proofs.YtikabflmgckdnaaDoor
open Go.RowKit Go.Sort Go.Lib
set_option maxRecDepth 20000
/-- the box pb holds the path L -/
structure OnK (w : World) (L : List Ent) (pb g o gc : Nat) (W : World) : Prop where
  bel : Below w.heap.size w W
  box : RowAt W pb [.slice (some ⟨g, o, none⟩) L.length gc]
  ents : EntsAt W (some ⟨g, o, none⟩) gc L
  one : ∀ i, 0 < i → W.cell? ⟨pb, i, none⟩ = none
  off : w.heap.size ≤ pb
  lt : g < W.heap.size
section
variable {w W W' : World} {L : List Ent} {pb g o gc : Nat}
theorem OnK.kept (h : OnK w L pb g o gc W) (hs : SameOn (fun b => b = pb ∨ b = g) W W') (hw : Below w.heap.size w W') : OnK w L pb g o gc W' :=
  ⟨hw, h.box.block (hs.2 _ (Or.inl rfl)) hs.1, h.ents.same (fun q hq => by cases hq; exact hs.2 _ (Or.inr rfl)) hs.1, fun i hi => (World.cell?_of_block (a := ⟨pb, i, none⟩) (hs.2 _ (Or.inl rfl))).trans (h.one i hi), h.off, Nat.lt_of_lt_of_le h.lt hs.1⟩
theorem OnK.off2 (h : OnK w L pb g o gc W) : ∀ b, (b = pb ∨ b = g) → b < W.heap.size := fun b hb => by
  rcases hb with rfl | rfl
  · exact (h.box 0 _ rfl).lt
  · exact h.lt
theorem OnK.below (h : OnK w L pb g o gc W) (hb : Below W.heap.size W W') : OnK w L pb g o gc W' := h.kept (SameOn.of_below hb h.off2) (h.bel.trans (hb.mono h.bel.size))
/-- a digipeater just made, off the path -/
theorem OnK.made {D : DiP} {d : Nat} {C : List Cl} {k : Nat × Nat × Nat} {F : Nat → Prop} (h : OnK w L pb g o gc W) (hd : D W' d C k F) (hf : ∀ b, F b → W.heap.size ≤ b) (hb : Below W.heap.size W W') : DiO D w d C k (fun b => b = pb ∨ b = g) W' :=
  ⟨F, hd, fun b hb' => Nat.le_trans h.bel.size (hf b hb'), h.bel.trans (hb.mono h.bel.size), fun b hb' => ⟨Nat.lt_of_lt_of_le (h.off2 b hb') hb.size, fun hx => by have := hf b hx; have := h.off2 b hb'; omega⟩⟩
theorem OnK.new (hw : Below w.heap.size w W) (hE : EntsAt W (some ⟨g, o, none⟩) gc L) (hg : g < W.heap.size) (T : TypeId) : OnK w L W.heap.size g o gc (W.alloc (.cells #[.slice (some ⟨g, o, none⟩) L.length gc] T)) := by
  refine ⟨hw.alloc hw.size _, RowAt.new W W.heap.size rfl [_] T, hE.alloc _, fun i hi => ?_, hw.size, by simp; omega⟩
  refine (World.cell?_alloc_at _ _ _ _ rfl).trans ?_
  simp
  omega
theorem OnK.put (h : OnK w L pb g o gc W) {L' : List Ent} {g' o' gc' : Nat} (hE : EntsAt W (some ⟨g', o', none⟩) gc' L') (h0 : 0 < L'.length) : OnK w L' pb g' o' gc' (W.setCell ⟨pb, 0, none⟩ (.slice (some ⟨g', o', none⟩) L'.length gc')) := by
  obtain ⟨g1, o1, ha, hg, c0, -⟩ := hE.at_ 0 h0
  simp only [Option.some.injEq, Addr.mk.injEq, and_true] at ha
  obtain ⟨rfl, rfl⟩ := ha
  have hne : g' ≠ pb := by
    rintro rfl
    by_cases hz : o' = 0
    · subst hz
      have := h.box.cell 0 rfl
      simp only [Nat.zero_mul, Nat.add_zero] at c0
      rw [this] at c0
      cases c0
    · have := h.one (o' + 0 * 3) (by omega)
      rw [this] at c0
      cases c0
  refine ⟨h.bel.setCell (p := ⟨pb, 0, none⟩) h.off _, h.box.put 0 _ _ rfl, hE.same (fun q hq => Below.heap_setCell _ _ _ _ (by cases hq; exact hne)) (by simp [World.setCell]), fun i hi => ?_, h.off, by simpa [World.setCell] using hg⟩
  exact (set_off _ _ _ _ _ (by omega)).trans (h.one i hi)
/-- the first entry's cells, the entry's at i -/
theorem OnK.call (h : OnK w L pb g o gc W) (i : Nat) (hi : i < L.length) : W.cell? ⟨g, o + i * 3, none⟩ = some (.string L[i].1) ∧ W.cell? ⟨g, o + i * 3 + 1, none⟩ = some (.int .i64 L[i].2.1) ∧ W.cell? ⟨g, o + i * 3 + 2, none⟩ = some (.bool L[i].2.2) := by
  obtain ⟨g1, o1, ha, -, c0, c1, c2⟩ := h.ents.at_ i hi
  simp only [Option.some.injEq, Addr.mk.injEq, and_true] at ha
  obtain ⟨rfl, rfl⟩ := ha
  exact ⟨c0, c1, c2⟩
end
/-- an iterator over a text, made at the world w: where it stands -/
structure ItAt (w W : World) (S : ByteArray) (p : Nat) : Prop where
  it : W.heap[w.heap.size]? = some (.stringIter S p)
  bel : Below w.heap.size w W
theorem ItAt.below {w W W' : World} {S : ByteArray} {p : Nat} (h : ItAt w W S p) (hb : Below W.heap.size W W') : ItAt w W' S p := ⟨(hb.block _ (Array.getElem?_eq_some_iff.1 h.it).1).trans h.it, h.bel.trans (hb.mono h.bel.size)⟩
theorem ItAt.step {w W : World} {S : ByteArray} {p : Nat} (h : ItAt w W S p) (p' : Nat) : ItAt w (W.iterAt w.heap.size S p') S p' := ⟨iterAt_heap W _ S p p' h.it, below_iterAt h.bel (Nat.le_refl _) S p'⟩
theorem ItAt.pos {w W : World} {S : ByteArray} {p : Nat} (h : ItAt w W S p) : W.iterPos w.heap.size = p := by
  unfold World.iterPos
  rw [h.it]
theorem two_texts18 (S T : ByteArray) (pre post : List UInt8) (c c' : UInt8) (hS : S.data.toList = pre ++ c :: post) (hT : T.data.toList = pre ++ c' :: post) :
    S.size = T.size ∧ pre.length < S.size ∧ (∀ p (hp : p < S.size) (hp' : p < T.size), p ≠ pre.length → S[p]'hp = T[p]'hp') ∧ (∀ h : pre.length < S.size, S[pre.length]'h = c) ∧ (∀ h : pre.length < T.size, T[pre.length]'h = c') := by
  have e1 : S.data.toList.length = S.size := by simp
  have e2 : T.data.toList.length = T.size := by simp
  rw [hS, List.length_append, List.length_cons] at e1
  rw [hT, List.length_append, List.length_cons] at e2
  refine ⟨by omega, by omega, fun p hp hp' hne => ?_, fun h => ?_, fun h => ?_⟩
  · rw [← list_at S p hp, ← list_at T p hp']
    simp only [hS, hT]
    by_cases hl : p < pre.length
    · rw [List.getElem_append_left hl, List.getElem_append_left hl]
    · rw [List.getElem_append_right (by omega), List.getElem_append_right (by omega)]
      obtain ⟨j, hj⟩ : ∃ j, p - pre.length = j + 1 := ⟨p - pre.length - 1, by omega⟩
      simp only [hj, List.getElem_cons_succ]
  · rw [← list_at S _ h]
    simp only [hS]
    rw [List.getElem_append_right (Nat.le_refl _)]
    simp
  · rw [← list_at T _ h]
    simp only [hT]
    rw [List.getElem_append_right (Nat.le_refl _)]
    simp
theorem xor_mark18 : ∀ c : Fin 128, bits BinOp.xor .u8 (c.1 : Int) ((c.1 + 128 : Nat) : Int) = 128 := by decide +kernel
end Go.Proofs.YtikabflmgckdnaaDoor
