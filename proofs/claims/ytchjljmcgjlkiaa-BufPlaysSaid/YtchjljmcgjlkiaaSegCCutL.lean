/-
What a round of the landed code's cut keeps.
-/
import Derived.Test.YtchjljmcgjlkiaaSegCPart
import Derived.Test.YtchjljmcgjlkiaaSlicesIn
namespace Go.Proofs.Ytchjljmcgjlkiaa
open Go.RowKit Go.Shelf
set_option maxRecDepth 20000
/-- the three boxes (how many follow, the first byte, the pieces so far), the pieces' own slice, the message's bytes -/
structure CutSt (w : World) (mf g : Nat) (body : List UInt8) (F0 : Int) (k : Nat) (pre : List Pc) (tv : Value) (W : World) : Prop where
  f : RowAt W mf [.int .i64 (F0 - k)]
  h : RowAt W (mf + 1) [.int .u8 (hdN F0 k)]
  l : RowAt W (mf + 2) [tv]
  own : OwnL encP 36 W (mf + 5) tv pre
  body : BytesAt W g body
  bel : Below w.heap.size w W
  size : mf + 5 ≤ W.heap.size
  wm : w.heap.size ≤ mf
  gm : g < mf
theorem CutSt.below {w : World} {mf g k : Nat} {body : List UInt8} {F0 : Int} {pre : List Pc} {tv : Value} {W W' : World} (h : CutSt w mf g body F0 k pre tv W) (hb : Below W.heap.size W W') : CutSt w mf g body F0 k pre tv W' :=
  ⟨h.f.below hb, h.h.below hb, h.l.below hb, h.own.below hb, h.body.below hb, h.bel.trans (hb.mono h.bel.size), Nat.le_trans h.size hb.size, h.wm, h.gm⟩
theorem CutSt.kept {w : World} {mf g k : Nat} {body : List UInt8} {F0 : Int} {pre : List Pc} {tv : Value} {X Y : World} {row : Option Nat} (h : CutSt w mf g body F0 k pre tv X) (hg : X.grownBy Y row) (hr : ∀ r, row = some r → w.heap.size ≤ r ∧ ∃ o : Obj, X.heap[r]? = some o ∧ o.isCells = false) : CutSt w mf g body F0 k pre tv Y := by
  have hr2 := fun r e => (hr r e).2
  exact ⟨h.f.kept hg hr2, h.h.kept hg hr2, h.l.kept hg hr2, h.own.kept hg hr2, h.body.kept hg hr2, h.bel.grown hg h.bel.size (fun k e => (hr k e).1), Nat.le_trans h.size hg.size, h.wm, h.gm⟩
theorem part_cells {W : World} {g : Nat} {body : List UInt8} (h : BytesAt W g body) (off m : Nat) : ∀ j v, (bytesV ((body.drop off).take m))[j]? = some v → W.cell? ⟨g, off + j, none⟩ = some v := by
  intro j v hj
  have hj2 : j < ((body.drop off).take m).length := by
    have := (List.getElem?_eq_some_iff.1 hj).1
    rwa [bytesV_length] at this
  rw [bytesV_get _ j hj2] at hj
  rw [List.length_take, List.length_drop] at hj2
  rw [h.2 (off + j) (by omega), ← hj]
  simp
theorem cut_put {w : World} {mf g k : Nat} {body : List UInt8} {F0 : Int} {pre : List Pc} {tv v' : Value} {W w4 : World} {p : Pc} (h : CutSt w mf g body F0 k pre tv W)
    (hown : OwnL encP 36 w4 (mf + 5) v' (pre ++ [p])) (hgr : W.grownBy w4 tv.ownBlock) :
    RowAt w4 (mf + 2) [tv] ∧ CutSt w mf g body F0 k (pre ++ [p]) v' (w4.setCell ⟨mf + 2, 0, none⟩ v') ∧ KeepsOthers W (w4.setCell ⟨mf + 2, 0, none⟩ v') ∧ KC w.heap.size (mf + 3) (mf + 4) W (w4.setCell ⟨mf + 2, 0, none⟩ v') := by
  have hne : ∀ k, k < mf + 5 → tv.ownBlock ≠ some k := fun k hk e => by have := (h.own.ge e).1; omega
  have hne' : ∀ k, k < mf + 5 → v'.ownBlock ≠ some k := fun k hk e => by have := (hown.ge e).1; omega
  have hsz := h.size
  have hl4 := h.l.grown hgr (hne _ (by omega))
  have hs4 := hgr.size
  have same : ∀ k, k < mf + 5 → k ≠ mf + 2 → (w4.setCell ⟨mf + 2, 0, none⟩ v').heap[k]? = W.heap[k]? := fun k hk h2 =>
    (Below.heap_setCell _ _ _ _ (by show k ≠ mf + 2; exact h2)).trans (hgr.block k (by omega) (fun e => hne k hk e.symm))
  refine ⟨hl4, ⟨?_, ?_, ?_, ?_, ?_, ?_, ?_, h.wm, h.gm⟩, ?_, ?_, ?_, ?_⟩
  · exact (h.f.grown hgr (hne _ (by omega))).other (p := 0) _ (by omega)
  · exact (h.h.grown hgr (hne _ (by omega))).other (p := 0) _ (by omega)
  · exact hl4.put 0 v' _ rfl
  · refine hown.same fun b hb => Below.heap_setCell _ _ _ _ (fun e => ?_)
    have e2 : b = mf + 2 := e
    exact hne' (mf + 2) (by omega) (e2 ▸ hb)
  · exact h.body.same (same g (by have := h.gm; omega) (by have := h.gm; omega)) (by simp [World.setCell]; omega)
  · refine Below.setCell (p := ⟨mf + 2, 0, none⟩) (h.bel.grown hgr h.bel.size (fun k e => ?_)) (by have := h.wm; show w.heap.size ≤ mf + 2; omega) _
    have := (h.own.ge e).1
    have := h.wm
    omega
  · show mf + 5 ≤ _
    simp [World.setCell]
    omega
  · exact (KeepsOthers.of_grownBy hgr (fun j o e ho => h.own.cells e o ho)).trans (KeepsOthers.setCell _ _ _)
  · refine Below.setCell (p := ⟨mf + 2, 0, none⟩) ((Below.refl _ W).grown hgr (Nat.le_trans h.wm (by omega)) (fun k e => ?_)) (by have := h.wm; show w.heap.size ≤ mf + 2; omega) _
    have := (h.own.ge e).1
    have := h.wm
    omega
  · exact same (mf + 3) (by omega) (by omega)
  · exact same (mf + 4) (by omega) (by omega)
theorem cut_count {w : World} {mf g k : Nat} {body : List UInt8} {F0 X Y : Int} {pre : List Pc} {tv : Value} {W : World} (h : CutSt w mf g body F0 k pre tv W) (hX : X = F0 - k) (hY : IntKind.u8.wrap (X - 1) = Y) :
    CutSt w mf g body F0 (k + 1) pre tv ((W.setCell ⟨mf, 0, none⟩ (.int .i64 (X - 1))).setCell ⟨mf + 1, 0, none⟩ (.int .u8 Y)) ∧ KeepsOthers W ((W.setCell ⟨mf, 0, none⟩ (.int .i64 (X - 1))).setCell ⟨mf + 1, 0, none⟩ (.int .u8 Y)) ∧
      KC w.heap.size (mf + 3) (mf + 4) W ((W.setCell ⟨mf, 0, none⟩ (.int .i64 (X - 1))).setCell ⟨mf + 1, 0, none⟩ (.int .u8 Y)) := by
  have hwm := h.wm
  have hsz := h.size
  have e1 : X - 1 = F0 - ((k + 1 : Nat) : Int) := by omega
  have e2 : Y = hdN F0 (k + 1) := by
    unfold hdN
    rw [if_neg (by omega), ← hY, e1]
  have same : ∀ b, b ≠ mf → b ≠ mf + 1 → ((W.setCell ⟨mf, 0, none⟩ (.int .i64 (X - 1))).setCell ⟨mf + 1, 0, none⟩ (.int .u8 Y)).heap[b]? = W.heap[b]? := fun b h1 h2 =>
    (Below.heap_setCell _ _ _ _ (by show b ≠ mf + 1; exact h2)).trans (Below.heap_setCell _ _ _ _ (by show b ≠ mf; exact h1))
  have hss : ((W.setCell ⟨mf, 0, none⟩ (.int .i64 (X - 1))).setCell ⟨mf + 1, 0, none⟩ (.int .u8 Y)).heap.size = W.heap.size := by simp [World.setCell]
  refine ⟨⟨?_, ?_, ?_, ?_, ?_, ?_, ?_, h.wm, h.gm⟩, ?_, ?_, ?_, ?_⟩
  · rw [← e1]
    exact (h.f.put 0 (.int .i64 (X - 1)) _ rfl).other (p := 0) _ (by omega)
  · rw [← e2]
    exact (h.h.other (p := 0) (.int .i64 (X - 1)) (by omega)).put 0 (.int .u8 Y) _ rfl
  · exact (h.l.other (p := 0) _ (by omega)).other (p := 0) _ (by omega)
  · exact h.own.same fun b hb => same b (by have := (h.own.ge hb).1; omega) (by have := (h.own.ge hb).1; omega)
  · exact h.body.same (same g (by have := h.gm; omega) (by have := h.gm; omega)) (by omega)
  · exact Below.setCell (p := ⟨mf + 1, 0, none⟩) (Below.setCell (p := ⟨mf, 0, none⟩) h.bel hwm _) (by show w.heap.size ≤ mf + 1; omega) _
  · omega
  · exact (KeepsOthers.setCell _ _ _).trans (KeepsOthers.setCell _ _ _)
  · exact Below.setCell (p := ⟨mf + 1, 0, none⟩) (Below.setCell (p := ⟨mf, 0, none⟩) (Below.refl _ W) hwm _) (by show w.heap.size ≤ mf + 1; omega) _
  · exact same (mf + 3) (by omega) (by omega)
  · exact same (mf + 4) (by omega) (by omega)
end Go.Proofs.Ytchjljmcgjlkiaa
