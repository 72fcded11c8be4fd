/-
Slices and rows in the round of a range over a function: what stays when the loop's own things are written; appends there.
-/
import Derived.Test.YtchjljmcgjlkiaaSlices
import Derived.Test.YtchjljmcgjlkiaaBytes
import Derived.RangeFuncNested
import Derived.RangeFuncBound
import Derived.RangeFuncCalls
import Derived.RangeFuncLeaves
import Derived.Shelf.Abstract
import Derived.OwnWalkIn
import Derived.TacticsInMore
namespace Go.Proofs.Ytchjljmcgjlkiaa
open Go.RowKit Go.Shelf
variable {α : Type}
theorem keeps_below' {W W' : World} (h : Below W.heap.size W W') : KeepsOthers W W' := ⟨h.size, fun k _ hk _ => (h.block k (Array.getElem?_eq_some_iff.1 hk).1).trans hk⟩
theorem OwnL.cells {E : Enc α} {T : TypeId} {w : World} {B g : Nat} {v : Value} {L : List α} (h : OwnL E T w B v L) (hv : v.ownBlock = some g) : ∀ o, w.heap[g]? = some o → o.isCells = true := by
  intro o ho
  rcases h.2 with ⟨h0, _⟩ | ⟨g', cap, cur, h0, hbg, hg, _⟩
  · rw [h0] at hv; cases hv
  · rw [h0] at hv
    obtain rfl : g' = g := Option.some.inj hv
    rw [hg] at ho
    obtain rfl := Option.some.inj ho
    rfl
theorem OwnL.form {E : Enc α} {T : TypeId} {w : World} {B : Nat} {v : Value} {L : List α} (h : OwnL E T w B v L) : ∃ a n c, v = .slice a n c := by
  rcases h.2 with ⟨h0, _⟩ | ⟨g', cap, cur, h0, _⟩
  · exact ⟨_, _, _, h0⟩
  · exact ⟨_, _, _, h0⟩
theorem OwnL.kept {E : Enc α} {T : TypeId} {X Y : World} {B : Nat} {v : Value} {L : List α} {row : Option Nat} (h : OwnL E T X B v L) (hg : X.grownBy Y row) (hr : ∀ r, row = some r → ∃ o : Obj, X.heap[r]? = some o ∧ o.isCells = false) : OwnL E T Y B v L :=
  h.grown hg fun g hv e => by
    obtain ⟨o, ho, hc⟩ := hr g e
    have := h.cells hv o ho
    rw [hc] at this
    cases this
theorem KeepAt.kept' {X Y : World} {m o : Nat} {u : Value} {row : Option Nat} (h : KeepAt X m o u) (hg : X.grownBy Y row) (hr : ∀ r, row = some r → ∃ o : Obj, X.heap[r]? = some o ∧ o.isCells = false) : KeepAt Y m o u :=
  ⟨cell_kept h.cell hg hr, (frozen_kept h.cell hg hr).trans h.free, Nat.lt_of_lt_of_le h.lt hg.size⟩
theorem RowAt.kept {X Y : World} {m : Nat} {L : List Value} {row : Option Nat} (h : RowAt X m L) (hg : X.grownBy Y row) (hr : ∀ r, row = some r → ∃ o : Obj, X.heap[r]? = some o ∧ o.isCells = false) : RowAt Y m L := fun i v e => (h i v e).kept' hg hr
theorem RowAt.grown {X Y : World} {m : Nat} {L : List Value} {row : Option Nat} (h : RowAt X m L) (hg : X.grownBy Y row) (hr : row ≠ some m) : RowAt Y m L := fun i v e => (h i v e).block (hg.block m (h i v e).lt (fun q => hr q.symm)) hg.size
theorem BytesAt.kept {X Y : World} {g : Nat} {l : List UInt8} {row : Option Nat} (h : BytesAt X g l) (hg : X.grownBy Y row) (hr : ∀ r, row = some r → ∃ o : Obj, X.heap[r]? = some o ∧ o.isCells = false) : BytesAt Y g l :=
  ⟨Nat.lt_of_lt_of_le h.1 hg.size, fun i hi => cell_kept (h.2 i hi) hg hr⟩
theorem BytesAt.same {X Y : World} {g : Nat} {l : List UInt8} (h : BytesAt X g l) (hb : Y.heap[g]? = X.heap[g]?) (hs : X.heap.size ≤ Y.heap.size) : BytesAt Y g l :=
  ⟨Nat.lt_of_lt_of_le h.1 hs, fun i hi => (World.cell?_of_block (a := ⟨g, i, none⟩) hb).trans (h.2 i hi)⟩
/-- an append that runs so -/
theorem wpIn_append_run {F : Fence} {n : Nat} {P : Program} {t : TypeId} {w : World} {o : Oper} {a : Act} {Q : Exit → Act → World → Prop} {K : Act → World → Prop} (s x : Operand) (ho : o.op = .call { callee := .builtin .append, args := #[s, x], argTypes := #[t, t] })
    {vs vx v' : Value} {w' : World} (hs : a.eval s = vs) (hx : a.eval x = vx) (hr : (Builtin.append_ #[t, t] o.type #[vs, vx]).run P w = .ok v' w') (h : K (a.put o.dst v') w') : Oper.wpIn F n P o a w K Q := by
  unfold Oper.wpIn
  refine ⟨?_, ?_⟩
  · simp [Oper.about, ho, resolve, Target.leads, Sem.run_pure]
  · rw [Oper.semAt_plain F _ _ (by rw [ho]; intro c hc'; cases hc')]
    unfold execOp
    simp only [ho, resolve, invoke, builtin, Sem.run_bind, Sem.run_pure, Result.andThen_ok, List.map_toArray, List.map_cons, List.map_nil, hs, hx, hr]
    exact h
/-- bytes behind one byte that has just been laid: always a new block -/
theorem run_append_head (ty : TypeId) (W : World) (b gb off k c : Nat) (x : UInt8) (part : List UInt8) (hb : BytesAt W b [x]) (hp : ∀ j v, (bytesV part)[j]? = some v → W.cell? ⟨gb, off + j, none⟩ = some v) (hl : part.length = k) (h0 : 0 < k) (hk : k ≤ 100000) :
    ∃ cap W', (Builtin.append_ #[76, 76] ty #[.slice (some ⟨b, 0, none⟩) 1 1, .slice (some ⟨gb, off, none⟩) k c]).run Try.prog W = .ok (.slice (some ⟨W.heap.size, 0, none⟩) (k + 1) cap) W' ∧ BytesAt W' W.heap.size (x :: part) ∧ Below W.heap.size W W' := by
  obtain ⟨i0, hi0, hz0, hz1, hz2⟩ := info_parts info8
  have h := run_append_grow (P := Try.prog) (w := W) 76 ty 5 i0 (.int .u8 0) Try.underlying76 hi0 hz0 ⟨b, 0, none⟩ 1 1 (bytesV [x]) (by rw [hz1]; rfl) (row_news hb.2) ⟨gb, off, none⟩ k c (bytesV part) (by rw [bytesV_length, hz1, hl, Nat.mul_one]) (fun j v hj => by
    have e : (⟨gb, off, none⟩ : Addr).add j = ⟨gb, off + j, none⟩ := by unfold Addr.add; split <;> simp_all
    rw [e]
    exact hp j v hj) (by omega) (by omega) (growslice_fits (by omega) (by rw [hz2]; omega))
  refine ⟨_, _, by rw [h, Nat.add_comm 1 k], ⟨by simp, fun i hi => ?_⟩, ((Below.refl _ W).drew).alloc (Nat.le_refl _) _⟩
  refine (World.cell?_alloc_at _ _ _ _ rfl).trans ?_
  have e : ((bytesV [x]).toArray ++ (bytesV part).toArray).toList = bytesV (x :: part) := by simp [bytesV]
  rw [← Array.getElem?_toList, Array.toList_append, e, List.getElem?_append_left (by rw [bytesV_length]; exact hi)]
  exact bytesV_get _ i hi
end Go.Proofs.Ytchjljmcgjlkiaa
