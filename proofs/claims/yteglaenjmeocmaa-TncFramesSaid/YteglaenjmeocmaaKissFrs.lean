/-
A slice of frames, as a caller may read it.
-/
import Derived.Test.YteglaenjmeocmaaKissEnd
namespace Go.Proofs.Yteglaenjmeocmaa
open Go.RowKit
/-- a slice of frames, as a caller may read it -/
def Frs (w : World) (v : Value) (F : List Fr) : Prop :=
  ∃ a cap, v = .slice a F.length cap ∧ (0 < F.length → ∃ g, a = some ⟨g, 0, none⟩ ∧ g < w.heap.size ∧ ∀ j u, (frsV F)[j]? = some u → w.cell? ⟨g, j, none⟩ = some u)
theorem OwnF.frs {T : TypeId} {w : World} {B : Nat} {v : Value} {F : List Fr} (h : OwnF T w B v F) : Frs w v F := by
  rcases h.2 with ⟨hv, h0⟩ | ⟨g, cap, cur, hv, hb, hg, rest⟩
  · exact ⟨none, 0, by rw [h0]; exact hv, fun hp => by omega⟩
  · refine ⟨_, cap, hv, fun _ => ⟨g, rfl, (h.ge (by rw [hv]; rfl)).2, fun j u hj => ?_⟩⟩
    have := World.ownsRow.cells h (g := g) (by rw [hv]; rfl) j u hj
    have e : (⟨g, 0, none⟩ : Addr).add j = ⟨g, j, none⟩ := by unfold Addr.add; split <;> simp_all
    rwa [e] at this
theorem Frs.below {w w' : World} {v : Value} {F : List Fr} (h : Frs w v F) (hb : Below w.heap.size w w') : Frs w' v F := by
  obtain ⟨a, cap, hv, hc⟩ := h
  refine ⟨a, cap, hv, fun hp => ?_⟩
  obtain ⟨g, ha, hg, hk⟩ := hc hp
  exact ⟨g, ha, Nat.lt_of_lt_of_le hg hb.size, fun j u hj => (hb.cell (p := ⟨g, j, none⟩) hg).trans (hk j u hj)⟩
theorem frsV_at (F : List Fr) (k : Nat) (h : k < F.length) : (frsV F)[k * 3]? = some (.int .i64 ((F[k].1.toNat / 16 : Nat) : Int)) ∧ (frsV F)[k * 3 + 1]? = some (.int .i64 ((F[k].1.toNat % 16 : Nat) : Int)) ∧ (frsV F)[k * 3 + 2]? = some (.string ⟨F[k].2.toArray⟩) := by
  induction F generalizing k with
  | nil => simp at h
  | cons f F ih =>
    have e : frsV (f :: F) = frV f ++ frsV F := rfl
    have hl : (frV f).length = 3 := rfl
    cases k with
    | zero => rw [e]; simp [frV]
    | succ k =>
      have hk : k < F.length := by simpa using h
      obtain ⟨a, b, c⟩ := ih k hk
      rw [e]
      refine ⟨?_, ?_, ?_⟩
      · rw [List.getElem?_append_right (by omega), hl, show (k + 1) * 3 - 3 = k * 3 from by omega, a]; rfl
      · rw [List.getElem?_append_right (by omega), hl, show (k + 1) * 3 + 1 - 3 = k * 3 + 1 from by omega, b]; rfl
      · rw [List.getElem?_append_right (by omega), hl, show (k + 1) * 3 + 2 - 3 = k * 3 + 2 from by omega, c]; rfl
theorem OwnF.below {T : TypeId} {w w' : World} {B : Nat} {v : Value} {F : List Fr} (h : OwnF T w B v F) (hb : Below w.heap.size w w') : OwnF T w' B v F := by
  refine ⟨h.1, ?_⟩
  rcases h.2 with h0 | ⟨g, cap, cur, hv, hbg, hg, rest⟩
  · exact Or.inl h0
  · exact Or.inr ⟨g, cap, cur, hv, hbg, by rw [hb.block g (h.ge (by rw [hv]; rfl)).2]; exact hg, rest⟩
/-- behind an append of a frame that was laid in one block -/
theorem want_after {w0 wr w1 : World} {T : TypeId} {tv tv' : Value} {F : List Fr} {f : Fr} {news : List Value} {o : Obj} (h : OwnF T wr w0.heap.size tv F) (hb : Below w0.heap.size w0 wr)
    (hown1 : w1.ownsRow w0.heap.size T 3 tv' (F.length + 1) (frsV F ++ news)) (hn : frsV [f] = news) (hg : (wr.alloc o).grownBy w1 tv.ownBlock) : OwnF T w1 w0.heap.size tv' (F ++ [f]) ∧ Below w0.heap.size w0 w1 := by
  refine ⟨?_, (hb.alloc hb.size o).grown hg (by have := hb.size; simp; omega) (fun k hk => (h.ge hk).1)⟩
  unfold OwnF
  rw [List.length_append, frsV_append, hn]
  exact hown1
theorem OwnB.block {w w' : World} {B : Nat} {v : Value} {l : List UInt8} (h : OwnB w B v l) (hg : ∀ g, v.ownBlock = some g → w'.heap[g]? = w.heap[g]?) : OwnB w' B v l := by
  refine ⟨h.1, ?_⟩
  rcases h.2 with h0 | ⟨g, cap, cur, hv, hb, hc, rest⟩
  · exact Or.inl h0
  · exact Or.inr ⟨g, cap, cur, hv, hb, by rw [hg g (by rw [hv]; rfl)]; exact hc, rest⟩
/-- a deframer while another one takes bytes -/
theorem DC.wrote {w w' : World} {b b' : Nat} {at_ most bad : Int} {v u u' : Value} {held : List UInt8} (h : DC w b at_ most bad v held) (hw : Wrote w w' b' u u') (hb : b ≠ b') (hv : ∀ g, v.ownBlock = some g → g ≠ b' ∧ u.ownBlock ≠ some g) (hu : u.ownBlock ≠ some b) : DC w' b at_ most bad v held :=
  ⟨h.1.same (hw.block b h.1.lt hb (fun e => hu e.symm)), h.2.block (fun g hg => hw.block g (h.2.ge hg).2 (hv g hg).1 (fun e => (hv g hg).2 e.symm))⟩
theorem DC.below {w w' : World} {b : Nat} {at_ most bad : Int} {v : Value} {held : List UInt8} (h : DC w b at_ most bad v held) (hb : Below w.heap.size w w') : DC w' b at_ most bad v held :=
  ⟨h.1.same (hb.block b h.1.lt), h.2.block (fun g hg => hb.block g (h.2.ge hg).2)⟩
theorem below_drewN {B : Nat} {a w : World} (h : Below B a w) (n : Nat) : Below B a (w.drewN n) := ⟨h.os, h.tape, h.output, h.size, h.block⟩
theorem Wrote.nil_below {w w' : World} {b B : Nat} {a : Option Addr} {n c : Nat} {v' : Value} (h : Wrote w w' b (.slice a n c) v') (ha : a = none) (hb : B ≤ b) (hB : B ≤ w.heap.size) : Below B w w' := by
  subst ha
  exact h.below hB hb (fun g h => by cases h)
end Go.Proofs.Yteglaenjmeocmaa
