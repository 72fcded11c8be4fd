/-
Feed of one text, whose slice was just laid.
-/
import Derived.Test.YteglaenjmeocmaaKissFeed
namespace Go.Proofs.Yteglaenjmeocmaa
open Go.RowKit
theorem DC.alloc {w : World} {b : Nat} {at_ most bad : Int} {v : Value} {held : List UInt8} (h : DC w b at_ most bad v held) (o : Obj) : DC (w.alloc o) b at_ most bad v held :=
  ⟨h.1.same (Below.heap_alloc w o b h.1.lt), h.2.alloc o⟩
theorem OwnF.base {T : TypeId} {w : World} {B B' : Nat} {tv : Value} {F : List Fr} (h : OwnF T w B tv F) (hB : B' ≤ B) : OwnF T w B' tv F := by
  refine ⟨h.1, ?_⟩
  rcases h.2 with h0 | ⟨g, cap, cur, hv, hbg, rest⟩
  · exact Or.inl h0
  · exact Or.inr ⟨g, cap, cur, hv, Nat.le_trans hB hbg, rest⟩
theorem WalkTo.alloc {w : World} {o : Obj} {b most : Nat} {v : Value} {tgt : St × List Fr} {e : Ending} {w' : World} (h : WalkTo (w.alloc o) b most v tgt e w') : WalkTo w b most v tgt e w' := by
  obtain ⟨v', tv, he, hD, hW, hF⟩ := h
  exact ⟨v', tv, he, hD, ((Wrote.refl w b v).grown (World.grownBy_alloc w o none) (fun _ h => by cases h)).trans hW, hF.base (by simp)⟩
/-- Feed of one text, whose slice was just laid -/
theorem feed_one (b most : Nat) (st : St) (v : Value) (s : ByteArray) (n : Nat) (T : TypeId) (w : World) (hn : n = w.heap.size) (hm : most ≤ 4096) (hi : InvD most st) (hbad : st.2.1 ≤ 100000) (hs : s.size ≤ 50000) (hD : DC w b st.1 most st.2.1 v st.2.2) :
    Calls Try.prog 15 #[.pointer (some ⟨b, 0, none⟩), .slice (some ⟨n, 0, none⟩) 1 1] (w.alloc (.cells #[.string s] T)) fun e w' => WalkTo w b most v (fedD most st s.data.toList) e w' := by
  subst hn
  have hb := hD.1.lt
  have h := feed_some b most st v w.heap.size 0 1 [s] (w.alloc (.cells #[.string s] T)) (by simp) hm hi hbad (by simpa [flat] using hs) (by simp) (by omega)
    (fun e => by have := (hD.2.ge e).2; omega) (hD.alloc _) (fun j hj => by
      have hj0 : j = 0 := by simpa using hj
      subst hj0
      rw [World.cell?_alloc_new]; rfl)
  rw [show flat [s] = s.data.toList from by simp [flat]] at h
  exact h.mono fun e w' hw => hw.alloc
theorem add_flat (g j : Nat) : (⟨g, 0, none⟩ : Addr).add j = ⟨g, j, none⟩ := by unfold Addr.add; split <;> simp_all
end Go.Proofs.Yteglaenjmeocmaa
