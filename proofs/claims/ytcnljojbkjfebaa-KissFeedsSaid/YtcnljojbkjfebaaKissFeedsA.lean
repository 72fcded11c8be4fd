/-
Walk of the statement KissFeeds.
-/
import Derived.Test.YtcnljojbkjfebaaKissCutsW
import Derived.Test.YtcnljojbkjfebaaKissRefF
namespace Go.Proofs.Ytcnljojbkjfebaa
open Go.RowKit
/-- what is left of a region only reads: one walk, in the text's order, serves every order -/
theorem any_rest {P : Program} {md : Region.Mode} {ops : Array Oper} {Q : Exit → Act → World → Prop} (k : Nat) {fuel : Nat} {listed : Array Bool} {a : Act} {w : World} (hs : Region.noSelect ops = true)
    (hf : fuel = (ops.toList.drop k).length) (hB : Region.lexFrom md ops fuel k listed = true)
    (h : wpQuiet P ops (fun w' => ∃ n, w' = w.drewN n) (fun a' => ∀ w', (∃ n, w' = w.drewN n) → Q .normal a' w') (ops.toList.drop k) a) : wpAny P md ops Q fuel listed a w := by
  subst hf
  refine wpAny_of_quiet (C := fun w' => ∃ n, w' = w.drewN n) (Q := fun a' => ∀ w', (∃ n, w' = w.drewN n) → Q .normal a' w') (fun _ w' hw' h => h w' hw') _ _ _ _ ⟨0, rfl⟩ ?_
  exact wpAnyQ_lex hs _ k listed a (fun j => by rw [List.getElem?_drop]; simp) hB h
/-- the block that the code's deframer holds its bytes in; its own one where it holds none -/
def avoid (v : Value) (b : Nat) : Nat := v.ownBlock.getD b
theorem HeldV.avoid {av av' : Nat} {w w' : World} {b : Nat} {v : Value} {l : List UInt8} (h : HeldV av w b v l) (hs : w.heap.size ≤ w'.heap.size) (hb : ∀ g, v.ownBlock = some g → b < g → g ≠ av → g < w.heap.size → w'.heap[g]? = w.heap[g]? ∧ g ≠ av') : HeldV av' w' b v l := by
  rcases h with h | ⟨hl, g, cap, hv, hbg, hgw, hcap, hcell⟩
  · exact Or.inl h
  · obtain ⟨h1, h2⟩ := hb g (by rw [hv]; rfl) hbg.1 hbg.2 hgw
    exact Or.inr ⟨hl, g, cap, hv, ⟨hbg.1, h2⟩, by omega, hcap, fun i hi => by rw [World.cell?_of_block (a := ⟨g, i, none⟩) h1]; exact hcell i hi⟩
/-- the document's deframer while the code's one takes bytes -/
theorem DefIs.wrote {w w' : World} {b1 b2 : Nat} {most place bad : Int} {v v' : Value} {held : List UInt8} (h : DefIs (avoid v b1) w b2 most place bad held) (hw : Wrote w w' b1 v v') (h12 : b1 < b2) (hv : ∀ g, v.ownBlock = some g → b2 < g) : DefIs (avoid v' b1) w' b2 most place bad held := by
  have hlt := h.lt
  obtain ⟨r, hD, hH⟩ := h
  refine ⟨r, hD.same (hw.block b2 hlt (by omega) (fun e => by have := hv _ e.symm; omega)), hH.avoid hw.size (fun g _ hbg hne hgw => ?_)⟩
  have hne2 : some g ≠ v.ownBlock := fun e => hne (by unfold avoid; rw [← e]; rfl)
  refine ⟨hw.block g hgw (by omega) hne2, ?_⟩
  unfold Go.Proofs.Ytcnljojbkjfebaa.avoid at hne ⊢
  rcases hw.own with e | ⟨k, e, hk⟩
  · rw [e]; exact hne
  · rw [e]; show g ≠ k; omega
theorem DefIs.below {av : Nat} {w w' : World} {b : Nat} {most place bad : Int} {held : List UInt8} (h : DefIs av w b most place bad held) (hb : Below w.heap.size w w') : DefIs av w' b most place bad held := by
  have hlt := h.lt
  obtain ⟨r, hD, hH⟩ := h
  exact ⟨r, hD.same (hb.block b hlt), hH.avoid hb.size (fun g _ _ hne hgw => ⟨hb.block g hgw, hne⟩)⟩
theorem DefIs.drewN {av : Nat} {w : World} {b : Nat} {most place bad : Int} {held : List UInt8} (h : DefIs av w b most place bad held) (n : Nat) : DefIs av (w.drewN n) b most place bad held := h
/-- behind the code's Feed -/
def Feeds2 (w0 : World) (b1 b2 most : Nat) (st : St) (q : St × List Fr) (x vc : Value) (w : World) : Prop :=
  DC w b1 q.1.1 most q.1.2.1 vc q.1.2.2 ∧ DefIs (avoid vc b1) w b2 most st.1 st.2.1 st.2.2 ∧ OwnF 23 w (b2 + 1) x q.2 ∧ (∀ g, vc.ownBlock = some g → b2 < g) ∧ Below w0.heap.size w0 w
theorem feeds_2 {w0 w w2 : World} {b1 b2 most : Nat} {st : St} {q : St × List Fr} {vc vc2 x : Value} (hO : Below w0.heap.size w0 w ∧ w0.heap.size ≤ b1) (h12 : b1 < b2)
    (h : DefIs (avoid vc b1) w b2 most st.1 st.2.1 st.2.2 ∧ ∀ g, vc.ownBlock = some g → b2 < g)
    (hD : DC w2 b1 q.1.1 most q.1.2.1 vc2 q.1.2.2) (hW : Wrote w.drew w2 b1 vc vc2) (hF : OwnF 23 w2 w.drew.heap.size x q.2) (hsz : b2 < w.heap.size) : Feeds2 w0 b1 b2 most st q x vc2 w2 := by
  have hW' : Wrote w w2 b1 vc vc2 := ⟨hW.os, hW.tape, hW.output, hW.size, hW.block, hW.own⟩
  refine ⟨hD, h.1.wrote hW' h12 h.2, hF.base hsz, fun g hg => ?_, hO.1.trans (hW'.below hO.1.size hO.2 (fun g hg => by have := h.2 g hg; omega))⟩
  rcases hW'.own with e | ⟨k, e, hk⟩
  · exact h.2 g (by rw [← e]; exact hg)
  · rw [hg] at e; have := Option.some.inj e; omega
/-- behind Plain -/
def Feeds3 (w0 : World) (b1 b2 most : Nat) (st : St) (q : St × List Fr) (p vc : Value) (w : World) : Prop :=
  DC w b1 q.1.1 most q.1.2.1 vc q.1.2.2 ∧ DefIs (avoid vc b1) w b2 most st.1 st.2.1 st.2.2 ∧ OwnF 30 w (b2 + 1) p q.2 ∧ (∀ g, vc.ownBlock = some g → b2 < g) ∧ Below w0.heap.size w0 w
theorem feeds_3 {w0 w2 w3 : World} {b1 b2 most : Nat} {st : St} {q : St × List Fr} {vc x p : Value} (h : Feeds2 w0 b1 b2 most st q x vc w2) (hp : OwnF 30 w3 w2.heap.size p q.2) (hb : Below w2.heap.size w2 w3) : Feeds3 w0 b1 b2 most st q p vc w3 :=
  ⟨h.1.below hb, h.2.1.below hb, hp.base h.2.1.lt, h.2.2.2.1, h.2.2.2.2.trans (hb.mono h.2.2.2.2.size)⟩
theorem feeds_av {w0 w3 : World} {b1 b2 most : Nat} {st : St} {q : St × List Fr} {vc p : Value} (h : Feeds3 w0 b1 b2 most st q p vc w3) : avoid vc b1 < w3.heap.size := by
  unfold avoid
  cases hv : vc.ownBlock with
  | none => exact h.1.1.lt
  | some g => exact (h.1.2.ge hv).2
/-- behind the document's Feed -/
def Feeds4 (w0 : World) (b1 b2 most : Nat) (q : St × List Fr) (p y vc : Value) (w : World) : Prop :=
  DC w b1 q.1.1 most q.1.2.1 vc q.1.2.2 ∧ DefIs (avoid vc b1) w b2 most q.1.1 q.1.2.1 q.1.2.2 ∧ Frs w p q.2 ∧ Frs w y q.2 ∧ (∀ g, vc.ownBlock = some g → b2 < g) ∧ Below w0.heap.size w0 w
theorem feeds_4 {w0 w3 w4 : World} {b1 b2 most : Nat} {st : St} {q : St × List Fr} {vc p y : Value} (h12 : b1 < b2) (h : Feeds3 w0 b1 b2 most st q p vc w3) (hD : DefIs (avoid vc b1) w4 b2 most q.1.1 q.1.2.1 q.1.2.2) (hF : OwnF 30 w4 w3.heap.size y q.2) (hg : w3.grownBy w4 (some b2)) (hb1 : w0.heap.size ≤ b1) : Feeds4 w0 b1 b2 most q p y vc w4 :=
  ⟨⟨h.1.1.same (hg.block b1 h.1.1.lt (fun e => by have := Option.some.inj e; omega)), h.1.2.grown hg (fun g hv e => by have := h.2.2.2.1 g hv; have := Option.some.inj e; omega)⟩, hD,
    (h.2.2.1.grown hg (fun g hv e => by have := (h.2.2.1.ge hv).1; have := Option.some.inj e; omega)).frs, hF.frs, h.2.2.2.1,
    h.2.2.2.2.grown hg h.2.2.2.2.size (fun k e => by have := Option.some.inj e; omega)⟩
theorem feeds_5 {w0 w : World} {b1 b2 most : Nat} {q : St × List Fr} {p y vc : Value} (h : Feeds4 w0 b1 b2 most q p y vc w) (n : Nat) : Feeds4 w0 b1 b2 most q p y vc (w.drewN n) :=
  ⟨h.1, h.2.1, h.2.2.1, h.2.2.2.1, h.2.2.2.2.1, below_drewN h.2.2.2.2.2 n⟩
/-- what holds at a round's head -/
def FeedsRel (w0 : World) (b1 b2 most n : Nat) (w : World) : Prop :=
  ∃ (st : St) (vc : Value), InvD most st ∧ st.2.1 ≤ n ∧ DC w b1 st.1 most st.2.1 vc st.2.2 ∧ DefIs (avoid vc b1) w b2 most st.1 st.2.1 st.2.2 ∧ (∀ g, vc.ownBlock = some g → b2 < g) ∧ Below w0.heap.size w0 w
theorem feeds_end {w0 w : World} {b1 b2 most n n1 : Nat} {q : St × List Fr} {vc : Value} (hi : InvD most q.1) (hn : q.1.2.1 ≤ n) (hD : DC w b1 q.1.1 most q.1.2.1 vc q.1.2.2) (hR : DefIs (avoid vc b1) w b2 most q.1.1 q.1.2.1 q.1.2.2) (hv : ∀ g, vc.ownBlock = some g → b2 < g) (hb : Below w0.heap.size w0 w) :
    FeedsRel w0 b1 b2 most n (w.drewN n1) := ⟨q.1, vc, hi, hn, hD, hR, hv, below_drewN hb n1⟩
/-- what holds ahead of the comparison -/
def FeedsPre (w0 : World) (b1 b2 most : Nat) (st : St) (vc : Value) (w : World) : Prop :=
  InvD most st ∧ DC w b1 st.1 most st.2.1 vc st.2.2 ∧ DefIs (avoid vc b1) w b2 most st.1 st.2.1 st.2.2 ∧ (∀ g, vc.ownBlock = some g → b2 < g) ∧ Below w0.heap.size w0 w
theorem DC.off {w : World} {b n o : Nat} {at_ most bad : Int} {v : Value} {held : List UInt8} (h : DC w b at_ most bad v held) (hn : b ≠ n) (hv : ∀ g, v.ownBlock = some g → n ≠ g) (u : Value) : DC (w.setCell ⟨n, o, none⟩ u) b at_ most bad v held :=
  ⟨h.1.same (Below.heap_setCell _ _ _ _ hn), h.2.grown (grown_set (grown_refl w (some n)) u) (fun g hg e => hv g hg (Option.some.inj e))⟩
theorem feeds_reset {w0 w : World} {b1 b2 most : Nat} {st : St} {vc : Value} (h12 : b1 < b2) (hb1 : w0.heap.size ≤ b1) (h : FeedsPre w0 b1 b2 most st vc w) :
    FeedsPre w0 b1 b2 most (0, st.2.1, []) (emptied vc) ((((w.setCell ⟨b1, 0, none⟩ (.int .i64 0)).setCell ⟨b1, 2, none⟩ (emptied vc)).setCell ⟨b2, 1, none⟩ (.int .i64 0)).setCell ⟨b2, 3, none⟩ (.slice none 0 0)) := by
  obtain ⟨hi, hD, ⟨r, hR, hH⟩, hv, hb⟩ := h
  have hv2 : ∀ g, (emptied vc).ownBlock = some g → b2 ≠ g := fun g hg => by rw [emptied_own] at hg; have := hv g hg; omega
  refine ⟨by simp [InvD], ((hD.at_ 0).emptied.off (by omega) hv2 _).off (by omega) hv2 _, ⟨_, (((hR.other (by omega) _).other (by omega) _).place 0).held _, HeldV.nil _ _⟩, fun g hg => by rw [emptied_own] at hg; exact hv g hg, ?_⟩
  exact (((hb.setCell hb1 _).setCell hb1 _).setCell (by show w0.heap.size ≤ b2; omega) _).setCell (by show w0.heap.size ≤ b2; omega) _
end Go.Proofs.Ytcnljojbkjfebaa
