/-
TxqOrder's two arrays in memory: m4 holds a slice of texts for each class, m5 how far each has gone.
-/
import Derived.Test.YtliamhphpnifaaaTxqOrdP
import Derived.Test.YtliamhphpnifaaaTxqLaw
namespace Go.Proofs.Ytliamhphpnifaaa
open Go.RowKit
structure OrdAt (W : World) (B m4 m5 : Nat) (v : Nat → Value) (P : Nat → List ByteArray) (A : Nat → Nat) : Prop where
  row4 : RowAt W m4 [v 0, v 1, v 2]
  row5 : RowAt W m5 [.int .i64 (A 0 : Nat), .int .i64 (A 1 : Nat), .int .i64 (A 2 : Nat)]
  own : ∀ c, c < 3 → OwnL encS 9 W B (v c) (P c)
  one : ∀ c d, c < 3 → d < 3 → c ≠ d → ∀ g, (v c).ownBlock = some g → (v d).ownBlock ≠ some g
  off : ∀ c, c < 3 → ∀ g, (v c).ownBlock = some g → g ≠ m4 ∧ g ≠ m5
  ne : m4 ≠ m5
/-- its blocks -/
def OrdK (m4 m5 : Nat) (v : Nat → Value) : Nat → Prop := fun b => b = m4 ∨ b = m5 ∨ ∃ c, c < 3 ∧ (v c).ownBlock = some b
section
variable {W W' : World} {B m4 m5 : Nat} {v : Nat → Value} {P : Nat → List ByteArray} {A : Nat → Nat}
theorem OrdAt.same (h : OrdAt W B m4 m5 v P A) (hs : SameOn (OrdK m4 m5 v) W W') : OrdAt W' B m4 m5 v P A :=
  ⟨h.row4.block (hs.2 m4 (Or.inl rfl)) hs.1, h.row5.block (hs.2 m5 (Or.inr (Or.inl rfl))) hs.1, fun c hc => (h.own c hc).same fun g hg => hs.2 g (Or.inr (Or.inr ⟨c, hc, hg⟩)), h.one, h.off, h.ne⟩
theorem OrdAt.mem (h : OrdAt W B m4 m5 v P A) : ∀ b, OrdK m4 m5 v b → b < W.heap.size := by
  rintro b (rfl | rfl | ⟨c, hc, hg⟩)
  · exact h.row4.lt
  · exact h.row5.lt
  · exact ((h.own c hc).ge hg).2
theorem OrdAt.below (h : OrdAt W B m4 m5 v P A) (hb : Below W.heap.size W W') : OrdAt W' B m4 m5 v P A := h.same (SameOn.of_below hb h.mem)
theorem lt_three {c : Nat} (h : c < 3) : c = 0 ∨ c = 1 ∨ c = 2 := by omega
/-- one more has gone -/
theorem OrdAt.up (h : OrdAt W B m4 m5 v P A) (c : Nat) (hc : c < 3) : OrdAt (W.setCell ⟨m5, c, none⟩ (.int .i64 (A c + 1 : Nat))) B m4 m5 v P (oneUp A c) := by
  refine ⟨h.row4.other _ h.ne.symm, h.row5.put c _ _ ?_, fun d hd => (h.own d hd).same fun g hg => ?_, h.one, h.off, h.ne⟩
  · rcases lt_three hc with rfl | rfl | rfl <;> rfl
  · exact Below.heap_setCell _ _ _ _ (h.off d hd g hg).2
def oneV (v : Nat → Value) (c : Nat) (u : Value) : Nat → Value := fun k => if k = c then u else v k
/-- one more is put -/
theorem OrdAt.put (h : OrdAt W B m4 m5 v P A) (c : Nat) (hc : c < 3) (u : Value) (f : ByteArray) (hu : OwnL encS 9 W' B u (P c ++ [f])) (hg : W.grownBy W' (v c).ownBlock) (hw : u.ownBlock = (v c).ownBlock ∨ u.ownBlock = some W.heap.size) :
    OrdAt (W'.setCell ⟨m4, c, none⟩ u) B m4 m5 (oneV v c u) (onePut P c f) A := by
  have hnew : ∀ g, u.ownBlock = some g → (v c).ownBlock = some g ∨ g = W.heap.size := fun g hu => by
    rcases hw with e | e
    · exact Or.inl (e ▸ hu)
    · rw [e] at hu
      exact Or.inr (Option.some.inj hu).symm
  have h4 : (v c).ownBlock ≠ some m4 := fun e => (h.off c hc m4 e).1 rfl
  have h5 : (v c).ownBlock ≠ some m5 := fun e => (h.off c hc m5 e).2 rfl
  have hoff : ∀ g, u.ownBlock = some g → g ≠ m4 ∧ g ≠ m5 := fun g e => by
    rcases hnew g e with q | rfl
    · exact h.off c hc g q
    · have := h.row4.lt
      have := h.row5.lt
      exact ⟨by omega, by omega⟩
  have hap : ∀ d, d < 3 → d ≠ c → ∀ g, u.ownBlock = some g → (v d).ownBlock ≠ some g := fun d hd hne g e q => by
    rcases hnew g e with k | rfl
    · exact h.one c d hc hd (Ne.symm hne) g k q
    · have := ((h.own d hd).ge q).2
      omega
  refine ⟨(h.row4.block (hg.block m4 h.row4.lt fun e => h4 e.symm) hg.size).put c _ _ ?_, (h.row5.block (hg.block m5 h.row5.lt fun e => h5 e.symm) hg.size).other _ h.ne, fun d hd => ?_, fun d e hd he hne g hdg => ?_, fun d hd g hdg => ?_, h.ne⟩
  · rcases lt_three hc with rfl | rfl | rfl <;> rfl
  · unfold oneV onePut
    by_cases q : d = c
    · subst q
      rw [if_pos rfl, if_pos rfl]
      exact hu.same fun g hg => Below.heap_setCell _ _ _ _ (hoff g hg).1
    · rw [if_neg q, if_neg q]
      have := (h.own d hd).grown hg (fun g e k => h.one d c hd hc q g e k)
      exact this.same fun g hg => Below.heap_setCell _ _ _ _ (h.off d hd g hg).1
  · unfold oneV at hdg ⊢
    by_cases q : d = c
    · rw [if_pos q] at hdg
      rw [if_neg (fun k => hne (q.trans k.symm))]
      exact hap e he (fun k => hne (q.trans k.symm)) g hdg
    · rw [if_neg q] at hdg
      by_cases k : e = c
      · rw [if_pos k]
        exact fun z => hap d hd q g z hdg
      · rw [if_neg k]
        exact h.one d e hd he hne g hdg
  · unfold oneV at hdg
    by_cases q : d = c
    · rw [if_pos q] at hdg
      exact hoff g hdg
    · rw [if_neg q] at hdg
      exact h.off d hd g hdg
end
section
variable {Q : QuP} (hC : QuC Q) {w0 W W' : World} {q : Nat} {S : List Ent} {K : Nat → Prop}
include hC
omit hC in
theorem QuO.bel (h : QuO Q w0 q S K W) : Below w0.heap.size w0 W := by
  obtain ⟨F, h1, h2, h3, h4⟩ := h
  exact h3
omit hC in
theorem QuO.less {K' : Nat → Prop} (h : QuO Q w0 q S K W) (hK : ∀ b, K' b → K b) : QuO Q w0 q S K' W := by
  obtain ⟨F, h1, h2, h3, h4⟩ := h
  exact ⟨F, h1, h2, h3, fun b hk => h4 b (hK b hk)⟩
/-- a store into a block that the queue is off -/
theorem QuO.set (h : QuO Q w0 q S K W) (b o : Nat) (u : Value) (hb : K b) (hge : w0.heap.size ≤ b) : QuO Q w0 q S K (W.setCell ⟨b, o, none⟩ u) := by
  obtain ⟨F, h1, h2, h3, h4⟩ := h
  exact ⟨F, hC.stay h1 (SameOn.of_set (h4 b hb).2 u), h2, h3.setCell hge u, fun k hk => ⟨by simpa [World.setCell] using (h4 k hk).1, (h4 k hk).2⟩⟩
/-- an append behind a slice that the queue is off: where it lies then, the queue is off too -/
theorem QuO.grown (h : QuO Q w0 q S K W) {row r' : Option Nat} (hg : W.grownBy W' row) (hr : ∀ g, row = some g → K g ∧ w0.heap.size ≤ g) (hw : r' = row ∨ r' = some W.heap.size) (hn : ∀ g, r' = some g → g < W'.heap.size) :
    QuO Q w0 q S (fun b => K b ∨ r' = some b) W' := by
  obtain ⟨F, h1, h2, h3, h4⟩ := h
  refine ⟨F, hC.stay h1 ⟨hg.size, fun k hk => hg.block k (hC.mem h1 k hk) fun e => ?_⟩, h2, h3.grown hg h3.size fun k hk => (hr k hk).2, fun k hk => ?_⟩
  · exact (h4 k (hr k e.symm).1).2 hk
  · rcases hk with hk | hk
    · exact ⟨Nat.lt_of_lt_of_le (h4 k hk).1 hg.size, (h4 k hk).2⟩
    · refine ⟨hn k hk, fun hf => ?_⟩
      rcases hw with e | e
      · exact (h4 k (hr k (e ▸ hk)).1).2 hf
      · have := hC.mem h1 k hf
        rw [e] at hk
        have := Option.some.inj hk
        omega
end
end Go.Proofs.Ytliamhphpnifaaa
