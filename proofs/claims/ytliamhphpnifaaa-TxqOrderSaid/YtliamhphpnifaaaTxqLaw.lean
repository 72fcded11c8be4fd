/-
What a landed queue has to answer (contracts); a queue and the document's one, apart.
-/
import Derived.Test.YtliamhphpnifaaaTxqRefK
namespace Go.Proofs.Ytliamhphpnifaaa
open Go.RowKit
set_option maxRecDepth 20000
/-- how a queue lies: what waits, by class, in which blocks -/
abbrev QuP := World → Nat → List Ent → (Nat → Prop) → Prop
abbrev ptrQ (a : Nat) : Value := .pointer (some ⟨a, 0, none⟩)
structure SOk (S : List Ent) : Prop where
  ok : okE S
  by_ : byCls S
  many : S.length ≤ 16
  size : ∀ e ∈ S, e.fr.size ≤ 333
/-- texts of the call's own, off these blocks -/
def FreshS (w w' : World) (F : Nat → Prop) (v : Value) (L : List ByteArray) : Prop := ∃ a c, v = .slice a L.length c ∧ AtL encS w' a L ∧ ∀ p, a = some p → w.heap.size ≤ p.block ∧ p.block < w'.heap.size ∧ ¬ F p.block
structure QuC (Q : QuP) : Prop where
  mem : ∀ {w q S F}, Q w q S F → ∀ b, F b → b < w.heap.size
  stay : ∀ {w w' q S F}, Q w q S F → SameOn F w w' → Q w' q S F
  inv : ∀ {w q S F}, Q w q S F → SOk S
  new : ∀ (w : World), Calls Try.prog 8 #[] w fun e w' => ∃ q F, e = .returned (ptrQ q) ∧ Q w' q [] F ∧ (∀ b, F b → w.heap.size ≤ b) ∧ Below w.heap.size w w'
  put : ∀ (w : World) (q : Nat) (S : List Ent) (F : Nat → Prop) (c k : Int) (f : ByteArray), Q w q S F → f.size ≤ 1000 → Calls Try.prog 9 #[ptrQ q, .int .i64 c, .int .i64 k, .string f] w fun e w' =>
    ∃ F', e = .returned (.int .i64 (putErr c f.size S)) ∧ Q w' q (sortE (putE c k f S)) F' ∧ Turn F w w' ∧ Grew F F' w
  take : ∀ (w : World) (q : Nat) (S : List Ent) (F : Nat → Prop) (most bytes : Int), Q w q S F → Calls Try.prog 12 #[ptrQ q, .int .i64 most, .int .i64 bytes] w fun e w' =>
    ∃ F' v, e = .returned v ∧ Q w' q (S.drop (takeN most bytes 0 0 S)) F' ∧ FreshS w w' F' v (frs (S.take (takeN most bytes 0 0 S))) ∧ Turn F w w' ∧ Grew F F' w
  drop : ∀ (w : World) (q : Nat) (S : List Ent) (F : Nat → Prop) (a : Option Addr) (n c : Nat) (K : List Int), Q w q S F → K.length = n → n ≤ 1000 → AtL encI w a K → (∀ p, a = some p → ¬ F p.block) → Calls Try.prog 15 #[ptrQ q, .slice a n c] w fun e w' =>
    ∃ F', e = .returned (.int .i64 (cntK K S : Nat)) ∧ Q w' q (offK K S) F' ∧ Turn F w w' ∧ Grew F F' w
  count : ∀ (w : World) (q : Nat) (S : List Ent) (F : Nat → Prop) (k : Int), Q w q S F → Calls Try.prog 18 #[ptrQ q, .int .i64 k] w fun e w' => e = .returned (.int .i64 (cntK [k] S : Nat)) ∧ Below w.heap.size w w'
  len : ∀ (w : World) (q : Nat) (S : List Ent) (F : Nat → Prop), Q w q S F → Calls Try.prog 17 #[ptrQ q] w fun e w' => e = .returned (.int .i64 (S.length : Nat)) ∧ Below w.heap.size w w'
  room : ∀ (w : World) (q : Nat) (S : List Ent) (F : Nat → Prop) (c : Int), Q w q S F → Calls Try.prog 22 #[ptrQ q, .int .i64 c] w fun e w' => e = .returned (.int .i64 (roomE c S)) ∧ Below w.heap.size w w'
  all : ∀ (w : World) (q : Nat) (S : List Ent) (F : Nat → Prop), Q w q S F → Calls Try.prog 20 #[ptrQ q] w fun e w' => ∃ a c, e = .returned (.slice a S.length c) ∧ AtL encS w' a (frs S) ∧ Below w.heap.size w w'
  put0 : ∀ (w : World) (c k : Int) (f : ByteArray), f.size ≤ 1000 → Calls Try.prog 9 #[.pointer none, .int .i64 c, .int .i64 k, .string f] w fun e w' => e = .returned (.int .i64 1) ∧ Below w.heap.size w w'
  take0 : ∀ (w : World) (most bytes : Int), Calls Try.prog 12 #[.pointer none, .int .i64 most, .int .i64 bytes] w fun e w' => ∃ a c, e = .returned (.slice a 0 c) ∧ Below w.heap.size w w'
  drop0 : ∀ (w : World) (a : Option Addr) (n c : Nat) (K : List Int), K.length = n → n ≤ 1000 → AtL encI w a K → Calls Try.prog 15 #[.pointer none, .slice a n c] w fun e w' => e = .returned (.int .i64 0) ∧ Below w.heap.size w w'
  count0 : ∀ (w : World) (k : Int), Calls Try.prog 18 #[.pointer none, .int .i64 k] w fun e w' => e = .returned (.int .i64 0) ∧ Below w.heap.size w w'
  len0 : ∀ (w : World), Calls Try.prog 17 #[.pointer none] w fun e w' => e = .returned (.int .i64 0) ∧ Below w.heap.size w w'
  room0 : ∀ (w : World) (c : Int), Calls Try.prog 22 #[.pointer none, .int .i64 c] w fun e w' => e = .returned (.int .i64 0) ∧ Below w.heap.size w w'
  all0 : ∀ (w : World), Calls Try.prog 20 #[.pointer none] w fun e w' => ∃ a c, e = .returned (.slice a 0 c) ∧ Below w.heap.size w w'
/-- a queue of the call's own; some other blocks that it is off -/
def QuO (Q : QuP) (w0 : World) (q : Nat) (S : List Ent) (K : Nat → Prop) (W : World) : Prop := ∃ F, Q W q S F ∧ (∀ b, F b → w0.heap.size ≤ b) ∧ Below w0.heap.size w0 W ∧ ∀ b, K b → b < W.heap.size ∧ ¬ F b
/-- both -/
def QuB (Q : QuP) (w0 : World) (q p : Nat) (S L : List Ent) (K : Nat → Prop) (W : World) : Prop :=
  ∃ F F2, Q W q S F ∧ RqL W p L F2 ∧ (∀ b, F b → w0.heap.size ≤ b) ∧ (∀ b, F2 b → w0.heap.size ≤ b) ∧ (∀ b, F b → ¬ F2 b) ∧ Below w0.heap.size w0 W ∧ ∀ b, K b → b < W.heap.size ∧ ¬ F b ∧ ¬ F2 b
section
variable {Q : QuP} (hC : QuC Q) {w0 W W' : World} {q p : Nat} {S L : List Ent} {K : Nat → Prop}
include hC
theorem QuO.below (h : QuO Q w0 q S K W) (hb : Below W.heap.size W W') : QuO Q w0 q S K W' := by
  obtain ⟨F, h1, h2, h3, h4⟩ := h
  exact ⟨F, hC.stay h1 (SameOn.of_below hb (hC.mem h1)), h2, h3.trans (hb.mono h3.size), fun b hk => ⟨Nat.lt_of_lt_of_le (h4 b hk).1 hb.size, (h4 b hk).2⟩⟩
theorem QuO.alloc (h : QuO Q w0 q S K W) (o : Obj) : QuO Q w0 q S (fun b => K b ∨ b = W.heap.size) (W.alloc o) := by
  have hb := (Below.refl W.heap.size W).alloc (Nat.le_refl _) o
  obtain ⟨F, h1, h2, h3, h4⟩ := h
  refine ⟨F, hC.stay h1 (SameOn.of_below hb (hC.mem h1)), h2, h3.trans (hb.mono h3.size), fun b hk => ?_⟩
  rcases hk with hk | rfl
  · exact ⟨Nat.lt_of_lt_of_le (h4 b hk).1 hb.size, (h4 b hk).2⟩
  · exact ⟨by simp, fun hf => by have := hC.mem h1 _ hf; omega⟩
omit hC in
theorem QuO.turned {F F' : Nat → Prop} {S' : List Ent} (h2 : ∀ b, F b → w0.heap.size ≤ b) (h3 : Below w0.heap.size w0 W) (h4 : ∀ b, K b → b < W.heap.size ∧ ¬ F b) (h5 : Q W' q S' F') (ht : Turn F W W') (hg : Grew F F' W) : QuO Q w0 q S' K W' ∧ SameOn K W W' :=
  ⟨⟨F', h5, hg.ge h2 h3.size, h3.trans (ht.below h3.size h2), fun b hk => ⟨Nat.lt_of_lt_of_le (h4 b hk).1 ht.size, fun hf => (hg b hf).elim (h4 b hk).2 (fun hge => by have := (h4 b hk).1; omega)⟩⟩, ht.size, fun b hk => ht.block b (h4 b hk).1 (h4 b hk).2⟩
theorem QuO.put (h : QuO Q w0 q S K W) (c k : Int) (f : ByteArray) (hf : f.size ≤ 1000) : Calls Try.prog 9 #[ptrQ q, .int .i64 c, .int .i64 k, .string f] W fun e w' => e = .returned (.int .i64 (putErr c f.size S)) ∧ QuO Q w0 q (sortE (putE c k f S)) K w' ∧ SameOn K W w' := by
  obtain ⟨F, h1, h2, h3, h4⟩ := h
  refine (hC.put W q S F c k f h1 hf).mono ?_
  rintro e w' ⟨F', rfl, q1, q2, q3⟩
  exact ⟨rfl, QuO.turned h2 h3 h4 q1 q2 q3⟩
theorem QuO.take (h : QuO Q w0 q S K W) (most bytes : Int) : Calls Try.prog 12 #[ptrQ q, .int .i64 most, .int .i64 bytes] W fun e w' => ∃ a c, e = .returned (.slice a (frs (S.take (takeN most bytes 0 0 S))).length c) ∧ AtL encS w' a (frs (S.take (takeN most bytes 0 0 S))) ∧
    QuO Q w0 q (S.drop (takeN most bytes 0 0 S)) (fun b => K b ∨ ∃ p, a = some p ∧ p.block = b) w' ∧ SameOn K W w' := by
  obtain ⟨F, h1, h2, h3, h4⟩ := h
  refine (hC.take W q S F most bytes h1).mono ?_
  rintro e w' ⟨F', v, rfl, q1, ⟨a, c, rfl, hA, hfr⟩, q2, q3⟩
  obtain ⟨⟨F1, z1, z2, z3, z4⟩, z5⟩ := QuO.turned (Q := Q) h2 h3 h4 q1 q2 q3
  refine ⟨a, c, rfl, hA, ⟨F', q1, q3.ge h2 h3.size, z3, fun b hk => ?_⟩, z5⟩
  rcases hk with hk | ⟨p, hp, rfl⟩
  · exact ⟨Nat.lt_of_lt_of_le (h4 b hk).1 q2.size, fun hf => (q3 b hf).elim (h4 b hk).2 (fun hge => by have := (h4 b hk).1; omega)⟩
  · exact (hfr p hp).2
theorem QuO.len (h : QuO Q w0 q S K W) : Calls Try.prog 17 #[ptrQ q] W fun e w' => e = .returned (.int .i64 (S.length : Nat)) ∧ QuO Q w0 q S K w' ∧ Below W.heap.size W w' := by
  have hh := h
  obtain ⟨F, h1, h2, h3, h4⟩ := h
  refine (hC.len W q S F h1).mono ?_
  rintro e w' ⟨rfl, hb⟩
  exact ⟨rfl, hh.below hC hb, hb⟩
end
end Go.Proofs.Ytliamhphpnifaaa
