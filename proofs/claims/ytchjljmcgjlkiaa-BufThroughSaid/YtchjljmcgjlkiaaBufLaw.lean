/-
What a landed box has to answer (contracts); a box and the document's one, apart.
-/
import Derived.Test.YtchjljmcgjlkiaaBufRefN
namespace Go.Proofs.Ytchjljmcgjlkiaa
open Go.RowKit
set_option maxRecDepth 20000
/-- how a box lies: at a block, for this n1, with these messages, in which blocks -/
abbrev BoP := World → Nat → Int → Bx → (Nat → Prop) → Prop
abbrev ptrB (a : Nat) : Value := .pointer (some ⟨a, 0, none⟩)
structure BoC (B : BoP) : Prop where
  mem : ∀ {w q n1 b F}, B w q n1 b F → ∀ k, F k → k < w.heap.size
  stay : ∀ {w w' q n1 b F}, B w q n1 b F → SameOn F w w' → B w' q n1 b F
  newNo : ∀ (n1 : Int) (w : World), n1 < 16 ∨ 256 < n1 → Calls Try.prog 8 #[.int .i64 n1] w fun e w' => e = .returned (.tuple #[.pointer none, .int .i64 1]) ∧ Below w.heap.size w w'
  newYes : ∀ (n1 : Int) (w : World), ¬ (n1 < 16 ∨ 256 < n1) → Calls Try.prog 8 #[.int .i64 n1] w fun e w' => ∃ q, e = .returned (.tuple #[ptrB q, .int .i64 0]) ∧ ∃ F, B w' q n1 noB F ∧ (∀ k, F k → w.heap.size ≤ k) ∧ Below w.heap.size w w'
  put : ∀ (w : World) (q : Nat) (n1 pid : Int) (text : ByteArray) (b : Bx) (F : Nat → Prop), B w q n1 b F → BOk b → 0 ≤ b.cnt ∧ b.cnt ≤ 100000 → text.size ≤ 1000 → Calls Try.prog 10 #[ptrB q, .int .i64 pid, .string text] w fun e w' =>
    e = .returned (.int .i64 (putErrB n1 pid text b)) ∧ ∃ F', B w' q n1 (putB n1 pid text b) F' ∧ Turn F w w' ∧ Grew F F' w
  next : ∀ (w : World) (q : Nat) (n1 : Int) (b : Bx) (F : Nat → Prop), B w q n1 b F → BOk b → Calls Try.prog 12 #[ptrB q] w fun e w' =>
    e = .returned (.tuple #[pcV (nextB b).2.1, .bool (nextB b).2.2]) ∧ ∃ F', B w' q n1 (nextB b).1 F' ∧ Turn F w w' ∧ Grew F F' w
  len : ∀ (w : World) (q : Nat) (n1 : Int) (b : Bx) (F : Nat → Prop), B w q n1 b F → BOk b → Calls Try.prog 16 #[ptrB q] w fun e w' => e = .returned (.int .i64 (b.M.length : Nat)) ∧ Below w.heap.size w w'
  left : ∀ (w : World) (q : Nat) (n1 : Int) (b : Bx) (F : Nat → Prop), B w q n1 b F → BOk b → Calls Try.prog 17 #[ptrB q] w fun e w' => e = .returned (.int .i64 (leftM b.M : Nat)) ∧ Below w.heap.size w w'
  total : ∀ (w : World) (q : Nat) (n1 : Int) (b : Bx) (F : Nat → Prop), B w q n1 b F → BOk b → Calls Try.prog 18 #[ptrB q] w fun e w' => e = .returned (.int .i64 b.cnt) ∧ Below w.heap.size w w'
  reset : ∀ (w : World) (q : Nat) (n1 : Int) (b : Bx) (F : Nat → Prop), B w q n1 b F → BOk b → Calls Try.prog 14 #[ptrB q] w fun e w' => e = .returned (.int .i64 (b.M.length : Nat)) ∧ ∃ F', B w' q n1 noB F' ∧ Turn F w w' ∧ Grew F F' w
  put0 : ∀ (w : World) (pid : Int) (text : ByteArray), text.size ≤ 1000 → Calls Try.prog 10 #[.pointer none, .int .i64 pid, .string text] w fun e w' => e = .returned (.int .i64 1) ∧ Below w.heap.size w w'
  next0 : ∀ (w : World), Calls Try.prog 12 #[.pointer none] w fun e w' => e = .returned (.tuple #[pcV zeroP, .bool false]) ∧ Below w.heap.size w w'
  len0 : ∀ (w : World), Calls Try.prog 16 #[.pointer none] w fun e w' => e = .returned (.int .i64 0) ∧ Below w.heap.size w w'
  left0 : ∀ (w : World), Calls Try.prog 17 #[.pointer none] w fun e w' => e = .returned (.int .i64 0) ∧ Below w.heap.size w w'
  total0 : ∀ (w : World), Calls Try.prog 18 #[.pointer none] w fun e w' => e = .returned (.int .i64 0) ∧ Below w.heap.size w w'
  reset0 : ∀ (w : World), Calls Try.prog 14 #[.pointer none] w fun e w' => e = .returned (.int .i64 0) ∧ Below w.heap.size w w'
/-- a box of the call's own, off some other blocks -/
def BoO (B : BoP) (w0 : World) (q : Nat) (n1 : Int) (b : Bx) (K : Nat → Prop) (W : World) : Prop := ∃ F, B W q n1 b F ∧ (∀ k, F k → w0.heap.size ≤ k) ∧ Below w0.heap.size w0 W ∧ ∀ k, K k → k < W.heap.size ∧ ¬ F k
section
variable {B : BoP} (hC : BoC B) {w0 W W' : World} {q p : Nat} {n1 c : Int} {b : Bx} {D : List (Int × Pc)} {K : Nat → Prop}
theorem BoO.bel (h : BoO B w0 q n1 b K W) : Below w0.heap.size w0 W := by
  obtain ⟨F, -, -, h, -⟩ := h
  exact h
theorem BoO.less {K' : Nat → Prop} (h : BoO B w0 q n1 b K W) (hK : ∀ k, K' k → K k) : BoO B w0 q n1 b K' W := by
  obtain ⟨F, h1, h2, h3, h4⟩ := h
  exact ⟨F, h1, h2, h3, fun k hk => h4 k (hK k hk)⟩
theorem BoO.turned {F F' : Nat → Prop} {b' : Bx} (h2 : ∀ k, F k → w0.heap.size ≤ k) (h3 : Below w0.heap.size w0 W) (h4 : ∀ k, K k → k < W.heap.size ∧ ¬ F k) (h5 : B W' q n1 b' F') (ht : Turn F W W') (hg : Grew F F' W) : BoO B w0 q n1 b' K W' ∧ SameOn K W W' :=
  ⟨⟨F', h5, hg.ge h2 h3.size, h3.trans (ht.below h3.size h2), fun k hk => ⟨Nat.lt_of_lt_of_le (h4 k hk).1 ht.size, fun hf => (hg k hf).elim (h4 k hk).2 (fun hge => by have := (h4 k hk).1; omega)⟩⟩, ht.size, fun k hk => ht.block k (h4 k hk).1 (h4 k hk).2⟩
include hC
theorem BoO.below (h : BoO B w0 q n1 b K W) (hb : Below W.heap.size W W') : BoO B w0 q n1 b K W' := by
  obtain ⟨F, h1, h2, h3, h4⟩ := h
  exact ⟨F, hC.stay h1 (SameOn.of_below hb (hC.mem h1)), h2, h3.trans (hb.mono h3.size), fun k hk => ⟨Nat.lt_of_lt_of_le (h4 k hk).1 hb.size, (h4 k hk).2⟩⟩
/-- blocks that are made meanwhile are off it -/
theorem BoO.grown (h : BoO B w0 q n1 b K W) (hb : Below W.heap.size W W') : BoO B w0 q n1 b (fun k => K k ∨ W.heap.size ≤ k ∧ k < W'.heap.size) W' := by
  obtain ⟨F, h1, h2, h3, h4⟩ := h
  refine ⟨F, hC.stay h1 (SameOn.of_below hb (hC.mem h1)), h2, h3.trans (hb.mono h3.size), fun k hk => ?_⟩
  rcases hk with hk | ⟨hk, hk2⟩
  · exact ⟨Nat.lt_of_lt_of_le (h4 k hk).1 hb.size, (h4 k hk).2⟩
  · exact ⟨hk2, fun hf => by have := hC.mem h1 _ hf; omega⟩
/-- another block is turned -/
theorem BoO.set (h : BoO B w0 q n1 b K W) {x : Addr} (hx : K x.block) (hw : w0.heap.size ≤ x.block) (v : Value) : BoO B w0 q n1 b K (W.setCell x v) := by
  obtain ⟨F, h1, h2, h3, h4⟩ := h
  exact ⟨F, hC.stay h1 (SameOn.of_set (h4 _ hx).2 v), h2, h3.setCell (p := x) hw v, fun k hk => ⟨by simpa [World.setCell] using (h4 k hk).1, (h4 k hk).2⟩⟩
theorem BoO.put (h : BoO B w0 q n1 b K W) (hb : BOk b) (hc : 0 ≤ b.cnt ∧ b.cnt ≤ 100000) (pid : Int) (text : ByteArray) (ht : text.size ≤ 1000) : Calls Try.prog 10 #[ptrB q, .int .i64 pid, .string text] W fun e w' =>
    e = .returned (.int .i64 (putErrB n1 pid text b)) ∧ BoO B w0 q n1 (putB n1 pid text b) K w' ∧ SameOn K W w' := by
  obtain ⟨F, h1, h2, h3, h4⟩ := h
  refine (hC.put W q n1 pid text b F h1 hb hc ht).mono ?_
  rintro e w' ⟨rfl, F', q1, q2, q3⟩
  exact ⟨rfl, BoO.turned h2 h3 h4 q1 q2 q3⟩
theorem BoO.next (h : BoO B w0 q n1 b K W) (hb : BOk b) : Calls Try.prog 12 #[ptrB q] W fun e w' =>
    e = .returned (.tuple #[pcV (nextB b).2.1, .bool (nextB b).2.2]) ∧ BoO B w0 q n1 (nextB b).1 K w' ∧ SameOn K W w' := by
  obtain ⟨F, h1, h2, h3, h4⟩ := h
  refine (hC.next W q n1 b F h1 hb).mono ?_
  rintro e w' ⟨rfl, F', q1, q2, q3⟩
  exact ⟨rfl, BoO.turned h2 h3 h4 q1 q2 q3⟩
theorem BoO.reset (h : BoO B w0 q n1 b K W) (hb : BOk b) : Calls Try.prog 14 #[ptrB q] W fun e w' =>
    e = .returned (.int .i64 (b.M.length : Nat)) ∧ BoO B w0 q n1 noB K w' ∧ SameOn K W w' := by
  obtain ⟨F, h1, h2, h3, h4⟩ := h
  refine (hC.reset W q n1 b F h1 hb).mono ?_
  rintro e w' ⟨rfl, F', q1, q2, q3⟩
  exact ⟨rfl, BoO.turned h2 h3 h4 q1 q2 q3⟩
theorem BoO.len (h : BoO B w0 q n1 b K W) (hb : BOk b) : Calls Try.prog 16 #[ptrB q] W fun e w' => e = .returned (.int .i64 (b.M.length : Nat)) ∧ Below W.heap.size W w' := by
  obtain ⟨F, h1, -⟩ := h
  exact hC.len W q n1 b F h1 hb
theorem BoO.left (h : BoO B w0 q n1 b K W) (hb : BOk b) : Calls Try.prog 17 #[ptrB q] W fun e w' => e = .returned (.int .i64 (leftM b.M : Nat)) ∧ Below W.heap.size W w' := by
  obtain ⟨F, h1, -⟩ := h
  exact hC.left W q n1 b F h1 hb
theorem BoO.total (h : BoO B w0 q n1 b K W) (hb : BOk b) : Calls Try.prog 18 #[ptrB q] W fun e w' => e = .returned (.int .i64 b.cnt) ∧ Below W.heap.size W w' := by
  obtain ⟨F, h1, -⟩ := h
  exact hC.total W q n1 b F h1 hb
omit hC
/-- both, off some other blocks -/
def BoB (B : BoP) (w0 : World) (q p : Nat) (n1 : Int) (b : Bx) (c : Int) (D : List (Int × Pc)) (K : Nat → Prop) (W : World) : Prop :=
  ∃ F F2, B W q n1 b F ∧ RbL W p n1 c D F2 ∧ (∀ k, F k → w0.heap.size ≤ k) ∧ (∀ k, F2 k → w0.heap.size ≤ k) ∧ (∀ k, F k → ¬ F2 k) ∧ Below w0.heap.size w0 W ∧ ∀ k, K k → k < W.heap.size ∧ ¬ F k ∧ ¬ F2 k
theorem BoB.bel (h : BoB B w0 q p n1 b c D K W) : Below w0.heap.size w0 W := by
  obtain ⟨F, F2, -, -, -, -, -, h, -⟩ := h
  exact h
theorem BoB.less {K' : Nat → Prop} (h : BoB B w0 q p n1 b c D K W) (hK : ∀ k, K' k → K k) : BoB B w0 q p n1 b c D K' W := by
  obtain ⟨F, F2, h1, h2, h3, h4, h5, h6, h7⟩ := h
  exact ⟨F, F2, h1, h2, h3, h4, h5, h6, fun k hk => h7 k (hK k hk)⟩
theorem BoB.ref (h : BoB B w0 q p n1 b c D K W) : ∃ F2, RbL W p n1 c D F2 := by
  obtain ⟨F, F2, -, h, -⟩ := h
  exact ⟨F2, h⟩
/-- the landed one turns -/
theorem BoB.turn1 {F F' F2 : Nat → Prop} {b' : Bx} (h2 : RbL W p n1 c D F2) (h3 : ∀ k, F k → w0.heap.size ≤ k) (h4 : ∀ k, F2 k → w0.heap.size ≤ k) (h5 : ∀ k, F k → ¬ F2 k) (h6 : Below w0.heap.size w0 W) (h7 : ∀ k, K k → k < W.heap.size ∧ ¬ F k ∧ ¬ F2 k) (hq : B W' q n1 b' F') (ht : Turn F W W') (hg : Grew F F' W) :
    BoB B w0 q p n1 b' c D K W' ∧ SameOn K W W' := by
  refine ⟨⟨F', F2, hq, h2.stay ⟨ht.size, fun k hb => ht.block k (h2.mem k hb) fun hf => h5 k hf hb⟩, hg.ge h3 h6.size, h4, fun k hf hb => ?_, h6.trans (ht.below h6.size h3), fun k hk => ⟨Nat.lt_of_lt_of_le (h7 k hk).1 ht.size, fun hf => ?_, (h7 k hk).2.2⟩⟩, ⟨ht.size, fun k hk => ht.block k (h7 k hk).1 (h7 k hk).2.1⟩⟩
  · rcases hg k hf with q' | q'
    · exact h5 k q' hb
    · have := h2.mem k hb
      omega
  · rcases hg k hf with q' | q'
    · exact (h7 k hk).2.1 q'
    · have := (h7 k hk).1
      omega
include hC
/-- the document's turns -/
theorem BoB.turn2 {F F2 F2' : Nat → Prop} {c' : Int} {D' : List (Int × Pc)} (h1 : B W q n1 b F) (h3 : ∀ k, F k → w0.heap.size ≤ k) (h4 : ∀ k, F2 k → w0.heap.size ≤ k) (h5 : ∀ k, F k → ¬ F2 k) (h6 : Below w0.heap.size w0 W) (h7 : ∀ k, K k → k < W.heap.size ∧ ¬ F k ∧ ¬ F2 k) (hq : RbL W' p n1 c' D' F2') (ht : Turn F2 W W') (hg : Grew F2 F2' W) :
    BoB B w0 q p n1 b c' D' K W' ∧ SameOn K W W' := by
  have hm := hC.mem h1
  refine ⟨⟨F, F2', hC.stay h1 ⟨ht.size, fun k hb => ht.block k (hm k hb) (h5 k hb)⟩, hq, h3, hg.ge h4 h6.size, fun k hf hb => ?_, h6.trans (ht.below h6.size h4), fun k hk => ⟨Nat.lt_of_lt_of_le (h7 k hk).1 ht.size, (h7 k hk).2.1, fun hf => ?_⟩⟩, ⟨ht.size, fun k hk => ht.block k (h7 k hk).1 (h7 k hk).2.2⟩⟩
  · rcases hg k hb with q' | q'
    · exact h5 k hf q'
    · have := hm k hf
      omega
  · rcases hg k hf with q' | q'
    · exact (h7 k hk).2.2 q'
    · have := (h7 k hk).1
      omega
theorem BoB.below (h : BoB B w0 q p n1 b c D K W) (hb : Below W.heap.size W W') : BoB B w0 q p n1 b c D K W' := by
  obtain ⟨F, F2, h1, h2, h3, h4, h5, h6, h7⟩ := h
  exact ⟨F, F2, hC.stay h1 (SameOn.of_below hb (hC.mem h1)), h2.below hb, h3, h4, h5, h6.trans (hb.mono h6.size), fun k hk => ⟨Nat.lt_of_lt_of_le (h7 k hk).1 hb.size, (h7 k hk).2⟩⟩
theorem BoB.grown (h : BoB B w0 q p n1 b c D K W) (hb : Below W.heap.size W W') : BoB B w0 q p n1 b c D (fun k => K k ∨ W.heap.size ≤ k ∧ k < W'.heap.size) W' := by
  obtain ⟨F, F2, h1, h2, h3, h4, h5, h6, h7⟩ := h
  refine ⟨F, F2, hC.stay h1 (SameOn.of_below hb (hC.mem h1)), h2.below hb, h3, h4, h5, h6.trans (hb.mono h6.size), fun k hk => ?_⟩
  rcases hk with hk | ⟨hk, hk2⟩
  · exact ⟨Nat.lt_of_lt_of_le (h7 k hk).1 hb.size, (h7 k hk).2⟩
  · exact ⟨hk2, fun hf => by have := hC.mem h1 _ hf; omega, fun hf => by have := h2.mem _ hf; omega⟩
theorem BoB.put1 (h : BoB B w0 q p n1 b c D K W) (hb : BOk b) (hc : 0 ≤ b.cnt ∧ b.cnt ≤ 100000) (pid : Int) (text : ByteArray) (ht : text.size ≤ 1000) : Calls Try.prog 10 #[ptrB q, .int .i64 pid, .string text] W fun e w' =>
    e = .returned (.int .i64 (putErrB n1 pid text b)) ∧ BoB B w0 q p n1 (putB n1 pid text b) c D K w' ∧ SameOn K W w' := by
  obtain ⟨F, F2, h1, h2, h3, h4, h5, h6, h7⟩ := h
  refine (hC.put W q n1 pid text b F h1 hb hc ht).mono ?_
  rintro e w' ⟨rfl, F', q1, q2, q3⟩
  exact ⟨rfl, BoB.turn1 h2 h3 h4 h5 h6 h7 q1 q2 q3⟩
theorem BoB.put2 {b' : Bx} (h : BoB B w0 q p n1 b' b.cnt (docB b) K W) (hb : BOk b) (hc : 0 ≤ b.cnt ∧ b.cnt ≤ 100000) (pid : Int) (text : ByteArray) : Calls Try.prog 11 #[ptrB p, .int .i64 pid, .string text] W fun e w' =>
    e = .returned (.int .i64 (putErrB n1 pid text b)) ∧ BoB B w0 q p n1 b' (putB n1 pid text b).cnt (docB (putB n1 pid text b)) K w' ∧ SameOn K W w' := by
  obtain ⟨F, F2, h1, h2, h3, h4, h5, h6, h7⟩ := h
  by_cases hE : putErrB n1 pid text b = 0
  · have hcn : (putB n1 pid text b).cnt = b.cnt + 1 := by rw [putB_yes hE]
    rw [hcn, hE]
    refine (rput19_yes n1 pid text p b F2 W h2 hb hc hE).mono ?_
    rintro e w' ⟨rfl, F', q1, q2, q3⟩
    exact ⟨rfl, BoB.turn2 hC h1 h3 h4 h5 h6 h7 q1 q2 q3⟩
  · rw [putB_no hE]
    refine (rput19_no n1 pid text p b F2 W h2 hb hE).mono ?_
    rintro e w' ⟨rfl, F', q1, q2, q3⟩
    exact ⟨rfl, BoB.turn2 hC h1 h3 h4 h5 h6 h7 q1 q2 q3⟩
theorem BoB.next1 (h : BoB B w0 q p n1 b c D K W) (hb : BOk b) : Calls Try.prog 12 #[ptrB q] W fun e w' =>
    e = .returned (.tuple #[pcV (nextB b).2.1, .bool (nextB b).2.2]) ∧ BoB B w0 q p n1 (nextB b).1 c D K w' ∧ SameOn K W w' := by
  obtain ⟨F, F2, h1, h2, h3, h4, h5, h6, h7⟩ := h
  refine (hC.next W q n1 b F h1 hb).mono ?_
  rintro e w' ⟨rfl, F', q1, q2, q3⟩
  exact ⟨rfl, BoB.turn1 h2 h3 h4 h5 h6 h7 q1 q2 q3⟩
theorem BoB.next2 {b' : Bx} (h : BoB B w0 q p n1 b' c (docB b) K W) (hb : BOk b) : Calls Try.prog 13 #[ptrB p] W fun e w' =>
    e = .returned (.tuple #[pcV (nextB b).2.1, .bool (nextB b).2.2]) ∧ BoB B w0 q p n1 b' c (docB (nextB b).1) K w' ∧ SameOn K W w' := by
  obtain ⟨F, F2, h1, h2, h3, h4, h5, h6, h7⟩ := h
  obtain ⟨hd, hcase⟩ := doc_next hb
  rw [hd]
  rcases hcase with ⟨h0, hr⟩ | ⟨⟨t, ⟨x0, x1⟩⟩, r, h0, hr⟩
  · rw [hr, h0]
    rw [h0] at h2
    refine (rnext19_none n1 c p F2 W h2).mono ?_
    rintro e w' ⟨rfl, F', q1, q2, q3⟩
    exact ⟨rfl, BoB.turn2 hC h1 h3 h4 h5 h6 h7 q1 q2 q3⟩
  · have hl := left_le hb
    rw [← doc_left, h0, List.length_cons] at hl
    rw [hr, h0]
    rw [h0] at h2
    refine (rnext19_some n1 c p F2 W t x0 x1 r h2 (by omega)).mono ?_
    rintro e w' ⟨rfl, F', q1, q2, q3⟩
    exact ⟨rfl, BoB.turn2 hC h1 h3 h4 h5 h6 h7 q1 q2 q3⟩
theorem BoB.reset1 (h : BoB B w0 q p n1 b c D K W) (hb : BOk b) : Calls Try.prog 14 #[ptrB q] W fun e w' =>
    e = .returned (.int .i64 (b.M.length : Nat)) ∧ BoB B w0 q p n1 noB c D K w' ∧ SameOn K W w' := by
  obtain ⟨F, F2, h1, h2, h3, h4, h5, h6, h7⟩ := h
  refine (hC.reset W q n1 b F h1 hb).mono ?_
  rintro e w' ⟨rfl, F', q1, q2, q3⟩
  exact ⟨rfl, BoB.turn1 h2 h3 h4 h5 h6 h7 q1 q2 q3⟩
theorem BoB.len1 (h : BoB B w0 q p n1 b c D K W) (hb : BOk b) : Calls Try.prog 16 #[ptrB q] W fun e w' => e = .returned (.int .i64 (b.M.length : Nat)) ∧ Below W.heap.size W w' := by
  obtain ⟨F, F2, h1, -⟩ := h
  exact hC.len W q n1 b F h1 hb
theorem BoB.left1 (h : BoB B w0 q p n1 b c D K W) (hb : BOk b) : Calls Try.prog 17 #[ptrB q] W fun e w' => e = .returned (.int .i64 (leftM b.M : Nat)) ∧ Below W.heap.size W w' := by
  obtain ⟨F, F2, h1, -⟩ := h
  exact hC.left W q n1 b F h1 hb
theorem BoB.total1 (h : BoB B w0 q p n1 b c D K W) (hb : BOk b) : Calls Try.prog 18 #[ptrB q] W fun e w' => e = .returned (.int .i64 b.cnt) ∧ Below W.heap.size W w' := by
  obtain ⟨F, F2, h1, -⟩ := h
  exact hC.total W q n1 b F h1 hb
omit hC in
theorem BoB.len2 {b' : Bx} (h : BoB B w0 q p n1 b' c (docB b) K W) (hb : BOk b) : Calls Try.prog 15 #[ptrB p] W fun e w' => e = .returned (.int .i64 (b.M.length : Nat)) ∧ Below W.heap.size W w' := by
  obtain ⟨F, F2, h1, h2, -⟩ := h
  have := rlen19 p n1 c (docB b) F2 W h2 (by rw [doc_left]; have := left_le hb; omega)
  rwa [doc_len hb] at this
end
end Go.Proofs.Ytchjljmcgjlkiaa
