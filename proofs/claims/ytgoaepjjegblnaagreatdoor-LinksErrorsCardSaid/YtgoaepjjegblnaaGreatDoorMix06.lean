/-
What a call wrote: some blocks, and new ones. For a thing that keeps its state in blocks of its own.
Slices of anything that takes so many cells: of the call's own, and as one may read them; one more behind them.
Calls and entries as they lie in slices.
Bytes as numbers; a byte of a text, its first bytes, those behind.
Pieces as plain facts: what a message is cut into, what a gatherer makes of a piece; the pieces of a message are that message.
A box as plain facts: the messages that have pieces left, each with these; the document's one list of pieces, each with its message's number.
Maps from small numbers to things: what they hold as a function, looked up, written, deleted, counted.
-/
import Derived.Test.YtgoaepjjegblnaaGreatDoorMix05
import Derived.Maps.AppendAt
import Derived.Test.YtgoaepjjegblnaaGreatDoorMix00
import Derived.Maps.OwnSet
namespace Go.Proofs.YtgoaepjjegblnaaGreatDoor
set_option maxRecDepth 20000
open Go.RowKit
/-- of the blocks that were there those of F alone were written -/
structure Turn (F : Nat → Prop) (w w' : World) : Prop where
  os : w'.os = w.os
  tape : w'.tape = w.tape
  output : w'.output = w.output
  size : w.heap.size ≤ w'.heap.size
  block : ∀ k, k < w.heap.size → ¬ F k → w'.heap[k]? = w.heap[k]?
/-- the blocks of a state behind a call: those of before, or new ones -/
def Grew (F F' : Nat → Prop) (w : World) : Prop := ∀ k, F' k → F k ∨ w.heap.size ≤ k
theorem Turn.refl (F : Nat → Prop) (w : World) : Turn F w w := ⟨rfl, rfl, rfl, Nat.le_refl _, fun _ _ _ => rfl⟩
theorem Turn.of_below {F : Nat → Prop} {w w' : World} (h : Below w.heap.size w w') : Turn F w w' := ⟨h.os, h.tape, h.output, h.size, fun k hk _ => h.block k hk⟩
theorem Turn.trans {F F' : Nat → Prop} {a b c : World} (h : Turn F a b) (k : Turn F' b c) (hg : Grew F F' a) : Turn F a c :=
  ⟨k.os.trans h.os, k.tape.trans h.tape, k.output.trans h.output, Nat.le_trans h.size k.size, fun i hi hF => (k.block i (Nat.lt_of_lt_of_le hi h.size) (fun hf => (hg i hf).elim hF (fun hge => by omega))).trans (h.block i hi hF)⟩
theorem Grew.refl (F : Nat → Prop) (w : World) : Grew F F w := fun _ h => Or.inl h
theorem Grew.trans {F F' F'' : Nat → Prop} {a b : World} (h : Grew F F' a) (k : Grew F' F'' b) (hs : a.heap.size ≤ b.heap.size) : Grew F F'' a := fun i hi => (k i hi).elim (h i) (fun hge => Or.inr (Nat.le_trans hs hge))
theorem Grew.ge {F F' : Nat → Prop} {w : World} {B : Nat} (h : Grew F F' w) (hF : ∀ k, F k → B ≤ k) (hw : B ≤ w.heap.size) : ∀ k, F' k → B ≤ k := fun k hk => (h k hk).elim (hF k) (fun hge => Nat.le_trans hw hge)
/-- as 'below' -/
theorem Turn.below {F : Nat → Prop} {w w' : World} {B : Nat} (h : Turn F w w') (hB : B ≤ w.heap.size) (hF : ∀ k, F k → B ≤ k) : Below B w w' :=
  ⟨h.os, h.tape, h.output, h.size, fun k hk => h.block k (Nat.lt_of_lt_of_le hk hB) (fun hf => by have := hF k hf; omega)⟩
theorem Turn.set {F : Nat → Prop} {a W : World} (h : Turn F a W) {p : Addr} (hp : F p.block ∨ a.heap.size ≤ p.block) (v : Value) : Turn F a (W.setCell p v) :=
  ⟨h.os, h.tape, h.output, by simpa [World.setCell] using h.size, fun k hk hF => (Below.heap_setCell _ _ _ _ (fun e => hp.elim (fun hf => hF (by rw [e]; exact hf)) (fun hge => by omega))).trans (h.block k hk hF)⟩
theorem Turn.then_ {F : Nat → Prop} {a W W' : World} (h : Turn F a W) (hb : Below W.heap.size W W') : Turn F a W' :=
  ⟨hb.os.trans h.os, hb.tape.trans h.tape, hb.output.trans h.output, Nat.le_trans h.size hb.size, fun k hk hF => (hb.block k (Nat.lt_of_lt_of_le hk h.size)).trans (h.block k hk hF)⟩
theorem Turn.drew {F : Nat → Prop} {a W : World} (h : Turn F a W) : Turn F a W.drew := ⟨h.os, h.tape, h.output, h.size, h.block⟩
theorem RowAt.turn {F : Nat → Prop} {w w' : World} {m : Nat} {L : List Value} (h : RowAt w m L) (ht : Turn F w w') (hF : ¬ F m) : RowAt w' m L := fun i v e => (h i v e).block (ht.block m (h i v e).lt hF) ht.size
theorem RowAt.lt {w : World} {m : Nat} {v : Value} {L : List Value} (h : RowAt w m (v :: L)) : m < w.heap.size := (h 0 v rfl).lt
/-- what is told of blocks stays, if they do -/
def SameOn (F : Nat → Prop) (w w' : World) : Prop := w.heap.size ≤ w'.heap.size ∧ ∀ k, F k → w'.heap[k]? = w.heap[k]?
theorem SameOn.of_below {F : Nat → Prop} {w w' : World} (h : Below w.heap.size w w') (hF : ∀ k, F k → k < w.heap.size) : SameOn F w w' := ⟨h.size, fun k hk => h.block k (hF k hk)⟩
theorem SameOn.of_set {F : Nat → Prop} {w : World} {p : Addr} (hF : ¬ F p.block) (v : Value) : SameOn F w (w.setCell p v) :=
  ⟨by simp [World.setCell], fun k hk => Below.heap_setCell _ _ _ _ (fun e => hF (e ▸ hk))⟩
end Go.Proofs.YtgoaepjjegblnaaGreatDoor
namespace Go.Proofs.YtgoaepjjegblnaaGreatDoor
set_option maxRecDepth 20000
open Go.RowKit
/-- how a thing lies: so many cells -/
structure Enc (α : Type) where
  n : Nat
  pos : 0 < n
  enc : α → List Value
  len : ∀ a, (enc a).length = n
  one : ∀ a, ∀ u ∈ enc a, u.oneCell' = true
variable {α : Type}
def flatE (E : Enc α) (L : List α) : List Value := L.flatMap E.enc
theorem flatE_append (E : Enc α) (L M : List α) : flatE E (L ++ M) = flatE E L ++ flatE E M := by simp [flatE]
theorem flatE_single (E : Enc α) (a : α) : flatE E [a] = E.enc a := by simp [flatE]
theorem flatE_at (E : Enc α) : ∀ (L : List α) (k : Nat) (hk : k < L.length) (j : Nat), j < E.n → (flatE E L)[k * E.n + j]? = (E.enc L[k])[j]?
  | a :: L, 0, _, j, hj => by
    unfold flatE
    rw [List.flatMap_cons, List.getElem?_append_left (by rw [E.len]; omega)]
    simp
  | a :: L, k + 1, hk, j, hj => by
    have ih := flatE_at E L k (by simpa using hk) j hj
    unfold flatE at ih ⊢
    rw [List.flatMap_cons, List.getElem?_append_right (by rw [E.len, Nat.add_mul]; omega), E.len]
    rw [show (k + 1) * E.n + j - E.n = k * E.n + j by rw [Nat.add_mul]; omega]
    simpa using ih
/-- a slice of the call's own -/
def OwnL (E : Enc α) (T : TypeId) (w : World) (B : Nat) (v : Value) (L : List α) : Prop := w.ownsRow B T E.n v L.length (flatE E L)
theorem OwnL.nil (E : Enc α) (T : TypeId) (w : World) (B : Nat) : OwnL E T w B (.slice none 0 0) [] := ⟨by simp [flatE], Or.inl ⟨rfl, rfl⟩⟩
theorem OwnL.ge {E : Enc α} {T : TypeId} {w : World} {B g : Nat} {v : Value} {L : List α} (h : OwnL E T w B v L) (hv : v.ownBlock = some g) : B ≤ g ∧ g < w.heap.size := World.ownsRow.lt h g hv
theorem OwnL.same {E : Enc α} {T : TypeId} {w w' : World} {B : Nat} {v : Value} {L : List α} (h : OwnL E T w B v L) (hb : ∀ g, v.ownBlock = some g → w'.heap[g]? = w.heap[g]?) : OwnL E T w' B v L := by
  refine ⟨h.1, ?_⟩
  rcases h.2 with h0 | ⟨g, cap, cur, hv, hbg, hg, rest⟩
  · exact Or.inl h0
  · exact Or.inr ⟨g, cap, cur, hv, hbg, by rw [hb g (by rw [hv]; rfl)]; exact hg, rest⟩
theorem OwnL.below {E : Enc α} {T : TypeId} {w w' : World} {B : Nat} {v : Value} {L : List α} (h : OwnL E T w B v L) (hb : Below w.heap.size w w') : OwnL E T w' B v L := h.same fun g hv => hb.block g (h.ge hv).2
theorem OwnL.turn {E : Enc α} {T : TypeId} {F : Nat → Prop} {w w' : World} {B : Nat} {v : Value} {L : List α} (h : OwnL E T w B v L) (hb : Turn F w w') (hF : ∀ g, v.ownBlock = some g → ¬ F g) : OwnL E T w' B v L := h.same fun g hv => hb.block g (h.ge hv).2 (hF g hv)
theorem OwnL.alloc {E : Enc α} {T : TypeId} {w : World} {B : Nat} {v : Value} {L : List α} (h : OwnL E T w B v L) (o : Obj) : OwnL E T (w.alloc o) B v L := World.ownsRow.alloc h o
/-- as one may read it -/
def AtL (E : Enc α) (w : World) (a : Option Addr) (L : List α) : Prop :=
  ∀ k (hk : k < L.length), ∃ g o, a = some ⟨g, o, none⟩ ∧ g < w.heap.size ∧ ∀ j u, (E.enc L[k])[j]? = some u → w.cell? ⟨g, o + k * E.n + j, none⟩ = some u
def SeeL (E : Enc α) (w : World) (v : Value) (L : List α) : Prop := ∃ a cap, v = .slice a L.length cap ∧ AtL E w a L
theorem AtL.nil (E : Enc α) (w : World) (a : Option Addr) : AtL E w a ([] : List α) := fun k hk => by simp at hk
theorem AtL.below {E : Enc α} {w w' : World} {a : Option Addr} {L : List α} (h : AtL E w a L) (hb : Below w.heap.size w w') : AtL E w' a L := by
  intro k hk
  obtain ⟨g, o, ha, hg, hc⟩ := h k hk
  refine ⟨g, o, ha, Nat.lt_of_lt_of_le hg hb.size, fun j u hj => ?_⟩
  exact (World.cell?_of_block (a := ⟨g, o + k * E.n + j, none⟩) (hb.block g hg)).trans (hc j u hj)
theorem AtL.some_ {E : Enc α} {w : World} {a : Option Addr} {L : List α} (h : AtL E w a L) (h0 : 0 < L.length) : ∃ g o, a = some ⟨g, o, none⟩ ∧ g < w.heap.size := by
  obtain ⟨g, o, ha, hg, _⟩ := h 0 h0
  exact ⟨g, o, ha, hg⟩
/-- a cell of one of them -/
theorem AtL.get {E : Enc α} {w : World} {g o : Nat} {L : List α} (h : AtL E w (some ⟨g, o, none⟩) L) (k : Nat) (hk : k < L.length) (j : Nat) {u : Value} (e : (E.enc L[k])[j]? = some u) : w.cell? ⟨g, o + k * E.n + j, none⟩ = some u := by
  obtain ⟨g', o', ha, _, hc⟩ := h k hk
  simp only [Option.some.injEq, Addr.mk.injEq, and_true] at ha
  obtain ⟨rfl, rfl⟩ := ha
  exact hc j u e
theorem OwnL.see {E : Enc α} {T : TypeId} {w : World} {B : Nat} {v : Value} {L : List α} (h : OwnL E T w B v L) : SeeL E w v L := by
  rcases h.2 with ⟨hv, h0⟩ | ⟨g, cap, cur, hv, hb, hg, hc, hm, rest⟩
  · obtain rfl : L = [] := List.length_eq_zero_iff.1 h0
    exact ⟨none, 0, hv, AtL.nil E w none⟩
  · refine ⟨some ⟨g, 0, none⟩, cap, hv, fun k hk => ⟨g, 0, rfl, (h.ge (by rw [hv]; rfl)).2, fun j u hj => ?_⟩⟩
    have hjn : j < E.n := by
      have := (List.getElem?_eq_some_iff.1 hj).1
      rwa [E.len] at this
    have hl := World.ownsRow.cells h (g := g) (by rw [hv]; rfl) (k * E.n + j) u (by rw [flatE_at E L k hk j hjn]; exact hj)
    have e : (⟨g, 0, none⟩ : Addr).add (k * E.n + j) = ⟨g, k * E.n + j, none⟩ := by unfold Addr.add; split <;> simp_all
    rw [e] at hl
    rw [Nat.zero_add]
    exact hl
/-- where an own slice's cells lie, if it has some -/
theorem OwnL.some_ {E : Enc α} {T : TypeId} {w : World} {B : Nat} {v : Value} {L : List α} (h : OwnL E T w B v L) (h0 : 0 < L.length) : ∃ g c, v = .slice (some ⟨g, 0, none⟩) L.length c ∧ B ≤ g ∧ g < w.heap.size ∧ AtL E w (some ⟨g, 0, none⟩) L := by
  rcases h.2 with ⟨_, h1⟩ | ⟨g, c, cur, hv, hb, _⟩
  · omega
  · subst hv
    obtain ⟨a, cap, hv, hA⟩ := h.see
    simp only [Value.slice.injEq] at hv
    obtain ⟨rfl, -, rfl⟩ := hv
    exact ⟨g, c, rfl, hb, (World.ownsRow.lt h g rfl).2, hA⟩
/-- one that has just been laid -/
theorem AtL.made (E : Enc α) (T : TypeId) (w : World) (m : Nat) (u : α) (V : List Value) (hV : V = E.enc u) (hm : m = w.heap.size) : AtL E (w.alloc (.cells V.toArray T)) (some ⟨m, 0, none⟩) [u] := by
  subst hV hm
  intro k hk
  obtain rfl : k = 0 := by simpa using hk
  refine ⟨w.heap.size, 0, rfl, by simp, fun j v hj => (World.cell?_alloc_at _ _ _ _ (by simp)).trans ?_⟩
  simpa using hj
/-- one more behind a slice of the call's own -/
theorem wpList_append_one (E : Enc α) (T S : TypeId) (hS : Tryz.prog.underlying S = some (.slice T)) {z : Value} {bytes : Nat} (hi : (Tryz.prog.info? T).map (fun i => (i.zero, i.size, i.bytes)) = some (some z, E.n, bytes)) (hz : z.cells.size = E.n) (hby : bytes ≤ 4096)
    (w : World) {ops : Array Oper} {rest : List Oper} {o : Oper} {a : Act} {Q : Exit → Act → World → Prop} (hgd : o.guard = none) (s x : Operand) (ho : o.op = .call { callee := .builtin .append, args := #[s, x], argTypes := #[S, S] })
    (B : Nat) (v : Value) (L : List α) (hs : a.eval s = v) (hown : OwnL E T w B v L) (m c : Nat) (hx : a.eval x = .slice (some ⟨m, 0, none⟩) 1 c) (u : α) (hm : AtL E w (some ⟨m, 0, none⟩) [u]) (hlen : L.length ≤ 100000) (hB : B ≤ w.heap.size)
    (h : ∀ v' w', OwnL E T w' B v' (L ++ [u]) → w.grownBy w' v.ownBlock → (v'.ownBlock = v.ownBlock ∨ v'.ownBlock = some w.heap.size) → wpList Tryz.prog ops Q rest (a.put o.dst v') w') : wpList Tryz.prog ops Q (o :: rest) a w := by
  refine wpList_plain hgd fun K hK => ?_
  obtain ⟨i0, hi0, hz0, hz1, hz2⟩ := info_parts hi
  obtain ⟨v', w', hr, h2, h3, h4, h5⟩ := run_append_own_at (P := Tryz.prog) w B S o.type T i0 z E.n bytes hS hi0 hz0 hz1 hz2 hz E.pos v L.length (flatE E L) hown ⟨m, 0, none⟩ 1 c (E.enc u) (by rw [E.len, Nat.one_mul]) (fun j y hj => by
    have := hm.get 0 (by simp) j hj
    have e : (⟨m, 0, none⟩ : Addr).add j = ⟨m, j, none⟩ := by unfold Addr.add; split <;> simp_all
    rw [e]
    simpa using this) (E.one u) (by unfold maxLen; omega) (Nat.le_trans (Nat.mul_le_mul_left _ hby) (by omega)) hB
  unfold Oper.wp execOp
  simp only [ho, resolve, invoke, builtin, Sem.run_bind, Sem.run_pure, Result.andThen_ok, List.map_toArray, List.map_cons, List.map_nil, hs, hx, hr]
  exact hK _ _ (h v' w' (by unfold OwnL; rw [List.length_append, flatE_append, flatE_single]; exact h2) h3 h5)
/-- an append that runs so -/
theorem wp_append_run {P : Program} {t : TypeId} {w : World} {o : Oper} {a : Act} {Q : Exit → Act → World → Prop} {K : Act → World → Prop} (s x : Operand) (ho : o.op = .call { callee := .builtin .append, args := #[s, x], argTypes := #[t, t] })
    {vs vx v' : Value} {w' : World} (hs : a.eval s = vs) (hx : a.eval x = vx) (hr : (Builtin.append_ #[t, t] o.type #[vs, vx]).run P w = .ok v' w') (h : K (a.put o.dst v') w') : Oper.wp P o a w K Q := by
  unfold Oper.wp execOp
  simp only [ho, resolve, invoke, builtin, Sem.run_bind, Sem.run_pure, Result.andThen_ok, List.map_toArray, List.map_cons, List.map_nil, hs, hx, hr]
  exact h
/-- one more thing behind an own slice -/
theorem run_append_one (E : Enc α) (T S : TypeId) (ty : TypeId) (hS : Tryz.prog.underlying S = some (.slice T)) {z : Value} {bytes : Nat} (hi : (Tryz.prog.info? T).map (fun i => (i.zero, i.size, i.bytes)) = some (some z, E.n, bytes)) (hz : z.cells.size = E.n) (hby : bytes ≤ 4096)
    (w : World) (B : Nat) (v : Value) (L : List α) (hown : OwnL E T w B v L) (m c : Nat) (u : α) (hm : AtL E w (some ⟨m, 0, none⟩) [u]) (hlen : L.length ≤ 100000) (hB : B ≤ w.heap.size) :
    ∃ v' w', (Builtin.append_ #[S, S] ty #[v, .slice (some ⟨m, 0, none⟩) 1 c]).run Tryz.prog w = .ok v' w' ∧ OwnL E T w' B v' (L ++ [u]) ∧ w.grownBy w' v.ownBlock ∧ (v'.ownBlock = v.ownBlock ∨ v'.ownBlock = some w.heap.size) := by
  obtain ⟨i0, hi0, hz0, hz1, hz2⟩ := info_parts hi
  obtain ⟨v', w', hr, h2, h3, h4, h5⟩ := run_append_own_at (P := Tryz.prog) w B S ty T i0 z E.n bytes hS hi0 hz0 hz1 hz2 hz E.pos v L.length (flatE E L) hown ⟨m, 0, none⟩ 1 c (E.enc u) (by rw [E.len, Nat.one_mul]) (fun j y hj => by
    have := hm.get 0 (by simp) j hj
    have e : (⟨m, 0, none⟩ : Addr).add j = ⟨m, j, none⟩ := by unfold Addr.add; split <;> simp_all
    rw [e]
    simpa using this) (E.one u) (by unfold maxLen; omega) (Nat.le_trans (Nat.mul_le_mul_left _ hby) (by omega)) hB
  exact ⟨v', w', hr, by unfold OwnL; rw [List.length_append, flatE_append, flatE_single]; exact h2, h3, h5⟩
/-- behind it -/
theorem OwnL.appended {E : Enc α} {T : TypeId} {w0 wr w1 : World} {b0 B : Nat} {v : Value} {L : List α} (h : OwnL E T wr B v L) (hb : Below b0 w0 wr) (hbB : b0 ≤ B) (hbw : b0 ≤ wr.heap.size) (hg : wr.grownBy w1 v.ownBlock) : Below b0 w0 w1 :=
  hb.grown hg hbw (fun _ hk => Nat.le_trans hbB (h.ge hk).1)
/-- texts -/
def encS : Enc ByteArray := ⟨1, by omega, fun b => [.string b], fun _ => rfl, fun _ u hu => by rw [List.mem_singleton.1 hu]; rfl⟩
/-- numbers -/
def encI : Enc Int := ⟨1, by omega, fun b => [.int .i64 b], fun _ => rfl, fun _ u hu => by rw [List.mem_singleton.1 hu]; rfl⟩
end Go.Proofs.YtgoaepjjegblnaaGreatDoor
namespace Go.Proofs.YtgoaepjjegblnaaGreatDoor
open Go.RowKit Go.Sort
set_option maxRecDepth 20000
def encCl : Enc (ByteArray × Int) := ⟨2, by omega, fun c => [.string c.1, .int .i64 c.2], fun _ => rfl, fun _ u hu => by
  rcases List.mem_cons.1 hu with rfl | hu
  · rfl
  · rw [List.mem_singleton.1 hu]
    rfl⟩
theorem infoCl : (Tryz.prog.info? 54).map (fun i => (i.zero, i.size, i.bytes)) = some (some (.agg #[.string ⟨#[]⟩, .int .i64 0]), 2, 24) := by kernel_rfl
theorem AtL.calls {w : World} {a : Option Addr} {C : List (ByteArray × Int)} (h : AtL encCl w a C) : CallsAt w a C := fun k hk => by
  obtain ⟨g, o, ha, hg, hc⟩ := h k hk
  refine ⟨g, o, ha, hg, hc 0 _ rfl, hc 1 _ rfl⟩
theorem EntsAt.same {w w' : World} {a : Option Addr} {cap : Nat} {L : List Ent} (h : EntsAt w a cap L) (hb : ∀ p, a = some p → w'.heap[p.block]? = w.heap[p.block]?) (hs : w.heap.size ≤ w'.heap.size) : EntsAt w' a cap L := by
  refine ⟨h.le, h.max, fun k hk => ?_⟩
  obtain ⟨g, o, ha, hg, h0, h1, h2⟩ := h.at_ k hk
  have hq := hb ⟨g, o, none⟩ ha
  exact ⟨g, o, ha, Nat.lt_of_lt_of_le hg hs, (World.cell?_of_block (a := ⟨g, o + k * 3, none⟩) hq).trans h0, (World.cell?_of_block (a := ⟨g, o + k * 3 + 1, none⟩) hq).trans h1, (World.cell?_of_block (a := ⟨g, o + k * 3 + 2, none⟩) hq).trans h2⟩
end Go.Proofs.YtgoaepjjegblnaaGreatDoor
namespace Go.Proofs.YtgoaepjjegblnaaGreatDoor
set_option maxRecDepth 20000
open Go.RowKit
def byteI (n : Int) : UInt8 := UInt8.ofNat n.toNat
end Go.Proofs.YtgoaepjjegblnaaGreatDoor
namespace Go.Proofs.YtgoaepjjegblnaaGreatDoor
set_option maxRecDepth 20000
open Go.RowKit
/-- a piece -/
structure Pc where
  pid : Int
  info : ByteArray
/-- a gatherer's state -/
structure Gs where
  on : Bool
  pid : Int
  left : Int
  text : ByteArray
def zeroP : Pc := ⟨0, ⟨#[]⟩⟩
def zeroG : Gs := ⟨false, 0, 0, ⟨#[]⟩⟩
/-- cut into pieces of m bytes -/
def chunkF : Nat → Nat → List UInt8 → List (List UInt8)
  | 0, _, _ => []
  | f + 1, m, l => if l = [] then [] else l.take m :: chunkF f m (l.drop m)
def chunk (m : Nat) (l : List UInt8) : List (List UInt8) := chunkF l.length m l
/-- with their first bytes -/
def heads : Bool → List (List UInt8) → List Pc
  | _, [] => []
  | f, c :: cs => ⟨8, ⟨(byteI (cs.length + if f then 128 else 0) :: c).toArray⟩⟩ :: heads false cs
/-- a message's pieces; the error -/
def splitD (pid : Int) (text : ByteArray) (n1 : Int) : List Pc × Int :=
  if pid < 0 ∨ 255 < pid ∨ n1 < 16 ∨ 256 < n1 then ([], 1)
  else if 600 < text.size then ([], 5)
  else if (text.size : Int) ≤ n1 ∧ pid ≠ 8 then ([⟨pid, text⟩], 0)
  else (heads true (chunk (n1.toNat - 1) (byteI pid :: text.data.toList)), 0)
end Go.Proofs.YtgoaepjjegblnaaGreatDoor
namespace Go.Proofs.YtgoaepjjegblnaaGreatDoor
set_option maxRecDepth 20000
/-- a box: how many messages were put; the pieces of each that has some left -/
structure Bx where
  cnt : Int
  M : List (List Pc)
def noB : Bx := ⟨0, []⟩
/-- what an attempt to put answers -/
def putErrB (n1 pid : Int) (text : ByteArray) (b : Bx) : Int := if (splitD pid text n1).2 ≠ 0 then (splitD pid text n1).2 else if b.M.length = 8 then 6 else 0
def putBx (n1 pid : Int) (text : ByteArray) (b : Bx) : Bx := if putErrB n1 pid text b = 0 then ⟨b.cnt + 1, b.M ++ [(splitD pid text n1).1]⟩ else b
/-- what is left behind the first piece of a message -/
def behind : List Pc → List (List Pc) → List (List Pc)
  | [], R => R
  | p :: ps, R => (p :: ps) :: R
def nextM : List (List Pc) → List (List Pc) × Pc × Bool
  | (p :: ps) :: R => (behind ps R, p, true)
  | M => (M, zeroP, false)
def nextB (b : Bx) : Bx × Pc × Bool := (⟨b.cnt, (nextM b.M).1⟩, (nextM b.M).2)
/-- what holds of a box -/
structure BOk (b : Bx) : Prop where
  many : b.M.length ≤ 8
  some_ : ∀ m ∈ b.M, m ≠ []
  few : ∀ m ∈ b.M, m.length ≤ 45
  small : ∀ m ∈ b.M, ∀ p ∈ m, p.info.size ≤ 256
theorem noB_ok : BOk noB := ⟨by simp [noB], by simp [noB], by simp [noB], by simp [noB]⟩
end Go.Proofs.YtgoaepjjegblnaaGreatDoor
namespace Go.Proofs.YtgoaepjjegblnaaGreatDoor
open Go.RowKit Go.Maps Go.WideMaps
set_option maxRecDepth 20000
/-- how a thing stands in a map -/
structure Melt (α : Type) where
  R : Value → Option (DataW Unit × List MemPlace)
  val : α → Value
  dat : α → DataW Unit
  zero : α
  reads : ∀ a, R (val a) = some (dat a, [])
  inv : ∀ v a ps, R v = some (dat a, ps) → v = val a
def pcR (v : Value) : Option (DataW Unit × List MemPlace) :=
  match v with
  | .agg cs => (match cs.toList with
    | [.int .i64 x, .string s] => some (.agg [.lit (.int .i64 x), .lit (.string s.data.toList)], [])
    | _ => none)
  | _ => none
theorem bytes_ext20 {a b : ByteArray} (h : a.data.toList = b.data.toList) : a = b := by
  obtain ⟨⟨a⟩⟩ := a
  obtain ⟨⟨b⟩⟩ := b
  simp at h
  rw [h]
def eltP : Melt Pc where
  R := pcR
  val := fun p => .agg #[.int .i64 p.pid, .string p.info]
  dat := fun p => .agg [.lit (.int .i64 p.pid), .lit (.string p.info.data.toList)]
  zero := zeroP
  reads := fun _ => rfl
  inv := fun v a ps h => by
    unfold pcR at h
    split at h
    · rename_i cs
      split at h
      · rename_i x s hcs
        simp only [Option.some.injEq, Prod.mk.injEq, DataW.agg.injEq, List.cons.injEq, DataW.lit.injEq, Lit.int.injEq, Lit.string.injEq, true_and, and_true] at h
        rw [← h.1.1, ← bytes_ext20 h.1.2, ← Array.toArray_toList (xs := cs), hcs]
      · cases h
    · cases h
def unR (v : Value) : Option (DataW Unit × List MemPlace) :=
  match v with
  | .agg cs => (match cs.toList with
    | [] => some (.agg [], [])
    | _ => none)
  | _ => none
def eltU : Melt Unit where
  R := unR
  val := fun _ => .agg #[]
  dat := fun _ => .agg []
  zero := ()
  reads := fun _ => rfl
  inv := fun v a ps h => by
    unfold unR at h
    split at h
    · rename_i cs
      split at h
      · rename_i hcs
        rw [← Array.toArray_toList (xs := cs), hcs]
      · cases h
    · cases h
variable {α : Type} {E : Melt α} {w w' : World} {m : Nat} {M : Nat → Option α}
/-- so many are there -/
def cnt20 (M : Nat → Option α) : Nat := (List.range 128).countP fun i => (M i).isSome
/-- a map at a block -/
def MapAt (E : Melt α) (w : World) (m : Nat) (M : Nat → Option α) : Prop :=
  ∃ D : DataW Unit, w.ownsMap Tryz.prog 3 E.R m (Maps.size D) D ∧ (∀ i : Nat, i < 128 → D.atKey (.int .i64 i) (E.dat E.zero) = E.dat ((M i).getD E.zero) ∧ Maps.has D (.int .i64 i) = (M i).isSome) ∧ Maps.size D = cnt20 M
theorem MapAt.lt (h : MapAt E w m M) : m < w.heap.size := by
  obtain ⟨D, h1, -⟩ := h
  exact h1.lt
theorem MapAt.same (h : MapAt E w m M) (e : w'.heap[m]? = w.heap[m]?) : MapAt E w' m M := by
  obtain ⟨D, ⟨es, clock, hb, r⟩, h2⟩ := h
  exact ⟨D, ⟨es, clock, e.trans hb, r⟩, h2⟩
theorem MapAt.below (h : MapAt E w m M) (hb : Below w.heap.size w w') : MapAt E w' m M := h.same (hb.block m h.lt)
section
variable {t e : TypeId} (ht : Tryz.prog.underlying t = some (.map 3 e))
include ht
theorem MapAt.len (h : MapAt E w m M) (ty : TypeId) : (Builtin.len_ #[t] ty #[.map (some m)]).run Tryz.prog w = .ok (.int .i64 (cnt20 M)) w := by
  obtain ⟨D, h1, -, h3⟩ := h
  rw [h1.len ht, h3]
end
theorem MapAt.made (E : Melt α) (w : World) : MapAt E (w.alloc (.map #[] 0)) w.heap.size (fun _ => none) := by
  refine ⟨.map [], World.ownsMap_made w Tryz.prog 3 E.R, fun i _ => ⟨rfl, rfl⟩, ?_⟩
  unfold cnt20
  rw [show Maps.size (DataW.map (H := Unit) []) = 0 from rfl]
  symm
  rw [List.countP_eq_zero]
  simp
end Go.Proofs.YtgoaepjjegblnaaGreatDoor
