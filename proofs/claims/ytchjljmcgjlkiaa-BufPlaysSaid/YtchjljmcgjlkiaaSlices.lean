/-
Slices of anything that takes so many cells: of the call's own, and as one may read them; one more behind them.
-/
import Derived.Test.YtchjljmcgjlkiaaTurn
import Derived.Maps.AppendAt
namespace Go.Proofs.Ytchjljmcgjlkiaa
open Go.RowKit
/-- how a thing lies: so many cells -/
structure Enc (α : Type) where
  n : Nat
  pos : 0 < n
  enc : α → List Value
  len : ∀ a, (enc a).length = n
  one : ∀ a, ∀ u ∈ enc a, u.oneCell' = true
variable {α : Type}
def flatE (E : Enc α) (L : List α) : List Value := L.flatMap E.enc
theorem flatE_length (E : Enc α) : ∀ L : List α, (flatE E L).length = L.length * E.n
  | [] => by simp [flatE]
  | a :: L => by
    have ih := flatE_length E L
    unfold flatE at ih ⊢
    rw [List.flatMap_cons, List.length_append, E.len, ih, List.length_cons, Nat.add_mul]
    omega
theorem flatE_append (E : Enc α) (L M : List α) : flatE E (L ++ M) = flatE E L ++ flatE E M := by simp [flatE]
theorem flatE_single (E : Enc α) (a : α) : flatE E [a] = E.enc a := by simp [flatE]
theorem flatE_at (E : Enc α) : ∀ (L : List α) (k : Nat) (hk : k < L.length) (j : Nat), j < E.n → (flatE E L)[k * E.n + j]? = (E.enc L[k])[j]?
  | a :: L, 0, _, j, hj => by
    unfold flatE
    rw [List.flatMap_cons, List.getElem?_append_left (by rw [E.len]; omega)]
    simp
  | a :: L, k + 1, hk, j, hj => by
    have ih := flatE_at E L k (by simpa using hk) j hj
    unfold flatE at ih ⊢
    rw [List.flatMap_cons, List.getElem?_append_right (by rw [E.len, Nat.add_mul]; omega), E.len]
    rw [show (k + 1) * E.n + j - E.n = k * E.n + j by rw [Nat.add_mul]; omega]
    simpa using ih
/-- a slice of the call's own -/
def OwnL (E : Enc α) (T : TypeId) (w : World) (B : Nat) (v : Value) (L : List α) : Prop := w.ownsRow B T E.n v L.length (flatE E L)
theorem OwnL.nil (E : Enc α) (T : TypeId) (w : World) (B : Nat) : OwnL E T w B (.slice none 0 0) [] := ⟨by simp [flatE], Or.inl ⟨rfl, rfl⟩⟩
theorem OwnL.ge {E : Enc α} {T : TypeId} {w : World} {B g : Nat} {v : Value} {L : List α} (h : OwnL E T w B v L) (hv : v.ownBlock = some g) : B ≤ g ∧ g < w.heap.size := World.ownsRow.lt h g hv
theorem OwnL.base {E : Enc α} {T : TypeId} {w : World} {B B' : Nat} {v : Value} {L : List α} (h : OwnL E T w B v L) (hB : B' ≤ B) : OwnL E T w B' v L := by
  refine ⟨h.1, ?_⟩
  rcases h.2 with h0 | ⟨g, cap, cur, hv, hbg, rest⟩
  · exact Or.inl h0
  · exact Or.inr ⟨g, cap, cur, hv, Nat.le_trans hB hbg, rest⟩
theorem OwnL.same {E : Enc α} {T : TypeId} {w w' : World} {B : Nat} {v : Value} {L : List α} (h : OwnL E T w B v L) (hb : ∀ g, v.ownBlock = some g → w'.heap[g]? = w.heap[g]?) : OwnL E T w' B v L := by
  refine ⟨h.1, ?_⟩
  rcases h.2 with h0 | ⟨g, cap, cur, hv, hbg, hg, rest⟩
  · exact Or.inl h0
  · exact Or.inr ⟨g, cap, cur, hv, hbg, by rw [hb g (by rw [hv]; rfl)]; exact hg, rest⟩
theorem OwnL.below {E : Enc α} {T : TypeId} {w w' : World} {B : Nat} {v : Value} {L : List α} (h : OwnL E T w B v L) (hb : Below w.heap.size w w') : OwnL E T w' B v L := h.same fun g hv => hb.block g (h.ge hv).2
theorem OwnL.turn {E : Enc α} {T : TypeId} {F : Nat → Prop} {w w' : World} {B : Nat} {v : Value} {L : List α} (h : OwnL E T w B v L) (hb : Turn F w w') (hF : ∀ g, v.ownBlock = some g → ¬ F g) : OwnL E T w' B v L := h.same fun g hv => hb.block g (h.ge hv).2 (hF g hv)
theorem OwnL.alloc {E : Enc α} {T : TypeId} {w : World} {B : Nat} {v : Value} {L : List α} (h : OwnL E T w B v L) (o : Obj) : OwnL E T (w.alloc o) B v L := World.ownsRow.alloc h o
theorem OwnL.drew {E : Enc α} {T : TypeId} {w : World} {B : Nat} {v : Value} {L : List α} (h : OwnL E T w B v L) : OwnL E T w.drew B v L := h
theorem OwnL.grown {E : Enc α} {T : TypeId} {w w' : World} {B : Nat} {v : Value} {L : List α} {row : Option Nat} (h : OwnL E T w B v L) (hg : w.grownBy w' row) (hr : ∀ g, v.ownBlock = some g → row ≠ some g) : OwnL E T w' B v L :=
  World.ownsRow.kept h hg (by
    cases hv : v.ownBlock with
    | none => exact Or.inl rfl
    | some g => exact Or.inr (fun e => hr g hv e.symm))
/-- as one may read it -/
def AtL (E : Enc α) (w : World) (a : Option Addr) (L : List α) : Prop :=
  ∀ k (hk : k < L.length), ∃ g o, a = some ⟨g, o, none⟩ ∧ g < w.heap.size ∧ ∀ j u, (E.enc L[k])[j]? = some u → w.cell? ⟨g, o + k * E.n + j, none⟩ = some u
def SeeL (E : Enc α) (w : World) (v : Value) (L : List α) : Prop := ∃ a cap, v = .slice a L.length cap ∧ AtL E w a L
theorem AtL.nil (E : Enc α) (w : World) (a : Option Addr) : AtL E w a ([] : List α) := fun k hk => by simp at hk
theorem AtL.same {E : Enc α} {w w' : World} {a : Option Addr} {L : List α} (h : AtL E w a L) (hb : ∀ p, a = some p → w'.heap[p.block]? = w.heap[p.block]?) (hs : w.heap.size ≤ w'.heap.size) : AtL E w' a L := by
  intro k hk
  obtain ⟨g, o, ha, hg, hc⟩ := h k hk
  refine ⟨g, o, ha, Nat.lt_of_lt_of_le hg hs, fun j u hj => ?_⟩
  exact (World.cell?_of_block (a := ⟨g, o + k * E.n + j, none⟩) (hb ⟨g, o, none⟩ ha)).trans (hc j u hj)
theorem AtL.below {E : Enc α} {w w' : World} {a : Option Addr} {L : List α} (h : AtL E w a L) (hb : Below w.heap.size w w') : AtL E w' a L := by
  intro k hk
  obtain ⟨g, o, ha, hg, hc⟩ := h k hk
  refine ⟨g, o, ha, Nat.lt_of_lt_of_le hg hb.size, fun j u hj => ?_⟩
  exact (World.cell?_of_block (a := ⟨g, o + k * E.n + j, none⟩) (hb.block g hg)).trans (hc j u hj)
theorem AtL.turn {E : Enc α} {F : Nat → Prop} {w w' : World} {a : Option Addr} {L : List α} (h : AtL E w a L) (hb : Turn F w w') (hF : ∀ p, a = some p → ¬ F p.block) : AtL E w' a L := by
  intro k hk
  obtain ⟨g, o, ha, hg, hc⟩ := h k hk
  refine ⟨g, o, ha, Nat.lt_of_lt_of_le hg hb.size, fun j u hj => ?_⟩
  exact (World.cell?_of_block (a := ⟨g, o + k * E.n + j, none⟩) (hb.block g hg (hF ⟨g, o, none⟩ ha))).trans (hc j u hj)
theorem AtL.set {E : Enc α} {w : World} {a : Option Addr} {L : List α} (h : AtL E w a L) {p : Addr} (v : Value) (hp : ∀ q, a = some q → q.block ≠ p.block) : AtL E (w.setCell p v) a L :=
  h.same (fun q hq => Below.heap_setCell _ _ _ _ (hp q hq)) (by simp [World.setCell])
theorem AtL.alloc {E : Enc α} {w : World} {a : Option Addr} {L : List α} (h : AtL E w a L) (o : Obj) : AtL E (w.alloc o) a L := h.below ((Below.refl _ w).alloc (Nat.le_refl _) o)
theorem AtL.drew {E : Enc α} {w : World} {a : Option Addr} {L : List α} (h : AtL E w a L) : AtL E w.drew a L := h
theorem AtL.some_ {E : Enc α} {w : World} {a : Option Addr} {L : List α} (h : AtL E w a L) (h0 : 0 < L.length) : ∃ g o, a = some ⟨g, o, none⟩ ∧ g < w.heap.size := by
  obtain ⟨g, o, ha, hg, _⟩ := h 0 h0
  exact ⟨g, o, ha, hg⟩
/-- a cell of one of them -/
theorem AtL.get {E : Enc α} {w : World} {g o : Nat} {L : List α} (h : AtL E w (some ⟨g, o, none⟩) L) (k : Nat) (hk : k < L.length) (j : Nat) {u : Value} (e : (E.enc L[k])[j]? = some u) : w.cell? ⟨g, o + k * E.n + j, none⟩ = some u := by
  obtain ⟨g', o', ha, _, hc⟩ := h k hk
  simp only [Option.some.injEq, Addr.mk.injEq, and_true] at ha
  obtain ⟨rfl, rfl⟩ := ha
  exact hc j u e
theorem SeeL.below {E : Enc α} {w w' : World} {v : Value} {L : List α} (h : SeeL E w v L) (hb : Below w.heap.size w w') : SeeL E w' v L := by
  obtain ⟨a, cap, hv, hA⟩ := h
  exact ⟨a, cap, hv, hA.below hb⟩
theorem OwnL.see {E : Enc α} {T : TypeId} {w : World} {B : Nat} {v : Value} {L : List α} (h : OwnL E T w B v L) : SeeL E w v L := by
  rcases h.2 with ⟨hv, h0⟩ | ⟨g, cap, cur, hv, hb, hg, hc, hm, rest⟩
  · obtain rfl : L = [] := List.length_eq_zero_iff.1 h0
    exact ⟨none, 0, hv, AtL.nil E w none⟩
  · refine ⟨some ⟨g, 0, none⟩, cap, hv, fun k hk => ⟨g, 0, rfl, (h.ge (by rw [hv]; rfl)).2, fun j u hj => ?_⟩⟩
    have hjn : j < E.n := by
      have := (List.getElem?_eq_some_iff.1 hj).1
      rwa [E.len] at this
    have hl := World.ownsRow.cells h (g := g) (by rw [hv]; rfl) (k * E.n + j) u (by rw [flatE_at E L k hk j hjn]; exact hj)
    have e : (⟨g, 0, none⟩ : Addr).add (k * E.n + j) = ⟨g, k * E.n + j, none⟩ := by unfold Addr.add; split <;> simp_all
    rw [e] at hl
    rw [Nat.zero_add]
    exact hl
/-- where an own slice's cells lie, if it has some -/
theorem OwnL.some_ {E : Enc α} {T : TypeId} {w : World} {B : Nat} {v : Value} {L : List α} (h : OwnL E T w B v L) (h0 : 0 < L.length) : ∃ g c, v = .slice (some ⟨g, 0, none⟩) L.length c ∧ B ≤ g ∧ g < w.heap.size ∧ AtL E w (some ⟨g, 0, none⟩) L := by
  rcases h.2 with ⟨_, h1⟩ | ⟨g, c, cur, hv, hb, _⟩
  · omega
  · subst hv
    obtain ⟨a, cap, hv, hA⟩ := h.see
    simp only [Value.slice.injEq] at hv
    obtain ⟨rfl, -, rfl⟩ := hv
    exact ⟨g, c, rfl, hb, (World.ownsRow.lt h g rfl).2, hA⟩
/-- things just laid, as a slice of the call's own -/
theorem OwnL.lit (E : Enc α) (T : TypeId) (w : World) (B : Nat) (L : List α) (V : List Value) (hV : V = flatE E L) (hB : B ≤ w.heap.size) (hl : L.length ≤ 100000) (n : Nat) (hn : n = L.length) :
    OwnL E T (w.alloc (.cells V.toArray T)) B (.slice (some ⟨w.heap.size, 0, none⟩) n n) L := by
  subst hV hn
  have := World.ownsRow_lit (base := B) (e := T) (size := E.n) w (flatE E L).toArray L.length hB (by unfold maxLen; omega) (by
    rw [List.size_toArray, flatE_length])
  exact this
/-- slices of unlike things lie apart -/
theorem OwnL.apart {β : Type} {E : Enc α} {E' : Enc β} {T T' : TypeId} {w : World} {B B' g : Nat} {v u : Value} {L : List α} {M : List β} (h : OwnL E T w B v L) (k : OwnL E' T' w B' u M) (hT : T ≠ T') (hv : v.ownBlock = some g) : u.ownBlock ≠ some g := by
  intro ht
  rcases h.2 with ⟨rfl, _⟩ | ⟨g1, cap, cur, rfl, _, hg, _⟩
  · cases hv
  · rcases k.2 with ⟨rfl, _⟩ | ⟨g2, cap2, cur2, rfl, _, hg2, _⟩
    · cases ht
    · simp only [Value.ownBlock, Option.some.injEq] at hv ht
      subst hv
      subst ht
      rw [hg] at hg2
      simp only [Option.some.injEq, Obj.cells.injEq] at hg2
      exact hT hg2.2.1
/-- one that has just been laid -/
theorem AtL.made (E : Enc α) (T : TypeId) (w : World) (m : Nat) (u : α) (V : List Value) (hV : V = E.enc u) (hm : m = w.heap.size) : AtL E (w.alloc (.cells V.toArray T)) (some ⟨m, 0, none⟩) [u] := by
  subst hV hm
  intro k hk
  obtain rfl : k = 0 := by simpa using hk
  refine ⟨w.heap.size, 0, rfl, by simp, fun j v hj => (World.cell?_alloc_at _ _ _ _ (by simp)).trans ?_⟩
  simpa using hj
/-- one more behind a slice of the call's own -/
theorem wpList_append_one (E : Enc α) (T S : TypeId) (hS : Try.prog.underlying S = some (.slice T)) {z : Value} {bytes : Nat} (hi : (Try.prog.info? T).map (fun i => (i.zero, i.size, i.bytes)) = some (some z, E.n, bytes)) (hz : z.cells.size = E.n) (hby : bytes ≤ 4096)
    (w : World) {ops : Array Oper} {rest : List Oper} {o : Oper} {a : Act} {Q : Exit → Act → World → Prop} (hgd : o.guard = none) (s x : Operand) (ho : o.op = .call { callee := .builtin .append, args := #[s, x], argTypes := #[S, S] })
    (B : Nat) (v : Value) (L : List α) (hs : a.eval s = v) (hown : OwnL E T w B v L) (m c : Nat) (hx : a.eval x = .slice (some ⟨m, 0, none⟩) 1 c) (u : α) (hm : AtL E w (some ⟨m, 0, none⟩) [u]) (hlen : L.length ≤ 100000) (hB : B ≤ w.heap.size)
    (h : ∀ v' w', OwnL E T w' B v' (L ++ [u]) → w.grownBy w' v.ownBlock → (v'.ownBlock = v.ownBlock ∨ v'.ownBlock = some w.heap.size) → wpList Try.prog ops Q rest (a.put o.dst v') w') : wpList Try.prog ops Q (o :: rest) a w := by
  refine wpList_plain hgd fun K hK => ?_
  obtain ⟨i0, hi0, hz0, hz1, hz2⟩ := info_parts hi
  obtain ⟨v', w', hr, h2, h3, h4, h5⟩ := run_append_own_at (P := Try.prog) w B S o.type T i0 z E.n bytes hS hi0 hz0 hz1 hz2 hz E.pos v L.length (flatE E L) hown ⟨m, 0, none⟩ 1 c (E.enc u) (by rw [E.len, Nat.one_mul]) (fun j y hj => by
    have := hm.get 0 (by simp) j hj
    have e : (⟨m, 0, none⟩ : Addr).add j = ⟨m, j, none⟩ := by unfold Addr.add; split <;> simp_all
    rw [e]
    simpa using this) (E.one u) (by unfold maxLen; omega) (Nat.le_trans (Nat.mul_le_mul_left _ hby) (by omega)) hB
  unfold Oper.wp execOp
  simp only [ho, resolve, invoke, builtin, Sem.run_bind, Sem.run_pure, Result.andThen_ok, List.map_toArray, List.map_cons, List.map_nil, hs, hx, hr]
  exact hK _ _ (h v' w' (by unfold OwnL; rw [List.length_append, flatE_append, flatE_single]; exact h2) h3 h5)
/-- an append that runs so -/
theorem wp_append_run {P : Program} {t : TypeId} {w : World} {o : Oper} {a : Act} {Q : Exit → Act → World → Prop} {K : Act → World → Prop} (s x : Operand) (ho : o.op = .call { callee := .builtin .append, args := #[s, x], argTypes := #[t, t] })
    {vs vx v' : Value} {w' : World} (hs : a.eval s = vs) (hx : a.eval x = vx) (hr : (Builtin.append_ #[t, t] o.type #[vs, vx]).run P w = .ok v' w') (h : K (a.put o.dst v') w') : Oper.wp P o a w K Q := by
  unfold Oper.wp execOp
  simp only [ho, resolve, invoke, builtin, Sem.run_bind, Sem.run_pure, Result.andThen_ok, List.map_toArray, List.map_cons, List.map_nil, hs, hx, hr]
  exact h
theorem AtL.grown {E : Enc α} {w w' : World} {g o : Nat} {L : List α} {row : Option Nat} (h : AtL E w (some ⟨g, o, none⟩) L) (hg : w.grownBy w' row) (hr : row ≠ some g) (hl : g < w.heap.size) : AtL E w' (some ⟨g, o, none⟩) L :=
  h.same (fun p hp => by cases hp; exact hg.block g hl (fun e => hr e.symm)) hg.size
/-- one more thing behind an own slice -/
theorem run_append_one (E : Enc α) (T S : TypeId) (ty : TypeId) (hS : Try.prog.underlying S = some (.slice T)) {z : Value} {bytes : Nat} (hi : (Try.prog.info? T).map (fun i => (i.zero, i.size, i.bytes)) = some (some z, E.n, bytes)) (hz : z.cells.size = E.n) (hby : bytes ≤ 4096)
    (w : World) (B : Nat) (v : Value) (L : List α) (hown : OwnL E T w B v L) (m c : Nat) (u : α) (hm : AtL E w (some ⟨m, 0, none⟩) [u]) (hlen : L.length ≤ 100000) (hB : B ≤ w.heap.size) :
    ∃ v' w', (Builtin.append_ #[S, S] ty #[v, .slice (some ⟨m, 0, none⟩) 1 c]).run Try.prog w = .ok v' w' ∧ OwnL E T w' B v' (L ++ [u]) ∧ w.grownBy w' v.ownBlock ∧ (v'.ownBlock = v.ownBlock ∨ v'.ownBlock = some w.heap.size) := by
  obtain ⟨i0, hi0, hz0, hz1, hz2⟩ := info_parts hi
  obtain ⟨v', w', hr, h2, h3, h4, h5⟩ := run_append_own_at (P := Try.prog) w B S ty T i0 z E.n bytes hS hi0 hz0 hz1 hz2 hz E.pos v L.length (flatE E L) hown ⟨m, 0, none⟩ 1 c (E.enc u) (by rw [E.len, Nat.one_mul]) (fun j y hj => by
    have := hm.get 0 (by simp) j hj
    have e : (⟨m, 0, none⟩ : Addr).add j = ⟨m, j, none⟩ := by unfold Addr.add; split <;> simp_all
    rw [e]
    simpa using this) (E.one u) (by unfold maxLen; omega) (Nat.le_trans (Nat.mul_le_mul_left _ hby) (by omega)) hB
  exact ⟨v', w', hr, by unfold OwnL; rw [List.length_append, flatE_append, flatE_single]; exact h2, h3, h5⟩
/-- behind it -/
theorem OwnL.appended {E : Enc α} {T : TypeId} {w0 wr w1 : World} {b0 B : Nat} {v : Value} {L : List α} (h : OwnL E T wr B v L) (hb : Below b0 w0 wr) (hbB : b0 ≤ B) (hbw : b0 ≤ wr.heap.size) (hg : wr.grownBy w1 v.ownBlock) : Below b0 w0 w1 :=
  hb.grown hg hbw (fun _ hk => Nat.le_trans hbB (h.ge hk).1)
/-- texts -/
def encS : Enc ByteArray := ⟨1, by omega, fun b => [.string b], fun _ => rfl, fun _ u hu => by rw [List.mem_singleton.1 hu]; rfl⟩
/-- numbers -/
def encI : Enc Int := ⟨1, by omega, fun b => [.int .i64 b], fun _ => rfl, fun _ u hu => by rw [List.mem_singleton.1 hu]; rfl⟩
end Go.Proofs.Ytchjljmcgjlkiaa
