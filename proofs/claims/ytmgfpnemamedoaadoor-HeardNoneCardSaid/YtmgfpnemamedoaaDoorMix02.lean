/-
A slice of the call's own, one of its elements written in place; an append that has room; what an append leaves as it was.
A slice of the call's own whose first one goes: the others come one place nearer, and the last place is cleared (as the library's Delete of the first one does it).
A slice of the call's own whose first ones go one place further: a copy onto itself, and what it leaves.
-/
import Derived.Test.YtmgfpnemamedoaaDoorMix00
import Derived.ArgAppend
import Derived.Laws.IdiomCopy
namespace Go.Proofs.YtmgfpnemamedoaaDoor
open Go.RowKit
set_option maxRecDepth 20000
/-- a block behind some stores in a row -/
theorem heap_setCells (g : Nat) (T : TypeId) : ∀ (vs : List Value) (o : Nat) (w : World) (cur : Array Value), w.heap[g]? = some (.cells cur T (0, 0)) →
    ∃ cur', (w.setCells g o vs).heap[g]? = some (.cells cur' T (0, 0)) ∧ cur'.size = cur.size ∧ ∀ x, x < cur.size → cur'[x]? = if o ≤ x ∧ x < o + vs.length then vs[x - o]? else cur[x]?
  | [], o, w, cur, h => ⟨cur, h, rfl, fun x _ => by rw [if_neg (by simp)]⟩
  | v :: r, o, w, cur, h => by
    have h1 := heap_setCell_same w g o cur T v h
    obtain ⟨cur', h2, h3, h4⟩ := heap_setCells g T r (o + 1) _ _ h1
    refine ⟨cur', h2, by rw [h3]; simp, fun x hx => ?_⟩
    rw [h4 x (by simpa using hx)]
    simp only [List.length_cons]
    by_cases ha : o + 1 ≤ x ∧ x < o + 1 + r.length
    · rw [if_pos ha, if_pos (by omega)]
      obtain ⟨y, hy⟩ : ∃ y, x - o = y + 1 := ⟨x - o - 1, by omega⟩
      rw [hy, List.getElem?_cons_succ]
      congr 1
      omega
    · rw [if_neg ha]
      by_cases hb : x = o
      · subst hb
        rw [if_pos (by omega), Nat.sub_self]
        simp [hx]
      · rw [if_neg (by omega), Array.getElem?_setIfInBounds_ne (fun e => hb e.symm)]
variable {α : Type}
/-- a list of cells is that of things, if each one is -/
theorem flatE_ext (E : Enc α) (L : List α) (xs : List Value) (hl : xs.length = L.length * E.n) (h : ∀ k (hk : k < L.length) j, j < E.n → xs[k * E.n + j]? = (E.enc L[k])[j]?) : xs = flatE E L := by
  apply List.ext_getElem?
  intro x
  have hn := E.pos
  by_cases hx : x < L.length * E.n
  · have hk : x / E.n < L.length := Nat.div_lt_of_lt_mul (by rw [Nat.mul_comm]; exact hx)
    have hj : x % E.n < E.n := Nat.mod_lt _ hn
    have e : x = x / E.n * E.n + x % E.n := by rw [Nat.mul_comm]; exact (Nat.div_add_mod x E.n).symm
    have h1 := h _ hk _ hj
    have h2 := flatE_at E L _ hk _ hj
    rw [← e] at h1 h2
    rw [h1, h2]
  · rw [List.getElem?_eq_none (by omega), List.getElem?_eq_none (by rw [flatE_length]; omega)]
/-- one of them written anew -/
theorem OwnL.setIn {E : Enc α} {T : TypeId} {w w' : World} {B g n c : Nat} {L : List α} (h : OwnL E T w B (.slice (some ⟨g, 0, none⟩) n c) L) (k : Nat) (a : α) (hk : k < L.length)
    (hw : ∀ cur, w.heap[g]? = some (.cells cur T (0, 0)) → L.length * E.n ≤ cur.size → ∃ cur', w'.heap[g]? = some (.cells cur' T (0, 0)) ∧ cur'.size = cur.size ∧ (∀ j, j < E.n → cur'[k * E.n + j]? = (E.enc a)[j]?) ∧ ∀ x, x < cur.size → x < k * E.n ∨ k * E.n + E.n ≤ x → cur'[x]? = cur[x]?) :
    OwnL E T w' B (.slice (some ⟨g, 0, none⟩) n c) (L.set k a) := by
  have hn : n = L.length := by
    rcases h.2 with ⟨h0, _⟩ | ⟨_, _, _, hv, _⟩
    · cases h0
    · simp only [Value.slice.injEq] at hv
      exact hv.2.1
  subst hn
  have hlen := h.1
  rcases h.2 with ⟨h0, _⟩ | ⟨g', cap, cur, hv, hb, hg, hc, hm, hs, ht⟩
  · cases h0
  · simp only [Value.slice.injEq, Option.some.injEq, Addr.mk.injEq, and_true] at hv
    obtain ⟨rfl, -, rfl⟩ := hv
    have hle : L.length * E.n ≤ cur.size := by rw [hs]; exact Nat.mul_le_mul_right _ hc
    obtain ⟨cur', h1, h2, h3, h4⟩ := hw cur hg hle
    refine ⟨by rw [flatE_length], ?_⟩
    refine Or.inr ⟨g, c, cur', by rw [List.length_set], hb, h1, by rw [List.length_set]; exact hc, hm, by rw [h2, hs], ?_⟩
    refine flatE_ext E _ _ ?_ fun i hi j hj => ?_
    · have hq : cur'.toList.length = cur.size := by simpa using h2
      rw [List.length_take, List.length_set, hq]
      omega
    · rw [List.length_set] at hi
      have hx : i * E.n + j < L.length * E.n := by
        have : (i + 1) * E.n ≤ L.length * E.n := Nat.mul_le_mul_right _ hi
        rw [Nat.add_mul, Nat.one_mul] at this
        omega
      rw [List.length_set, List.getElem?_take_of_lt hx, Array.getElem?_toList]
      by_cases hik : i = k
      · subst hik
        rw [h3 j hj, List.getElem_set_self]
      · have hout : i * E.n + j < k * E.n ∨ k * E.n + E.n ≤ i * E.n + j := by
          rcases Nat.lt_or_gt_of_ne hik with q | q
          · have : (i + 1) * E.n ≤ k * E.n := Nat.mul_le_mul_right _ q
            rw [Nat.add_mul, Nat.one_mul] at this
            omega
          · have : (k + 1) * E.n ≤ i * E.n := Nat.mul_le_mul_right _ q
            rw [Nat.add_mul, Nat.one_mul] at this
            omega
        rw [h4 _ (by omega) hout, List.getElem_set_ne (fun e => hik e.symm)]
        have h5 := flatE_at E L i hi j hj
        rw [← ht, List.getElem?_take_of_lt hx, Array.getElem?_toList] at h5
        exact h5
theorem OwnL.setAll {E : Enc α} {T : TypeId} {w : World} {B g n c : Nat} {L : List α} (h : OwnL E T w B (.slice (some ⟨g, 0, none⟩) n c) L) (k : Nat) (a : α) (hk : k < L.length) (o : Nat) (ho : o = k * E.n) : OwnL E T (w.setCells g o (E.enc a)) B (.slice (some ⟨g, 0, none⟩) n c) (L.set k a) := by
  subst ho
  refine h.setIn k a hk fun cur hg hle => ?_
  obtain ⟨cur', h1, h2, h3⟩ := heap_setCells g T (E.enc a) (k * E.n) w cur hg
  have hkn : (k + 1) * E.n ≤ L.length * E.n := Nat.mul_le_mul_right _ hk
  rw [Nat.add_mul, Nat.one_mul] at hkn
  refine ⟨cur', h1, h2, fun j hj => ?_, fun x hx hout => ?_⟩
  · rw [h3 _ (by omega), if_pos (by rw [E.len]; omega)]
    congr 1
    omega
  · rw [h3 x hx, if_neg (by rw [E.len]; omega)]
theorem OwnL.setOne {E : Enc α} {T : TypeId} {w : World} {B g n c : Nat} {L : List α} (h : OwnL E T w B (.slice (some ⟨g, 0, none⟩) n c) L) (k : Nat) (a : α) (hk : k < L.length) (j : Nat) (hj : j < E.n) (u : Value) (hu : (E.enc a)[j]? = some u) (hsame : ∀ i, i ≠ j → (E.enc a)[i]? = (E.enc L[k])[i]?) (o : Nat) (ho : o = k * E.n + j) :
    OwnL E T (w.setCell ⟨g, o, none⟩ u) B (.slice (some ⟨g, 0, none⟩) n c) (L.set k a) := by
  subst ho
  have hat := fun (i : Nat) (hi : i < E.n) => flatE_at E L k hk i hi
  have hall := h.2
  have hlen := h.1
  refine h.setIn k a hk fun cur hg hle => ?_
  have hkn : (k + 1) * E.n ≤ L.length * E.n := Nat.mul_le_mul_right _ hk
  rw [Nat.add_mul, Nat.one_mul] at hkn
  refine ⟨_, heap_setCell_same w g (k * E.n + j) cur T u hg, by simp, fun i hi => ?_, fun x hx hout => ?_⟩
  · by_cases hij : i = j
    · subst hij
      rw [hu]
      simp only [Array.getElem?_setIfInBounds_self]
      rw [if_pos (by omega)]
    · rw [Array.getElem?_setIfInBounds_ne (by omega), hsame i hij, ← hat i hi]
      rcases hall with ⟨h0, _⟩ | ⟨g', cap, cur', hv, _, hg', _, _, _, ht⟩
      · cases h0
      · simp only [Value.slice.injEq, Option.some.injEq, Addr.mk.injEq, and_true] at hv
        obtain ⟨rfl, hn, rfl⟩ := hv
        rw [hg] at hg'
        simp only [Option.some.injEq, Obj.cells.injEq, and_true] at hg'
        subst hg'
        rw [← ht, List.getElem?_take_of_lt (by omega), Array.getElem?_toList]
  · rw [Array.getElem?_setIfInBounds_ne (by omega)]
/-- the first of them, as a slice of the same array -/
theorem OwnL.cut {E : Enc α} {T : TypeId} {w : World} {B g n c : Nat} {L : List α} (h : OwnL E T w B (.slice (some ⟨g, 0, none⟩) n c) L) (m : Nat) (hm : m ≤ L.length) : OwnL E T w B (.slice (some ⟨g, 0, none⟩) m c) (L.take m) := by
  rcases h.2 with ⟨h0, _⟩ | ⟨g', cap, cur, hv, hb, hg, hc, hmx, hs, ht⟩
  · cases h0
  · simp only [Value.slice.injEq, Option.some.injEq, Addr.mk.injEq, and_true] at hv
    obtain ⟨rfl, hn, rfl⟩ := hv
    have hl : (L.take m).length = m := by rw [List.length_take]; omega
    refine ⟨by rw [flatE_length], Or.inr ⟨g, c, cur, by rw [hl], hb, hg, by omega, hmx, hs, ?_⟩⟩
    rw [hl]
    refine flatE_ext E _ _ ?_ fun i hi j hj => ?_
    · have hq : cur.toList.length = c * E.n := by simpa using hs
      rw [List.length_take, hq, hl]
      have : m * E.n ≤ c * E.n := Nat.mul_le_mul_right _ (by omega)
      omega
    · have hi' : i < m := by omega
      have hx : (i + 1) * E.n ≤ m * E.n := Nat.mul_le_mul_right _ hi'
      rw [Nat.add_mul, Nat.one_mul] at hx
      have hx2 : m * E.n ≤ L.length * E.n := Nat.mul_le_mul_right _ hm
      have h5 := flatE_at E L i (by omega) j hj
      rw [← ht, List.getElem?_take_of_lt (by omega), Array.getElem?_toList] at h5
      rw [List.getElem?_take_of_lt (by omega), Array.getElem?_toList, h5, List.getElem_take]
/-- its cells are there, and may be written -/
theorem OwnL.cells' {E : Enc α} {T : TypeId} {w : World} {B g n c : Nat} {L : List α} (h : OwnL E T w B (.slice (some ⟨g, 0, none⟩) n c) L) (j : Nat) (hj : j < L.length * E.n) : (w.cell? ⟨g, j, none⟩).isSome = true ∧ w.frozen? ⟨g, j, none⟩ = false := by
  have hn : n = L.length := by
    rcases h.2 with ⟨h0, _⟩ | ⟨_, _, _, hv, _⟩
    · cases h0
    · simp only [Value.slice.injEq] at hv
      exact hv.2.1
  subst hn
  have h1 := World.ownsRow.cellAt h j hj
  have h2 := World.ownsRow.frozenAt h j
  refine ⟨?_, h2⟩
  rw [h1, List.getElem?_eq_getElem (by rw [flatE_length]; exact hj)]
  rfl
/-- an append that has room writes in place -/
theorem run_append_in (E : Enc α) (T S ty : TypeId) (hS : Tryd.prog.underlying S = some (.slice T)) {z : Value} {bytes : Nat} (hi : (Tryd.prog.info? T).map (fun i => (i.zero, i.size, i.bytes)) = some (some z, E.n, bytes))
    (w : World) (B g n c : Nat) (L : List α) (hown : OwnL E T w B (.slice (some ⟨g, 0, none⟩) n c) L) (k : Nat) (hk : k < L.length) (m cc : Nat) (u : α) (hm : AtL E w (some ⟨m, 0, none⟩) [u]) :
    (Builtin.append_ #[S, S] ty #[.slice (some ⟨g, 0, none⟩) k c, .slice (some ⟨m, 0, none⟩) 1 cc]).run Tryd.prog w = .ok (.slice (some ⟨g, 0, none⟩) (k + 1) c) (w.setCells g (k * E.n) (E.enc u)) := by
  obtain ⟨i0, hi0, hz0, hz1, hz2⟩ := info_parts hi
  have hcap : L.length ≤ c := by
    rcases hown.2 with ⟨h0, _⟩ | ⟨g', cap, cur, hv, hb, hg, hc, hmx, hs, ht⟩
    · cases h0
    · simp only [Value.slice.injEq] at hv
      obtain ⟨-, -, rfl⟩ := hv
      exact hc
  have hkn : (k + 1) * E.n ≤ L.length * E.n := Nat.mul_le_mul_right _ hk
  rw [Nat.add_mul, Nat.one_mul] at hkn
  have hr := run_append_room_cells (P := Tryd.prog) w S ty T i0 hS hi0 g 0 k c ⟨m, 0, none⟩ 1 cc (E.enc u) (by rw [E.len, hz1, Nat.one_mul]) (fun j y hj => by
    have := hm.get 0 (by simp) j hj
    have e : (⟨m, 0, none⟩ : Addr).add j = ⟨m, j, none⟩ := by unfold Addr.add; split <;> simp_all
    rw [e]
    simpa using this) (E.one u) (by omega)
    (fun j hj => by rw [E.len] at hj; rw [hz1, Nat.zero_add]; exact (hown.cells' _ (by omega)).1)
    (fun j hj => by rw [E.len] at hj; rw [hz1, Nat.zero_add]; exact (hown.cells' _ (by omega)).2)
  rw [hr, hz1, Nat.zero_add]
theorem wpList_append_in (E : Enc α) (T S : TypeId) (hS : Tryd.prog.underlying S = some (.slice T)) {z : Value} {bytes : Nat} (hi : (Tryd.prog.info? T).map (fun i => (i.zero, i.size, i.bytes)) = some (some z, E.n, bytes))
    (w : World) {ops : Array Oper} {rest : List Oper} {o : Oper} {a : Act} {Q : Exit → Act → World → Prop} (hgd : o.guard = none) (s x : Operand) (ho : o.op = .call { callee := .builtin .append, args := #[s, x], argTypes := #[S, S] })
    (B g n c : Nat) (L : List α) (hown : OwnL E T w B (.slice (some ⟨g, 0, none⟩) n c) L) (k : Nat) (hk : k < L.length) (hs : a.eval s = .slice (some ⟨g, 0, none⟩) k c) (m cc : Nat) (hx : a.eval x = .slice (some ⟨m, 0, none⟩) 1 cc) (u : α) (hm : AtL E w (some ⟨m, 0, none⟩) [u])
    (h : wpList Tryd.prog ops Q rest (a.put o.dst (.slice (some ⟨g, 0, none⟩) (k + 1) c)) (w.setCells g (k * E.n) (E.enc u))) : wpList Tryd.prog ops Q (o :: rest) a w := by
  refine wpList_plain hgd fun K hK => ?_
  have hr := run_append_in E T S o.type hS hi w B g n c L hown k hk m cc u hm
  unfold Oper.wp execOp
  simp only [ho, resolve, invoke, builtin, Sem.run_bind, Sem.run_pure, Result.andThen_ok, List.map_toArray, List.map_cons, List.map_nil, hs, hx, hr]
  exact hK _ _ h
theorem setCells_block (g : Nat) : ∀ (vs : List Value) (o : Nat) (w : World) (k : Nat), k ≠ g → (w.setCells g o vs).heap[k]? = w.heap[k]?
  | [], _, _, _, _ => rfl
  | v :: r, o, w, k, h => by
    rw [World.setCells, setCells_block g r (o + 1) _ k h]
    exact Below.heap_setCell _ _ _ _ h
theorem setCells_rest (g : Nat) : ∀ (vs : List Value) (o : Nat) (w : World), (w.setCells g o vs).os = w.os ∧ (w.setCells g o vs).tape = w.tape ∧ (w.setCells g o vs).output = w.output ∧ (w.setCells g o vs).heap.size = w.heap.size
  | [], _, _ => ⟨rfl, rfl, rfl, rfl⟩
  | v :: r, o, w => by
    obtain ⟨h1, h2, h3, h4⟩ := setCells_rest g r (o + 1) (w.setCell ⟨g, o, none⟩ v)
    exact ⟨h1, h2, h3, h4.trans (by simp [World.setCell])⟩
theorem Turn.setCells {F : Nat → Prop} {a W : World} (h : Turn F a W) {g : Nat} (hg : F g ∨ a.heap.size ≤ g) (o : Nat) (vs : List Value) : Turn F a (W.setCells g o vs) := by
  obtain ⟨h1, h2, h3, h4⟩ := setCells_rest g vs o W
  exact ⟨h1.trans h.os, h2.trans h.tape, h3.trans h.output, by rw [h4]; exact h.size, fun k hk hF => (setCells_block g vs o W k (fun e => hg.elim (fun q => hF (e ▸ q)) (fun q => by omega))).trans (h.block k hk hF)⟩
theorem belowN {B : Nat} {a w : World} (h : Below B a w) (n : Nat) : Below B a (w.drewN n) := ⟨h.os, h.tape, h.output, h.size, h.block⟩
/-- an append of some things behind an own slice -/
theorem run_append_more (E : Enc α) (T S : TypeId) (ty : TypeId) (hS : Tryd.prog.underlying S = some (.slice T)) {z : Value} {bytes : Nat} (hi : (Tryd.prog.info? T).map (fun i => (i.zero, i.size, i.bytes)) = some (some z, E.n, bytes)) (hz : z.cells.size = E.n) (hby : bytes ≤ 4096)
    (w : World) (B : Nat) (v : Value) (L : List α) (hown : OwnL E T w B v L) (ad : Addr) (c : Nat) (U : List α) (hm : ∀ j u, (flatE E U)[j]? = some u → w.cell? (ad.add j) = some u) (hlen : L.length + U.length ≤ 100000) (hB : B ≤ w.heap.size) :
    ∃ v' w', (Builtin.append_ #[S, S] ty #[v, .slice (some ad) U.length c]).run Tryd.prog w = .ok v' w' ∧ OwnL E T w' B v' (L ++ U) ∧ w.grownBy w' v.ownBlock ∧ (v'.ownBlock = v.ownBlock ∨ v'.ownBlock = some w.heap.size) := by
  obtain ⟨i0, hi0, hz0, hz1, hz2⟩ := info_parts hi
  obtain ⟨v', w', hr, h2, h3, h4, h5⟩ := run_append_own_at (P := Tryd.prog) w B S ty T i0 z E.n bytes hS hi0 hz0 hz1 hz2 hz E.pos v L.length (flatE E L) hown ad U.length c (flatE E U) (flatE_length E U) hm (fun u hu => by
    obtain ⟨a, _, ha⟩ := List.mem_flatMap.1 hu
    exact E.one a u ha) (by unfold maxLen; omega) (Nat.le_trans (Nat.mul_le_mul_left _ hby) (by omega)) hB
  exact ⟨v', w', hr, by unfold OwnL; rw [List.length_append, flatE_append]; exact h2, h3, h5⟩
theorem flatE_prefix (E : Enc α) {X M : List α} (h : X <+: M) (y : Nat) (hy : y < X.length * E.n) : (flatE E X)[y]? = (flatE E M)[y]? := by
  obtain ⟨Y, rfl⟩ := h
  rw [flatE_append, List.getElem?_append_left (by rw [flatE_length]; exact hy)]
/-- an append of some things behind an own slice; whatever holds the first of all these in whatever slice of the same array, holds them still -/
theorem run_append_full (E : Enc α) (T S ty : TypeId) (hS : Tryd.prog.underlying S = some (.slice T)) {z : Value} {bytes : Nat} (hi : (Tryd.prog.info? T).map (fun i => (i.zero, i.size, i.bytes)) = some (some z, E.n, bytes)) (hz : z.cells.size = E.n) (hby : bytes ≤ 4096)
    (w : World) (B : Nat) (v : Value) (L : List α) (hown : OwnL E T w B v L) (ad : Addr) (c : Nat) (U : List α) (hm : ∀ j u, (flatE E U)[j]? = some u → w.cell? (ad.add j) = some u) (hlen : L.length + U.length ≤ 100000) (hB : B ≤ w.heap.size) :
    ∃ v' w', (Builtin.append_ #[S, S] ty #[v, .slice (some ad) U.length c]).run Tryd.prog w = .ok v' w' ∧ OwnL E T w' B v' (L ++ U) ∧ w.grownBy w' v.ownBlock ∧ (v'.ownBlock = v.ownBlock ∨ v'.ownBlock = some w.heap.size) ∧
      ∀ X B' x, X <+: L ++ U → OwnL E T w B' x X → OwnL E T w' B' x X := by
  obtain ⟨v', w', hr, h2, h3, h4⟩ := run_append_more E T S ty hS hi hz hby w B v L hown ad c U hm hlen hB
  refine ⟨v', w', hr, h2, h3, h4, fun X B' x hX h => ?_⟩
  obtain ⟨i0, hi0, hz0, hz1, hz2⟩ := info_parts hi
  have hone : ∀ u ∈ flatE E U, u.oneCell' = true := fun u hu => by
    obtain ⟨a, _, ha⟩ := List.mem_flatMap.1 hu
    exact E.one a u ha
  have hlen1 : (flatE E U).length = U.length * E.n := flatE_length E U
  rcases hown.2 with ⟨hv1, _⟩ | ⟨g, cap, cur, hv1, hb1, hgc, hc1, hmx1, hs1, ht1⟩
  · subst hv1
    exact h.grown h3 (fun b e q => by cases q)
  · subst hv1
    by_cases hle : L.length + U.length ≤ cap
    · have hmul : (L.length + U.length) * E.n ≤ cap * E.n := Nat.mul_le_mul_right _ hle
      rw [Nat.add_mul] at hmul
      have hin : ∀ j, j < (flatE E U).length → (w.cell? ⟨g, 0 + L.length * E.n + j, none⟩).isSome = true := fun j hj => by
        have : w.cell? ⟨g, 0 + L.length * E.n + j, none⟩ = cur[0 + L.length * E.n + j]? := by
          unfold World.cell?
          simp [hgc]
        rw [this, Array.getElem?_eq_getElem (by omega)]
        rfl
      have hfr : ∀ j, j < (flatE E U).length → w.frozen? ⟨g, 0 + L.length * E.n + j, none⟩ = false := fun j hj => World.ownsRow.frozenAt hown _
      have hr2 := run_append_room_cells (P := Tryd.prog) w S ty T i0 hS hi0 g 0 L.length cap ad U.length c (flatE E U) (by rw [hlen1, hz1]) hm hone hle (by rw [hz1]; exact hin) (by rw [hz1]; exact hfr)
      rw [hr2] at hr
      simp only [Result.ok.injEq] at hr
      obtain ⟨-, rfl⟩ := hr
      rw [hz1, Nat.zero_add]
      by_cases hxg : x.ownBlock = some g
      · rcases h.2 with ⟨hv2, _⟩ | ⟨g2, cap2, cur2, hv2, hb2, hgc2, hc2, hmx2, hs2, ht2⟩
        · rw [hv2] at hxg
          cases hxg
        · subst hv2
          simp only [Value.ownBlock, Option.some.injEq] at hxg
          subst hxg
          rw [hgc] at hgc2
          simp only [Option.some.injEq, Obj.cells.injEq, and_true] at hgc2
          subst hgc2
          obtain ⟨cur', k1, k2, k3⟩ := heap_setCells g2 T (flatE E U) (L.length * E.n) w cur hgc
          refine ⟨h.1, Or.inr ⟨g2, cap2, cur', rfl, hb2, k1, hc2, hmx2, by rw [k2]; exact hs2, ?_⟩⟩
          rw [← ht2]
          apply List.ext_getElem?
          intro y
          by_cases hy : y < X.length * E.n
          · have hy2 : y < cur.size := by
              rw [hs2]
              exact Nat.lt_of_lt_of_le hy (Nat.mul_le_mul_right _ hc2)
            rw [List.getElem?_take_of_lt hy, List.getElem?_take_of_lt hy, Array.getElem?_toList, Array.getElem?_toList, k3 y hy2]
            split
            · rename_i hyr
              have q : (flatE E X)[y]? = (flatE E U)[y - L.length * E.n]? := by
                rw [flatE_prefix E hX y hy, flatE_append, List.getElem?_append_right (by rw [flatE_length]; exact hyr.1), flatE_length]
              rw [← q, ← ht2, List.getElem?_take_of_lt hy, Array.getElem?_toList]
            · rfl
          · rw [List.getElem?_eq_none (by rw [List.length_take]; omega), List.getElem?_eq_none (by rw [List.length_take]; omega)]
      · exact h.same (fun b e => setCells_block g _ _ w b (fun q => hxg (q ▸ e)))
    · obtain ⟨v2, w2, hr2, -, hg2⟩ := run_append_arg_grows (P := Tryd.prog) w S ty T i0 z E.n bytes hS hi0 hz0 hz1 hz2 hz E.pos ⟨g, 0, none⟩ L.length cap (flatE E L) (flatE_length E L)
        (World.ownsRow.cells hown (g := g) rfl) ad U.length c (flatE E U) hlen1 hm (by omega) (by unfold maxLen; omega) (Nat.le_trans (Nat.mul_le_mul_left _ hby) (by omega))
      rw [hr2] at hr
      simp only [Result.ok.injEq] at hr
      obtain ⟨-, rfl⟩ := hr
      exact h.grown hg2 (fun b e q => by cases q)
/-- cells of a part of an own slice -/
theorem OwnL.part {E : Enc α} {T : TypeId} {w : World} {B g n c : Nat} {L : List α} (h : OwnL E T w B (.slice (some ⟨g, 0, none⟩) n c) L) (A M Z : List α) (hL : L = A ++ M ++ Z) (o : Nat) (ho : o = A.length * E.n) : ∀ j u, (flatE E M)[j]? = some u → w.cell? ((⟨g, o, none⟩ : Addr).add j) = some u := by
  intro j u hj
  have hjl := (List.getElem?_eq_some_iff.1 hj).1
  have e1 : (⟨g, o, none⟩ : Addr).add j = ⟨g, o + j, none⟩ := by unfold Addr.add; split <;> simp_all
  have e2 : (⟨g, 0, none⟩ : Addr).add (o + j) = ⟨g, o + j, none⟩ := by unfold Addr.add; split <;> simp_all
  have e : (⟨g, o, none⟩ : Addr).add j = (⟨g, 0, none⟩ : Addr).add (o + j) := e1.trans e2.symm
  rw [e]
  refine World.ownsRow.cells h (g := g) rfl (o + j) u ?_
  rw [hL, flatE_append, flatE_append, List.append_assoc, List.getElem?_append_right (by rw [flatE_length]; omega), flatE_length, ho, Nat.add_sub_cancel_left, List.getElem?_append_left hjl]
  exact hj
/-- an own slice without room holds nothing -/
theorem OwnL.none_of {E : Enc α} {T T' : TypeId} {β : Type} {E' : Enc β} {w : World} {B B' g : Nat} {X : List α} {x : Value} {Y : List β} (h : OwnL E' T' w B (.slice (some ⟨g, 0, none⟩) 0 0) Y) (k : OwnL E T w B' x X) (hx : x.ownBlock = some g) : X = [] := by
  rcases h.2 with ⟨h0, _⟩ | ⟨g1, cap1, cur1, hv1, -, hg1, -, -, hs1, -⟩
  · cases h0
  · simp only [Value.slice.injEq, Option.some.injEq, Addr.mk.injEq, and_true] at hv1
    obtain ⟨rfl, -, rfl⟩ := hv1
    rcases k.2 with ⟨rfl, _⟩ | ⟨g2, cap2, cur2, rfl, -, hg2, hc2, -, hs2, -⟩
    · cases hx
    · simp only [Value.ownBlock, Option.some.injEq] at hx
      subst hx
      rw [hg1] at hg2
      simp only [Option.some.injEq, Obj.cells.injEq] at hg2
      obtain ⟨rfl, -, -⟩ := hg2
      rw [hs1, Nat.zero_mul] at hs2
      have hz : cap2 = 0 := by
        rcases Nat.mul_eq_zero.1 hs2.symm with q | q
        · exact q
        · have := E.pos
          omega
      exact List.length_eq_zero_iff.1 (by omega)
end Go.Proofs.YtmgfpnemamedoaaDoor
namespace Go.Proofs.YtmgfpnemamedoaaDoor
open Go.RowKit
set_option maxRecDepth 20000
section
variable {α : Type}
/-- the slices that it takes -/
theorem run_front (E : Enc α) (T S : TypeId) (hS : Tryd.prog.underlying S = some (.slice T)) (hel : Tryd.prog.elem S = T) (hsz : ∀ W : World, (sizeOf T).run Tryd.prog W = .ok E.n W) (g m n c : Nat) (hm : m = n + 1) (W : World) :
    (Instr.slice S (.slice (some ⟨g, 0, none⟩) m c) (some (.int .i64 1)) none none).run Tryd.prog W = .ok (.slice (some (if c = 1 then ⟨g, 0, none⟩ else ⟨g, E.n, none⟩)) n (c - 1)) W := by
  subst hm
  have e1 : (⟨g, 0, none⟩ : Addr).add E.n = ⟨g, E.n, none⟩ := by
    unfold Addr.add
    split <;> simp_all
  rw [run_slice_l W S (some ⟨g, 0, none⟩) (n + 1) c (by rw [hel]; exact hS) .i64 1 (by omega) (by omega), hel, hsz]
  by_cases h : c = 1 <;> simp [Result.andThen, sliced, h, e1]
theorem run_begin (E : Enc α) (T S : TypeId) (hS : Tryd.prog.underlying S = some (.slice T)) (hel : Tryd.prog.elem S = T) (hsz : ∀ W : World, (sizeOf T).run Tryd.prog W = .ok E.n W) (g m c : Nat) (W : World) :
    (Instr.slice S (.slice (some ⟨g, 0, none⟩) m c) none (some (.int .i64 0)) none).run Tryd.prog W = .ok (.slice (some ⟨g, 0, none⟩) 0 c) W := by
  have e1 : (⟨g, 0, none⟩ : Addr).add 0 = ⟨g, 0, none⟩ := by
    unfold Addr.add
    split <;> simp_all
  rw [run_slice_h W S (some ⟨g, 0, none⟩) m c (by rw [hel]; exact hS) .i64 0 (by omega) (by omega), hel, hsz]
  simp [Result.andThen, sliced, e1]
theorem run_check (E : Enc α) (T S : TypeId) (hS : Tryd.prog.underlying S = some (.slice T)) (hel : Tryd.prog.elem S = T) (hsz : ∀ W : World, (sizeOf T).run Tryd.prog W = .ok E.n W) (g m c : Nat) (h1 : 1 ≤ m) (hm : m ≤ c) (W : World) :
    (Instr.slice S (.slice (some ⟨g, 0, none⟩) m c) (some (.int .i64 0)) (some (.int .i64 1)) (some (.int .i64 (m : Int)))).run Tryd.prog W = .ok (.slice (some ⟨g, 0, none⟩) 1 m) W := by
  have e1 : (⟨g, 0, none⟩ : Addr).add 0 = ⟨g, 0, none⟩ := by
    unfold Addr.add
    split <;> simp_all
  rw [run_slice_lhm W S (some ⟨g, 0, none⟩) m c (by rw [hel]; exact hS) .i64 .i64 .i64 0 1 (m : Int) (by omega) (by omega) (by omega) (by omega), hel, hsz]
  simp [Result.andThen, sliced, e1]
theorem run_last (E : Enc α) (T S : TypeId) (hS : Tryd.prog.underlying S = some (.slice T)) (hel : Tryd.prog.elem S = T) (hsz : ∀ W : World, (sizeOf T).run Tryd.prog W = .ok E.n W) (g m n c : Nat) (hm : m = n + 1) (hc : m ≤ c) (W : World) :
    (Instr.slice S (.slice (some ⟨g, 0, none⟩) n c) (some (.int .i64 (n : Int))) (some (.int .i64 (m : Int))) none).run Tryd.prog W = .ok (.slice (some ⟨g, n * E.n, none⟩) 1 (c - n)) W := by
  subst hm
  have e1 : (⟨g, 0, none⟩ : Addr).add (n * E.n) = ⟨g, n * E.n, none⟩ := by
    unfold Addr.add
    split <;> simp_all
  rw [run_slice_lh W S (some ⟨g, 0, none⟩) n c (by rw [hel]; exact hS) .i64 .i64 (n : Int) ((n + 1 : Nat) : Int) (by omega) (by omega) (by omega), hel, hsz]
  have ne : c ≠ n := by omega
  have e2 : ((n : Int) + 1).toNat = n + 1 := by omega
  simp [Result.andThen, sliced, e1, ne, e2]
/-- an own slice's block -/
theorem OwnL.block_ {E : Enc α} {T : TypeId} {w : World} {B g m c : Nat} {L : List α} (h : OwnL E T w B (.slice (some ⟨g, 0, none⟩) m c) L) : m = L.length ∧ B ≤ g ∧ L.length ≤ c ∧ c ≤ maxLen ∧ ∃ cur, w.heap[g]? = some (.cells cur T (0, 0)) ∧ cur.size = c * E.n ∧ cur.toList.take (L.length * E.n) = flatE E L := by
  rcases h.2 with ⟨h0, _⟩ | ⟨g', cap, cur, hv, hb, hg, hc, hmx, hs, ht⟩
  · cases h0
  · simp only [Value.slice.injEq, Option.some.injEq, Addr.mk.injEq, and_true] at hv
    obtain ⟨rfl, hn, rfl⟩ := hv
    exact ⟨hn, hb, hc, hmx, cur, hg, hs, ht⟩
theorem OwnL.of_block {E : Enc α} {T : TypeId} {w : World} {B g c : Nat} {L : List α} {cur : Array Value} (hb : B ≤ g) (hc : L.length ≤ c) (hm : c ≤ maxLen) (hg : w.heap[g]? = some (.cells cur T (0, 0))) (hs : cur.size = c * E.n) (ht : cur.toList.take (L.length * E.n) = flatE E L) : OwnL E T w B (.slice (some ⟨g, 0, none⟩) L.length c) L :=
  ⟨flatE_length E L, Or.inr ⟨g, c, cur, rfl, hb, hg, hc, hm, hs, ht⟩⟩
/-- the append that moves them -/
theorem run_shift (E : Enc α) (T S ty : TypeId) (hS : Tryd.prog.underlying S = some (.slice T)) {z : Value} {bytes : Nat} (hi : (Tryd.prog.info? T).map (fun i => (i.zero, i.size, i.bytes)) = some (some z, E.n, bytes))
    (w : World) (B g m c : Nat) (u : α) (R : List α) (h : OwnL E T w B (.slice (some ⟨g, 0, none⟩) m c) (u :: R)) :
    (Builtin.append_ #[S, S] ty #[.slice (some ⟨g, 0, none⟩) 0 c, .slice (some (if c = 1 then ⟨g, 0, none⟩ else ⟨g, E.n, none⟩)) R.length (c - 1)]).run Tryd.prog w = .ok (.slice (some ⟨g, 0, none⟩) R.length c) (w.setCells g 0 (flatE E R)) := by
  obtain ⟨i0, hi0, hz0, hz1, hz2⟩ := info_parts hi
  obtain ⟨-, -, hc, -, cur, hg, hs, ht⟩ := h.block_
  rw [List.length_cons] at hc ht
  have hR : R.length * E.n ≤ c * E.n := Nat.mul_le_mul_right _ (by omega)
  have hcell : ∀ x, w.cell? ⟨g, x, none⟩ = cur[x]? := fun x => by unfold World.cell?; simp [hg]
  have hr := run_append_room_cells (P := Tryd.prog) w S ty T i0 hS hi0 g 0 0 c (if c = 1 then ⟨g, 0, none⟩ else ⟨g, E.n, none⟩) R.length (c - 1) (flatE E R) (by rw [flatE_length, hz1]) (fun j y hj => by
    have hjl := (List.getElem?_eq_some_iff.1 hj).1
    rw [flatE_length] at hjl
    have hne : c ≠ 1 := fun e => by
      have : R.length = 0 := by omega
      rw [this] at hjl
      omega
    have e1 : (⟨g, E.n, none⟩ : Addr).add j = ⟨g, E.n + j, none⟩ := by
      unfold Addr.add
      split <;> simp_all
    rw [if_neg hne, e1, hcell]
    have h2 : (cur.toList.take ((R.length + 1) * E.n))[E.n + j]? = some y := by
      rw [ht]
      show (E.enc u ++ flatE E R)[E.n + j]? = _
      rw [List.getElem?_append_right (by rw [E.len]; omega), E.len, Nat.add_sub_cancel_left]
      exact hj
    rw [List.getElem?_take_of_lt (by rw [Nat.add_mul]; omega), Array.getElem?_toList] at h2
    exact h2) (fun y hy => by
    obtain ⟨a, _, ha⟩ := List.mem_flatMap.1 hy
    exact E.one a y ha) (by omega) (fun j hj => by
    rw [flatE_length] at hj
    rw [hz1, hcell, Array.getElem?_eq_getElem (by omega)]
    rfl) (fun j hj => by unfold World.frozen?; simp [hg])
  rw [hr, hz1, Nat.zero_mul, Nat.zero_add, Nat.zero_add]
/-- one of them cleared -/
theorem run_clear_one (w : World) (T S ty : TypeId) (z : Value) (hS : Tryd.prog.underlying S = some (.slice T)) (hv : ∀ w, (zeroValue T).run Tryd.prog w = .ok z w) (h1 : ∀ u ∈ z.cells.toList, u.oneCell' = true) (g o c : Nat)
    (hc : ∀ j, j < z.cells.size → (w.cell? ⟨g, o + j, none⟩).isSome = true) (hf : ∀ j, j < z.cells.size → w.frozen? ⟨g, o + j, none⟩ = false) :
    (Builtin.clear_ #[S] ty #[.slice (some ⟨g, o, none⟩) 1 c]).run Tryd.prog w = .ok (.tuple #[]) (w.setCells g o z.cells.toList) := by
  have hzc : (Builtin.zeroCells z.cells 1).toList = z.cells.toList := by
    apply List.ext_getElem
    · simp [Builtin.zeroCells]
    · intro i h1 h2
      have h3 : i < z.cells.size := by simpa using h2
      simp [Builtin.zeroCells, Nat.mod_eq_of_lt h3, h3]
  have hst := run_storeCells_cells (P := Tryd.prog) g o z.cells.toList 0 w (by simpa using hc) (by simpa using hf) h1
  simp only [Nat.add_zero] at hst
  simp [Builtin.clear_, run_underlying hS, hv, hzc, hst]
/-- what is left -/
theorem OwnL.shifted {E : Enc α} {T : TypeId} {w : World} {B g m c : Nat} {u : α} {R : List α} (h : OwnL E T w B (.slice (some ⟨g, 0, none⟩) m c) (u :: R)) (vs : List Value) :
    OwnL E T ((w.setCells g 0 (flatE E R)).setCells g (R.length * E.n) vs) B (.slice (some ⟨g, 0, none⟩) R.length c) R := by
  obtain ⟨-, hb, hc, hm, cur, hg, hs, -⟩ := h.block_
  rw [List.length_cons] at hc
  have hR : R.length * E.n ≤ c * E.n := Nat.mul_le_mul_right _ (by omega)
  obtain ⟨c1, k1, k2, k3⟩ := heap_setCells g T (flatE E R) 0 w cur hg
  obtain ⟨c2, l1, l2, l3⟩ := heap_setCells g T vs (R.length * E.n) _ c1 k1
  refine OwnL.of_block hb (by omega) hm l1 (by rw [l2, k2, hs]) ?_
  apply List.ext_getElem?
  intro y
  by_cases hy : y < R.length * E.n
  · rw [List.getElem?_take_of_lt hy, Array.getElem?_toList, l3 y (by omega), if_neg (by omega), k3 y (by omega), if_pos ⟨Nat.zero_le _, by rw [flatE_length]; omega⟩, Nat.sub_zero]
  · rw [List.getElem?_eq_none (by rw [List.length_take]; omega), List.getElem?_eq_none (by rw [flatE_length]; omega)]
/-- the last place's cells -/
theorem OwnL.place {E : Enc α} {T : TypeId} {w : World} {B g m c : Nat} {u : α} {R : List α} (h : OwnL E T w B (.slice (some ⟨g, 0, none⟩) m c) (u :: R)) (j : Nat) (hj : j < E.n) :
    ((w.setCells g 0 (flatE E R)).cell? ⟨g, R.length * E.n + j, none⟩).isSome = true ∧ (w.setCells g 0 (flatE E R)).frozen? ⟨g, R.length * E.n + j, none⟩ = false := by
  obtain ⟨-, hb, hc, hm, cur, hg, hs, -⟩ := h.block_
  rw [List.length_cons] at hc
  have hR : (R.length + 1) * E.n ≤ c * E.n := Nat.mul_le_mul_right _ hc
  rw [Nat.add_mul, Nat.one_mul] at hR
  obtain ⟨c1, k1, k2, k3⟩ := heap_setCells g T (flatE E R) 0 w cur hg
  refine ⟨?_, ?_⟩
  · have : (w.setCells g 0 (flatE E R)).cell? ⟨g, R.length * E.n + j, none⟩ = c1[R.length * E.n + j]? := by
      unfold World.cell?
      simp [k1]
    rw [this, Array.getElem?_eq_getElem (by omega)]
    rfl
  · unfold World.frozen?
    simp [k1]
end
end Go.Proofs.YtmgfpnemamedoaaDoor
namespace Go.Proofs.YtmgfpnemamedoaaDoor
open Go.RowKit
set_option maxRecDepth 20000
section
variable {α : Type}
/-- a copy of things of any size -/
theorem run_copy_big {P : Program} (w : World) (S ty T : TypeId) (g o dLen dCap : Nat) (a : Addr) (sLen sCap z : Nat) (cs : List Value)
    (hu : P.underlying S = some (.slice T)) (hs : (P.info? T).map (·.size) = some z) (hm : Nat.min sLen dLen = sLen) (hn : cs.length = sLen * z)
    (hsrc : ∀ j v, cs[j]? = some v → w.cell? (a.add j) = some v) (hc : ∀ j, j < cs.length → (w.cell? ⟨g, o + j, none⟩).isSome = true) (hf : ∀ j, j < cs.length → w.frozen? ⟨g, o + j, none⟩ = false) (h1 : ∀ v ∈ cs, v.oneCell' = true) :
    (Builtin.copy_ #[S, S] ty #[.slice (some ⟨g, o, none⟩) dLen dCap, .slice (some a) sLen sCap]).run P w = .ok (goInt sLen) (w.setCells g o cs) := by
  have hl := run_loadCells_list (P := P) w a cs hsrc
  have hst := run_storeCells_cells (P := P) g o cs 0 w (by simpa using hc) (by simpa using hf) h1
  cases hq : P.info? T with
  | none => simp [hq] at hs
  | some i =>
    have hi : i.size = z := by simpa [hq] using hs
    simp [Builtin.copy_, run_underlying hu, Builtin.lenOf, Builtin.firstCells, sizeOf, typeInfo, hq, hi, hm, ← hn, hl, hst]
/-- the slices that it takes -/
theorem run_up (E : Enc α) (T S : TypeId) (hS : Tryd.prog.underlying S = some (.slice T)) (hel : Tryd.prog.elem S = T) (hsz : ∀ W : World, (sizeOf T).run Tryd.prog W = .ok E.n W) (g m c i : Nat) (hi : i + 1 ≤ c) (W : World) :
    (Instr.slice S (.slice (some ⟨g, 0, none⟩) m c) (some (.int .i64 1)) (some (.int .i64 ((i : Int) + 1))) none).run Tryd.prog W = .ok (.slice (some (if c = 1 then ⟨g, 0, none⟩ else ⟨g, E.n, none⟩)) i (c - 1)) W := by
  have e1 : (⟨g, 0, none⟩ : Addr).add E.n = ⟨g, E.n, none⟩ := by
    unfold Addr.add
    split <;> simp_all
  rw [run_slice_lh W S (some ⟨g, 0, none⟩) m c (by rw [hel]; exact hS) .i64 .i64 1 ((i : Int) + 1) (by omega) (by omega) (by omega), hel, hsz]
  have e2 : ((i : Int) + 1).toNat = i + 1 := by omega
  by_cases h : c = 1 <;> simp [Result.andThen, sliced, h, e1, e2]
theorem run_low (E : Enc α) (T S : TypeId) (hS : Tryd.prog.underlying S = some (.slice T)) (hel : Tryd.prog.elem S = T) (hsz : ∀ W : World, (sizeOf T).run Tryd.prog W = .ok E.n W) (g m c i : Nat) (hi : i ≤ c) (W : World) :
    (Instr.slice S (.slice (some ⟨g, 0, none⟩) m c) none (some (.int .i64 (i : Int))) none).run Tryd.prog W = .ok (.slice (some ⟨g, 0, none⟩) i c) W := by
  have e1 : (⟨g, 0, none⟩ : Addr).add 0 = ⟨g, 0, none⟩ := by
    unfold Addr.add
    split <;> simp_all
  rw [run_slice_h W S (some ⟨g, 0, none⟩) m c (by rw [hel]; exact hS) .i64 (i : Int) (by omega) (by omega), hel, hsz]
  simp [Result.andThen, sliced, e1]
/-- the copy -/
theorem run_copy_up (E : Enc α) (T S ty : TypeId) (hS : Tryd.prog.underlying S = some (.slice T)) (hs : (Tryd.prog.info? T).map (·.size) = some E.n) (w : World) (B g m c i : Nat) (L : List α) (h : OwnL E T w B (.slice (some ⟨g, 0, none⟩) m c) L) (hi : i < L.length) :
    (Builtin.copy_ #[S, S] ty #[.slice (some (if c = 1 then ⟨g, 0, none⟩ else ⟨g, E.n, none⟩)) i (c - 1), .slice (some ⟨g, 0, none⟩) i c]).run Tryd.prog w = .ok (.int .i64 (i : Int)) (w.setCells g E.n (flatE E (L.take i))) := by
  obtain ⟨-, -, hc, -, cur, hg, hsz, ht⟩ := h.block_
  have hR : (i + 1) * E.n ≤ c * E.n := Nat.mul_le_mul_right _ (by omega)
  rw [Nat.add_mul, Nat.one_mul] at hR
  have hfl : (flatE E (L.take i)).length = i * E.n := by rw [flatE_length, List.length_take, Nat.min_eq_left (by omega)]
  have hcell : ∀ x, w.cell? ⟨g, x, none⟩ = cur[x]? := fun x => by unfold World.cell?; simp [hg]
  have hsrc : ∀ j v, (flatE E (L.take i))[j]? = some v → w.cell? ((⟨g, 0, none⟩ : Addr).add j) = some v := fun j v hj => by
    have hjl := (List.getElem?_eq_some_iff.1 hj).1
    have e1 : (⟨g, 0, none⟩ : Addr).add j = ⟨g, j, none⟩ := by
      unfold Addr.add
      split <;> simp_all
    rw [flatE_prefix E (List.take_prefix i L) j (by rwa [flatE_length] at hjl)] at hj
    have hjL := (List.getElem?_eq_some_iff.1 hj).1
    rw [flatE_length] at hjL
    rw [e1, hcell, ← Array.getElem?_toList, ← List.getElem?_take_of_lt hjL, ht]
    exact hj
  have h1 : ∀ v ∈ flatE E (L.take i), v.oneCell' = true := fun v hv => by
    obtain ⟨a, _, ha⟩ := List.mem_flatMap.1 hv
    exact E.one a v ha
  by_cases h0 : c = 1
  · have hi0 : i = 0 := by omega
    subst hi0
    have hr := run_copy_big (P := Tryd.prog) w S ty T g 0 0 (c - 1) ⟨g, 0, none⟩ 0 c E.n [] hS hs (by rfl) (by simp) (fun j v hj => by simp at hj) (fun j hj => by simp at hj) (fun j hj => by simp at hj) (fun v hv => by simp at hv)
    rw [if_pos h0]
    exact hr
  · rw [if_neg h0]
    exact run_copy_big (P := Tryd.prog) w S ty T g E.n i (c - 1) ⟨g, 0, none⟩ i c E.n _ hS hs (Nat.min_self i) hfl hsrc (fun j hj => by
      rw [hfl] at hj
      rw [hcell, Array.getElem?_eq_getElem (by omega)]
      rfl) (fun j _ => by unfold World.frozen?; simp [hg]) h1
/-- what it leaves -/
theorem OwnL.moved {E : Enc α} {T : TypeId} {w : World} {B g m c i : Nat} {L : List α} (h : OwnL E T w B (.slice (some ⟨g, 0, none⟩) m c) L) (hi : i < L.length) (a : α) :
    OwnL E T ((w.setCells g E.n (flatE E (L.take i))).setCells g 0 (E.enc a)) B (.slice (some ⟨g, 0, none⟩) m c) (a :: L.eraseIdx i) := by
  obtain ⟨rfl, hb, hc, hmx, cur, hg, hs, ht⟩ := h.block_
  have hlen : (a :: L.eraseIdx i).length = L.length := by
    rw [List.length_cons, List.length_eraseIdx_of_lt hi]
    omega
  have hL : L.length * E.n ≤ c * E.n := Nat.mul_le_mul_right _ hc
  have hfl : (flatE E (L.take i)).length = i * E.n := by rw [flatE_length, List.length_take, Nat.min_eq_left (by omega)]
  obtain ⟨c1, k1, k2, k3⟩ := heap_setCells g T (flatE E (L.take i)) E.n w cur hg
  obtain ⟨c2, l1, l2, l3⟩ := heap_setCells g T (E.enc a) 0 _ c1 k1
  have hn := E.pos
  have hc2 : c2.toList.length = c * E.n := by rw [Array.length_toList, l2, k2, hs]
  have hfin : c2.toList.take ((a :: L.eraseIdx i).length * E.n) = flatE E (a :: L.eraseIdx i) := by
    refine flatE_ext E _ _ (by rw [List.length_take, hc2, hlen]; omega) fun k hk j hj => ?_
    rw [hlen] at hk
    have hkn : (k + 1) * E.n ≤ L.length * E.n := Nat.mul_le_mul_right _ hk
    rw [Nat.add_mul, Nat.one_mul] at hkn
    rw [hlen, List.getElem?_take_of_lt (by omega), Array.getElem?_toList, l3 _ (by omega)]
    cases k with
    | zero =>
      rw [if_pos (by rw [E.len]; omega)]
      simp
    | succ k =>
      rw [Nat.add_mul, Nat.one_mul] at hkn ⊢
      rw [if_neg (by rw [E.len]; omega), k3 _ (by omega), hfl]
      by_cases hki : k < i
      · have hki2 : (k + 1) * E.n ≤ i * E.n := Nat.mul_le_mul_right _ hki
        rw [Nat.add_mul, Nat.one_mul] at hki2
        rw [if_pos (by omega), show k * E.n + E.n + j - E.n = k * E.n + j by omega]
        have q := flatE_at E (L.take i) k (by rw [List.length_take]; omega) j hj
        rw [q]
        congr 2
        rw [List.getElem_take, List.getElem_cons_succ, List.getElem_eraseIdx_of_lt _ hki]
      · have hki2 : i * E.n ≤ k * E.n := Nat.mul_le_mul_right _ (by omega)
        rw [if_neg (by omega)]
        have q := flatE_at E L (k + 1) hk j hj
        rw [← ht, Nat.add_mul, Nat.one_mul, List.getElem?_take_of_lt (by omega), Array.getElem?_toList] at q
        rw [q]
        congr 2
        rw [List.getElem_cons_succ, List.getElem_eraseIdx_of_ge _ (by omega)]
  have hfin2 := OwnL.of_block (E := E) (L := a :: L.eraseIdx i) hb (by rw [hlen]; exact hc) hmx l1 (by rw [l2, k2, hs]) hfin
  rwa [hlen] at hfin2
end
end Go.Proofs.YtmgfpnemamedoaaDoor
