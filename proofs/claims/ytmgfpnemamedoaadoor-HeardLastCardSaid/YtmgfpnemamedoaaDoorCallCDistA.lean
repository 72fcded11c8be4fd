/-
The landed code's Distinct of calls: a set of calls that the call makes.
-/
import Derived.Test.YtmgfpnemamedoaaDoorCallDistP
import Derived.Maps.OwnSet
import Derived.MapViews
import Derived.DeepKeys4
namespace Go.Proofs.YtmgfpnemamedoaaDoor
open Go.RowKit Go.Sort Go.Maps Go.WideMaps
set_option maxRecDepth 100000
theorem rowCall : (27 : TypeId) < Tryd.prog.types.size := of_decide_eq_true (by kernel_rfl)
theorem deepCall : Tryd.prog.keyTypeAt (Tryd.prog.types.size + 1) 27 = true := by kernel_rfl
theorem wideCall : (match Tryd.prog.underlying 27 with | some (.array _ _) | some (.struct _) => true | _ => false) = true := by kernel_rfl
theorem keyedCall : Keyed Tryd.prog 27 := Keyed.of_law (deep_law_laid (show laidOutB Tryd.prog = true from by kernel_rfl) (m := 3) (by omega) rowCall (by kernel_rfl) wideCall)
theorem formedCall (b : ByteArray) (n : Int) : (Value.agg #[.string b, .int .i64 n]).formed Tryd.prog 27 = true := by
  simp [Value.formed, Tryd.underlying27, (show Tryd.prog.cellsOf 27 = 2 from by kernel_rfl)]
/-- what a call reads as, as a key -/
def keyD (c : ByteArray × Int) : Lit := (DataW.agg (H := Unit) [.lit (.string c.1.data.toList), .lit (.int .i64 c.2)]).asKey
theorem key_call (c : ByteArray × Int) (h : rightD c.1 c.2 = true) : keyOf Tryd.prog 27 (.agg #[.string c.1, .int .i64 c.2]) = some (keyD c) := by
  obtain ⟨_, h2, h3, h4, _⟩ := right_facts _ _ h
  have hs : c.1.size ≤ maxLen := by unfold maxLen; omega
  have hw : (Lit.int .i64 c.2).wf = true := WalkArith.wf_i64 (by omega)
  have t := Joins.shut_agg2 (H := Unit) (enc := fun _ => ()) (w := World.memory (World.settled Tryd.prog default)) (base := 0) (spare := fun _ => true) (held := true) Tryd.underlying27 (by kernel_rfl) (show Tryd.prog.cellsOf 27 = 2 from by kernel_rfl) (v0 := .string c.1) (v1 := .int .i64 c.2) (y0 := (.lit (.string c.1.data.toList), [])) (y1 := (.lit (.int .i64 c.2), []))
    ⟨1, by simp [DataW.trod, Tryd.underlying9, hs]⟩ ⟨1, by simp [DataW.trod, Tryd.underlying3, hw]⟩
  exact (keyOf_asKey deepCall wideCall (formedCall _ _) t).1
theorem key_inj (c d : ByteArray × Int) (hc : rightD c.1 c.2 = true) (hd : rightD d.1 d.2 = true) (h : keyD c = keyD d) : c = d := by
  have k := keyedCall.inj (key_call c hc) (h ▸ key_call d hd)
  simp only [Value.agg.injEq, Array.mk.injEq, List.cons.injEq, Value.string.injEq, Value.int.injEq, and_true, true_and] at k
  exact Prod.ext k.1 k.2
theorem key_lit (c : ByteArray × Int) (h : rightD c.1 c.2 = true) : WideAt.IsKeyLit (keyD c) := keyedCall.key (key_call c h)
theorem any_eq_in {α : Type} {p q : α → Bool} : ∀ {l : List α}, (∀ x ∈ l, p x = q x) → l.any p = l.any q
  | [], _ => rfl
  | x :: l, h => by rw [List.any_cons, List.any_cons, h x List.mem_cons_self, any_eq_in fun y hy => h y (List.mem_cons_of_mem _ hy)]
/-- the set of the first k -/
def seenD (C : List (ByteArray × Int)) (k : Nat) : DataW Unit := setOf (.agg []) ((C.take k).map keyD)
theorem seen_next (C : List (ByteArray × Int)) (k : Nat) (h : k < C.length) : seenD C (k + 1) = (seenD C k).put (keyD C[k]) (.agg []) := by
  unfold seenD
  rw [List.take_succ_eq_append_getElem h, List.map_append, List.map_singleton, setOf_snoc]
theorem key_lits (C : List (ByteArray × Int)) (h : ∀ c ∈ C, rightD c.1 c.2 = true) : ∀ x ∈ C.map keyD, WideAt.IsKeyLit x := fun x hx => by
  obtain ⟨c, hc, rfl⟩ := List.mem_map.1 hx
  exact key_lit c (h c hc)
theorem seen_has (C : List (ByteArray × Int)) (c : ByteArray × Int) (k : Nat) (h : ∀ d ∈ C.take k, rightD d.1 d.2 = true) (hc : rightD c.1 c.2 = true) : Maps.has (seenD C k) (keyD c) = !apartD C c k := by
  unfold seenD apartD
  rw [has_setOf _ _ _ (key_lits _ h), List.any_map, List.not_all_eq_any_not]
  apply any_eq_in
  intro d hd
  show (keyD d).sameKey (keyD c) = !decide (c ≠ d)
  by_cases e : c = d
  · subst e
    rw [WideAt.sameKey_self (key_lit c hc)]
    simp
  · have hne : keyD d ≠ keyD c := fun q => e (key_inj d c (h d hd) hc q).symm
    rw [Maps.sameKey_ne hne]
    simp [e]
theorem seen_size (C : List (ByteArray × Int)) (k : Nat) (hk : k ≤ C.length) (h : ∀ d ∈ C.take k, rightD d.1 d.2 = true) : Maps.size (seenD C k) ≤ k ∧ (Maps.size (seenD C k) = k ↔ wantD C k = true) := by
  induction k with
  | zero => exact ⟨Nat.le_refl _, by simp [wantD, seenD, setOf, size_eq]⟩
  | succ k ih =>
    have hlt : k < C.length := by omega
    have hsub : ∀ d ∈ C.take k, rightD d.1 d.2 = true := fun d hd => h d (by rw [List.take_succ_eq_append_getElem hlt]; exact List.mem_append_left _ hd)
    have hc : rightD C[k].1 C[k].2 = true := h C[k] (by rw [List.take_succ_eq_append_getElem hlt]; exact List.mem_append_right _ (List.mem_singleton.2 rfl))
    obtain ⟨i1, i2⟩ := ih (by omega) hsub
    have ht : Tidy (seenD C k) := tidy_setOf _ _ (key_lits _ hsub)
    rw [seen_next C k hlt, size_put ht, seen_has C C[k] k hsub hc, wantD_next C k hlt, hc]
    cases ha : apartD C C[k] k
    · simp
      omega
    · simp
      constructor
      · omega
      · rw [← i2]
/-- what lies in memory behind k rounds -/
def SeenAt (w W : World) (lb off : Nat) (C : List (ByteArray × Int)) (k : Nat) : Prop := W.ownsMap Tryd.prog 27 (unitElem (H := Unit)) w.heap.size k (seenD C k) ∧ SAt W lb off C ∧ Below w.heap.size w W ∧ (∀ d ∈ C.take k, rightD d.1 d.2 = true) ∧ w.heap.size < W.heap.size
theorem SeenAt.below {w W W' : World} {lb off : Nat} {C : List (ByteArray × Int)} {k : Nat} (h : SeenAt w W lb off C k) (hlb : lb < w.heap.size) (hb : Below W.heap.size W W') : SeenAt w W' lb off C k := by
  obtain ⟨⟨es, cl, h1, h2⟩, hs, hw, ha, hz⟩ := h
  exact ⟨⟨es, cl, (hb.block _ hz).trans h1, h2⟩, hs.below (Nat.lt_of_lt_of_le hlb hw.size) hb, hw.trans (hb.mono hw.size), ha, Nat.lt_of_lt_of_le hz hb.size⟩
theorem SeenAt.next {w W W' : World} {lb off : Nat} {C : List (ByteArray × Int)} {k : Nat} (h : SeenAt w W lb off C k) (hlb : lb < w.heap.size) (hk : k < C.length) (hr : rightD C[k].1 C[k].2 = true)
    (ho : W'.ownsMap Tryd.prog 27 (unitElem (H := Unit)) w.heap.size (k + 1) ((seenD C k).put (keyD C[k]) (.agg []))) (hg : W.grownBy W' (some w.heap.size)) : SeenAt w W' lb off C (k + 1) := by
  obtain ⟨_, hs, hw, ha, hz⟩ := h
  have hl2 : lb < W.heap.size := Nat.lt_of_lt_of_le hlb hw.size
  have q : ∀ i, W'.cell? ⟨lb, i, none⟩ = W.cell? ⟨lb, i, none⟩ := fun i => by
    unfold World.cell?
    rw [hg.block lb hl2 (fun e => by have := Option.some.inj e; omega)]
  refine ⟨by rw [seen_next C k hk]; exact ho, fun j hj => ⟨(q _).trans (hs j hj).1, (q _).trans (hs j hj).2⟩, hw.grown hg hw.size (fun j hj => by cases hj; exact Nat.le_refl _), fun d hd => ?_, Nat.lt_of_lt_of_le hz hg.size⟩
  rw [List.take_succ_eq_append_getElem hk] at hd
  rcases List.mem_append.1 hd with hd | hd
  · exact ha d hd
  · rw [List.mem_singleton.1 hd]; exact hr
theorem want_false (C : List (ByteArray × Int)) (j : Nat) (h : wantD C j = false) : ∀ m, wantD C (j + m) = false
  | 0 => h
  | m + 1 => by
    show (wantD C (j + m) && _) = false
    rw [want_false C j h m]
    rfl
end Go.Proofs.YtmgfpnemamedoaaDoor
