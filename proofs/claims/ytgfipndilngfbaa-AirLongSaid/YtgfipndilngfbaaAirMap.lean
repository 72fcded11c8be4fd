/-
The air's map of who is on: from a station's number to a block; and the map of what is said ahead, as long as nothing is.
-/
import Derived.Test.YtgfipndilngfbaaPlcMem
namespace Go.Proofs.Ytgfipndilngfbaa
open Go.RowKit Go.Maps Go.WideMaps
set_option maxRecDepth 20000
/-- how a pointer to a whole block reads: by the block's number -/
def ptrElem (v : Value) : Option (DataW Unit × List MemPlace) :=
  match v with
  | .pointer none => some (.lit (.int .i64 (-1)), [])
  | .pointer (some ⟨b, 0, none⟩) => some (.lit (.int .i64 b), [])
  | _ => none
abbrev ptrO (x : Option Nat) : Value := .pointer (x.map fun b => (⟨b, 0, none⟩ : Addr))
def numO (x : Option Nat) : DataW Unit := .lit (.int .i64 (match x with | none => -1 | some b => (b : Int)))
theorem ptrElem_mk (x : Option Nat) : ptrElem (ptrO x) = some (numO x, []) := by cases x <;> rfl
theorem numO_inj {x y : Option Nat} (h : numO x = numO y) : x = y := by
  cases x <;> cases y <;> simp only [numO, DataW.lit.injEq, Lit.int.injEq] at h
  · rfl
  · omega
  · omega
  · congr 1; omega
theorem ptrElem_inv {v : Value} {x : Option Nat} {ps : List MemPlace} (h : ptrElem v = some (numO x, ps)) : v = ptrO x := by
  unfold ptrElem at h
  split at h
  · simp only [Option.some.injEq, Prod.mk.injEq] at h
    rw [← numO_inj (x := none) h.1]
    rfl
  · rename_i b
    simp only [Option.some.injEq, Prod.mk.injEq] at h
    rw [← numO_inj (x := some b) h.1]
    rfl
  · cases h
theorem keyedInt : Keyed Try.prog 3 := int_keyed Try.underlying3
theorem key_nat (i : Nat) (h : i ≤ 1000) : keyOf Try.prog 3 (.int .i64 i) = some (.int .i64 i) := keyOf_int_mk Try.underlying3 (WalkArith.wf_i64 (by omega))
/-- so many are there -/
def cntM (M : Nat → Option Nat) : Nat := (List.range 1001).countP fun i => (M i).isSome
theorem count_up {f g : Nat → Bool} {i : Nat} (h : ∀ k, k ≠ i → g k = f k) : ∀ N, (List.range N).countP g + (if i < N ∧ f i = true then 1 else 0) = (List.range N).countP f + (if i < N ∧ g i = true then 1 else 0)
  | 0 => by simp
  | N + 1 => by
    have ih := count_up h N
    rw [List.range_succ, List.countP_append, List.countP_append, List.countP_cons, List.countP_cons, List.countP_nil, List.countP_nil]
    by_cases e : N = i
    · subst e
      simp only [Nat.lt_irrefl, false_and, if_false] at ih
      simp only [Nat.lt_succ_self, true_and]
      omega
    · rw [h N e]
      have : (i < N + 1) = (i < N) := by rw [eq_iff_iff]; omega
      simp only [this]
      omega
/-- a map of who is on -/
def OnM (w : World) (m : Nat) (M : Nat → Option Nat) : Prop :=
  ∃ D : DataW Unit, w.ownsMap Try.prog 3 ptrElem m (Maps.size D) D ∧ (∀ i : Nat, i ≤ 1000 → D.atKey (.int .i64 i) (numO none) = numO (M i) ∧ Maps.has D (.int .i64 i) = (M i).isSome) ∧ Maps.size D = cntM M
theorem ownP_tight {w : World} {P : Program} {k : TypeId} {R : Value → Option (DataW Unit × List MemPlace)} {b n : Nat} {D : DataW Unit} (h : w.ownsMap P k R b n D) : w.ownsMap P k R b (Maps.size D) D := by
  obtain ⟨es, clock, hb, F, -, rfl⟩ := h
  refine ⟨es, clock, hb, F, ?_, rfl⟩
  rw [Maps.size_eq, length_sorted]
  simp
theorem OnM.lt {w : World} {m : Nat} {M : Nat → Option Nat} (h : OnM w m M) : m < w.heap.size := by
  obtain ⟨D, h1, -⟩ := h
  exact h1.lt
theorem OnM.same {w w' : World} {m : Nat} {M : Nat → Option Nat} (h : OnM w m M) (e : w'.heap[m]? = w.heap[m]?) : OnM w' m M := by
  obtain ⟨D, h1, h2⟩ := h
  exact ⟨D, own_same14 h1 e, h2⟩
theorem OnM.below {w w' : World} {m : Nat} {M : Nat → Option Nat} (h : OnM w m M) (hb : Below w.heap.size w w') : OnM w' m M := h.same (hb.block m h.lt)
theorem OnM.congr {w : World} {m : Nat} {M M' : Nat → Option Nat} (h : OnM w m M) (e : M' = M) : OnM w m M' := e ▸ h
theorem zeroPtr (w : World) : (zeroValue 60).run Try.prog w = .ok (.pointer none) w := by kernel_rfl
theorem OnM.look {w : World} {m : Nat} {M : Nat → Option Nat} (h : OnM w m M) (i : Nat) (hi : i ≤ 1000) : (Instr.lookup 65 (.map (some m)) (.int .i64 i) true).run Try.prog w = .ok (.tuple #[ptrO (M i), .bool (M i).isSome]) w := by
  obtain ⟨D, h1, h2, -⟩ := h
  obtain ⟨v, ps, hr, hv⟩ := h1.look_ok keyedInt Try.underlying65 (zeroPtr w) (ptrElem_mk none) (key_nat i hi)
  obtain ⟨e1, e2⟩ := h2 i hi
  rw [e1] at hv
  rw [e2] at hr
  rw [hr, ptrElem_inv hv]
theorem OnM.look1 {w : World} {m : Nat} {M : Nat → Option Nat} (h : OnM w m M) (i : Nat) (hi : i ≤ 1000) : (Instr.lookup 65 (.map (some m)) (.int .i64 i) false).run Try.prog w = .ok (ptrO (M i)) w := by
  obtain ⟨D, h1, h2, -⟩ := h
  obtain ⟨v, ps, hr, hv⟩ := h1.lookup keyedInt Try.underlying65 (zeroPtr w) (ptrElem_mk none) (key_nat i hi)
  rw [(h2 i hi).1] at hv
  rw [hr, ptrElem_inv hv]
theorem lit_ne15 {i k : Nat} (h : k ≠ i) : (Lit.int .i64 (k : Int)) ≠ Lit.int .i64 (i : Int) := fun e => by
  simp only [Lit.int.injEq] at e
  omega
theorem cntM_le (M : Nat → Option Nat) : cntM M ≤ 1001 := by
  have := List.countP_le_length (p := fun i => (M i).isSome) (l := List.range 1001)
  rw [List.length_range] at this
  exact this
theorem cnt_put (M : Nat → Option Nat) (i : Nat) (hi : i ≤ 1000) (b : Nat) : cntM (fun k => if k = i then some b else M k) + (if (M i).isSome = true then 1 else 0) = cntM M + 1 := by
  have h := count_up (f := fun k => (M k).isSome) (g := fun k => (if k = i then some b else M k).isSome) (i := i) (fun k hk => by simp only [if_neg hk]) 1001
  have hi' : i < 1001 := by omega
  simp only [hi', true_and, if_true, Option.isSome_some] at h
  exact h
theorem cnt_del (M : Nat → Option Nat) (i : Nat) (hi : i ≤ 1000) : cntM (fun k => if k = i then none else M k) + (if (M i).isSome = true then 1 else 0) = cntM M := by
  have h := count_up (f := fun k => (M k).isSome) (g := fun k => (if k = i then none else M k).isSome) (i := i) (fun k hk => by simp only [if_neg hk]) 1001
  have hi' : i < 1001 := by omega
  simp only [hi', true_and, if_true, Option.isSome_none, Bool.false_eq_true, if_false, Nat.add_zero] at h
  exact h
theorem OnM.put {w : World} {m : Nat} {M : Nat → Option Nat} (h : OnM w m M) (i : Nat) (hi : i ≤ 1000) (b : Nat) : ∃ w', (Instr.mapUpdate 65 (.map (some m)) (.int .i64 i) (.pointer (some ⟨b, 0, none⟩))).run Try.prog w = .ok () w' ∧ OnM w' m (fun k => if k = i then some b else M k) ∧ w.mapTurned w' m := by
  obtain ⟨D, h1, h2, h3⟩ := h
  obtain ⟨w', r1, r2, r3⟩ := h1.store keyedInt Try.underlying65 (by rw [h3]; have := cntM_le M; unfold maxLen; omega) (key_nat i hi) (ptrElem_mk (some b))
  refine ⟨w', r1, ⟨_, ownP_tight r2, fun k hk => ?_, ?_⟩, r3⟩
  · dsimp only
    by_cases e : k = i
    · subst e
      rw [if_pos rfl, Maps.atKey_put_same h1.isMap (by trivial), Maps.has_put_same h1.isMap (by trivial)]
      exact ⟨rfl, rfl⟩
    · rw [if_neg e, Maps.atKey_put_other (lit_ne15 e), Maps.has_put_other (lit_ne15 e)]
      exact h2 k hk
  · rw [Maps.size_put (h1.tidy keyedInt), (h2 i hi).2, h3]
    have := cnt_put M i hi b
    cases hM : (M i).isSome <;> rw [hM] at this <;> simp at this ⊢ <;> omega
theorem OnM.del {w : World} {m : Nat} {M : Nat → Option Nat} (h : OnM w m M) (i : Nat) (hi : i ≤ 1000) (ty : TypeId) : ∃ w', (Builtin.delete_ #[65, 3] ty #[.map (some m), .int .i64 i]).run Try.prog w = .ok (.tuple #[]) w' ∧ OnM w' m (fun k => if k = i then none else M k) ∧ w.mapTurned w' m := by
  obtain ⟨D, h1, h2, h3⟩ := h
  obtain ⟨w', r1, r2, r3⟩ := h1.drop keyedInt Try.underlying65 (key_nat i hi) ty
  refine ⟨w', r1, ⟨_, ownP_tight r2, fun k hk => ?_, ?_⟩, r3⟩
  · dsimp only
    by_cases e : k = i
    · subst e
      rw [if_pos rfl, Maps.atKey_del_same, Maps.has_del_same]
      exact ⟨rfl, rfl⟩
    · rw [if_neg e, Maps.atKey_del_other (lit_ne15 e), Maps.has_del_other (lit_ne15 e)]
      exact h2 k hk
  · have hs := Maps.size_del (k := .int .i64 i) (h1.tidy keyedInt)
    rw [(h2 i hi).2, h3] at hs
    have := cnt_del M i hi
    omega
theorem OnM.len {w : World} {m : Nat} {M : Nat → Option Nat} (h : OnM w m M) (ty : TypeId) : (Builtin.len_ #[65] ty #[.map (some m)]).run Try.prog w = .ok (.int .i64 (cntM M)) w := by
  obtain ⟨D, h1, -, h3⟩ := h
  rw [h1.len Try.underlying65, h3]
theorem OnM.made (w : World) : OnM (w.alloc (.map #[] 0)) w.heap.size (fun _ => none) := by
  refine ⟨.map [], World.ownsMap_made w Try.prog 3 ptrElem, fun i _ => ⟨rfl, rfl⟩, ?_⟩
  unfold cntM
  rw [show Maps.size (DataW.map (H := Unit) []) = 0 from rfl]
  symm
  rw [List.countP_eq_zero]
  simp
/-- nothing is said ahead -/
abbrev wayT : TypeId := 93
theorem rowWay15 : (93 : TypeId) < Try.prog.types.size := of_decide_eq_true (by kernel_rfl)
theorem deepWay15 : Try.prog.keyTypeAt (Try.prog.types.size + 1) 93 = true := by kernel_rfl
theorem wideWay15 : (match Try.prog.underlying 93 with | some (.array _ _) | some (.struct _) => true | _ => false) = true := by kernel_rfl
theorem keyedWay15 : Keyed Try.prog 93 := Keyed.of_law (deep_law_laid laidOut14 (m := 3) (by omega) rowWay15 (by kernel_rfl) wideWay15)
theorem cellsWay15 : Try.prog.cellsOf 93 = 2 := by kernel_rfl
theorem formedWay15 (a b : Int) : (Value.agg #[.int .i64 a, .int .i64 b]).formed Try.prog 93 = true := by
  simp [Value.formed, Try.underlying93, cellsWay15]
theorem key_way15 (a b : Int) (ha : (Lit.int .i64 a).wf = true) (hb : (Lit.int .i64 b).wf = true) : keyOf Try.prog 93 (.agg #[.int .i64 a, .int .i64 b]) = some (keyWay a b) := by
  have t := Joins.shut_agg2 (H := Unit) (enc := fun _ => ()) (w := World.memory (World.settled Try.prog default)) (base := 0) (spare := fun _ => true) (held := true) Try.underlying93 (by kernel_rfl) cellsWay15 (v0 := .int .i64 a) (v1 := .int .i64 b) (y0 := (.lit (.int .i64 a), [])) (y1 := (.lit (.int .i64 b), []))
    ⟨1, by simp [DataW.trod, Try.underlying3, ha]⟩ ⟨1, by simp [DataW.trod, Try.underlying3, hb]⟩
  exact (keyOf_asKey deepWay15 wideWay15 (formedWay15 _ _) t).1
def sliceElem (v : Value) : Option (DataW Unit × List MemPlace) :=
  match v with
  | .slice none 0 0 => some (.nil, [])
  | _ => none
theorem sliceElem_inv {v : Value} {z : DataW Unit × List MemPlace} (h : sliceElem v = some z) : v = .slice none 0 0 := by
  unfold sliceElem at h
  split at h
  · rfl
  · cases h
def NoneM (w : World) (m : Nat) : Prop := w.ownsMap Try.prog 93 sliceElem m 0 (.map [])
theorem NoneM.lt {w : World} {m : Nat} (h : NoneM w m) : m < w.heap.size := World.ownsMap.lt h
theorem NoneM.same {w w' : World} {m : Nat} (h : NoneM w m) (e : w'.heap[m]? = w.heap[m]?) : NoneM w' m := own_same14 h e
theorem NoneM.below {w w' : World} {m : Nat} (h : NoneM w m) (hb : Below w.heap.size w w') : NoneM w' m := h.same (hb.block m h.lt)
theorem NoneM.made (w : World) : NoneM (w.alloc (.map #[] 0)) w.heap.size := World.ownsMap_made w Try.prog 93 sliceElem
theorem zeroFates (w : World) : (zeroValue 104).run Try.prog w = .ok (.slice none 0 0) w := by kernel_rfl
theorem NoneM.look {w : World} {m : Nat} (h : NoneM w m) (a b : Int) (ha : (Lit.int .i64 a).wf = true) (hb : (Lit.int .i64 b).wf = true) : (Instr.lookup 66 (.map (some m)) (.agg #[.int .i64 a, .int .i64 b]) false).run Try.prog w = .ok (.slice none 0 0) w := by
  obtain ⟨v, ps, hr, hv⟩ := World.ownsMap.lookup h keyedWay15 Try.underlying66 (zeroFates w) (show sliceElem (.slice none 0 0) = some (.nil, []) from rfl) (key_way15 a b ha hb)
  rw [hr, sliceElem_inv hv]
end Go.Proofs.Ytgfipndilngfbaa
