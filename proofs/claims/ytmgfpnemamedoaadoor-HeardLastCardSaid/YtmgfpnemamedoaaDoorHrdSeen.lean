/-
A map from calls to whether they were seen.
-/
import Derived.Test.YtmgfpnemamedoaaDoorMix01
import Derived.Test.YtmgfpnemamedoaaDoorCallCDistA
import Derived.Maps.OwnSet
namespace Go.Proofs.YtmgfpnemamedoaaDoor
open Go.RowKit Go.Sort Go.Maps
set_option maxRecDepth 20000
theorem bool_inv {v : Value} {z : DataW Unit × List MemPlace} (h : (plainElem (H := Unit) Tryd.prog 4) v = some z) : ∃ b, v = .bool b ∧ z = (.lit (.bool b), []) := by
  unfold plainElem at h
  rw [Tryd.underlying4] at h
  cases v <;> simp at h
  exact ⟨_, rfl, h.symm⟩
theorem own_tight23 {w : World} {P : Program} {k : TypeId} {R : Value → Option (DataW Unit × List MemPlace)} {b n : Nat} {D : DataW Unit} (h : w.ownsMap P k R b n D) : w.ownsMap P k R b (Maps.size D) D := by
  obtain ⟨es, clock, hb, F, -, rfl⟩ := h
  refine ⟨es, clock, hb, F, ?_, rfl⟩
  rw [Maps.size_eq, length_sorted]
  simp
def SeAt (w : World) (m : Nat) (A : List (ByteArray × Int)) : Prop := ∃ D, w.ownsMap Tryd.prog 27 (plainElem (H := Unit) Tryd.prog 4) m A.length D ∧ (∀ c, rightD c.1 c.2 = true → Maps.has D (keyD c) = inL c A ∧ D.atKey (keyD c) (.lit (.bool false)) = .lit (.bool (inL c A))) ∧ Maps.size D = A.length
section
variable {w w' : World} {m : Nat} {A : List (ByteArray × Int)}
theorem SeAt.made (w : World) : SeAt (w.alloc (.map #[] 0)) w.heap.size [] :=
  ⟨.map [], World.ownsMap_made _ _ _ _, fun _ _ => ⟨rfl, rfl⟩, rfl⟩
theorem SeAt.same (h : SeAt w m A) (e : w'.heap[m]? = w.heap[m]?) : SeAt w' m A := by
  obtain ⟨D, ⟨es, clock, hb, r⟩, h2⟩ := h
  exact ⟨D, ⟨es, clock, e.trans hb, r⟩, h2⟩
theorem SeAt.lt (h : SeAt w m A) : m < w.heap.size := by
  obtain ⟨D, ⟨es, clock, hb, r⟩, h2⟩ := h
  exact (Array.getElem?_eq_some_iff.1 hb).1
theorem SeAt.below (h : SeAt w m A) (hb : Below w.heap.size w w') : SeAt w' m A := h.same (hb.block m h.lt)
theorem zero_bool (W : World) : (zeroValue 4).run Tryd.prog W = .ok (.bool false) W := by kernel_rfl
theorem SeAt.look (h : SeAt w m A) (c : ByteArray × Int) (hc : rightD c.1 c.2 = true) : (Instr.lookup 45 (.map (some m)) (.agg #[.string c.1, .int .i64 c.2]) false).run Tryd.prog w = .ok (.bool (inL c A)) w := by
  obtain ⟨D, h1, h2, -⟩ := h
  obtain ⟨v, ps, hr, hv⟩ := h1.lookup keyedCall Tryd.underlying45 (zero_bool w) (plainElem_bool Tryd.underlying4 false) (key_call c hc)
  rw [(h2 c hc).2] at hv
  obtain ⟨b, rfl, hz⟩ := bool_inv hv
  cases hz
  exact hr
theorem SeAt.len (h : SeAt w m A) (ty : TypeId) : (Builtin.len_ #[45] ty #[.map (some m)]).run Tryd.prog w = .ok (.int .i64 (A.length : Nat)) w := by
  obtain ⟨D, h1, -, h3⟩ := h
  have k := h1.len Tryd.underlying45 ty
  rw [h3] at k
  exact k
theorem inL_snoc (d c : ByteArray × Int) (A : List (ByteArray × Int)) : inL d (A ++ [c]) = (inL d A || decide (c = d)) := by unfold inL; rw [List.any_append]; simp
theorem SeAt.put (h : SeAt w m A) (c : ByteArray × Int) (hc : rightD c.1 c.2 = true) (hn : inL c A = false) (hA : A.length ≤ 1000) : ∃ w', (Instr.mapUpdate 45 (.map (some m)) (.agg #[.string c.1, .int .i64 c.2]) (.bool true)).run Tryd.prog w = .ok () w' ∧ SeAt w' m (A ++ [c]) ∧ w.mapTurned w' m := by
  obtain ⟨D, h1, h2, h3⟩ := h
  obtain ⟨w', r1, r2, r3⟩ := h1.store keyedCall Tryd.underlying45 (by unfold maxLen; omega) (key_call c hc) (plainElem_bool Tryd.underlying4 true)
  have hsz : Maps.size (D.put (keyD c) (.lit (.bool true))) = (A ++ [c]).length := by
    rw [Maps.size_put (h1.tidy keyedCall), (h2 c hc).1, hn, h3]
    simp
  refine ⟨w', r1, ⟨_, by have k := own_tight23 r2; rwa [hsz] at k, fun d hd => ?_, hsz⟩, r3⟩
  rw [inL_snoc]
  by_cases e : c = d
  · subst e
    rw [Maps.has_put_same h1.isMap (key_lit c hc), Maps.atKey_put_same h1.isMap (key_lit c hc), decide_eq_true rfl, Bool.or_true]
    exact ⟨rfl, rfl⟩
  · have hk : keyD d ≠ keyD c := fun q => e (key_inj d c hd hc q).symm
    rw [Maps.has_put_other hk, Maps.atKey_put_other hk, decide_eq_false e, Bool.or_false]
    exact h2 d hd
end
end Go.Proofs.YtmgfpnemamedoaaDoor
