/-
A law for a region that draws its order: one fact for each operation, said of what it yields and of memory, that stays behind every other one; each operation is run once, whatever came up ahead of it.
-/
import Derived.Test.YtchjljmcgjlkiaaRow
import Derived.Deep.RegionHeld
namespace Go.Proofs.Ytchjljmcgjlkiaa
open Go.RowKit
section
variable {P : Program} {md : Region.Mode} {ops : Array Oper} {Q : Exit → Act → World → Prop}
/-- the numbers that an operation waits for -/
def waits (md : Region.Mode) (o : Oper) : List Nat := (o.after.toList.filter (Region.binds md)).map (·.on)
/-- they all stand ahead of it -/
def waitsOk (md : Region.Mode) : Nat → List Oper → Bool
  | _, [] => true
  | i, o :: l => (waits md o).all (fun j => decide (j < i)) && waitsOk md (i + 1) l
/-- one yield more -/
def upd (u : Nat → Value) (i : Nat) (v : Value) (k : Nat) : Value := if k = i then v else u k
/-- one operation is run, whatever came up ahead of it -/
def FStep (P : Program) (md : Region.Mode) (ops : Array Oper) (Q : Exit → Act → World → Prop) (F : (Nat → Value) → Act) (R : World → World → Prop) (S : World → Prop) (φ : Nat → Value → World → Prop) (i : Nat) (o : Oper) : Prop :=
  ∀ (u : Nat → Value) (w : World), S w → (∀ j, (waits md o).contains j = true → φ j (u j) w) →
    ∀ K : Act → World → Prop, Shut (∀ v w', R w w' → φ i v w' → K (F (upd u i v)) w') →
      if Region.wanted o (yielded ops (F u).tmps) = true then Oper.wp P o (F u) w K Q else K ((F u).put o.dst undef) w
def FSteps (P : Program) (md : Region.Mode) (ops : Array Oper) (Q : Exit → Act → World → Prop) (F : (Nat → Value) → Act) (R : World → World → Prop) (S : World → Prop) (φ : Nat → Value → World → Prop) : Nat → List Oper → Prop
  | _, [] => True
  | i, o :: l => FStep P md ops Q F R S φ i o ∧ FSteps P md ops Q F R S φ (i + 1) l
theorem FSteps.cons {F : (Nat → Value) → Act} {R : World → World → Prop} {S : World → Prop} {φ : Nat → Value → World → Prop} {i : Nat} {o : Oper} {l : List Oper} (h : FStep P md ops Q F R S φ i o) (hs : FSteps P md ops Q F R S φ (i + 1) l) : FSteps P md ops Q F R S φ i (o :: l) := ⟨h, hs⟩
theorem FSteps.get {F : (Nat → Value) → Act} {R : World → World → Prop} {S : World → Prop} {φ : Nat → Value → World → Prop} : ∀ (l : List Oper) (i : Nat), FSteps P md ops Q F R S φ i l → ∀ k o, l[k]? = some o → FStep P md ops Q F R S φ (i + k) o
  | [], _, _, k, o, h => by simp at h
  | x :: l, i, h, 0, o, e => by
    simp only [List.getElem?_cons_zero, Option.some.injEq] at e
    subst e
    exact h.1
  | x :: l, i, h, k + 1, o, e => by
    have := FSteps.get l (i + 1) h.2 k o (by simpa using e)
    rwa [show i + (k + 1) = i + 1 + k by omega]
theorem waitsOk_get : ∀ (l : List Oper) (i : Nat), waitsOk md i l = true → ∀ k o, l[k]? = some o → ∀ j ∈ waits md o, j < i + k
  | [], _, _, k, o, h => by simp at h
  | x :: l, i, h, 0, o, e => by
    simp only [List.getElem?_cons_zero, Option.some.injEq] at e
    subst e
    have h1 : ((waits md x).all (fun j => decide (j < i)) && waitsOk md (i + 1) l) = true := h
    rw [Bool.and_eq_true] at h1
    intro j hj
    have := List.all_eq_true.1 h1.1 j hj
    simpa using this
  | x :: l, i, h, k + 1, o, e => by
    have h1 : ((waits md x).all (fun j => decide (j < i)) && waitsOk md (i + 1) l) = true := h
    rw [Bool.and_eq_true] at h1
    intro j hj
    have := waitsOk_get l (i + 1) h1.2 k o (by simpa using e) j hj
    omega
theorem count_set : ∀ (l : List Bool) (i : Nat), l[i]? = some false → (l.set i true).count false + 1 = l.count false
  | [], i, h => by simp at h
  | b :: l, 0, h => by
    simp only [List.getElem?_cons_zero, Option.some.injEq] at h
    subst h
    simp
  | b :: l, i + 1, h => by
    have := count_set l i (by simpa using h)
    simp only [List.set_cons_succ, List.count_cons]
    omega
theorem facts_sound (F : (Nat → Value) → Act) (R : World → World → Prop) (S : World → Prop) (φ : Nat → Value → World → Prop)
    (hw : waitsOk md 0 ops.toList = true) (hφ : ∀ j v w w', R w w' → φ j v w → φ j v w') (hS : ∀ w w', R w w' → S w → S w')
    (hstep : FSteps P md ops Q F R S φ 0 ops.toList) (hend : ∀ u w, S w → (∀ j, Nat.blt j ops.size = true → φ j (u j) w) → Q .normal (F u) w) :
    ∀ (fuel : Nat) (listed : Array Bool) (u : Nat → Value) (w : World), listed.size = ops.size → listed.toList.count false ≤ fuel → S w → (∀ j, listed.getD j false = true → φ j (u j) w) → wpAny P md ops Q fuel listed (F u) w := by
  intro fuel
  have fin : ∀ (listed : Array Bool) (u : Nat → Value) (w : World), listed.size = ops.size → S w → (∀ j, listed.getD j false = true → φ j (u j) w) → Region.ready md ops listed = [] → Q .normal (F u) w := by
    intro listed u w hz hs hf hr
    refine hend u w hs fun j hj => hf j ?_
    have hj' : j < ops.size := by simpa using hj
    clear hj
    induction j using Nat.strongRecOn with
    | _ j ih =>
      cases hd : listed.getD j false with
      | true => rfl
      | false =>
        exfalso
        have ho : ops[j]? = some ops[j] := Array.getElem?_eq_getElem hj'
        have hl : ops.toList[j]? = some ops[j] := (Array.getElem?_toList).trans ho
        have hmem : j ∈ Region.ready md ops listed := by
          refine mem_ready.2 ⟨?_, ops[j], ho, fun e he hb => ?_⟩
          · have hjl : j < listed.size := by omega
            simp only [Array.getD, hjl, dif_pos] at hd ⊢
            exact hd
          · have hmw : e.on ∈ waits md ops[j] := List.mem_map.2 ⟨e, List.mem_filter.2 ⟨by simpa using he, hb⟩, rfl⟩
            have hlt := waitsOk_get ops.toList 0 hw j ops[j] hl e.on hmw
            exact ih e.on (by omega) (by omega)
        rw [hr] at hmem
        cases hmem
  induction fuel with
  | zero =>
    intro listed u w hz hc hs hf
    have hr : Region.ready md ops listed = [] := by
      refine List.eq_nil_iff_forall_not_mem.2 fun j hj => ?_
      obtain ⟨h1, o, ho, -⟩ := mem_ready.1 hj
      have hjl : j < listed.size := by have := (Array.getElem?_eq_some_iff.1 ho).1; omega
      simp only [Array.getD, hjl, dif_pos] at h1
      have hm : false ∈ listed.toList := by
        rw [← h1]
        exact List.mem_iff_getElem.2 ⟨j, by simpa using hjl, by simp⟩
      have := List.count_pos_iff.2 hm
      omega
    exact ⟨hr, fin listed u w hz hs hf hr⟩
  | succ fuel ih =>
    intro listed u w hz hc hs hf
    refine ⟨fin listed u w hz hs hf, fun i hi => ?_⟩
    obtain ⟨h1, o, ho, hall⟩ := mem_ready.1 hi
    have hio : i < ops.size := (Array.getElem?_eq_some_iff.1 ho).1
    have hil : i < listed.size := by omega
    have hl : ops.toList[i]? = some o := by simpa using ho
    have st := hstep.get ops.toList 0 i o hl
    rw [Nat.zero_add] at st
    refine wpOp_step ho fun K hK => st u w hs (fun j hj => ?_) K (fun v w' hR hv => hK _ _ ?_)
    · obtain ⟨e, he, rfl⟩ := List.mem_map.1 (List.contains_iff_mem.1 hj)
      obtain ⟨he1, he2⟩ := List.mem_filter.1 he
      exact hf e.on (hall e (by simpa using he1) he2)
    · refine ih _ _ _ (by simpa using hz) ?_ (hS _ _ hR hs) fun j hj => ?_
      · have h1' : listed.toList[i]? = some false := by
          simp only [Array.getD, hil, dif_pos] at h1
          exact (Array.getElem?_toList).trans ((Array.getElem?_eq_getElem hil).trans (congrArg some h1))
        have := count_set listed.toList i h1'
        rw [Array.toList_setIfInBounds]
        omega
      · by_cases hji : j = i
        · subst hji
          show φ j (if j = j then v else u j) w'
          rw [if_pos rfl]
          exact hv
        · show φ j (if j = i then v else u j) w'
          rw [if_neg hji]
          rw [getD_set_ne false (fun e => hji e.symm)] at hj
          exact hφ _ _ _ _ hR (hf j hj)
/-- a frame in which each operation's slot holds its yield -/
def fillAct : List Oper → Nat → (Nat → Value) → Act → Act
  | [], _, _, a => a
  | o :: l, i, u, a => fillAct l (i + 1) u (a.put o.dst (u i))
/-- the region -/
theorem wp_region_facts {id : Nat} {a : Act} {w : World} (R : World → World → Prop) (S : World → Prop) (φ : Nat → Value → World → Prop)
    (hm : P.follows .mixedOrders = true) (hw : waitsOk .any 0 ops.toList = true) (hφ : ∀ j v w w', R w w' → φ j v w → φ j v w') (hS : ∀ w w', R w w' → S w → S w')
    (u : Nat → Value) (hu : fillAct ops.toList 0 u a = a) (hs : S w.drew) (F : (Nat → Value) → Act) (hF : ∀ u, fillAct ops.toList 0 u a = F u)
    (hstep : FSteps P .any ops Q F R S φ 0 ops.toList) (hend : ∀ u w', S w' → (∀ j, Nat.blt j ops.size = true → φ j (u j) w') → Q .normal (F u) w') : (Code.region id ops true).wp P Q a w := by
  have e : F u = a := (hF u).symm.trans hu
  subst e
  refine wp_region_any hm (facts_sound F R S φ hw hφ hS hstep hend _ _ u _ (by simp) ?_ hs fun j hj => ?_)
  · exact Nat.le_trans List.count_le_length (by simp)
  · have : (Array.replicate ops.size false).getD j false = false := by
      simp only [Array.getD]
      split <;> simp
    rw [this] at hj
    cases hj
end
/-- what is told of an operation's yield -/
inductive Fact where
  | any
  | is (v : Value)
  | row (l : List UInt8)
  | vals (l : List Value)
def Fact.holds : Fact → Value → World → Prop
  | .any, _, _ => True
  | .is x, v, _ => v = x
  | .row l, v, w => ∃ g, v = .slice (some ⟨g, 0, none⟩) l.length l.length ∧ BytesAt w g l
  | .vals l, v, w => ∃ g, v = .slice (some ⟨g, 0, none⟩) l.length l.length ∧ RowAt w g l
theorem Fact.stays (f : Fact) (v : Value) (w w' : World) (hb : Below w.heap.size w w') (h : f.holds v w) : f.holds v w' := by
  cases f with
  | any => trivial
  | is x => exact h
  | row l =>
    obtain ⟨g, hv, hB⟩ := h
    exact ⟨g, hv, hB.below hb⟩
  | vals l =>
    obtain ⟨g, hv, hB⟩ := h
    exact ⟨g, hv, hB.below hb⟩
/-- a table of them -/
def factsOf (T : List Fact) (j : Nat) (v : Value) (w : World) : Prop := (T.getD j .any).holds v w
theorem facts_stay (T : List Fact) (j : Nat) (v : Value) (w w' : World) (hb : Below w.heap.size w w') (h : factsOf T j v w) : factsOf T j v w' := (T.getD j .any).stays v w w' hb h
/-- told of the yield alone -/
def Fact.still : Fact → Bool
  | .row _ => false
  | .vals _ => false
  | _ => true
theorem facts_still {T : List Fact} (hT : T.all Fact.still = true) (j : Nat) (v : Value) (w w' : World) (h : factsOf T j v w) : factsOf T j v w' := by
  unfold factsOf at *
  have hs : (T.getD j .any).still = true := by
    rw [List.getD_eq_getElem?_getD]
    cases hj : T[j]? with
    | none => rfl
    | some f => exact List.all_eq_true.1 hT f (List.mem_of_getElem? hj)
  generalize T.getD j .any = f at *
  cases f with
  | any => trivial
  | is x => exact h
  | row l => cases hs
  | vals l => cases hs
end Go.Proofs.Ytchjljmcgjlkiaa
