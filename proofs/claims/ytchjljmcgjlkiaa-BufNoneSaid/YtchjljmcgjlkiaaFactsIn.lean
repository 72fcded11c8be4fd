/-
The law of facts for a region in the round of a range over a function (see the text of facts).
-/
import Derived.Test.YtchjljmcgjlkiaaFacts
import Derived.OrdersIn
namespace Go.Proofs.Ytchjljmcgjlkiaa
open Go.RowKit
section
variable {G : Fence} {m : Nat} {P : Program} {md : Region.Mode} {ops : Array Oper} {Q : Exit → Act → World → Prop}
/-- one operation is run, whatever came up ahead of it -/
def FStepI (G : Fence) (m : Nat) (P : Program) (md : Region.Mode) (ops : Array Oper) (Q : Exit → Act → World → Prop) (F : (Nat → Value) → Act) (R : World → World → Prop) (S : World → Prop) (φ : Nat → Value → World → Prop) (i : Nat) (o : Oper) : Prop :=
  ∀ (u : Nat → Value) (w : World), S w → (∀ j, (waits md o).contains j = true → φ j (u j) w) →
    ∀ K : Act → World → Prop, Shut (∀ v w', R w w' → φ i v w' → K (F (upd u i v)) w') →
      if Region.wanted o (yielded ops (F u).tmps) = true then Oper.wpIn G m P o (F u) w K Q else (∀ f, o.about P w (F u).eval = some f → G.fn f) ∧ K ((F u).put o.dst undef) w
def FStepsI (G : Fence) (m : Nat) (P : Program) (md : Region.Mode) (ops : Array Oper) (Q : Exit → Act → World → Prop) (F : (Nat → Value) → Act) (R : World → World → Prop) (S : World → Prop) (φ : Nat → Value → World → Prop) : Nat → List Oper → Prop
  | _, [] => True
  | i, o :: l => FStepI G m P md ops Q F R S φ i o ∧ FStepsI G m P md ops Q F R S φ (i + 1) l
theorem FStepsI.cons {F : (Nat → Value) → Act} {R : World → World → Prop} {S : World → Prop} {φ : Nat → Value → World → Prop} {i : Nat} {o : Oper} {l : List Oper} (h : FStepI G m P md ops Q F R S φ i o) (hs : FStepsI G m P md ops Q F R S φ (i + 1) l) : FStepsI G m P md ops Q F R S φ i (o :: l) := ⟨h, hs⟩
theorem FStepsI.get {F : (Nat → Value) → Act} {R : World → World → Prop} {S : World → Prop} {φ : Nat → Value → World → Prop} : ∀ (l : List Oper) (i : Nat), FStepsI G m P md ops Q F R S φ i l → ∀ k o, l[k]? = some o → FStepI G m P md ops Q F R S φ (i + k) o
  | [], _, _, k, o, h => by simp at h
  | x :: l, i, h, 0, o, e => by
    simp only [List.getElem?_cons_zero, Option.some.injEq] at e
    subst e
    exact h.1
  | x :: l, i, h, k + 1, o, e => by
    have := FStepsI.get l (i + 1) h.2 k o (by simpa using e)
    rwa [show i + (k + 1) = i + 1 + k by omega]
theorem facts_soundI (F : (Nat → Value) → Act) (R : World → World → Prop) (S : World → Prop) (φ : Nat → Value → World → Prop)
    (hw : waitsOk md 0 ops.toList = true) (hφ : ∀ j v w w', R w w' → φ j v w → φ j v w') (hS : ∀ w w', R w w' → S w → S w')
    (hstep : FStepsI G m P md ops Q F R S φ 0 ops.toList) (hend : ∀ u w, S w → (∀ j, Nat.blt j ops.size = true → φ j (u j) w) → Q .normal (F u) w) :
    ∀ (fuel : Nat) (listed : Array Bool) (u : Nat → Value) (w : World), listed.size = ops.size → listed.toList.count false ≤ fuel → S w → (∀ j, listed.getD j false = true → φ j (u j) w) → wpAnyIn G m P md ops Q fuel listed (F u) w := by
  intro fuel
  have fin : ∀ (listed : Array Bool) (u : Nat → Value) (w : World), listed.size = ops.size → S w → (∀ j, listed.getD j false = true → φ j (u j) w) → Region.ready md ops listed = [] → Q .normal (F u) w := by
    intro listed u w hz hs hf hr
    refine hend u w hs fun j hj => hf j ?_
    have hj' : j < ops.size := by simpa using hj
    clear hj
    induction j using Nat.strongRecOn with
    | _ j ih =>
      cases hd : listed.getD j false with
      | true => rfl
      | false =>
        exfalso
        have ho : ops[j]? = some ops[j] := Array.getElem?_eq_getElem hj'
        have hl : ops.toList[j]? = some ops[j] := (Array.getElem?_toList).trans ho
        have hmem : j ∈ Region.ready md ops listed := by
          refine mem_ready.2 ⟨?_, ops[j], ho, fun e he hb => ?_⟩
          · have hjl : j < listed.size := by omega
            simp only [Array.getD, hjl, dif_pos] at hd ⊢
            exact hd
          · have hmw : e.on ∈ waits md ops[j] := List.mem_map.2 ⟨e, List.mem_filter.2 ⟨by simpa using he, hb⟩, rfl⟩
            have hlt := waitsOk_get ops.toList 0 hw j ops[j] hl e.on hmw
            exact ih e.on (by omega) (by omega)
        rw [hr] at hmem
        cases hmem
  induction fuel with
  | zero =>
    intro listed u w hz hc hs hf
    have hr : Region.ready md ops listed = [] := by
      refine List.eq_nil_iff_forall_not_mem.2 fun j hj => ?_
      obtain ⟨h1, o, ho, -⟩ := mem_ready.1 hj
      have hjl : j < listed.size := by have := (Array.getElem?_eq_some_iff.1 ho).1; omega
      simp only [Array.getD, hjl, dif_pos] at h1
      have hm : false ∈ listed.toList := by
        rw [← h1]
        exact List.mem_iff_getElem.2 ⟨j, by simpa using hjl, by simp⟩
      have := List.count_pos_iff.2 hm
      omega
    exact ⟨hr, fin listed u w hz hs hf hr⟩
  | succ fuel ih =>
    intro listed u w hz hc hs hf
    refine ⟨fin listed u w hz hs hf, fun i hi => ?_⟩
    obtain ⟨h1, o, ho, hall⟩ := mem_ready.1 hi
    have hio : i < ops.size := (Array.getElem?_eq_some_iff.1 ho).1
    have hil : i < listed.size := by omega
    have hl : ops.toList[i]? = some o := by simpa using ho
    have st := hstep.get ops.toList 0 i o hl
    rw [Nat.zero_add] at st
    refine wpOpIn_step ho fun K hK => st u w hs (fun j hj => ?_) K (fun v w' hR hv => hK _ _ ?_)
    · obtain ⟨e, he, rfl⟩ := List.mem_map.1 (List.contains_iff_mem.1 hj)
      obtain ⟨he1, he2⟩ := List.mem_filter.1 he
      exact hf e.on (hall e (by simpa using he1) he2)
    · refine ih _ _ _ (by simpa using hz) ?_ (hS _ _ hR hs) fun j hj => ?_
      · have h1' : listed.toList[i]? = some false := by
          simp only [Array.getD, hil, dif_pos] at h1
          exact (Array.getElem?_toList).trans ((Array.getElem?_eq_getElem hil).trans (congrArg some h1))
        have := count_set listed.toList i h1'
        rw [Array.toList_setIfInBounds]
        omega
      · by_cases hji : j = i
        · subst hji
          show φ j (if j = j then v else u j) w'
          rw [if_pos rfl]
          exact hv
        · show φ j (if j = i then v else u j) w'
          rw [if_neg hji]
          rw [getD_set_ne false (fun e => hji e.symm)] at hj
          exact hφ _ _ _ _ hR (hf j hj)
/-- the region -/
theorem wpIn_region_facts {id : Nat} {a : Act} {w : World} (R : World → World → Prop) (S : World → Prop) (φ : Nat → Value → World → Prop)
    (hm : P.follows .mixedOrders = true) (hw : waitsOk .any 0 ops.toList = true) (hφ : ∀ j v w w', R w w' → φ j v w → φ j v w') (hS : ∀ w w', R w w' → S w → S w')
    (u : Nat → Value) (hu : fillAct ops.toList 0 u a = a) (hs : S w.drew) (F : (Nat → Value) → Act) (hF : ∀ u, fillAct ops.toList 0 u a = F u)
    (hstep : FStepsI G m P .any ops Q F R S φ 0 ops.toList) (hend : ∀ u w', S w' → (∀ j, Nat.blt j ops.size = true → φ j (u j) w') → Q .normal (F u) w') : (Code.region id ops true).wpIn G m P Q a w := by
  have e : F u = a := (hF u).symm.trans hu
  subst e
  refine wpIn_region_any hm (facts_soundI F R S φ hw hφ hS hstep hend _ _ u _ (by simp) ?_ hs fun j hj => ?_)
  · exact Nat.le_trans List.count_le_length (by simp)
  · have : (Array.replicate ops.size false).getD j false = false := by
      simp only [Array.getD]
      split <;> simp
    rw [this] at hj
    cases hj
end
end Go.Proofs.Ytchjljmcgjlkiaa
