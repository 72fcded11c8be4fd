/-
The law of facts where some operations (calls, mostly) turn a state, one behind the other: what is told of memory hangs on which of them have come up.
-/
import Derived.Test.YtchhaolgmdhnmaaFactsUpto
namespace Go.Proofs.Ytchhaolgmdhnmaa
open Go.RowKit
section
variable {P : Program} {md : Region.Mode} {ops : Array Oper} {Q : Exit → Act → World → Prop}
/-- one more has come up -/
def upB (l : Nat → Bool) (i k : Nat) : Bool := if k = i then true else l k
/-- one operation is run: which ones have come up is l -/
def SStep (P : Program) (md : Region.Mode) (ops : Array Oper) (Q : Exit → Act → World → Prop) (F : (Nat → Value) → Act) (R : World → World → Prop) (S : (Nat → Bool) → World → Prop) (φ : Nat → Value → World → Prop) (i : Nat) (o : Oper) : Prop :=
  ∀ (u : Nat → Value) (w : World) (l : Nat → Bool), S l w → l i = false → (∀ j k, (waitsAt md ops j).contains k = true → l j = true → l k = true) → (∀ j, (waits md o).contains j = true → l j = true ∧ φ j (u j) w) →
    ∀ K : Act → World → Prop, Shut (∀ v w', R w w' → φ i v w' → S (upB l i) w' → K (F (upd u i v)) w') →
      if Region.wanted o (yielded ops (F u).tmps) = true then Oper.wp P o (F u) w K Q else K ((F u).put o.dst undef) w
def SSteps (P : Program) (md : Region.Mode) (ops : Array Oper) (Q : Exit → Act → World → Prop) (F : (Nat → Value) → Act) (R : World → World → Prop) (S : (Nat → Bool) → World → Prop) (φ : Nat → Value → World → Prop) : Nat → List Oper → Prop
  | _, [] => True
  | i, o :: l => SStep P md ops Q F R S φ i o ∧ SSteps P md ops Q F R S φ (i + 1) l
theorem SSteps.cons {F : (Nat → Value) → Act} {R : World → World → Prop} {S : (Nat → Bool) → World → Prop} {φ : Nat → Value → World → Prop} {i : Nat} {o : Oper} {l : List Oper} (h : SStep P md ops Q F R S φ i o) (hs : SSteps P md ops Q F R S φ (i + 1) l) : SSteps P md ops Q F R S φ i (o :: l) := ⟨h, hs⟩
theorem SSteps.get {F : (Nat → Value) → Act} {R : World → World → Prop} {S : (Nat → Bool) → World → Prop} {φ : Nat → Value → World → Prop} : ∀ (l : List Oper) (i : Nat), SSteps P md ops Q F R S φ i l → ∀ k o, l[k]? = some o → SStep P md ops Q F R S φ (i + k) o
  | [], _, _, k, o, h => by simp at h
  | x :: l, i, h, 0, o, e => by
    simp only [List.getElem?_cons_zero, Option.some.injEq] at e
    subst e
    exact h.1
  | x :: l, i, h, k + 1, o, e => by
    have := SSteps.get l (i + 1) h.2 k o (by simpa using e)
    rwa [show i + (k + 1) = i + 1 + k by omega]
theorem staged_sound (F : (Nat → Value) → Act) (R : World → World → Prop) (S : (Nat → Bool) → World → Prop) (φ : Nat → Value → World → Prop)
    (hw : waitsOk md 0 ops.toList = true) (hφ : ∀ j v w w', R w w' → φ j v w → φ j v w')
    (hstep : SSteps P md ops Q F R S φ 0 ops.toList) (hend : ∀ u w l, (∀ j, Nat.blt j ops.size = true → l j = true) → S l w → (∀ j, Nat.blt j ops.size = true → φ j (u j) w) → Q .normal (F u) w) :
    ∀ (fuel : Nat) (listed : Array Bool) (u : Nat → Value) (w : World), listed.size = ops.size → listed.toList.count false ≤ fuel → S (fun j => listed.getD j false) w →
      (∀ j, listed.getD j false = true → ∀ k ∈ waitsAt md ops j, listed.getD k false = true) → (∀ j, listed.getD j false = true → φ j (u j) w) → wpAny P md ops Q fuel listed (F u) w := by
  intro fuel
  have fin : ∀ (listed : Array Bool) (u : Nat → Value) (w : World), listed.size = ops.size → S (fun j => listed.getD j false) w → (∀ j, listed.getD j false = true → φ j (u j) w) → Region.ready md ops listed = [] → Q .normal (F u) w := by
    intro listed u w hz hs hf hr
    have hall : ∀ j, Nat.blt j ops.size = true → listed.getD j false = true := by
      intro j hj
      have hj' : j < ops.size := by simpa using hj
      clear hj
      induction j using Nat.strongRecOn with
      | _ j ih =>
        cases hd : listed.getD j false with
        | true => rfl
        | false =>
          exfalso
          have ho : ops[j]? = some ops[j] := Array.getElem?_eq_getElem hj'
          have hl : ops.toList[j]? = some ops[j] := (Array.getElem?_toList).trans ho
          have hmem : j ∈ Region.ready md ops listed := by
            refine mem_ready.2 ⟨?_, ops[j], ho, fun e he hb => ?_⟩
            · have hjl : j < listed.size := by omega
              simp only [Array.getD, hjl, dif_pos] at hd ⊢
              exact hd
            · have hmw : e.on ∈ waits md ops[j] := List.mem_map.2 ⟨e, List.mem_filter.2 ⟨by simpa using he, hb⟩, rfl⟩
              have hlt := waitsOk_get ops.toList 0 hw j ops[j] hl e.on hmw
              exact ih e.on (by omega) (by omega)
          rw [hr] at hmem
          cases hmem
    exact hend u w _ hall hs fun j hj => hf j (hall j hj)
  induction fuel with
  | zero =>
    intro listed u w hz hc hs hcl hf
    have hr : Region.ready md ops listed = [] := by
      refine List.eq_nil_iff_forall_not_mem.2 fun j hj => ?_
      obtain ⟨h1, o, ho, -⟩ := mem_ready.1 hj
      have hjl : j < listed.size := by have := (Array.getElem?_eq_some_iff.1 ho).1; omega
      simp only [Array.getD, hjl, dif_pos] at h1
      have hm : false ∈ listed.toList := by
        rw [← h1]
        exact List.mem_iff_getElem.2 ⟨j, by simpa using hjl, by simp⟩
      have := List.count_pos_iff.2 hm
      omega
    exact ⟨hr, fin listed u w hz hs hf hr⟩
  | succ fuel ih =>
    intro listed u w hz hc hs hcl hf
    refine ⟨fin listed u w hz hs hf, fun i hi => ?_⟩
    obtain ⟨h1, o, ho, hall⟩ := mem_ready.1 hi
    have hio : i < ops.size := (Array.getElem?_eq_some_iff.1 ho).1
    have hil : i < listed.size := by omega
    have hl : ops.toList[i]? = some o := by simpa using ho
    have st := hstep.get ops.toList 0 i o hl
    rw [Nat.zero_add] at st
    have hwi : ∀ x ∈ waits md o, listed.getD x false = true := by
      intro x hx
      obtain ⟨e, he, rfl⟩ := List.mem_map.1 hx
      obtain ⟨he1, he2⟩ := List.mem_filter.1 he
      exact hall e (by simpa using he1) he2
    have hli : listed.getD i false = false := by
      rw [getD_list _ _ _ hil] at h1 ⊢
      exact h1
    refine wpOp_step ho fun K hK => st u w (fun j => listed.getD j false) hs hli (fun j k hk hj => hcl j hj k (List.contains_iff_mem.1 hk)) (fun j hj => ⟨hwi j (List.contains_iff_mem.1 hj), hf j (hwi j (List.contains_iff_mem.1 hj))⟩) K (fun v w' hR hv hS => hK _ _ ?_)
    have up : ∀ y, (listed.setIfInBounds i true).getD y false = upB (fun j => listed.getD j false) i y := by
      intro y
      unfold upB
      by_cases hyi : y = i
      · subst hyi
        rw [if_pos rfl]
        simp [Array.getD, hil]
      · rw [if_neg hyi, getD_set_ne false (fun e => hyi e.symm)]
    refine ih _ _ _ (by simpa using hz) ?_ ?_ (fun j hj x hx => ?_) fun j hj => ?_
    · have h1' : listed.toList[i]? = some false := by
        rw [getD_list _ _ _ hil] at h1
        exact (Array.getElem?_toList).trans ((Array.getElem?_eq_getElem hil).trans (congrArg some h1))
      have := count_set listed.toList i h1'
      rw [Array.toList_setIfInBounds]
      omega
    · have e : (fun j => (listed.setIfInBounds i true).getD j false) = upB (fun j => listed.getD j false) i := funext up
      rw [e]
      exact hS
    · rw [up] at hj ⊢
      unfold upB at hj ⊢
      by_cases hxi : x = i
      · rw [if_pos hxi]
      · rw [if_neg hxi]
        by_cases hji : j = i
        · subst hji
          unfold waitsAt at hx
          rw [ho] at hx
          exact hwi x hx
        · rw [if_neg hji] at hj
          exact hcl j hj x hx
    · by_cases hji : j = i
      · subst hji
        show φ j (if j = j then v else u j) w'
        rw [if_pos rfl]
        exact hv
      · show φ j (if j = i then v else u j) w'
        rw [if_neg hji]
        rw [getD_set_ne false (fun e => hji e.symm)] at hj
        exact hφ _ _ _ _ hR (hf j hj)
/-- the region -/
theorem wp_region_staged {id : Nat} {a : Act} {w : World} (R : World → World → Prop) (S : (Nat → Bool) → World → Prop) (φ : Nat → Value → World → Prop)
    (hm : P.follows .mixedOrders = true) (hw : waitsOk .any 0 ops.toList = true) (hφ : ∀ j v w w', R w w' → φ j v w → φ j v w')
    (u : Nat → Value) (hu : fillAct ops.toList 0 u a = a) (hs : S (fun _ => false) w.drew) (F : (Nat → Value) → Act) (hF : ∀ u, fillAct ops.toList 0 u a = F u)
    (hstep : SSteps P .any ops Q F R S φ 0 ops.toList) (hend : ∀ u w' l, (∀ j, Nat.blt j ops.size = true → l j = true) → S l w' → (∀ j, Nat.blt j ops.size = true → φ j (u j) w') → Q .normal (F u) w') : (Code.region id ops true).wp P Q a w := by
  have e : F u = a := (hF u).symm.trans hu
  subst e
  have no : ∀ j, (Array.replicate ops.size false).getD j false = false := by
    intro j
    simp only [Array.getD]
    split <;> simp
  refine wp_region_any hm (staged_sound F R S φ hw hφ hstep hend _ _ u _ (by simp) ?_ ?_ (fun j hj => ?_) fun j hj => ?_)
  · exact Nat.le_trans List.count_le_length (by simp)
  · have e : (fun j => (Array.replicate ops.size false).getD j false) = fun _ => false := funext no
    rw [e]
    exact hs
  · rw [no j] at hj
    cases hj
  · rw [no j] at hj
    cases hj
end
/-- two turns of a state: before, between, behind -/
def St2 (A B C : Prop) : Bool → Bool → Prop
  | false, _ => A
  | true, false => B
  | true, true => C
theorem St2.zero {A B C : Prop} {a b : Bool} (h : St2 A B C a b) (ha : a = false) : A := by subst ha; exact h
theorem St2.mid {A B C : Prop} {a b : Bool} (h : St2 A B C a b) (ha : a = true) (hb : b = false) : B := by subst ha; subst hb; exact h
theorem St2.fin {A B C : Prop} {a b : Bool} (h : St2 A B C a b) (ha : a = true) (hb : b = true) : C := by subst ha; subst hb; exact h
theorem St2.one {A B C : Prop} {b : Bool} (h : B) (hb : b = false) : St2 A B C true b := by subst hb; exact h
theorem St2.two {A B C : Prop} (h : C) : St2 A B C true true := h
/-- what waits for another one has not come up ahead of it -/
theorem not_yet {l : Nat → Bool} {md : Region.Mode} {ops : Array Oper} (hcl : ∀ j k, (waitsAt md ops j).contains k = true → l j = true → l k = true) (i j : Nat) (hl : l i = false) (h : (waitsAt md ops j).contains i = true) : l j = false := by
  cases hj : l j with
  | false => rfl
  | true =>
    rw [hcl j i h hj] at hl
    cases hl
end Go.Proofs.Ytchhaolgmdhnmaa
