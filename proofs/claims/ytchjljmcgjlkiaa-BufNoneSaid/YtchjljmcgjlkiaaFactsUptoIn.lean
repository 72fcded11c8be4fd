/-
The law of facts for the first operations of a region in the round of a range over a function (see the text of facts up to an append).
-/
import Derived.Test.YtchjljmcgjlkiaaFactsIn
import Derived.Test.YtchjljmcgjlkiaaFactsUpto
namespace Go.Proofs.Ytchjljmcgjlkiaa
open Go.RowKit
section
variable {G : Fence} {m : Nat} {P : Program} {md : Region.Mode} {ops : Array Oper} {Q : Exit → Act → World → Prop}
theorem facts_uptoI (n k : Nat) (hnk : ops.size = n + (k + 1)) (F : (Nat → Value) → Act) (R : World → World → Prop) (S : World → Prop) (φ : Nat → Value → World → Prop)
    (hw : waitsOk md 0 ops.toList = true) (hl : lateOk md ops n = true) (hφ : ∀ j v w w', R w w' → φ j v w → φ j v w') (hS : ∀ w w', R w w' → S w → S w')
    (hstep : FStepsI G m P md ops Q F R S φ 0 (ops.toList.take n)) (hend : ∀ u w, S w → (∀ j, Nat.blt j n = true → φ j (u j) w) → wpAnyIn G m P md ops Q (k + 1) (listedTo n (k + 1)) (F u) w) :
    ∀ (fuel : Nat) (listed : Array Bool) (u : Nat → Value) (w : World), listed.size = ops.size → listed.toList.count false = fuel → (∀ j, n ≤ j → listed.getD j false = false) →
      (∀ j, listed.getD j false = true → ∀ k ∈ waitsAt md ops j, listed.getD k false = true) → S w → (∀ j, listed.getD j false = true → φ j (u j) w) → wpAnyIn G m P md ops Q fuel listed (F u) w := by
  intro fuel
  induction fuel with
  | zero =>
    intro listed u w hz hcnt hB hcl hs hf
    exfalso
    have hn := hB n (Nat.le_refl _)
    rw [getD_list _ _ _ (by omega)] at hn
    have hm : false ∈ listed.toList := by
      rw [← hn]
      exact List.mem_iff_getElem.2 ⟨n, by simp; omega, by simp⟩
    have := List.count_pos_iff.2 hm
    omega
  | succ fuel ih =>
    intro listed u w hz hcnt hB hcl hs hf
    by_cases hall : ∀ j, j < n → listed.getD j false = true
    · have hlist : listed = listedTo n (k + 1) := by
        apply Array.toList_inj.1
        unfold listedTo
        apply List.ext_getElem?
        intro j
        rw [Array.getElem?_toList]
        simp only [List.getElem?_append, List.length_replicate, List.getElem?_replicate]
        by_cases hj : j < n
        · have := hall j hj
          rw [getD_list _ _ _ (by omega)] at this
          rw [if_pos hj, if_pos hj, Array.getElem?_eq_getElem (by omega), this]
        · rw [if_neg hj]
          by_cases hj2 : j < ops.size
          · have := hB j (by omega)
            rw [getD_list _ _ _ (by omega)] at this
            rw [if_pos (by omega), Array.getElem?_eq_getElem (by omega), this]
          · rw [if_neg (by omega), Array.getElem?_eq_none (by omega)]
      have hfuel : fuel + 1 = k + 1 := by
        rw [← hcnt, hlist]
        unfold listedTo
        simp [List.count_append, List.count_replicate]
      rw [hfuel, hlist]
      exact hend u w hs fun j hj => hf j (hall j (by simpa using hj))
    · have nb : ∀ i, i ∈ Region.ready md ops listed → i < n := by
        intro i hi
        obtain ⟨h1, o, ho, hafter⟩ := mem_ready.1 hi
        have hio : i < ops.size := (Array.getElem?_eq_some_iff.1 ho).1
        rcases Nat.lt_or_ge i n with h | h
        · exact h
        · exfalso
          refine hall (late_spec hl hcl (hB n (Nat.le_refl _)) hio h ?_).2
          intro x hx
          unfold waitsAt at hx
          rw [ho] at hx
          obtain ⟨e, he, rfl⟩ := List.mem_map.1 hx
          obtain ⟨he1, he2⟩ := List.mem_filter.1 he
          exact hafter e (by simpa using he1) he2
      have least : ∃ j, j < n ∧ listed.getD j false = false ∧ ∀ i, i < j → listed.getD i false = true := by
        refine Classical.byContradiction fun hno => hall fun j => ?_
        induction j using Nat.strongRecOn with
        | _ j ihj =>
          intro hj
          cases hd : listed.getD j false with
          | true => rfl
          | false => exact absurd ⟨j, hj, hd, fun i hi => ihj i hi (by omega)⟩ hno
      refine ⟨fun hr => ?_, fun i hi => ?_⟩
      · exfalso
        obtain ⟨j, hj, hd, hlt⟩ := least
        have hj' : j < ops.size := by omega
        have ho : ops[j]? = some ops[j] := Array.getElem?_eq_getElem hj'
        have hl2 : ops.toList[j]? = some ops[j] := (Array.getElem?_toList).trans ho
        have hmem : j ∈ Region.ready md ops listed := by
          refine mem_ready.2 ⟨?_, ops[j], ho, fun e he hb => ?_⟩
          · rw [getD_list _ _ _ (by omega)] at hd ⊢
            exact hd
          · have hmw : e.on ∈ waits md ops[j] := List.mem_map.2 ⟨e, List.mem_filter.2 ⟨by simpa using he, hb⟩, rfl⟩
            have := waitsOk_get ops.toList 0 hw j ops[j] hl2 e.on hmw
            exact hlt e.on (by omega)
        rw [hr] at hmem
        cases hmem
      · have hin := nb i hi
        obtain ⟨h1, o, ho, hafter⟩ := mem_ready.1 hi
        have hio : i < ops.size := (Array.getElem?_eq_some_iff.1 ho).1
        have hil : i < listed.size := by omega
        have hl2 : (ops.toList.take n)[i]? = some o := by
          rw [List.getElem?_take_of_lt hin]
          simpa using ho
        have st := hstep.get (ops.toList.take n) 0 i o hl2
        rw [Nat.zero_add] at st
        have hwi : ∀ x ∈ waits md o, listed.getD x false = true := by
          intro x hx
          obtain ⟨e, he, rfl⟩ := List.mem_map.1 hx
          obtain ⟨he1, he2⟩ := List.mem_filter.1 he
          exact hafter e (by simpa using he1) he2
        refine wpOpIn_step ho fun K hK => st u w hs (fun j hj => hf j (hwi j (List.contains_iff_mem.1 hj))) K (fun v w' hR hv => hK _ _ ?_)
        refine ih _ _ _ (by simpa using hz) ?_ (fun j hj => ?_) (fun j hj x hx => ?_) (hS _ _ hR hs) fun j hj => ?_
        · have h1' : listed.toList[i]? = some false := by
            rw [getD_list _ _ _ hil] at h1
            exact (Array.getElem?_toList).trans ((Array.getElem?_eq_getElem hil).trans (congrArg some h1))
          have := count_set listed.toList i h1'
          rw [Array.toList_setIfInBounds]
          omega
        · rw [getD_set_ne false (show i ≠ j by omega)]
          exact hB j hj
        · have up : ∀ y, listed.getD y false = true → (listed.setIfInBounds i true).getD y false = true := by
            intro y hy
            by_cases hyi : i = y
            · subst hyi
              simp [Array.getD, hil]
            · rw [getD_set_ne false hyi]
              exact hy
          by_cases hji : j = i
          · subst hji
            unfold waitsAt at hx
            rw [ho] at hx
            exact up x (hwi x hx)
          · rw [getD_set_ne false (fun e => hji e.symm)] at hj
            exact up x (hcl j hj x hx)
        · by_cases hji : j = i
          · subst hji
            show φ j (if j = j then v else u j) w'
            rw [if_pos rfl]
            exact hv
          · show φ j (if j = i then v else u j) w'
            rw [if_neg hji]
            rw [getD_set_ne false (fun e => hji e.symm)] at hj
            exact hφ _ _ _ _ hR (hf j hj)
/-- the region's first n operations, by facts -/
theorem wpIn_region_upto {id : Nat} {a : Act} {w : World} (n k : Nat) (R : World → World → Prop) (S : World → Prop) (φ : Nat → Value → World → Prop)
    (hm : P.follows .mixedOrders = true) (hnk : ops.size = n + (k + 1)) (hw : waitsOk .any 0 ops.toList = true) (hl : lateOk .any ops n = true) (hφ : ∀ j v w w', R w w' → φ j v w → φ j v w') (hS : ∀ w w', R w w' → S w → S w')
    (u : Nat → Value) (hu : fillAct (ops.toList.take n) 0 u a = a) (hs : S w.drew) (F : (Nat → Value) → Act) (hF : ∀ u, fillAct (ops.toList.take n) 0 u a = F u)
    (hstep : FStepsI G m P .any ops Q F R S φ 0 (ops.toList.take n)) (hend : ∀ u w', S w' → (∀ j, Nat.blt j n = true → φ j (u j) w') → wpAnyIn G m P .any ops Q (k + 1) (listedTo n (k + 1)) (F u) w') : (Code.region id ops true).wpIn G m P Q a w := by
  have e : F u = a := (hF u).symm.trans hu
  subst e
  have no : ∀ j, (Array.replicate ops.size false).getD j false = false := by
    intro j
    simp only [Array.getD]
    split <;> simp
  refine wpIn_region_any hm (facts_uptoI n k hnk F R S φ hw hl hφ hS hstep hend _ _ u _ (by simp) ?_ (fun j _ => no j) (fun j hj => ?_) hs fun j hj => ?_)
  · simp
  · rw [no j] at hj
    cases hj
  · rw [no j] at hj
    cases hj
end
end Go.Proofs.Ytchjljmcgjlkiaa
