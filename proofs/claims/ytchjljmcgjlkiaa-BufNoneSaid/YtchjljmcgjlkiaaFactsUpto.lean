/-
The law of facts for the first operations of a region that draws its order, where all others wait for them: what is left is walked behind it.
-/
import Derived.Test.YtchjljmcgjlkiaaFacts
namespace Go.Proofs.Ytchjljmcgjlkiaa
open Go.RowKit
section
variable {P : Program} {md : Region.Mode} {ops : Array Oper} {Q : Exit → Act → World → Prop}
/-- the numbers that an operation waits for, by its number -/
def waitsAt (md : Region.Mode) (ops : Array Oper) (i : Nat) : List Nat := match ops[i]? with | some o => waits md o | none => []
/-- with all that those wait for -/
def ancL (md : Region.Mode) (ops : Array Oper) : Nat → List Nat → List Nat
  | 0, l => l
  | f + 1, l => ancL md ops f ((l ++ l.flatMap (waitsAt md ops)).eraseDups)
/-- the operation n waits for all ahead of it, those behind it for it -/
def lateOk (md : Region.Mode) (ops : Array Oper) (n : Nat) : Bool :=
  (List.range n).all (fun j => (ancL md ops ops.size (waitsAt md ops n)).contains j) &&
  (List.range ops.size).all (fun i => decide (i ≤ n) || (ancL md ops ops.size (waitsAt md ops i)).contains n)
theorem ancL_listed {listed : Array Bool} (hc : ∀ j, listed.getD j false = true → ∀ k ∈ waitsAt md ops j, listed.getD k false = true) :
    ∀ f l, (∀ x ∈ l, listed.getD x false = true) → ∀ x ∈ ancL md ops f l, listed.getD x false = true
  | 0, l, hl, x, hx => hl x hx
  | f + 1, l, hl, x, hx => by
    refine ancL_listed hc f _ (fun y hy => ?_) x hx
    have hy' := List.mem_eraseDups.1 hy
    rcases List.mem_append.1 hy' with h | h
    · exact hl y h
    · obtain ⟨z, hz, hyz⟩ := List.mem_flatMap.1 h
      exact hc z (hl z hz) y hyz
theorem late_spec {n : Nat} (h : lateOk md ops n = true) {listed : Array Bool} (hc : ∀ j, listed.getD j false = true → ∀ k ∈ waitsAt md ops j, listed.getD k false = true)
    (hn : listed.getD n false = false) {i : Nat} (hi : i < ops.size) (hni : n ≤ i) (hr : ∀ k ∈ waitsAt md ops i, listed.getD k false = true) : i = n ∧ ∀ j, j < n → listed.getD j false = true := by
  unfold lateOk at h
  rw [Bool.and_eq_true] at h
  obtain ⟨h1, h2⟩ := h
  have key : i = n := by
    have := List.all_eq_true.1 h2 i (List.mem_range.2 hi)
    rw [Bool.or_eq_true] at this
    rcases this with h3 | h3
    · have := of_decide_eq_true h3
      omega
    · have := ancL_listed hc ops.size _ hr n (List.contains_iff_mem.1 h3)
      rw [hn] at this
      cases this
  subst key
  refine ⟨rfl, fun j hj => ?_⟩
  have := List.all_eq_true.1 h1 j (List.mem_range.2 hj)
  exact ancL_listed hc ops.size _ hr j (List.contains_iff_mem.1 this)
/-- the first n are listed -/
def listedTo (n k : Nat) : Array Bool := (List.replicate n true ++ List.replicate k false).toArray
theorem getD_list (l : Array Bool) (j : Nat) (d : Bool) (h : j < l.size) : l.getD j d = l[j] := by
  simp [Array.getD, h]
theorem facts_upto (n k : Nat) (hnk : ops.size = n + (k + 1)) (F : (Nat → Value) → Act) (R : World → World → Prop) (S : World → Prop) (φ : Nat → Value → World → Prop)
    (hw : waitsOk md 0 ops.toList = true) (hl : lateOk md ops n = true) (hφ : ∀ j v w w', R w w' → φ j v w → φ j v w') (hS : ∀ w w', R w w' → S w → S w')
    (hstep : FSteps P md ops Q F R S φ 0 (ops.toList.take n)) (hend : ∀ u w, S w → (∀ j, Nat.blt j n = true → φ j (u j) w) → wpAny P md ops Q (k + 1) (listedTo n (k + 1)) (F u) w) :
    ∀ (fuel : Nat) (listed : Array Bool) (u : Nat → Value) (w : World), listed.size = ops.size → listed.toList.count false = fuel → (∀ j, n ≤ j → listed.getD j false = false) →
      (∀ j, listed.getD j false = true → ∀ k ∈ waitsAt md ops j, listed.getD k false = true) → S w → (∀ j, listed.getD j false = true → φ j (u j) w) → wpAny P md ops Q fuel listed (F u) w := by
  intro fuel
  induction fuel with
  | zero =>
    intro listed u w hz hcnt hB hcl hs hf
    exfalso
    have hn := hB n (Nat.le_refl _)
    rw [getD_list _ _ _ (by omega)] at hn
    have hm : false ∈ listed.toList := by
      rw [← hn]
      exact List.mem_iff_getElem.2 ⟨n, by simp; omega, by simp⟩
    have := List.count_pos_iff.2 hm
    omega
  | succ fuel ih =>
    intro listed u w hz hcnt hB hcl hs hf
    by_cases hall : ∀ j, j < n → listed.getD j false = true
    · have hlist : listed = listedTo n (k + 1) := by
        apply Array.toList_inj.1
        unfold listedTo
        apply List.ext_getElem?
        intro j
        rw [Array.getElem?_toList]
        simp only [List.getElem?_append, List.length_replicate, List.getElem?_replicate]
        by_cases hj : j < n
        · have := hall j hj
          rw [getD_list _ _ _ (by omega)] at this
          rw [if_pos hj, if_pos hj, Array.getElem?_eq_getElem (by omega), this]
        · rw [if_neg hj]
          by_cases hj2 : j < ops.size
          · have := hB j (by omega)
            rw [getD_list _ _ _ (by omega)] at this
            rw [if_pos (by omega), Array.getElem?_eq_getElem (by omega), this]
          · rw [if_neg (by omega), Array.getElem?_eq_none (by omega)]
      have hfuel : fuel + 1 = k + 1 := by
        rw [← hcnt, hlist]
        unfold listedTo
        simp [List.count_append, List.count_replicate]
      rw [hfuel, hlist]
      exact hend u w hs fun j hj => hf j (hall j (by simpa using hj))
    · have nb : ∀ i, i ∈ Region.ready md ops listed → i < n := by
        intro i hi
        obtain ⟨h1, o, ho, hafter⟩ := mem_ready.1 hi
        have hio : i < ops.size := (Array.getElem?_eq_some_iff.1 ho).1
        rcases Nat.lt_or_ge i n with h | h
        · exact h
        · exfalso
          refine hall (late_spec hl hcl (hB n (Nat.le_refl _)) hio h ?_).2
          intro x hx
          unfold waitsAt at hx
          rw [ho] at hx
          obtain ⟨e, he, rfl⟩ := List.mem_map.1 hx
          obtain ⟨he1, he2⟩ := List.mem_filter.1 he
          exact hafter e (by simpa using he1) he2
      have least : ∃ j, j < n ∧ listed.getD j false = false ∧ ∀ i, i < j → listed.getD i false = true := by
        refine Classical.byContradiction fun hno => hall fun j => ?_
        induction j using Nat.strongRecOn with
        | _ j ihj =>
          intro hj
          cases hd : listed.getD j false with
          | true => rfl
          | false => exact absurd ⟨j, hj, hd, fun i hi => ihj i hi (by omega)⟩ hno
      refine ⟨fun hr => ?_, fun i hi => ?_⟩
      · exfalso
        obtain ⟨j, hj, hd, hlt⟩ := least
        have hj' : j < ops.size := by omega
        have ho : ops[j]? = some ops[j] := Array.getElem?_eq_getElem hj'
        have hl2 : ops.toList[j]? = some ops[j] := (Array.getElem?_toList).trans ho
        have hmem : j ∈ Region.ready md ops listed := by
          refine mem_ready.2 ⟨?_, ops[j], ho, fun e he hb => ?_⟩
          · rw [getD_list _ _ _ (by omega)] at hd ⊢
            exact hd
          · have hmw : e.on ∈ waits md ops[j] := List.mem_map.2 ⟨e, List.mem_filter.2 ⟨by simpa using he, hb⟩, rfl⟩
            have := waitsOk_get ops.toList 0 hw j ops[j] hl2 e.on hmw
            exact hlt e.on (by omega)
        rw [hr] at hmem
        cases hmem
      · have hin := nb i hi
        obtain ⟨h1, o, ho, hafter⟩ := mem_ready.1 hi
        have hio : i < ops.size := (Array.getElem?_eq_some_iff.1 ho).1
        have hil : i < listed.size := by omega
        have hl2 : (ops.toList.take n)[i]? = some o := by
          rw [List.getElem?_take_of_lt hin]
          simpa using ho
        have st := hstep.get (ops.toList.take n) 0 i o hl2
        rw [Nat.zero_add] at st
        have hwi : ∀ x ∈ waits md o, listed.getD x false = true := by
          intro x hx
          obtain ⟨e, he, rfl⟩ := List.mem_map.1 hx
          obtain ⟨he1, he2⟩ := List.mem_filter.1 he
          exact hafter e (by simpa using he1) he2
        refine wpOp_step ho fun K hK => st u w hs (fun j hj => hf j (hwi j (List.contains_iff_mem.1 hj))) K (fun v w' hR hv => hK _ _ ?_)
        refine ih _ _ _ (by simpa using hz) ?_ (fun j hj => ?_) (fun j hj x hx => ?_) (hS _ _ hR hs) fun j hj => ?_
        · have h1' : listed.toList[i]? = some false := by
            rw [getD_list _ _ _ hil] at h1
            exact (Array.getElem?_toList).trans ((Array.getElem?_eq_getElem hil).trans (congrArg some h1))
          have := count_set listed.toList i h1'
          rw [Array.toList_setIfInBounds]
          omega
        · rw [getD_set_ne false (show i ≠ j by omega)]
          exact hB j hj
        · have up : ∀ y, listed.getD y false = true → (listed.setIfInBounds i true).getD y false = true := by
            intro y hy
            by_cases hyi : i = y
            · subst hyi
              simp [Array.getD, hil]
            · rw [getD_set_ne false hyi]
              exact hy
          by_cases hji : j = i
          · subst hji
            unfold waitsAt at hx
            rw [ho] at hx
            exact up x (hwi x hx)
          · rw [getD_set_ne false (fun e => hji e.symm)] at hj
            exact up x (hcl j hj x hx)
        · by_cases hji : j = i
          · subst hji
            show φ j (if j = j then v else u j) w'
            rw [if_pos rfl]
            exact hv
          · show φ j (if j = i then v else u j) w'
            rw [if_neg hji]
            rw [getD_set_ne false (fun e => hji e.symm)] at hj
            exact hφ _ _ _ _ hR (hf j hj)
/-- the region's first n operations, by facts -/
theorem wp_region_upto {id : Nat} {a : Act} {w : World} (n k : Nat) (R : World → World → Prop) (S : World → Prop) (φ : Nat → Value → World → Prop)
    (hm : P.follows .mixedOrders = true) (hnk : ops.size = n + (k + 1)) (hw : waitsOk .any 0 ops.toList = true) (hl : lateOk .any ops n = true) (hφ : ∀ j v w w', R w w' → φ j v w → φ j v w') (hS : ∀ w w', R w w' → S w → S w')
    (u : Nat → Value) (hu : fillAct (ops.toList.take n) 0 u a = a) (hs : S w.drew) (F : (Nat → Value) → Act) (hF : ∀ u, fillAct (ops.toList.take n) 0 u a = F u)
    (hstep : FSteps P .any ops Q F R S φ 0 (ops.toList.take n)) (hend : ∀ u w', S w' → (∀ j, Nat.blt j n = true → φ j (u j) w') → wpAny P .any ops Q (k + 1) (listedTo n (k + 1)) (F u) w') : (Code.region id ops true).wp P Q a w := by
  have e : F u = a := (hF u).symm.trans hu
  subst e
  have no : ∀ j, (Array.replicate ops.size false).getD j false = false := by
    intro j
    simp only [Array.getD]
    split <;> simp
  refine wp_region_any hm (facts_upto n k hnk F R S φ hw hl hφ hS hstep hend _ _ u _ (by simp) ?_ (fun j _ => no j) (fun j hj => ?_) hs fun j hj => ?_)
  · simp
  · rw [no j] at hj
    cases hj
  · rw [no j] at hj
    cases hj
end
end Go.Proofs.Ytchjljmcgjlkiaa
