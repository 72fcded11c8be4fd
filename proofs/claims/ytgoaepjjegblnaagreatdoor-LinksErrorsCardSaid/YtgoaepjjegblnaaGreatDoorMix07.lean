/-
A law for a region that draws its order: one fact for each operation, said of what it yields and of memory, that stays behind every other one; each operation is run once, whatever came up ahead of it.
Slices of ints.
Numbers that go round as plain facts: distances, what a sender's and a taker's window has.
A smoother as plain numbers: what it keeps, what a time and no answer make of it; where each answer takes the same time it comes to be near twice that.
What two stations agree on, as plain facts; its parameters in memory; the landed code's and the document's look at them.
-/
import Derived.Test.YtgoaepjjegblnaaGreatDoorMix05
import Derived.Deep.RegionHeld
import Derived.Test.YtgoaepjjegblnaaGreatDoorMix06
import Derived.Deep.DeepCutAuto
import Derived.Lib.MinMax
import Derived.Test.YtgoaepjjegblnaaGreatDoorMix00
import Derived.BigQuiet
import Derived.Deep.QuietTactic
namespace Go.Proofs.YtgoaepjjegblnaaGreatDoor
set_option maxRecDepth 20000
open Go.RowKit
section
variable {P : Program} {md : Region.Mode} {ops : Array Oper} {Q : Exit → Act → World → Prop}
/-- the numbers that an operation waits for -/
def waits (md : Region.Mode) (o : Oper) : List Nat := (o.after.toList.filter (Region.binds md)).map (·.on)
/-- they all stand ahead of it -/
def waitsOk (md : Region.Mode) : Nat → List Oper → Bool
  | _, [] => true
  | i, o :: l => (waits md o).all (fun j => decide (j < i)) && waitsOk md (i + 1) l
/-- one yield more -/
def upd (u : Nat → Value) (i : Nat) (v : Value) (k : Nat) : Value := if k = i then v else u k
/-- one operation is run, whatever came up ahead of it -/
def FStep (P : Program) (md : Region.Mode) (ops : Array Oper) (Q : Exit → Act → World → Prop) (F : (Nat → Value) → Act) (R : World → World → Prop) (S : World → Prop) (φ : Nat → Value → World → Prop) (i : Nat) (o : Oper) : Prop :=
  ∀ (u : Nat → Value) (w : World), S w → (∀ j, (waits md o).contains j = true → φ j (u j) w) →
    ∀ K : Act → World → Prop, Shut (∀ v w', R w w' → φ i v w' → K (F (upd u i v)) w') →
      if Region.wanted o (yielded ops (F u).tmps) = true then Oper.wp P o (F u) w K Q else K ((F u).put o.dst undef) w
def FSteps (P : Program) (md : Region.Mode) (ops : Array Oper) (Q : Exit → Act → World → Prop) (F : (Nat → Value) → Act) (R : World → World → Prop) (S : World → Prop) (φ : Nat → Value → World → Prop) : Nat → List Oper → Prop
  | _, [] => True
  | i, o :: l => FStep P md ops Q F R S φ i o ∧ FSteps P md ops Q F R S φ (i + 1) l
theorem FSteps.cons {F : (Nat → Value) → Act} {R : World → World → Prop} {S : World → Prop} {φ : Nat → Value → World → Prop} {i : Nat} {o : Oper} {l : List Oper} (h : FStep P md ops Q F R S φ i o) (hs : FSteps P md ops Q F R S φ (i + 1) l) : FSteps P md ops Q F R S φ i (o :: l) := ⟨h, hs⟩
theorem FSteps.get {F : (Nat → Value) → Act} {R : World → World → Prop} {S : World → Prop} {φ : Nat → Value → World → Prop} : ∀ (l : List Oper) (i : Nat), FSteps P md ops Q F R S φ i l → ∀ k o, l[k]? = some o → FStep P md ops Q F R S φ (i + k) o
  | [], _, _, k, o, h => by simp at h
  | x :: l, i, h, 0, o, e => by
    simp only [List.getElem?_cons_zero, Option.some.injEq] at e
    subst e
    exact h.1
  | x :: l, i, h, k + 1, o, e => by
    have := FSteps.get l (i + 1) h.2 k o (by simpa using e)
    rwa [show i + (k + 1) = i + 1 + k by omega]
theorem waitsOk_get : ∀ (l : List Oper) (i : Nat), waitsOk md i l = true → ∀ k o, l[k]? = some o → ∀ j ∈ waits md o, j < i + k
  | [], _, _, k, o, h => by simp at h
  | x :: l, i, h, 0, o, e => by
    simp only [List.getElem?_cons_zero, Option.some.injEq] at e
    subst e
    have h1 : ((waits md x).all (fun j => decide (j < i)) && waitsOk md (i + 1) l) = true := h
    rw [Bool.and_eq_true] at h1
    intro j hj
    have := List.all_eq_true.1 h1.1 j hj
    simpa using this
  | x :: l, i, h, k + 1, o, e => by
    have h1 : ((waits md x).all (fun j => decide (j < i)) && waitsOk md (i + 1) l) = true := h
    rw [Bool.and_eq_true] at h1
    intro j hj
    have := waitsOk_get l (i + 1) h1.2 k o (by simpa using e) j hj
    omega
theorem count_set : ∀ (l : List Bool) (i : Nat), l[i]? = some false → (l.set i true).count false + 1 = l.count false
  | [], i, h => by simp at h
  | b :: l, 0, h => by
    simp only [List.getElem?_cons_zero, Option.some.injEq] at h
    subst h
    simp
  | b :: l, i + 1, h => by
    have := count_set l i (by simpa using h)
    simp only [List.set_cons_succ, List.count_cons]
    omega
theorem facts_sound (F : (Nat → Value) → Act) (R : World → World → Prop) (S : World → Prop) (φ : Nat → Value → World → Prop)
    (hw : waitsOk md 0 ops.toList = true) (hφ : ∀ j v w w', R w w' → φ j v w → φ j v w') (hS : ∀ w w', R w w' → S w → S w')
    (hstep : FSteps P md ops Q F R S φ 0 ops.toList) (hend : ∀ u w, S w → (∀ j, Nat.blt j ops.size = true → φ j (u j) w) → Q .normal (F u) w) :
    ∀ (fuel : Nat) (listed : Array Bool) (u : Nat → Value) (w : World), listed.size = ops.size → listed.toList.count false ≤ fuel → S w → (∀ j, listed.getD j false = true → φ j (u j) w) → wpAny P md ops Q fuel listed (F u) w := by
  intro fuel
  have fin : ∀ (listed : Array Bool) (u : Nat → Value) (w : World), listed.size = ops.size → S w → (∀ j, listed.getD j false = true → φ j (u j) w) → Region.ready md ops listed = [] → Q .normal (F u) w := by
    intro listed u w hz hs hf hr
    refine hend u w hs fun j hj => hf j ?_
    have hj' : j < ops.size := by simpa using hj
    clear hj
    induction j using Nat.strongRecOn with
    | _ j ih =>
      cases hd : listed.getD j false with
      | true => rfl
      | false =>
        exfalso
        have ho : ops[j]? = some ops[j] := Array.getElem?_eq_getElem hj'
        have hl : ops.toList[j]? = some ops[j] := (Array.getElem?_toList).trans ho
        have hmem : j ∈ Region.ready md ops listed := by
          refine mem_ready.2 ⟨?_, ops[j], ho, fun e he hb => ?_⟩
          · have hjl : j < listed.size := by omega
            simp only [Array.getD, hjl, dif_pos] at hd ⊢
            exact hd
          · have hmw : e.on ∈ waits md ops[j] := List.mem_map.2 ⟨e, List.mem_filter.2 ⟨by simpa using he, hb⟩, rfl⟩
            have hlt := waitsOk_get ops.toList 0 hw j ops[j] hl e.on hmw
            exact ih e.on (by omega) (by omega)
        rw [hr] at hmem
        cases hmem
  induction fuel with
  | zero =>
    intro listed u w hz hc hs hf
    have hr : Region.ready md ops listed = [] := by
      refine List.eq_nil_iff_forall_not_mem.2 fun j hj => ?_
      obtain ⟨h1, o, ho, -⟩ := mem_ready.1 hj
      have hjl : j < listed.size := by have := (Array.getElem?_eq_some_iff.1 ho).1; omega
      simp only [Array.getD, hjl, dif_pos] at h1
      have hm : false ∈ listed.toList := by
        rw [← h1]
        exact List.mem_iff_getElem.2 ⟨j, by simpa using hjl, by simp⟩
      have := List.count_pos_iff.2 hm
      omega
    exact ⟨hr, fin listed u w hz hs hf hr⟩
  | succ fuel ih =>
    intro listed u w hz hc hs hf
    refine ⟨fin listed u w hz hs hf, fun i hi => ?_⟩
    obtain ⟨h1, o, ho, hall⟩ := mem_ready.1 hi
    have hio : i < ops.size := (Array.getElem?_eq_some_iff.1 ho).1
    have hil : i < listed.size := by omega
    have hl : ops.toList[i]? = some o := by simpa using ho
    have st := hstep.get ops.toList 0 i o hl
    rw [Nat.zero_add] at st
    refine wpOp_step ho fun K hK => st u w hs (fun j hj => ?_) K (fun v w' hR hv => hK _ _ ?_)
    · obtain ⟨e, he, rfl⟩ := List.mem_map.1 (List.contains_iff_mem.1 hj)
      obtain ⟨he1, he2⟩ := List.mem_filter.1 he
      exact hf e.on (hall e (by simpa using he1) he2)
    · refine ih _ _ _ (by simpa using hz) ?_ (hS _ _ hR hs) fun j hj => ?_
      · have h1' : listed.toList[i]? = some false := by
          simp only [Array.getD, hil, dif_pos] at h1
          exact (Array.getElem?_toList).trans ((Array.getElem?_eq_getElem hil).trans (congrArg some h1))
        have := count_set listed.toList i h1'
        rw [Array.toList_setIfInBounds]
        omega
      · by_cases hji : j = i
        · subst hji
          show φ j (if j = j then v else u j) w'
          rw [if_pos rfl]
          exact hv
        · show φ j (if j = i then v else u j) w'
          rw [if_neg hji]
          rw [getD_set_ne false (fun e => hji e.symm)] at hj
          exact hφ _ _ _ _ hR (hf j hj)
/-- a frame in which each operation's slot holds its yield -/
def fillAct : List Oper → Nat → (Nat → Value) → Act → Act
  | [], _, _, a => a
  | o :: l, i, u, a => fillAct l (i + 1) u (a.put o.dst (u i))
/-- the region -/
theorem wp_region_facts {id : Nat} {a : Act} {w : World} (R : World → World → Prop) (S : World → Prop) (φ : Nat → Value → World → Prop)
    (hm : P.follows .mixedOrders = true) (hw : waitsOk .any 0 ops.toList = true) (hφ : ∀ j v w w', R w w' → φ j v w → φ j v w') (hS : ∀ w w', R w w' → S w → S w')
    (u : Nat → Value) (hu : fillAct ops.toList 0 u a = a) (hs : S w.drew) (F : (Nat → Value) → Act) (hF : ∀ u, fillAct ops.toList 0 u a = F u)
    (hstep : FSteps P .any ops Q F R S φ 0 ops.toList) (hend : ∀ u w', S w' → (∀ j, Nat.blt j ops.size = true → φ j (u j) w') → Q .normal (F u) w') : (Code.region id ops true).wp P Q a w := by
  have e : F u = a := (hF u).symm.trans hu
  subst e
  refine wp_region_any hm (facts_sound F R S φ hw hφ hS hstep hend _ _ u _ (by simp) ?_ hs fun j hj => ?_)
  · exact Nat.le_trans List.count_le_length (by simp)
  · have : (Array.replicate ops.size false).getD j false = false := by
      simp only [Array.getD]
      split <;> simp
    rw [this] at hj
    cases hj
end
/-- what is told of an operation's yield -/
inductive Fact where
  | any
  | is (v : Value)
  | row (l : List UInt8)
  | vals (l : List Value)
def Fact.holds : Fact → Value → World → Prop
  | .any, _, _ => True
  | .is x, v, _ => v = x
  | .row l, v, w => ∃ g, v = .slice (some ⟨g, 0, none⟩) l.length l.length ∧ BytesAt w g l
  | .vals l, v, w => ∃ g, v = .slice (some ⟨g, 0, none⟩) l.length l.length ∧ RowAt w g l
theorem Fact.stays (f : Fact) (v : Value) (w w' : World) (hb : Below w.heap.size w w') (h : f.holds v w) : f.holds v w' := by
  cases f with
  | any => trivial
  | is x => exact h
  | row l =>
    obtain ⟨g, hv, hB⟩ := h
    exact ⟨g, hv, hB.below hb⟩
  | vals l =>
    obtain ⟨g, hv, hB⟩ := h
    exact ⟨g, hv, hB.below hb⟩
/-- a table of them -/
def factsOf (T : List Fact) (j : Nat) (v : Value) (w : World) : Prop := (T.getD j .any).holds v w
theorem facts_stay (T : List Fact) (j : Nat) (v : Value) (w w' : World) (hb : Below w.heap.size w w') (h : factsOf T j v w) : factsOf T j v w' := (T.getD j .any).stays v w w' hb h
/-- told of the yield alone -/
def Fact.still : Fact → Bool
  | .row _ => false
  | .vals _ => false
  | _ => true
end Go.Proofs.YtgoaepjjegblnaaGreatDoor
namespace Go.Proofs.YtgoaepjjegblnaaGreatDoor
set_option maxRecDepth 20000
open Go.RowKit
/-- one of them -/
theorem int_at {w : World} {g o : Nat} {L : List Int} (h : AtL encI w (some ⟨g, o, none⟩) L) (k : Nat) (hk : k < L.length) : w.cell? ⟨g, o + k, none⟩ = some (.int .i64 L[k]) := by
  have := h.get k hk 0 (u := .int .i64 L[k]) rfl
  simpa [encI] using this
/-- a list of an own slice, one longer -/
theorem OwnL.form' {α : Type} {E : Enc α} {T : TypeId} {w : World} {B : Nat} {v : Value} {L : List α} (h : OwnL E T w B v L) : ∃ a n c, v = .slice a n c := by
  rcases h.2 with ⟨h0, _⟩ | ⟨g', cap, cur, h0, _⟩
  · exact ⟨_, _, _, h0⟩
  · exact ⟨_, _, _, h0⟩
end Go.Proofs.YtgoaepjjegblnaaGreatDoor
namespace Go.Proofs.YtgoaepjjegblnaaGreatDoor
set_option maxRecDepth 20000
open Go.RowKit
/-- is a modulus one -/
def modR (m : Int) : Bool := m == 8 || m == 128
/-- are they right -/
def inR (m a : Int) : Bool := decide (0 ≤ a) && decide (a < m)
theorem modR_yes {m : Int} (h : modR m = true) : m = 8 ∨ m = 128 := by
  unfold modR at h
  simpa using h
theorem inR_yes {m a : Int} (h : inR m a = true) : 0 ≤ a ∧ a < m := by
  unfold inR at h
  simpa using h
theorem inR_no {m a : Int} (h : inR m a = false) : a < 0 ∨ m ≤ a := by
  unfold inR at h
  simp at h
  omega
/-- a sender's window: how many were opened, how many acknowledged, ever -/
structure So where
  opened : Int
  acked : Int
/-- a taker's window: how many came in order, ever; which of those behind came -/
structure Ti where
  vr : Int
  came : List Bool
end Go.Proofs.YtgoaepjjegblnaaGreatDoor
namespace Go.Proofs.YtgoaepjjegblnaaGreatDoor
set_option maxRecDepth 20000
/-- from 4 to 255 -/
def inT (n : Int) : Int := if n < 4 then 4 else if 255 < n then 255 else n
theorem inT_most (n : Int) : 4 ≤ inT n ∧ inT n ≤ 255 := by
  unfold inT
  split
  · omega
  · split <;> omega
theorem inT_min (n : Int) : min (max n 4) 255 = inT n := by
  unfold inT
  split
  · omega
  · split <;> omega
theorem inT_same {n : Int} (h : 4 ≤ n ∧ n ≤ 255) : inT n = n := by
  unfold inT
  rw [if_neg (by omega), if_neg (by omega)]
/-- from 0 to 255 -/
def inB (n : Int) : Int := if n < 0 then 0 else if 255 < n then 255 else n
/-- what a smoother keeps -/
structure Sm where
  srt : Int
  t1 : Int
def Sm.new (t : Int) : Sm := ⟨4 * inT t, inT t⟩
def Sm.took (s : Sm) (t : Int) : Sm := ⟨s.srt - s.srt / 8 + inB t, inT ((s.srt - s.srt / 8 + inB t) / 4 + 2)⟩
def Sm.none (s : Sm) : Sm := ⟨s.srt, inT (2 * s.t1)⟩
def Sm.ok (s : Sm) : Prop := (0 ≤ s.srt ∧ s.srt ≤ 2047) ∧ 4 ≤ s.t1 ∧ s.t1 ≤ 255
theorem Sm.new_ok (t : Int) : (Sm.new t).ok := by
  have := inT_most t
  refine ⟨⟨?_, ?_⟩, this⟩
  · show 0 ≤ 4 * inT t
    omega
  · show 4 * inT t ≤ 2047
    omega
/-- one step: a time, or none -/
def Sm.step (s : Sm) (t : Int) : Sm := if t < 0 then s.none else s.took t
end Go.Proofs.YtgoaepjjegblnaaGreatDoor
namespace Go.Proofs.YtgoaepjjegblnaaGreatDoor
open Go.RowKit
set_option maxRecDepth 20000
/-- within a range -/
def inD (n lo hi : Int) : Bool := decide (lo ≤ n) && decide (n ≤ hi)
theorem inD_yes {n lo hi : Int} (h : inD n lo hi = true) : lo ≤ n ∧ n ≤ hi := by simpa [inD] using h
/-- the greatest window -/
def mostD (a b : Bool) : Int := if a then (if b then 32 else 63) else if b then 4 else 7
/-- are they right -/
def rightX (a b : Bool) (n k t r : Int) : Bool := inD n 16 256 && (inD k 1 (mostD a b) && (inD t 4 255 && inD r 1 15))
theorem most_le (a b : Bool) : mostD a b ≤ 63 := by cases a <;> cases b <;> decide
theorem rightX_facts {a b : Bool} {n k t r : Int} (h : rightX a b n k t r = true) : 16 ≤ n ∧ n ≤ 256 ∧ 1 ≤ k ∧ k ≤ 63 ∧ 4 ≤ t ∧ t ≤ 255 ∧ 1 ≤ r ∧ r ≤ 15 := by
  unfold rightX at h
  simp only [Bool.and_eq_true] at h
  obtain ⟨h1, h2, h3, h4⟩ := h
  have := inD_yes h1
  have := inD_yes h2
  have := inD_yes h3
  have := inD_yes h4
  have := most_le a b
  omega
/-- six cells in a block -/
structure C6 (W : World) (m : Nat) (v0 v1 v2 v3 v4 v5 : Value) : Prop where
  k0 : KeepAt W m 0 v0
  k1 : KeepAt W m 1 v1
  k2 : KeepAt W m 2 v2
  k3 : KeepAt W m 3 v3
  k4 : KeepAt W m 4 v4
  k5 : KeepAt W m 5 v5
theorem C6.new (w : World) (m : Nat) (hm : m = w.heap.size) (v0 v1 v2 v3 v4 v5 : Value) (T : TypeId) : C6 (w.alloc (.cells #[v0, v1, v2, v3, v4, v5] T)) m v0 v1 v2 v3 v4 v5 := by
  subst hm
  have hl : w.heap.size < (w.alloc (.cells #[v0, v1, v2, v3, v4, v5] T)).heap.size := by simp
  exact ⟨⟨World.cell?_alloc_at _ _ _ _ rfl, World.frozen?_alloc_at _ _ _ _ rfl, hl⟩, ⟨World.cell?_alloc_at _ _ _ _ rfl, World.frozen?_alloc_at _ _ _ _ rfl, hl⟩, ⟨World.cell?_alloc_at _ _ _ _ rfl, World.frozen?_alloc_at _ _ _ _ rfl, hl⟩, ⟨World.cell?_alloc_at _ _ _ _ rfl, World.frozen?_alloc_at _ _ _ _ rfl, hl⟩, ⟨World.cell?_alloc_at _ _ _ _ rfl, World.frozen?_alloc_at _ _ _ _ rfl, hl⟩, ⟨World.cell?_alloc_at _ _ _ _ rfl, World.frozen?_alloc_at _ _ _ _ rfl, hl⟩⟩
theorem C6.block {W W' : World} {m : Nat} {v0 v1 v2 v3 v4 v5 : Value} (h : C6 W m v0 v1 v2 v3 v4 v5) (hb : W'.heap[m]? = W.heap[m]?) (hs : W.heap.size ≤ W'.heap.size) : C6 W' m v0 v1 v2 v3 v4 v5 :=
  ⟨h.k0.block hb hs, h.k1.block hb hs, h.k2.block hb hs, h.k3.block hb hs, h.k4.block hb hs, h.k5.block hb hs⟩
theorem C6.below {W W' : World} {m : Nat} {v0 v1 v2 v3 v4 v5 : Value} (h : C6 W m v0 v1 v2 v3 v4 v5) (hb : Below W.heap.size W W') : C6 W' m v0 v1 v2 v3 v4 v5 := h.block (hb.block m h.k0.lt) hb.size
theorem C6.drew {W : World} {m : Nat} {v0 v1 v2 v3 v4 v5 : Value} (h : C6 W m v0 v1 v2 v3 v4 v5) : C6 W.drew m v0 v1 v2 v3 v4 v5 := h.block rfl (Nat.le_refl _)
theorem set6_below {B m : Nat} {a W : World} (h : Below B a W) (hm : B ≤ m) (u0 u1 u2 u3 u4 u5 : Value) :
    Below B a ((((((W.setCell ⟨m, 0, none⟩ u0).setCell ⟨m, 1, none⟩ u1).setCell ⟨m, 2, none⟩ u2).setCell ⟨m, 3, none⟩ u3).setCell ⟨m, 4, none⟩ u4).setCell ⟨m, 5, none⟩ u5) :=
  (((((h.setCell (p := ⟨m, 0, none⟩) hm u0).setCell (p := ⟨m, 1, none⟩) hm u1).setCell (p := ⟨m, 2, none⟩) hm u2).setCell (p := ⟨m, 3, none⟩) hm u3).setCell (p := ⟨m, 4, none⟩) hm u4).setCell (p := ⟨m, 5, none⟩) hm u5
theorem below_drewX {B : Nat} {a w : World} (h : Below B a w) (n : Nat) : Below B a (w.drewN n) := ⟨h.os, h.tape, h.output, h.size, h.block⟩
theorem within_any (n lo hi : Int) (w : World) : Calls Tryz.prog 117 #[.int .i64 n, .int .i64 lo, .int .i64 hi] w fun e w' => e = .returned (.bool (inD n lo hi)) ∧ w' = w := by
  by_cases h1 : lo ≤ n
  · have d1 : decide (lo ≤ n) = true := decide_eq_true h1
    by_cases h2 : n ≤ hi
    · have d2 : decide (n ≤ hi) = true := decide_eq_true h2
      go_enter Tryz.func117, Tryz.ntmps117
      go_wp2
      go_ret
      exact ⟨by rw [inD, d1, d2]; rfl, rfl⟩
    · have d2 : decide (n ≤ hi) = false := decide_eq_false h2
      go_enter Tryz.func117, Tryz.ntmps117
      go_wp2
      go_ret
      exact ⟨by rw [inD, d1, d2]; rfl, rfl⟩
  · have d1 : decide (lo ≤ n) = false := decide_eq_false h1
    go_enter Tryz.func117, Tryz.ntmps117
    go_wp2
    go_ret
    exact ⟨by rw [inD, d1]; rfl, rfl⟩
theorem most_any (a b : Bool) (w : World) : Calls Tryz.prog 118 #[.bool a, .bool b] w fun e w' => e = .returned (.int .i64 (mostD a b)) ∧ w' = w := by
  cases a <;> cases b
  all_goals
    go_enter Tryz.func118, Tryz.ntmps118
    go_wp2
    go_ret
    exact ⟨rfl, rfl⟩
set_option maxHeartbeats 1000000 in
/-- the landed code's Right -/
theorem xright_any (a b : Bool) (n k t r : Int) (w : World) : Calls Tryz.prog 66 #[.agg #[.bool a, .bool b, .int .i64 n, .int .i64 k, .int .i64 t, .int .i64 r]] w fun e w' => e = .returned (.bool (rightX a b n k t r)) ∧ Below w.heap.size w w' := by
  have HA := C6.new w w.heap.size rfl (.bool a) (.bool b) (.int .i64 n) (.int .i64 k) (.int .i64 t) (.int .i64 r) 23
  have HB := Lib.hid ((Below.refl _ w).alloc (Nat.le_refl _) (.cells #[.bool a, .bool b, .int .i64 n, .int .i64 k, .int .i64 t, .int .i64 r] 23))
  obtain ⟨⟨c0, -, -⟩, ⟨c1, -, -⟩, ⟨c2, -, -⟩, ⟨c3, -, -⟩, ⟨c4, -, -⟩, ⟨c5, -, -⟩⟩ := HA
  have HM := Lib.hid (fun W => most_any a b W)
  have H1 := Lib.hid (fun W => within_any n 16 256 W)
  have H2 := Lib.hid (fun W => within_any k 1 (mostD a b) W)
  have H3 := Lib.hid (fun W => within_any t 4 255 W)
  have H4 := Lib.hid (fun W => within_any r 1 15 W)
  unfold rightX
  generalize mostD a b = M at *
  generalize inD n 16 256 = A at *
  generalize inD k 1 M = B at *
  generalize inD t 4 255 = C at *
  generalize inD r 1 15 = D at *
  cases A
  · go_enter Tryz.func66, Tryz.ntmps66
    go_wp2
    go_quiet ((first
      | (go_at_call 118; with_reducible exact Calls.quiet_of_same (HM.out _))
      | (go_at_call 117; with_reducible exact Calls.quiet_of_same (H1.out _))
      | (go_at_call 117; with_reducible exact Calls.quiet_of_same (H2.out _))
      | (go_at_call 117; with_reducible exact Calls.quiet_of_same (H3.out _))
      | (go_at_call 117; with_reducible exact Calls.quiet_of_same (H4.out _))))
    go_wp2
    go_ret
    exact ⟨rfl, below_drewX HB.out _⟩
  cases B
  · go_enter Tryz.func66, Tryz.ntmps66
    go_wp2
    go_quiet ((first
      | (go_at_call 118; with_reducible exact Calls.quiet_of_same (HM.out _))
      | (go_at_call 117; with_reducible exact Calls.quiet_of_same (H1.out _))
      | (go_at_call 117; with_reducible exact Calls.quiet_of_same (H2.out _))
      | (go_at_call 117; with_reducible exact Calls.quiet_of_same (H3.out _))
      | (go_at_call 117; with_reducible exact Calls.quiet_of_same (H4.out _))))
    go_wp2
    go_ret
    exact ⟨rfl, below_drewX HB.out _⟩
  cases C
  · go_enter Tryz.func66, Tryz.ntmps66
    go_wp2
    go_quiet ((first
      | (go_at_call 118; with_reducible exact Calls.quiet_of_same (HM.out _))
      | (go_at_call 117; with_reducible exact Calls.quiet_of_same (H1.out _))
      | (go_at_call 117; with_reducible exact Calls.quiet_of_same (H2.out _))
      | (go_at_call 117; with_reducible exact Calls.quiet_of_same (H3.out _))
      | (go_at_call 117; with_reducible exact Calls.quiet_of_same (H4.out _))))
    go_wp2
    go_ret
    exact ⟨rfl, below_drewX HB.out _⟩
  cases D
  · go_enter Tryz.func66, Tryz.ntmps66
    go_wp2
    go_quiet ((first
      | (go_at_call 118; with_reducible exact Calls.quiet_of_same (HM.out _))
      | (go_at_call 117; with_reducible exact Calls.quiet_of_same (H1.out _))
      | (go_at_call 117; with_reducible exact Calls.quiet_of_same (H2.out _))
      | (go_at_call 117; with_reducible exact Calls.quiet_of_same (H3.out _))
      | (go_at_call 117; with_reducible exact Calls.quiet_of_same (H4.out _))))
    go_wp2
    go_ret
    exact ⟨rfl, below_drewX HB.out _⟩
  · go_enter Tryz.func66, Tryz.ntmps66
    go_wp2
    go_quiet ((first
      | (go_at_call 118; with_reducible exact Calls.quiet_of_same (HM.out _))
      | (go_at_call 117; with_reducible exact Calls.quiet_of_same (H1.out _))
      | (go_at_call 117; with_reducible exact Calls.quiet_of_same (H2.out _))
      | (go_at_call 117; with_reducible exact Calls.quiet_of_same (H3.out _))
      | (go_at_call 117; with_reducible exact Calls.quiet_of_same (H4.out _))))
    go_wp2
    go_ret
    exact ⟨rfl, below_drewX HB.out _⟩
end Go.Proofs.YtgoaepjjegblnaaGreatDoor
