/-
The landed code's backward: the calls of digipeaters from behind, as a range over a function meets them.
-/
import Derived.Test.YtfmcngchcalcmaaDoorPathCAnew
import Derived.RangeFuncNested
import Derived.RangeFuncBound
import Derived.RangeFuncCalls
import Derived.RangeFuncLeaves
import Derived.Shelf.Abstract
import Derived.Shelf.RegionOpen
import Derived.WalkKit
import Derived.OwnWalkIn
import Derived.TacticsInMore
import Derived.LoopNIn
import Derived.LoopIn
namespace Go.Proofs.YtfmcngchcalcmaaDoor
open Go.RowKit Go.Shelf
attribute [local go_sem] Oper.semAt_some
set_option maxRecDepth 20000
/-- a call whose letters lie within the reach -/
abbrev BC := { c : ByteArray × Int // c.1.size ≤ 140737488351232 }
instance : Inhabited BC := ⟨⟨(ByteArray.empty, 0), by decide⟩⟩
def bcV (x : BC) : Array Value := #[.agg #[.string x.1.1, .int .i64 x.1.2]]
/-- the calls of a slice's entries, from behind -/
def bcOf (D : List Ent) (hS : ∀ e ∈ D, e.1.size ≤ 140737488351232) : List BC := (D.attach.map fun e => (⟨(e.1.1, e.1.2.1), hS e.1 e.2⟩ : BC)).reverse
theorem bcOf_len (D : List Ent) (hS) : (bcOf D hS).length = D.length := by simp [bcOf]
theorem bcOf_at (D : List Ent) (hS) (k : Nat) (h : k < D.length) : (bcOf D hS)[k]'(by rw [bcOf_len]; exact h) = ⟨((D[D.length - 1 - k]'(by omega)).1, (D[D.length - 1 - k]'(by omega)).2.1), hS _ (List.getElem_mem _)⟩ := by
  simp [bcOf]
set_option maxHeartbeats 1000000 in
theorem back1_in (F : Fence) (n : Nat) (h7 : F.fn 80) (hro : F.round = none) (hn : 1 ≤ n) (l Bs : Nat) (Kp : World → World → Prop) (hKt : ∀ {A B C : World}, Kp A B → Kp B C → Kp A C) (a : Option Addr) (cap : Nat) (D : List Ent) (hS : ∀ e ∈ D, e.1.size ≤ 140737488351232) (hD : D.length ≤ 1000) (J Jx : List BC → World → Prop)
    (hY : ∀ pre x W, J pre W → pre.length < D.length → YieldAt F (n - 1) Tryd.prog l (bcV x) W fun e W' =>
      (e = .returned (.bool true) ∧ J (pre ++ [x]) W' ∧ Kp W W') ∨ (e = .returned (.bool false) ∧ Jx (pre ++ [x]) W'))
    (W : World) (hKr : Kp W W) (hc : ∀ W', Kp W W' → EntsAt W' a cap D ∧ W'.cell? ⟨Bs, 0, none⟩ = some (.slice a D.length cap)) (h0 : J [] W) :
    CallsIn F n Tryd.prog 80 #[.func (.yield l) #[] #[], .pointer (some ⟨Bs, 0, none⟩)] W fun e W' => (∃ v, e = .returned v) ∧
      ((∃ ys, ys = bcOf D hS ∧ J ys W') ∨ (∃ pre, (∃ k, pre = (bcOf D hS).take k) ∧ Jx pre W')) := by
  refine callsIn_of_wp Tryd.func80 rfl h7 ?_ hro
  simp only [Tryd.ntmps80, List.size_toArray, List.length_cons, List.length_nil, Nat.reduceAdd, Nat.reduceSub, Array.replicate_succ, Array.replicate_zero, List.push_toArray, List.append_toArray, List.nil_append, List.cons_append]
  have hB0 := (hc W hKr).2
  gi_wp2
  clear hB0
  gi_loopw [3] (fun i wr => ∃ p : Nat, p ≤ D.length ∧ i = .int .i64 ((p : Int) - 1) ∧ J ((bcOf D hS).take (D.length - p)) wr ∧ Kp W wr)
    (fun i _ => (intOf i + 1).toNat)
  case atStart => exact ⟨D.length, Nat.le_refl _, rfl, by rw [Nat.sub_self]; exact h0, hKr⟩
  case round =>
    obtain ⟨p, hp, rfl, hJs, hnx⟩ := hrel
    by_cases hz : p = 0
    · subst hz
      have dk : decide ((0 : Int) ≤ ((0 : Nat) : Int) - 1) = false := by decide
      gi_wp2
      go_end0
      exact ⟨⟨_, rfl⟩, .inl ⟨_, rfl, by rw [Nat.sub_zero, List.take_of_length_le (by rw [bcOf_len]; exact Nat.le_refl _)] at hJs; exact hJs⟩⟩
    · obtain ⟨q, rfl⟩ : ∃ q, p = q + 1 := ⟨p - 1, by omega⟩
      rw [show (((q + 1 : Nat) : Int) - 1) = (q : Int) from by omega]
      have dk : decide ((0 : Int) ≤ (q : Int)) = true := decide_eq_true (by omega)
      obtain ⟨g, o, hag, hg, c0, c1, -⟩ := (hc wr hnx).1.at_ q (by omega)
      subst hag
      have hx : (bcOf D hS)[D.length - (q + 1)]'(by rw [bcOf_len]; omega) = ⟨(D[q].1, D[q].2.1), hS _ (List.getElem_mem _)⟩ := by
        rw [bcOf_at D hS (D.length - (q + 1)) (by omega)]
        have e : D.length - 1 - (D.length - (q + 1)) = q := by omega
        simp only [e]
      have hT : (bcOf D hS).take (D.length - q) = (bcOf D hS).take (D.length - (q + 1)) ++ [⟨(D[q].1, D[q].2.1), hS _ (List.getElem_mem _)⟩] := by
        rw [← hx, show D.length - q = D.length - (q + 1) + 1 from by omega, List.take_succ_eq_append_getElem]
      have hsz : D[q].1.size ≤ 140737488351232 := hS _ (List.getElem_mem _)
      obtain ⟨fn, tmps, assign, body, hy, hR⟩ := hY _ ⟨(D[q].1, D[q].2.1), hsz⟩ wr hJs (by rw [List.length_take]; omega)
      dsimp only [bcV] at hy
      rw [← hT] at hR
      have hbs := (hc wr hnx).2
      have bq : (q : Int) < (D.length : Int) := by omega
      clear hT hx hsz
      generalize D[q].1 = xb at *
      generalize D[q].2.1 = xn at *
      gi_wp2
      refine hR.mono ?_
      rintro e W3 (⟨rfl, hJ3, hk3⟩ | ⟨rfl, hJx3⟩)
      · gi_wp2
        go_roundw
        case rel => exact ⟨q, by omega, rfl, hJ3, hKt hnx hk3⟩
        case measure => simp [intOf]
      · gi_wp2
        refine bodyPost_ret (results_none rfl _ _ _) rfl ?_
        exact ⟨⟨_, rfl⟩, .inr ⟨_, ⟨_, rfl⟩, hJx3⟩⟩
theorem backward_in (F : Fence) (n : Nat) (h5 : F.fn 62) (hro : F.round = none) (a : Option Addr) (k cap : Nat) (w : World) :
    CallsIn F n Tryd.prog 62 #[.slice a k cap] w fun e w' => e = .returned (.func (.func 80) #[] #[.pointer (some ⟨w.heap.size, 0, none⟩)]) ∧ w' = w.alloc (.cells #[.slice a k cap] 24) := by
  refine callsIn_of_wp Tryd.func62 rfl h5 ?_ hro
  simp only [Tryd.ntmps62, List.size_toArray, List.length_cons, List.length_nil, Nat.reduceAdd, Nat.reduceSub, Array.replicate_succ, Array.replicate_zero, List.push_toArray, List.append_toArray, List.nil_append, List.cons_append]
  gi_wp2
  go_ret
  exact ⟨rfl, rfl⟩
/-- what a round keeps: what lay at the call, and the captured slice's box -/
def KB (n₀ Bs : Nat) (W W' : World) : Prop := Below n₀ W W' ∧ W'.heap[Bs]? = W.heap[Bs]?
theorem KB.refl (n₀ Bs : Nat) (W : World) : KB n₀ Bs W W := ⟨Below.refl _ _, rfl⟩
theorem KB.trans {n₀ Bs : Nat} {A B C : World} (h : KB n₀ Bs A B) (h' : KB n₀ Bs B C) : KB n₀ Bs A C := ⟨h.1.trans h'.1, h'.2.trans h.2⟩
theorem back_stops (F : Fence) (n : Nat) (h7 : F.fn 80) (hro : F.round = none) (hn : 1 ≤ n) (Bs n₀ : Nat) (a : Option Addr) (cap : Nat) (D : List Ent) (hS : ∀ e ∈ D, e.1.size ≤ 140737488351232) (hD : D.length ≤ 1000) (w0 w : World) (hBs : Bs < w.heap.size) (h0 : w0.heap.size = n₀) (hE : EntsAt w0 a cap D) (hb : Below n₀ w0 w)
    (hc : w.cell? ⟨Bs, 0, none⟩ = some (.slice a D.length cap)) :
    SeqStopsK F n Tryd.prog 80 #[.pointer (some ⟨Bs, 0, none⟩)] bcV (KB n₀ Bs) (fun ys => ys = bcOf D hS) (fun _ => True) D.length w := fun l J Jx W hW _ _ hY hJ0 => by
  subst h0
  refine (back1_in F n h7 hro hn l Bs (KB w0.heap.size Bs) (fun h h' => h.trans h') a cap D hS hD J Jx hY W (KB.refl _ _ _) (fun W' hk => ⟨hE.below (hb.trans ((hW.mono hb.size).trans hk.1)), ?_⟩) hJ0).mono ?_
  · have h1 := (hW.cell (p := ⟨Bs, 0, none⟩) hBs).trans hc
    unfold World.cell? at h1 ⊢
    rw [hk.2]
    exact h1
  · rintro e W' ⟨he, h⟩
    refine ⟨he, ?_⟩
    rcases h with ⟨ys, hy, hj⟩ | ⟨pre, _, hj⟩
    · exact .inl ⟨ys, hy, hj⟩
    · exact .inr ⟨pre, trivial, hj⟩
end Go.Proofs.YtfmcngchcalcmaaDoor
