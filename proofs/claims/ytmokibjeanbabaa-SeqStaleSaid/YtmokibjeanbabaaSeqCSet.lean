/-
The landed code's taker's window as it lies: four cells, and a set of numbers.
-/
import Derived.Test.YtmokibjeanbabaaSeqCNum
import Derived.Test.YtmokibjeanbabaaSeqThroughM
import Derived.Test.YtmokibjeanbabaaSeqRMiss
import Derived.Maps.OwnSet
namespace Go.Proofs.Ytmokibjeanbabaa
open Go.RowKit
set_option maxRecDepth 20000
/-- the marks, as a set -/
structure SetOk (m : Int) (t : Ti) (D : DataW Unit) : Prop where
  has : ∀ i : Nat, (i : Int) < m → Maps.has D (.int .i64 ((t.vr + i) % m)) = t.came.getD i false
  size : Maps.size D = t.came.count true
theorem keyedI : Maps.Keyed Try.prog 3 := Maps.int_keyed Try.underlying3
theorem key_int (n : Int) (h : 0 ≤ n ∧ n < 1000) : keyOf Try.prog 3 (.int .i64 n) = some (.int .i64 n) := Maps.keyOf_int_mk Try.underlying3 (WalkArith.wf_i64 (by omega))
theorem key_lit (n : Int) (h : 0 ≤ n ∧ n < 1000) : WideAt.IsKeyLit (.int .i64 n) := keyedI.key (key_int n h)
theorem rem_in (m n : Int) (hm : m = 8 ∨ m = 128) : 0 ≤ n % m ∧ n % m < 1000 := by rcases hm with e | e <;> subst e <;> omega
theorem rem_apart (m v : Int) (i j : Nat) (hm : m = 8 ∨ m = 128) (hi : (i : Int) < m) (hj : (j : Int) < m) (h : i ≠ j) : (v + i) % m ≠ (v + j) % m := by
  rcases hm with e | e <;> subst e <;> omega
theorem lit_ne {a b : Int} (h : a ≠ b) : (Lit.int .i64 a) ≠ Lit.int .i64 b := fun e => h (by cases e; rfl)
theorem count_put : ∀ (l : List Bool) (i : Nat), l[i]? = some false → (l.set i true).count true = l.count true + 1
  | [], i, h => by simp at h
  | b :: l, 0, h => by
    simp only [List.getElem?_cons_zero, Option.some.injEq] at h
    subst h
    simp
  | b :: l, i + 1, h => by
    have := count_put l i (by simpa using h)
    simp only [List.set_cons_succ, List.count_cons]
    omega
theorem SetOk.start (m : Int) : SetOk m ⟨0, List.replicate 128 false⟩ (.map []) :=
  ⟨fun i _ => by rw [fresh_get]; rfl, by
    show (0 : Nat) = _
    rw [List.count_replicate]
    simp⟩
/-- one more that came -/
theorem SetOk.put {m : Int} {t : Ti} {D : DataW Unit} (h : SetOk m t D) (hm : m = 8 ∨ m = 128) (hD : Maps.Tidy D) (hl : t.came.length = 128) (d : Nat) (hd : (d : Int) < m) (hc : t.came.getD d false = false) :
    SetOk m ⟨t.vr, t.came.set d true⟩ (D.put (.int .i64 ((t.vr + d) % m)) (.agg [])) := by
  have hd128 : d < 128 := by rcases hm with e | e <;> omega
  refine ⟨fun i hi => ?_, ?_⟩
  · show Maps.has _ (.int .i64 ((t.vr + i) % m)) = (t.came.set d true).getD i false
    by_cases e : i = d
    · subst e
      rw [Maps.has_put_same hD.isMap (key_lit _ (rem_in m _ hm)), List.getD_eq_getElem?_getD, List.getElem?_set_self (by omega)]
      rfl
    · rw [Maps.has_put_other (lit_ne (rem_apart m t.vr i d hm hi hd e)), h.has i hi, List.getD_eq_getElem?_getD, List.getD_eq_getElem?_getD, List.getElem?_set_ne (fun q => e q.symm)]
  · show Maps.size _ = (t.came.set d true).count true
    have hg : t.came[d]? = some false := by
      rw [List.getD_eq_getElem?_getD] at hc
      rw [List.getElem?_eq_getElem (by omega)] at hc ⊢
      simpa using hc
    rw [Maps.size_put hD, h.has d hd, hc, count_put t.came d hg, h.size]
    rfl
theorem count_atT (c : List Bool) (t : Nat) (ht : t < c.length) (h : c.getD t false = true) : (atT c t).count true = (atT c (t + 1)).count true + 1 := by
  unfold atT
  have e : c[t] = true := by
    rw [List.getD_eq_getElem?_getD, List.getElem?_eq_getElem ht] at h
    simpa using h
  rw [List.drop_eq_getElem_cons ht, e, List.count_append, List.count_append, List.count_replicate, List.count_replicate]
  simp
/-- one that goes in order -/
theorem SetOk.next {m vr : Int} {c : List Bool} {t : Nat} {D : DataW Unit} (h : SetOk m ⟨vr + t, atT c t⟩ D) (hm : m = 8 ∨ m = 128) (hD : Maps.Tidy D) (hl : c.length = 128) (ht : t < 128) (hh : ∀ i : Nat, 64 ≤ i ∨ m ≤ (i : Int) → c.getD i false = false) (hc : c.getD t false = true) :
    SetOk m ⟨vr + (t + 1 : Nat), atT c (t + 1)⟩ (D.del (.int .i64 ((vr + t) % m))) := by
  have h0 := h.has 0 (by rcases hm with e | e <;> omega)
  have ez : vr + (t : Int) + ((0 : Nat) : Int) = vr + t := by omega
  simp only at h0
  rw [ez, atT_head, hc] at h0
  refine ⟨fun i hi => ?_, ?_⟩
  · show Maps.has _ (.int .i64 ((vr + (t + 1 : Nat) + i) % m)) = (atT c (t + 1)).getD i false
    by_cases e : (i : Int) + 1 = m
    · have e1 : (vr + ((t + 1 : Nat) : Int) + i) % m = (vr + t) % m := by rcases hm with q | q <;> subst q <;> omega
      rw [e1, Maps.has_del_same, atT_get, hh _ (Or.inr (by omega))]
    · have hne : (vr + ((t + 1 : Nat) : Int) + i) % m ≠ (vr + t) % m := by rcases hm with q | q <;> subst q <;> omega
      have hi1 := h.has (i + 1) (by omega)
      simp only at hi1
      rw [Maps.has_del_other (lit_ne hne), show vr + ((t + 1 : Nat) : Int) + i = vr + (t : Int) + ((i + 1 : Nat) : Int) by omega, hi1, atT_get, atT_get, show i + 1 + t = i + (t + 1) by omega]
  · show Maps.size _ = (atT c (t + 1)).count true
    have h1 := Maps.size_del (k := .int .i64 ((vr + t) % m)) hD
    rw [h0, if_pos rfl, h.size] at h1
    have h2 := count_atT c t (by omega) hc
    simp only at h1
    omega
theorem own_tight {w : World} {P : Program} {k : TypeId} {R : Value → Option (DataW Unit × List MemPlace)} {b n : Nat} {D : DataW Unit} (h : w.ownsMap P k R b n D) : w.ownsMap P k R b (Maps.size D) D := by
  obtain ⟨es, clock, hb, F, -, rfl⟩ := h
  refine ⟨es, clock, hb, F, ?_, rfl⟩
  rw [Maps.size_eq, length_sorted]
  simp
theorem own_same {w w' : World} {P : Program} {k : TypeId} {R : Value → Option (DataW Unit × List MemPlace)} {b n : Nat} {D : DataW Unit} (h : w.ownsMap P k R b n D) (e : w'.heap[b]? = w.heap[b]?) : w'.ownsMap P k R b n D := by
  obtain ⟨es, clock, hb, r⟩ := h
  exact ⟨es, clock, e.trans hb, r⟩
theorem turn_map {F : Nat → Prop} {a w w' : World} {b : Nat} (h : Turn F a w) (hm : w.mapTurned w' b) (hb : F b ∨ a.heap.size ≤ b) : Turn F a w' := by
  have g := hm.grown
  refine ⟨g.os.trans h.os, g.tape.trans h.tape, g.output.trans h.output, Nat.le_trans h.size g.size, fun k hk hF => ?_⟩
  have hkb : some k ≠ some b := fun e => by
    cases e
    rcases hb with hb | hb
    · exact hF hb
    · omega
  exact (g.block k (Nat.lt_of_lt_of_le hk h.size) hkb).trans (h.block k hk hF)
theorem row_map {w w' : World} {p b : Nat} {v : Value} {L : List Value} (h : RowAt w p (v :: L)) (hm : w.mapTurned w' b) (hb : p ≠ b) : RowAt w' p (v :: L) :=
  h.block (hm.grown.block p h.lt (fun e => hb (by cases e; rfl))) hm.grown.size
/-- a delete that runs so -/
theorem wp_delete_run {P : Program} {t k : TypeId} {w : World} {o : Oper} {a : Act} {Q : Exit → Act → World → Prop} {K : Act → World → Prop} (s x : Operand) (ho : o.op = .call { callee := .builtin .delete, args := #[s, x], argTypes := #[t, k] })
    {vs vx v' : Value} {w' : World} (hs : a.eval s = vs) (hx : a.eval x = vx) (hr : (Builtin.delete_ #[t, k] o.type #[vs, vx]).run P w = .ok v' w') (h : K (a.put o.dst v') w') : Oper.wp P o a w K Q := by
  unfold Oper.wp execOp
  simp only [ho, resolve, invoke, builtin, Sem.run_bind, Sem.run_pure, Result.andThen_ok, List.map_toArray, List.map_cons, List.map_nil, hs, hx, hr]
  exact h
theorem lastT_cons (b : Bool) (l : List Bool) : lastT (b :: l) = if lastT l = 0 then (if b then 1 else 0) else lastT l + 1 := rfl
/-- the last one that came, behind some -/
theorem lastT_drop : ∀ (c : List Bool) (j : Nat), lastT (c.drop j) = lastT c - j
  | [], j => by simp [lastT]
  | b :: l, 0 => by simp
  | b :: l, j + 1 => by
    rw [List.drop_succ_cons, lastT_drop l j, lastT_cons]
    split
    · split <;> omega
    · omega
theorem lastT_zero : ∀ c : List Bool, lastT c = 0 ↔ c.count true = 0
  | [] => by simp [lastT]
  | b :: l => by
    have ih := lastT_zero l
    rw [lastT_cons, List.count_cons]
    split
    · rename_i h
      rw [ih.1 h]
      cases b <;> simp
    · rename_i h
      constructor
      · intro e; omega
      · intro e
        have : l.count true = 0 := by omega
        exact absurd (ih.2 this) h
theorem left_pos (c : List Bool) (j : Nat) : 0 < (c.drop j).count true ↔ j < lastT c := by
  have h1 := lastT_drop c j
  have h2 := lastT_zero (c.drop j)
  omega
theorem left_next (c : List Bool) (j : Nat) (hj : j < c.length) : (c.drop j).count true = (c.drop (j + 1)).count true + if c.getD j false then 1 else 0 := by
  rw [List.drop_eq_getElem_cons hj, List.count_cons, List.getD_eq_getElem?_getD, List.getElem?_eq_getElem hj]
  simp
theorem lastT_at : ∀ c : List Bool, 0 < lastT c → c.getD (lastT c - 1) false = true
  | [], h => by simp [lastT] at h
  | b :: l, h => by
    rw [lastT_cons] at h ⊢
    split
    · rename_i h0
      rw [if_pos h0] at h
      cases b with
      | true => rfl
      | false => simp at h
    · rename_i h0
      have := lastT_at l (by omega)
      rw [show lastT l + 1 - 1 = (lastT l - 1) + 1 by omega]
      simpa using this
/-- all that are missing: up to the farthest that came, itself not among them -/
theorem miss_last (m : Int) (t : Ti) : missN m t.vr t.came (lastT t.came) = missT m t := by
  have e : missT m t = missN m t.vr t.came (lastT t.came - 1) := rfl
  by_cases h : lastT t.came = 0
  · rw [e, h]
  · rw [e]
    have := missN_next m t.vr t.came (lastT t.came - 1)
    rw [lastT_at t.came (by omega), show lastT t.came - 1 + 1 = lastT t.came by omega] at this
    rw [this]
    simp
end Go.Proofs.Ytmokibjeanbabaa
