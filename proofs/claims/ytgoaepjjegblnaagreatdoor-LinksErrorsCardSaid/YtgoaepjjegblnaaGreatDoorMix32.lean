/-
What a round of the landed code's Back keeps.
The document's own Back of a path.
-/
import Derived.Test.YtgoaepjjegblnaaGreatDoorMix31
import Derived.Test.YtgoaepjjegblnaaGreatDoorMix05
import Derived.Test.YtgoaepjjegblnaaGreatDoorMix02
import Derived.BigQuiet
import Derived.Deep.QuietTactic
import Derived.Lib.SmallJoins
import Derived.Lib.ItoaNum
import Derived.BigRegion
import Derived.IntWalk
import Derived.Lib.QuietBelow
import Derived.Lib.IndexBytes
import Derived.OrdersHeld
import Derived.Deep.RegionHeld
namespace Go.Proofs.YtgoaepjjegblnaaGreatDoor
open Go.RowKit
set_option maxRecDepth 20000
theorem keeps_below {W W' : World} (h : Below W.heap.size W W') : KeepsOthers W W' := ⟨h.size, fun k _ hk _ => (h.block k (Array.getElem?_eq_some_iff.1 hk).1).trans hk⟩
theorem OwnE.cells {T : TypeId} {w : World} {B g : Nat} {v : Value} {L : List Ent} (h : OwnE T w B v L) (hv : v.ownBlock = some g) : ∀ o, w.heap[g]? = some o → o.isCells = true := by
  intro o ho
  rcases h.2 with ⟨h0, _⟩ | ⟨g', cap, cur, h0, hbg, hg, _⟩
  · rw [h0] at hv; cases hv
  · rw [h0] at hv
    obtain rfl : g' = g := Option.some.inj hv
    rw [hg] at ho
    obtain rfl := Option.some.inj ho
    rfl
theorem OwnE.kept {T : TypeId} {X Y : World} {B : Nat} {v : Value} {L : List Ent} {row : Option Nat} (h : OwnE T X B v L) (hg : X.grownBy Y row) (hr : ∀ r, row = some r → ∃ o : Obj, X.heap[r]? = some o ∧ o.isCells = false) : OwnE T Y B v L :=
  h.grown hg fun g hv e => by
    obtain ⟨o, ho, hc⟩ := hr g e
    have := h.cells hv o ho
    rw [hc] at this
    cases this
theorem KeepAt.kept {X Y : World} {m o : Nat} {u : Value} {row : Option Nat} (h : KeepAt X m o u) (hg : X.grownBy Y row) (hr : ∀ r, row = some r → ∃ o : Obj, X.heap[r]? = some o ∧ o.isCells = false) : KeepAt Y m o u :=
  ⟨cell_kept h.cell hg hr, (frozen_kept h.cell hg hr).trans h.free, Nat.lt_of_lt_of_le h.lt hg.size⟩
theorem P7.kept {X Y : World} {m : Nat} {v0 v1 v2 v3 v4 v5 v6 : Value} {row : Option Nat} (h : P7 X m v0 v1 v2 v3 v4 v5 v6) (hg : X.grownBy Y row) (hr : ∀ r, row = some r → ∃ o : Obj, X.heap[r]? = some o ∧ o.isCells = false) : P7 Y m v0 v1 v2 v3 v4 v5 v6 :=
  ⟨h.k0.kept hg hr, h.k1.kept hg hr, h.k2.kept hg hr, h.k3.kept hg hr, h.k4.kept hg hr, h.k5.kept hg hr, h.k6.kept hg hr⟩
theorem VAt.kept {w X Y : World} {m r : Nat} {tv t0 t1 t2 t3 t4 t5 : Value} {LL : List Ent} {row : Option Nat} (h : VAt w X m r tv t0 t1 t2 t3 t4 t5 LL) (hg : X.grownBy Y row) (hr : ∀ r, row = some r → w.heap.size ≤ r ∧ ∃ o : Obj, X.heap[r]? = some o ∧ o.isCells = false) : VAt w Y m r tv t0 t1 t2 t3 t4 t5 LL := by
  have hr2 := fun r e => (hr r e).2
  exact ⟨⟨cell_kept h.out.cell hg hr2, (frozen_kept h.out.cell hg hr2).trans h.out.free, h.out.own.kept hg hr2, h.out.off, h.out.bel.grown hg h.out.bel.size (fun k e => (hr k e).1), h.out.base, h.out.ge, Nat.lt_of_lt_of_le h.out.lt hg.size, Nat.le_trans h.out.bw hg.size⟩, h.p.kept hg hr2, h.res.kept hg hr2, h.rm⟩
/-- entries of calls that have come -/
def comeD (pre : List BC) : List Ent := pre.map fun x => (x.1.1, x.1.2, false)
theorem comeD_next (pre : List BC) (x : BC) : comeD (pre ++ [x]) = comeD pre ++ [(x.1.1, x.1.2, false)] := by simp [comeD]
theorem comeD_all (D : List Ent) (hS) : comeD (bcOf D hS) = D.reverse.map fun e => (e.1, e.2.1, false) := by
  unfold comeD bcOf
  rw [List.map_reverse, List.map_map, List.map_reverse]
  congr 1
  conv => rhs; rw [← List.attach_map_subtype_val D, List.map_map]
  rfl
theorem back_round {w W W3 w4 : World} {m r Bs : Nat} {tv v' t0 t1 t2 t3 t4 t5 : Value} {LL : List Ent} {b : ByteArray} {n : Int} {T : TypeId} (hV : VAt w W m r tv t0 t1 t2 t3 t4 t5 LL) (hb : Below W.heap.size W W3)
    (hown : OwnE 157 w4 (m + 1) v' (LL ++ [(b, n, false)])) (hgr : (W3.alloc (.cells #[.string b, .int .i64 n, .bool false] T)).grownBy w4 tv.ownBlock) (hov : v'.ownBlock = tv.ownBlock ∨ v'.ownBlock = some (W3.alloc (.cells #[.string b, .int .i64 n, .bool false] T)).heap.size)
    (hBs : Bs < W.heap.size) (hm : Bs ≠ m) (hne : tv.ownBlock ≠ some Bs) :
    (∃ a n c, v' = .slice a n c) ∧ P7 w4 m t0 t1 t2 t3 t4 t5 tv ∧ VAt w (w4.setCell ⟨m, 6, none⟩ v') m r v' t0 t1 t2 t3 t4 t5 (LL ++ [(b, n, false)]) ∧ KeepsOthers W (w4.setCell ⟨m, 6, none⟩ v') ∧ KB w.heap.size Bs W (w4.setCell ⟨m, 6, none⟩ v') ∧ v'.ownBlock ≠ some Bs := by
  have hV3 := (hV.below hb).alloc (.cells #[.string b, .int .i64 n, .bool false] T)
  obtain ⟨h1, h2, h3⟩ := hV3.grown hown hgr hov
  have hs3 := hb.size
  have hw := hV.out.bel.size
  have hge := hV.out.ge
  have hbx : Below w.heap.size W (W3.alloc (.cells #[.string b, .int .i64 n, .bool false] T)) := (hb.mono hw).alloc (by omega) _
  refine ⟨h1, h2, h3, ?_, ⟨?_, ?_⟩, ?_⟩
  · refine (keeps_below hb).trans ((KeepsOthers.alloc _ _).trans ((KeepsOthers.of_grownBy hgr (fun j o e ho => ?_)).trans (KeepsOthers.setCell _ _ _)))
    exact hV3.out.own.cells e o ho
  · exact (hbx.grown hgr (by simp; omega) (fun k e => by have := (hV.out.own.ge e).1; omega)).setCell (p := ⟨m, 6, none⟩) hge _
  · have e1 : (w4.setCell ⟨m, 6, none⟩ v').heap[Bs]? = w4.heap[Bs]? := by
      have := (grown_set (grown_refl w4 (some m)) (o := 6) v').block Bs (by have := hgr.size; simp at this; omega) (fun e => hm (Option.some.inj e))
      exact this
    have e2 : w4.heap[Bs]? = (W3.alloc (.cells #[.string b, .int .i64 n, .bool false] T)).heap[Bs]? := hgr.block Bs (by simp; omega) (fun e => hne e.symm)
    have e3 := ((Below.refl W3.heap.size W3).alloc (Nat.le_refl _) (.cells #[.string b, .int .i64 n, .bool false] T)).block Bs (by omega)
    rw [e1, e2, e3]
    exact hb.block Bs hBs
  · rcases hov with e | e
    · rw [e]; exact hne
    · rw [e]
      intro q
      have := Option.some.inj q
      simp at this
      omega
theorem wpIn_append_ents {F : Fence} {n : Nat} {t e : TypeId} (hinfo : (Tryz.prog.info? e).map (fun i => (i.zero, i.size, i.bytes)) = some (some (.agg #[.string ⟨#[]⟩, .int .i64 0, .bool false]), 3, 32)) (ht : Tryz.prog.underlying t = some (.slice e))
    (w : World) {o : Oper} {a : Act} {Q : Exit → Act → World → Prop} {K : Act → World → Prop} (s x : Operand) (ho : o.op = .call { callee := .builtin .append, args := #[s, x], argTypes := #[t, t] })
    (B : Nat) (v : Value) (L M : List Ent) (hs : a.eval s = v) (hown : OwnE e w B v L) (ax : Option Addr) (cx : Nat) (hx : a.eval x = .slice ax M.length cx) (hM : EntsAt w ax cx M) (hlen : L.length + M.length ≤ 100000) (hB : B ≤ w.heap.size)
    (h : ∀ v' w', OwnE e w' B v' (L ++ M) → w.grownBy w' v.ownBlock → (v'.ownBlock = v.ownBlock ∨ v'.ownBlock = some w.heap.size) → K (a.put o.dst v') w') : Oper.wpIn F n Tryz.prog o a w K Q := by
  obtain ⟨v', w', hr, h2, h3, h4⟩ := run_append_ents hinfo ht w o.type B v L M hown ax cx hM hlen hB
  unfold Oper.wpIn
  refine ⟨?_, ?_⟩
  · simp [Oper.about, ho, resolve, Target.leads, Sem.run_pure]
  · rw [Oper.semAt_plain F _ _ (by rw [ho]; intro c hc'; cases hc')]
    unfold execOp
    simp only [ho, resolve, invoke, builtin, Sem.run_bind, Sem.run_pure, Result.andThen_ok, List.map_toArray, List.map_cons, List.map_nil, hs, hx, hr]
    exact h v' w' h2 h3 h4
end Go.Proofs.YtgoaepjjegblnaaGreatDoor
namespace Go.Proofs.YtgoaepjjegblnaaGreatDoor
open Go.RowKit Go.Sort
set_option maxRecDepth 20000
/-- the digipeaters from behind, none of which has sent -/
def revD (D : List Ent) : List Ent := D.reverse.map fun e => (e.1, e.2.1, false)
end Go.Proofs.YtgoaepjjegblnaaGreatDoor
