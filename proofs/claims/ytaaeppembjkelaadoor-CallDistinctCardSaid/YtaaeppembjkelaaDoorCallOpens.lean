/-
What opening an argument that is a call, two marks or a slice of calls gives.
-/
import Derived.Test.YtaaeppembjkelaaDoorCallDistW
import Derived.Test.YtaaeppembjkelaaDoorRows
import Derived.ProofKit
import Derived.SizedLaws
import Derived.Lib.SmallJoins
import Derived.Deep.Slices
import Derived.Deep.Fields
import Derived.Deep.Strs
namespace Go.Proofs.YtaaeppembjkelaaDoor
open Go.ChangeShapes Go.WideShapes Go.ChangeAt Go.RowKit Go.Joins Go.Deep Go.Sort
set_option maxRecDepth 100000
theorem Tryd.own : ownKnob Tryd.prog.godebug = none := by kernel_rfl
theorem Tryd.laidOut : laidOutB Tryd.prog = true := by kernel_rfl
theorem Tryd.cellsCall : Tryd.prog.cellsOf 23 = 2 := by kernel_rfl
theorem Tryd.cellsMarks : Tryd.prog.cellsOf 34 = 2 := by kernel_rfl
/-- a call that came in -/
theorem open_call {H : Type} {enc : TypeId × Value → H} {w : World} {base b0 : Nat} {spare : Nat → Bool} {held : Bool} {r : Reach} {v : Value} {d : DataW H} {ps : List MemPlace}
    (hv : Value.okWide Tryd.prog w r b0 23 v) (h : DataW.Trod enc Tryd.prog w base spare held 23 v d ps) : ps = [] ∧ ∃ (b : ByteArray) (n : Int), v = .agg #[.string b, .int .i64 n] ∧ d = .agg [.lit (.string b.data.toList), .lit (.int .i64 n)] ∧ b.size ≤ maxLen := by
  obtain ⟨c0, c1, y0, y1, m, rfl, rfl, rfl, hy0, hy1⟩ := open_agg2 Tryd.underlying23 (by kernel_rfl) Tryd.cellsCall hv h
  obtain ⟨s, e0, rfl, ws⟩ := DataW.trod_string Tryd.underlying9 hy0
  obtain ⟨n, e1, rfl, _⟩ := DataW.trod_int Tryd.underlying3 hy1
  simp at e0 e1
  subst e0 e1
  exact ⟨rfl, s, n, rfl, rfl, ws⟩
/-- a call's letters lie within the reach -/
theorem sized_call {H : Type} {ts : List TypeId} {ds : List (DataW H)} (h : (DataW.weightsEach Tryd.prog ts ds).all (· ≤ reachBytes) = true) {j : Nat} {b : ByteArray} {n : Int}
    (ht : ts[j]? = some 23) (hd : ds[j]? = some (.agg [.lit (.string b.data.toList), .lit (.int .i64 n)])) : b.size ≤ 140737488351232 := by
  have hm := List.all_eq_true.1 h _ (DataW.weights_mem_each ht hd b.data.toList.length (by
    simp only [DataW.weights, Tryd.underlying23]
    simp [DataW.weightsEach, DataW.weights]))
  have h2 : b.data.toList.length ≤ reachBytes := of_decide_eq_true hm
  have h3 : b.data.toList.length = b.size := by simp
  rw [h3] at h2
  exact h2
/-- two marks that came in -/
theorem open_marks {H : Type} {enc : TypeId × Value → H} {w : World} {base b0 : Nat} {spare : Nat → Bool} {held : Bool} {r : Reach} {v : Value} {d : DataW H} {ps : List MemPlace}
    (hv : Value.okWide Tryd.prog w r b0 34 v) (h : DataW.Trod enc Tryd.prog w base spare held 34 v d ps) : ps = [] ∧ ∃ (x y : Bool), v = .agg #[.bool x, .bool y] := by
  obtain ⟨c0, c1, y0, y1, m, rfl, rfl, rfl, hy0, hy1⟩ := open_agg2 Tryd.underlying34 (by kernel_rfl) Tryd.cellsMarks hv h
  obtain ⟨x, e0, rfl⟩ := DataW.trod_bool Tryd.underlying4 hy0
  obtain ⟨y, e1, rfl⟩ := DataW.trod_bool Tryd.underlying4 hy1
  simp at e0 e1
  subst e0 e1
  exact ⟨rfl, x, y, rfl⟩
/-- two cells that read as a call -/
theorem call_cells {H : Type} {enc : TypeId × Value → H} {w : World} {base n : Nat} {spare : Nat → Bool} {held : Bool} {f0 f1 : Field} {cs : List Value} {y : DataW H × List MemPlace}
    (hs : Tryd.prog.underlying 23 = some (.struct #[f0, f1])) (hone : oneCellFields Tryd.prog #[f0, f1] = true) (t0 : f0.type = 9) (t1 : f1.type = 3)
    (h : DataW.trod enc Tryd.prog w base spare held n 23 cs = some y) : ∃ r : ByteArray × Int, cs = [.string r.1, .int .i64 r.2] := by
  obtain ⟨y0, y1, m, _, hl, g0, g1⟩ := trod_struct2 hs h
  obtain ⟨o0, k0⟩ := hone_of hone 0 f0 rfl
  obtain ⟨o1, k1⟩ := hone_of hone 1 f1 rfl
  rw [o0, k0, t0] at g0
  rw [o1, k1, t1] at g1
  rw [Tryd.cellsCall] at hl
  match cs, hl with
  | [v0, v1], _ =>
    obtain ⟨s, e0, _, _⟩ := DataW.trod_string Tryd.underlying9 (show DataW.trod enc Tryd.prog w base spare held m 9 [v0] = some y0 from g0)
    obtain ⟨p, e1, _, _⟩ := DataW.trod_int Tryd.underlying3 (show DataW.trod enc Tryd.prog w base spare held m 3 [v1] = some y1 from g1)
    simp only [List.cons.injEq, and_true] at e0 e1
    exact ⟨⟨s, p⟩, by rw [e0, e1]⟩
instance : Inhabited (ByteArray × Int) := ⟨⟨ByteArray.empty, 0⟩⟩
/-- a slice of calls that came in -/
theorem open_calls {H : Type} {enc : TypeId × Value → H} {w : World} {fuel : Nat} {a0 : Option Addr} {len cap : Nat} {x : DataW H × List MemPlace} (h : DataW.trod enc Tryd.prog w 0 (fun _ => true) true fuel 45 [.slice a0 len cap] = some x) :
    len ≤ cap ∧ (len = 0 ∨ ∃ (C : List (ByteArray × Int)) (lb off : Nat), C.length = len ∧ a0 = some ⟨lb, off, none⟩ ∧ lb < w.heap.size ∧ SAt w lb off C) := by
  rcases open_slice Tryd.underlying45 h with ⟨hcs, _⟩ | ⟨a, len', cap', m, n, D, Pl, hcs, _, hl, _, hm, _, hi⟩
  · simp at hcs
    obtain ⟨rfl, rfl, rfl⟩ := hcs
    exact ⟨Nat.le_refl _, Or.inl rfl⟩
  · simp at hcs
    obtain ⟨rfl, rfl, rfl⟩ := hcs
    simp only [if_true] at hm
    refine ⟨hl, ?_⟩
    by_cases hz : len = 0
    · exact Or.inl hz
    right
    have each : ∀ i, i < len → ∃ r : ByteArray × Int, w.cell? (a.add (i * 2)) = some (.string r.1) ∧ w.cell? (a.add (i * 2 + 1)) = some (.int .i64 r.2) := by
      intro i hlt
      obtain ⟨cs', hc, ht⟩ := hi i (by omega)
      obtain ⟨r, hr⟩ := call_cells Tryd.underlying23 (by kernel_rfl) rfl rfl ht
      rw [Tryd.cellsCall] at hc
      obtain ⟨_, _, hat⟩ := World.cells?_some hc
      have q0 := hat 0 (by omega)
      have q1 := hat 1 (by omega)
      rw [add_add, hr] at q0 q1
      exact ⟨r, q0, q1⟩
    obtain ⟨R, hR⟩ := choose_lt each
    obtain ⟨b, off, spot⟩ := a
    have hspot : spot = none := by simpa [Addr.add] using World.cell?_spot (hR 0 (by omega)).1
    subst hspot
    have hat : ∀ k, k < len → w.cell? ⟨b, off + k * 2, none⟩ = some (.string (R k).1) ∧ w.cell? ⟨b, off + k * 2 + 1, none⟩ = some (.int .i64 (R k).2) := fun k hk => by
      obtain ⟨q0, q1⟩ := hR k hk
      rw [add_plain] at q0 q1
      exact ⟨q0, by rw [Nat.add_assoc]; exact q1⟩
    refine ⟨(List.range len).map R, b, off, by simp, rfl, World.block_lt_of_cell? w ⟨b, off + 0 * 2, none⟩ (hat 0 (by omega)).1, fun k hk => ?_⟩
    have hk2 : k < len := by simpa using hk
    obtain ⟨q0, q1⟩ := hat k hk2
    exact ⟨by simpa using q0, by simpa using q1⟩
end Go.Proofs.YtaaeppembjkelaaDoor
