/-
What opening an argument that is a path, a call or a slice of calls gives.
-/
import Derived.Test.YteiappicdnekoaaDoorPathEnts
import Derived.Test.YteiappicdnekoaaDoorRows
import Derived.ProofKit
import Derived.SizedLaws
import Derived.Lib.SmallJoins
import Derived.Deep.Slices
import Derived.Deep.Fields
import Derived.Deep.Strs
namespace Go.Proofs.YteiappicdnekoaaDoor
open Go.ChangeShapes Go.WideShapes Go.ChangeAt Go.RowKit Go.Joins Go.Deep Go.Sort
set_option maxRecDepth 100000
theorem Tryd.own : ownKnob Tryd.prog.godebug = none := by kernel_rfl
theorem Tryd.laidOut : laidOutB Tryd.prog = true := by kernel_rfl
theorem Tryd.cellsCall : Tryd.prog.cellsOf 23 = 2 := by kernel_rfl
theorem Tryd.cellsDigi : Tryd.prog.cellsOf 65 = 3 := by kernel_rfl
theorem Tryd.cellsPath : Tryd.prog.cellsOf 26 = 7 := by kernel_rfl
/-- two cells that read as a call -/
theorem call_cells {H : Type} {enc : TypeId × Value → H} {w : World} {base n : Nat} {spare : Nat → Bool} {held : Bool} {f0 f1 : Field} {cs : List Value} {y : DataW H × List MemPlace}
    (hs : Tryd.prog.underlying 23 = some (.struct #[f0, f1])) (hone : oneCellFields Tryd.prog #[f0, f1] = true) (t0 : f0.type = 9) (t1 : f1.type = 3)
    (h : DataW.trod enc Tryd.prog w base spare held n 23 cs = some y) : ∃ r : ByteArray × Int, cs = [.string r.1, .int .i64 r.2] ∧ y = (.agg [.lit (.string r.1.data.toList), .lit (.int .i64 r.2)], []) := by
  obtain ⟨y0, y1, m, hy, hl, g0, g1⟩ := trod_struct2 hs h
  obtain ⟨o0, k0⟩ := hone_of hone 0 f0 rfl
  obtain ⟨o1, k1⟩ := hone_of hone 1 f1 rfl
  rw [o0, k0, t0] at g0
  rw [o1, k1, t1] at g1
  rw [Tryd.cellsCall] at hl
  match cs, hl with
  | [v0, v1], _ =>
    obtain ⟨s, e0, q0, _⟩ := DataW.trod_string Tryd.underlying9 (show DataW.trod enc Tryd.prog w base spare held m 9 [v0] = some y0 from g0)
    obtain ⟨p, e1, q1, _⟩ := DataW.trod_int Tryd.underlying3 (show DataW.trod enc Tryd.prog w base spare held m 3 [v1] = some y1 from g1)
    simp only [List.cons.injEq, and_true] at e0 e1
    exact ⟨⟨s, p⟩, by rw [e0, e1], by rw [hy, q0, q1]; rfl⟩
/-- three cells that read as an entry -/
theorem digi_cells {H : Type} {enc : TypeId × Value → H} {w : World} {base n : Nat} {spare : Nat → Bool} {held : Bool} {f0 f1 : Field} {cs : List Value} {y : DataW H × List MemPlace}
    (hs : Tryd.prog.underlying 65 = some (.struct #[f0, f1])) (o0 : f0.offset = 0) (o1 : f1.offset = 2) (t0 : f0.type = 23) (t1 : f1.type = 4)
    (h : DataW.trod enc Tryd.prog w base spare held n 65 cs = some y) : ∃ r : Ent, cs = entV r ∧ y = (.agg [.agg [.lit (.string r.1.data.toList), .lit (.int .i64 r.2.1)], .lit (.bool r.2.2)], []) := by
  obtain ⟨y0, y1, m, hy, hl, g0, g1⟩ := trod_struct2 hs h
  rw [o0, t0, Tryd.cellsCall] at g0
  rw [o1, t1, show Tryd.prog.cellsOf 4 = 1 from by kernel_rfl] at g1
  rw [Tryd.cellsDigi] at hl
  match cs, hl with
  | [v0, v1, v2], _ =>
    obtain ⟨r, e0, q0⟩ := call_cells Tryd.underlying23 (by kernel_rfl) rfl rfl (show DataW.trod enc Tryd.prog w base spare held m 23 [v0, v1] = some y0 from g0)
    obtain ⟨b, e1, q1⟩ := DataW.trod_bool Tryd.underlying4 (show DataW.trod enc Tryd.prog w base spare held m 4 [v2] = some y1 from g1)
    simp only [List.cons.injEq, and_true] at e0 e1
    refine ⟨(r.1, r.2, b), by rw [e0.1, e0.2, e1]; rfl, ?_⟩
    rw [hy, q0, q1]
    rfl
instance : Inhabited Ent := ⟨(ByteArray.empty, 0, false)⟩
/-- the letters of each entry of a slice lie within the reach -/
theorem ents_weights {H : Type} (L : List Ent) (rr : List (DataW H)) (e : Ent) (he : e ∈ L) : e.1.size ∈ DataW.weights Tryd.prog 24 (DataW.slice (L.map fun r => DataW.agg (H := H) [.agg [.lit (.string r.1.data.toList), .lit (.int .i64 r.2.1)], .lit (.bool r.2.2)]) rr) := by
  have key : ∀ (M : List Ent), e ∈ M → e.1.size ∈ DataW.weightsAll Tryd.prog 65 (M.map fun r => DataW.agg (H := H) [.agg [.lit (.string r.1.data.toList), .lit (.int .i64 r.2.1)], .lit (.bool r.2.2)]) := by
    intro M
    induction M with
    | nil => intro h; cases h
    | cons x M ih =>
      intro h
      rw [List.map_cons]
      simp only [DataW.weightsAll, List.mem_append]
      rcases List.mem_cons.1 h with h1 | h1
      · left
        subst h1
        simp [DataW.weights, DataW.weightsEach, Tryd.underlying65, Tryd.underlying23]
      · exact Or.inr (ih h1)
  simp only [DataW.weights, Tryd.underlying24, List.mem_cons, List.mem_append]
  exact Or.inr (Or.inl (key L he))
#check @DataW.weights_mem_each
end Go.Proofs.YteiappicdnekoaaDoor
