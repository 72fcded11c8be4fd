/-
What is handed in: an op, a slice of ops, parameters.
-/
import Derived.Test.YtofodlaebhjneaaOpenList
import Derived.Test.YtofodlaebhjneaaTncPar
namespace Go.Proofs.Ytofodlaebhjneaa
open Go.ChangeShapes Go.WideShapes Go.ChangeAt Go.RowKit Go.Joins Go.Deep
/-- an op: parameters, whether frames wait, whether it is busy, a draw -/
structure Op17 where
  p : Par
  w : Bool
  b : Bool
  d : Int
abbrev opV17 (o : Op17) : List Value := [.int .i64 o.p.a, .int .i64 o.p.b, .int .i64 o.p.c, .int .i64 o.p.d, .bool o.p.f, .bool o.w, .bool o.b, .int .i64 o.d]
/-- ops -/
def encO17 : Enc Op17 := ⟨8, by omega, opV17, fun _ => rfl, fun _ u hu => by
  simp only [opV17, List.mem_cons, List.not_mem_nil, or_false] at hu
  rcases hu with rfl | rfl | rfl | rfl | rfl | rfl | rfl | rfl <;> rfl⟩
theorem Try.cellsOp17 : Try.prog.cellsOf 29 = 8 := by kernel_rfl
theorem Try.cellsPar17 : Try.prog.cellsOf 27 = 5 := by kernel_rfl
theorem par_cells17 {H : Type} {enc : TypeId × Value → H} {w : World} {base n : Nat} {spare : Nat → Bool} {held : Bool} {cs : List Value} {y : DataW H × List MemPlace} (hcs : cs.length = 5)
    (h : DataW.trod enc Try.prog w base spare held n 27 cs = some y) : (∃ p : Par, cs = [.int .i64 p.a, .int .i64 p.b, .int .i64 p.c, .int .i64 p.d, .bool p.f]) ∧ y.2 = [] := by
  obtain ⟨xs, m, _, hy, hl, hlen, hf⟩ := DataW.trod_struct Try.underlying27 h
  have e1 : Try.prog.cellsOf 3 = 1 := by kernel_rfl
  have e2 : Try.prog.cellsOf 4 = 1 := by kernel_rfl
  match cs, xs, hcs, hlen, hy, hf with
  | [v0, v1, v2, v3, v4], [y0, y1, y2, y3, y4], _, _, hy, hf =>
    have g0 := hf 0 _ rfl
    have g1 := hf 1 _ rfl
    have g2 := hf 2 _ rfl
    have g3 := hf 3 _ rfl
    have g4 := hf 4 _ rfl
    simp [e1, e2] at g0 g1 g2 g3 g4
    obtain ⟨a, q0, r0, _⟩ := DataW.trod_int Try.underlying3 g0
    obtain ⟨b, q1, r1, _⟩ := DataW.trod_int Try.underlying3 g1
    obtain ⟨c, q2, r2, _⟩ := DataW.trod_int Try.underlying3 g2
    obtain ⟨d, q3, r3, _⟩ := DataW.trod_int Try.underlying3 g3
    obtain ⟨e, q4, r4⟩ := DataW.trod_bool Try.underlying4 g4
    simp at q0 q1 q2 q3 q4
    subst q0 q1 q2 q3 q4 r0 r1 r2 r3 r4
    exact ⟨⟨⟨a, b, c, d, e⟩, rfl⟩, by simp [hy]⟩
theorem op_cells17 {H : Type} {enc : TypeId × Value → H} {w : World} {base n : Nat} {spare : Nat → Bool} {held : Bool} {cs : List Value} {y : DataW H × List MemPlace} (hcs : cs.length = 8)
    (h : DataW.trod enc Try.prog w base spare held n 29 cs = some y) : (∃ a : Op17, cs = encO17.enc a ∧ True) ∧ y.2 = [] := by
  obtain ⟨xs, m, _, hy, hl, hlen, hf⟩ := DataW.trod_struct Try.underlying29 h
  have e1 : Try.prog.cellsOf 3 = 1 := by kernel_rfl
  have e2 : Try.prog.cellsOf 4 = 1 := by kernel_rfl
  match cs, xs, hcs, hlen, hy, hf with
  | [v0, v1, v2, v3, v4, v5, v6, v7], [y0, y1, y2, y3], _, _, hy, hf =>
    have g0 := hf 0 _ rfl
    have g1 := hf 1 _ rfl
    have g2 := hf 2 _ rfl
    have g3 := hf 3 _ rfl
    simp [e1, e2, Try.cellsPar17] at g0 g1 g2 g3
    obtain ⟨⟨p, q0⟩, r0⟩ := par_cells17 rfl g0
    obtain ⟨b, q1, r1⟩ := DataW.trod_bool Try.underlying4 g1
    obtain ⟨c, q2, r2⟩ := DataW.trod_bool Try.underlying4 g2
    obtain ⟨d, q3, r3, _⟩ := DataW.trod_int Try.underlying3 g3
    simp at q0 q1 q2 q3
    obtain ⟨rfl, rfl, rfl, rfl, rfl⟩ := q0
    subst q1 q2 q3 r1 r2 r3
    exact ⟨⟨⟨p, b, c, d⟩, rfl, trivial⟩, by simp [hy, r0]⟩
theorem open_ops17 {H : Type} {enc : TypeId × Value → H} {w : World} {fuel : Nat} {a0 : Option Addr} {len cap : Nat} {x : DataW H × List MemPlace} (h : DataW.trod enc Try.prog w 0 (fun _ => true) true fuel 22 [.slice a0 len cap] = some x) :
    ∃ L : List Op17, L.length = len ∧ AtL encO17 w a0 L ∧ ∀ y ∈ L, True :=
  haveI : Inhabited Op17 := ⟨⟨⟨0, 0, 0, 0, false⟩, false, false, 0⟩⟩
  open_list encO17 (fun _ => True) Try.underlying22 (by kernel_rfl) (fun _ _ _ hl ht => (op_cells17 hl ht).1) h
/-- an op by value -/
theorem open_op17 {H : Type} {enc : TypeId × Value → H} {w : World} {base b0 : Nat} {spare : Nat → Bool} {held : Bool} {r : Reach} {v : Value} {d : DataW H} {ps : List MemPlace}
    (hv : Value.okWide Try.prog w r b0 29 v) (h : DataW.Trod enc Try.prog w base spare held 29 v d ps) : ps = [] ∧ ∃ o : Op17, v = .agg (opV17 o).toArray := by
  obtain ⟨cs, rfl, hsz⟩ := okWide_struct Try.underlying29 hv
  rw [Try.cellsOp17] at hsz
  obtain ⟨fuel, hf⟩ := h
  obtain ⟨⟨o, ho, -⟩, hp⟩ := op_cells17 (by simpa [Value.cells] using hsz) hf
  refine ⟨hp, o, ?_⟩
  have : cs = (opV17 o).toArray := Array.toList_inj.1 (by simpa [Value.cells, encO17] using ho)
  rw [this]
/-- parameters by value -/
theorem open_par17 {H : Type} {enc : TypeId × Value → H} {w : World} {base b0 : Nat} {spare : Nat → Bool} {held : Bool} {r : Reach} {v : Value} {d : DataW H} {ps : List MemPlace}
    (hv : Value.okWide Try.prog w r b0 27 v) (h : DataW.Trod enc Try.prog w base spare held 27 v d ps) : ps = [] ∧ ∃ p : Par, v = p.v := by
  obtain ⟨cs, rfl, hsz⟩ := okWide_struct Try.underlying27 hv
  rw [Try.cellsPar17] at hsz
  obtain ⟨fuel, hf⟩ := h
  obtain ⟨⟨p, ho⟩, hp⟩ := par_cells17 (by simpa [Value.cells] using hsz) hf
  refine ⟨hp, p, ?_⟩
  have : cs = #[.int .i64 p.a, .int .i64 p.b, .int .i64 p.c, .int .i64 p.d, .bool p.f] := Array.toList_inj.1 (by simpa [Value.cells] using ho)
  rw [this]
  rfl
end Go.Proofs.Ytofodlaebhjneaa
