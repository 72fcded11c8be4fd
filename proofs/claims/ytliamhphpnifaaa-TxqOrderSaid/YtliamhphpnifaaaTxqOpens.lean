/-
What is handed in: an op, a slice of ops.
-/
import Derived.Test.YtliamhphpnifaaaOpenList
namespace Go.Proofs.Ytliamhphpnifaaa
open Go.ChangeShapes Go.WideShapes Go.ChangeAt Go.RowKit Go.Joins Go.Deep
/-- an op: which, two numbers, a key, a frame -/
structure Op16 where
  k : Int
  n : Int
  m : Int
  key : Int
  fr : ByteArray
/-- ops -/
def encO : Enc Op16 := ⟨5, by omega, fun o => [.int .i64 o.k, .int .i64 o.n, .int .i64 o.m, .int .i64 o.key, .string o.fr], fun _ => rfl, fun _ u hu => by
  simp only [List.mem_cons, List.not_mem_nil, or_false] at hu
  rcases hu with rfl | rfl | rfl | rfl | rfl <;> rfl⟩
theorem Try.cellsOp16 : Try.prog.cellsOf 32 = 5 := by kernel_rfl
theorem op_cells {H : Type} {enc : TypeId × Value → H} {w : World} {base n : Nat} {spare : Nat → Bool} {held : Bool} {cs : List Value} {y : DataW H × List MemPlace} (hcs : cs.length = 5)
    (h : DataW.trod enc Try.prog w base spare held n 32 cs = some y) : (∃ a : Op16, cs = encO.enc a ∧ True) ∧ y.2 = [] := by
  obtain ⟨xs, m, _, hy, hl, hlen, hf⟩ := DataW.trod_struct Try.underlying32 h
  have e1 : Try.prog.cellsOf 3 = 1 := by kernel_rfl
  have e2 : Try.prog.cellsOf 9 = 1 := by kernel_rfl
  match cs, xs, hcs, hlen, hy, hf with
  | [v0, v1, v2, v3, v4], [y0, y1, y2, y3, y4], _, _, hy, hf =>
    have g0 := hf 0 _ rfl
    have g1 := hf 1 _ rfl
    have g2 := hf 2 _ rfl
    have g3 := hf 3 _ rfl
    have g4 := hf 4 _ rfl
    simp [e1, e2] at g0 g1 g2 g3 g4
    obtain ⟨a, q0, r0, _⟩ := DataW.trod_int Try.underlying3 g0
    obtain ⟨b, q1, r1, _⟩ := DataW.trod_int Try.underlying3 g1
    obtain ⟨c, q2, r2, _⟩ := DataW.trod_int Try.underlying3 g2
    obtain ⟨d, q3, r3, _⟩ := DataW.trod_int Try.underlying3 g3
    obtain ⟨e, q4, r4, _⟩ := DataW.trod_string Try.underlying9 g4
    simp at q0 q1 q2 q3 q4
    subst q0 q1 q2 q3 q4 r0 r1 r2 r3 r4
    exact ⟨⟨⟨a, b, c, d, e⟩, rfl, trivial⟩, by simp [hy]⟩
theorem open_ops {H : Type} {enc : TypeId × Value → H} {w : World} {fuel : Nat} {a0 : Option Addr} {len cap : Nat} {x : DataW H × List MemPlace} (h : DataW.trod enc Try.prog w 0 (fun _ => true) true fuel 22 [.slice a0 len cap] = some x) :
    ∃ L : List Op16, L.length = len ∧ AtL encO w a0 L ∧ ∀ y ∈ L, True :=
  haveI : Inhabited Op16 := ⟨⟨0, 0, 0, 0, ⟨#[]⟩⟩⟩
  open_list encO (fun _ => True) Try.underlying22 (by kernel_rfl) (fun _ _ _ hl ht => (op_cells hl ht).1) h
/-- an op by value -/
theorem open_op {H : Type} {enc : TypeId × Value → H} {w : World} {base b0 : Nat} {spare : Nat → Bool} {held : Bool} {r : Reach} {v : Value} {d : DataW H} {ps : List MemPlace}
    (hv : Value.okWide Try.prog w r b0 32 v) (h : DataW.Trod enc Try.prog w base spare held 32 v d ps) : ps = [] ∧ ∃ o : Op16, v = .agg #[.int .i64 o.k, .int .i64 o.n, .int .i64 o.m, .int .i64 o.key, .string o.fr] := by
  obtain ⟨cs, rfl, hsz⟩ := okWide_struct Try.underlying32 hv
  rw [Try.cellsOp16] at hsz
  obtain ⟨fuel, hf⟩ := h
  obtain ⟨⟨o, ho, -⟩, hp⟩ := op_cells (by simpa [Value.cells] using hsz) hf
  refine ⟨hp, o, ?_⟩
  have : cs = #[.int .i64 o.k, .int .i64 o.n, .int .i64 o.m, .int .i64 o.key, .string o.fr] := Array.toList_inj.1 (by simpa [Value.cells, encO] using ho)
  rw [this]
end Go.Proofs.Ytliamhphpnifaaa
