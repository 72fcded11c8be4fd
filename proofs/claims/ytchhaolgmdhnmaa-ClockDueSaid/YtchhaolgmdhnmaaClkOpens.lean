/-
What is handed in: a name, a slice of ops.
-/
import Derived.Test.YtchhaolgmdhnmaaOpenList
import Derived.Test.YtchhaolgmdhnmaaClkPure
namespace Go.Proofs.Ytchhaolgmdhnmaa
open Go.ChangeShapes Go.WideShapes Go.ChangeAt Go.RowKit Go.Joins Go.Deep
/-- an op: which, how many ticks, and a name -/
structure Op13 where
  c : Int
  t : Int
  k : Int
  n : Int
/-- ops -/
def encO : Enc Op13 := ⟨4, by omega, fun o => [.int .i64 o.c, .int .i64 o.t, .int .i64 o.k, .int .i64 o.n], fun _ => rfl, fun _ u hu => by
  simp only [List.mem_cons, List.not_mem_nil, or_false] at hu
  rcases hu with rfl | rfl | rfl | rfl <;> rfl⟩
theorem Try.cellsNm : Try.prog.cellsOf 31 = 2 := by kernel_rfl
theorem Try.cellsOp13 : Try.prog.cellsOf 33 = 4 := by kernel_rfl
theorem nm_cells {H : Type} {enc : TypeId × Value → H} {w : World} {base n : Nat} {spare : Nat → Bool} {held : Bool} {cs : List Value} {y : DataW H × List MemPlace}
    (h : DataW.trod enc Try.prog w base spare held n 31 cs = some y) : ∃ r s : Int, cs = [.int .i64 r, .int .i64 s] := by
  obtain ⟨xs, m, _, _, hl, hlen, hf⟩ := DataW.trod_struct Try.underlying31 h
  rw [Try.cellsNm] at hl
  have e1 : Try.prog.cellsOf 3 = 1 := by kernel_rfl
  match cs, xs, hl, hlen with
  | [v0, v1], [y0, y1], _, _ =>
    have g0 := hf 0 _ rfl
    have g1 := hf 1 _ rfl
    simp [e1] at g0 g1
    obtain ⟨r, q0, _, _⟩ := DataW.trod_int Try.underlying3 g0
    obtain ⟨s, q1, _, _⟩ := DataW.trod_int Try.underlying3 g1
    simp at q0 q1
    subst q0 q1
    exact ⟨r, s, rfl⟩
theorem op_cells {H : Type} {enc : TypeId × Value → H} {w : World} {base n : Nat} {spare : Nat → Bool} {held : Bool} {cs : List Value} {y : DataW H × List MemPlace} (hcs : cs.length = 4)
    (h : DataW.trod enc Try.prog w base spare held n 33 cs = some y) : ∃ a : Op13, cs = encO.enc a ∧ True := by
  obtain ⟨xs, m, _, _, hl, hlen, hf⟩ := DataW.trod_struct Try.underlying33 h
  have e1 : Try.prog.cellsOf 3 = 1 := by kernel_rfl
  match cs, xs, hcs, hlen with
  | [v0, v1, v2, v3], [y0, y1, y2], _, _ =>
    have g0 := hf 0 _ rfl
    have g1 := hf 1 _ rfl
    have g2 := hf 2 _ rfl
    simp [e1, Try.cellsNm] at g0 g1 g2
    obtain ⟨r, q0, _, _⟩ := DataW.trod_int Try.underlying3 g0
    obtain ⟨s, q1, _, _⟩ := DataW.trod_int Try.underlying3 g1
    obtain ⟨a, b, q2⟩ := nm_cells g2
    simp at q0 q1 q2
    obtain ⟨rfl, rfl⟩ := q2
    subst q0 q1
    exact ⟨⟨r, s, a, b⟩, rfl, trivial⟩
theorem open_ops {H : Type} {enc : TypeId × Value → H} {w : World} {fuel : Nat} {a0 : Option Addr} {len cap : Nat} {x : DataW H × List MemPlace} (h : DataW.trod enc Try.prog w 0 (fun _ => true) true fuel 22 [.slice a0 len cap] = some x) :
    ∃ L : List Op13, L.length = len ∧ AtL encO w a0 L ∧ ∀ y ∈ L, True :=
  haveI : Inhabited Op13 := ⟨⟨0, 0, 0, 0⟩⟩
  open_list encO (fun _ => True) Try.underlying22 (by kernel_rfl) (fun _ _ _ hl ht => op_cells hl ht) h
/-- a name by value -/
theorem open_nm {H : Type} {enc : TypeId × Value → H} {w : World} {base b0 : Nat} {spare : Nat → Bool} {held : Bool} {r : Reach} {v : Value} {d : DataW H} {ps : List MemPlace}
    (hv : Value.okWide Try.prog w r b0 31 v) (h : DataW.Trod enc Try.prog w base spare held 31 v d ps) : ps = [] ∧ ∃ k n : Int, v = .agg #[.int .i64 k, .int .i64 n] := by
  obtain ⟨cs, rfl, hsz⟩ := okWide_struct Try.underlying31 hv
  obtain ⟨c0, c1, rfl⟩ := array_two' (hsz.trans Try.cellsNm)
  obtain ⟨fuel, hf⟩ := h
  obtain ⟨k, n, hc⟩ := nm_cells hf
  obtain ⟨xs, m, _, hx, hl, hlen, hq⟩ := DataW.trod_struct Try.underlying31 hf
  simp [Value.cells] at hc
  obtain ⟨rfl, rfl⟩ := hc
  refine ⟨?_, k, n, rfl⟩
  have e1 : Try.prog.cellsOf 3 = 1 := by kernel_rfl
  match xs, hlen, hx, hq with
  | [y0, y1], _, hx, hq =>
    have g0 := hq 0 _ rfl
    have g1 := hq 1 _ rfl
    simp [Value.cells, e1] at g0 g1
    obtain ⟨_, _, rfl, _⟩ := DataW.trod_int Try.underlying3 g0
    obtain ⟨_, _, rfl, _⟩ := DataW.trod_int Try.underlying3 g1
    simp only [Prod.mk.injEq] at hx
    simpa using hx.2
end Go.Proofs.Ytchhaolgmdhnmaa
