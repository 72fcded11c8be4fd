/-
What is handed in: an op, a slice of ops (written by tools/opgen.py).
-/
import Derived.Test.YtchjljmcgjlkiaaOpenList
namespace Go.Proofs.Ytchjljmcgjlkiaa
open Go.ChangeShapes Go.WideShapes Go.ChangeAt Go.RowKit Go.Joins Go.Deep
/-- an op -/
structure Op19 where
  k : Int
  pid : Int
  text : ByteArray
abbrev opV19 (o : Op19) : List Value := [.int .i64 o.k, .int .i64 o.pid, .string o.text]
def encO19 : Enc Op19 := ⟨3, by omega, opV19, fun _ => rfl, fun _ u hu => by
  simp only [opV19, List.mem_cons, List.not_mem_nil, or_false] at hu
  rcases hu with rfl | rfl | rfl <;> rfl⟩
theorem Try.cellsOp19 : Try.prog.cellsOf 32 = 3 := by kernel_rfl
theorem op_cells19 {H : Type} {enc : TypeId × Value → H} {w : World} {base n : Nat} {spare : Nat → Bool} {held : Bool} {cs : List Value} {y : DataW H × List MemPlace} (hcs : cs.length = 3)
    (h : DataW.trod enc Try.prog w base spare held n 32 cs = some y) : (∃ a : Op19, cs = encO19.enc a ∧ True) ∧ y.2 = [] := by
  obtain ⟨xs, m, _, hy, hl, hlen, hf⟩ := DataW.trod_struct Try.underlying32 h
  have eint : Try.prog.cellsOf 3 = 1 := by kernel_rfl
  have estring : Try.prog.cellsOf 9 = 1 := by kernel_rfl
  match cs, xs, hcs, hlen, hy, hf with
  | [v0, v1, v2], [y0, y1, y2], _, _, hy, hf =>
    have g0 := hf 0 _ rfl
    have g1 := hf 1 _ rfl
    have g2 := hf 2 _ rfl
    simp [eint, estring] at g0 g1 g2
    obtain ⟨a0, q0, r0, _⟩ := DataW.trod_int Try.underlying3 g0
    obtain ⟨a1, q1, r1, _⟩ := DataW.trod_int Try.underlying3 g1
    obtain ⟨a2, q2, r2, _⟩ := DataW.trod_string Try.underlying9 g2
    simp at q0 q1 q2
    subst q0 q1 q2 r0 r1 r2
    exact ⟨⟨⟨a0, a1, a2⟩, rfl, trivial⟩, by simp [hy]⟩
theorem open_ops19 {H : Type} {enc : TypeId × Value → H} {w : World} {fuel : Nat} {a0 : Option Addr} {len cap : Nat} {x : DataW H × List MemPlace} (h : DataW.trod enc Try.prog w 0 (fun _ => true) true fuel 22 [.slice a0 len cap] = some x) :
    ∃ L : List Op19, L.length = len ∧ AtL encO19 w a0 L ∧ ∀ y ∈ L, True :=
  haveI : Inhabited Op19 := ⟨⟨0, 0, ⟨#[]⟩⟩⟩
  open_list encO19 (fun _ => True) Try.underlying22 (by kernel_rfl) (fun _ _ _ hl ht => (op_cells19 hl ht).1) h
/-- an op by value -/
theorem open_op19 {H : Type} {enc : TypeId × Value → H} {w : World} {base b0 : Nat} {spare : Nat → Bool} {held : Bool} {r : Reach} {v : Value} {d : DataW H} {ps : List MemPlace}
    (hv : Value.okWide Try.prog w r b0 32 v) (h : DataW.Trod enc Try.prog w base spare held 32 v d ps) : ps = [] ∧ ∃ o : Op19, v = .agg #[.int .i64 o.k, .int .i64 o.pid, .string o.text] := by
  obtain ⟨cs, rfl, hsz⟩ := okWide_struct Try.underlying32 hv
  rw [Try.cellsOp19] at hsz
  obtain ⟨fuel, hf⟩ := h
  obtain ⟨⟨o, ho, -⟩, hp⟩ := op_cells19 (by simpa [Value.cells] using hsz) hf
  refine ⟨hp, o, ?_⟩
  have : cs = #[.int .i64 o.k, .int .i64 o.pid, .string o.text] := Array.toList_inj.1 (by simpa [Value.cells, encO19] using ho)
  rw [this]
theorem AtL.op19 {w : World} {g o : Nat} {L : List Op19} (h : AtL encO19 w (some ⟨g, o, none⟩) L) (i : Nat) (hi : i < L.length) :
    w.cell? ⟨g, o + i * 3, none⟩ = some (.int .i64 L[i].k) ∧ w.cell? ⟨g, o + i * 3 + 1, none⟩ = some (.int .i64 L[i].pid) ∧ w.cell? ⟨g, o + i * 3 + 2, none⟩ = some (.string L[i].text) := by
  have h0 := h.get i hi 0 (u := .int .i64 L[i].k) rfl
  have h1 := h.get i hi 1 (u := .int .i64 L[i].pid) rfl
  have h2 := h.get i hi 2 (u := .string L[i].text) rfl
  simp only [Nat.add_zero] at h0 h1 h2
  exact ⟨h0, h1, h2⟩
end Go.Proofs.Ytchjljmcgjlkiaa
