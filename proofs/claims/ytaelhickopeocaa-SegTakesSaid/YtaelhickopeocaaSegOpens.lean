/-
What is handed in: a slice of things to do.
-/
import Derived.Test.YtaelhickopeocaaSegTakesW
import Derived.Test.YtaelhickopeocaaRows
import Derived.ProofKit
import Derived.SizedLaws
import Derived.Lib.SmallJoins
import Derived.Deep.Slices
import Derived.Deep.Fields
import Derived.Deep.Strs
import Derived.ChangeMaps5
namespace Go.Proofs.Ytaelhickopeocaa
open Go.ChangeShapes Go.WideShapes Go.ChangeAt Go.RowKit Go.Joins Go.Deep
theorem Try.ownS : ownKnob Try.prog.godebug = none := by kernel_rfl
theorem Try.laidOutS : laidOutB Try.prog = true := by kernel_rfl
theorem Try.cellsOp : Try.prog.cellsOf 42 = 3 := by kernel_rfl
/-- three cells that read as one of them -/
theorem op_cells {H : Type} {enc : TypeId × Value → H} {w : World} {base n : Nat} {spare : Nat → Bool} {held : Bool} {cs : List Value} {y : DataW H × List MemPlace}
    (h : DataW.trod enc Try.prog w base spare held n 42 cs = some y) (hl : cs.length = 3) : ∃ o : Int × Pc, cs = [.int .i64 o.1, .int .i64 o.2.pid, .string o.2.info] := by
  match cs, hl with
  | [c0, c1, c2], _ =>
    obtain ⟨xs, n, _, hx, _, hlen, hg⟩ := DataW.trod_struct Try.underlying42 h
    match xs, hlen with
    | [y0, y1], _ =>
      have e1 : Try.prog.cellsOf 3 = 1 := by kernel_rfl
      have e2 : Try.prog.cellsOf 33 = 2 := by kernel_rfl
      have e3 : Try.prog.cellsOf 9 = 1 := by kernel_rfl
      have g0 := (show DataW.trod enc Try.prog w base spare held n 3 (List.take (Try.prog.cellsOf 3) (List.drop 0 [c0, c1, c2])) = some y0 from hg 0 _ rfl)
      have g1 := (show DataW.trod enc Try.prog w base spare held n 33 (List.take (Try.prog.cellsOf 33) (List.drop 1 [c0, c1, c2])) = some y1 from hg 1 _ rfl)
      rw [e1] at g0
      rw [e2] at g1
      obtain ⟨k, q0, -, -⟩ := DataW.trod_int Try.underlying3 (show DataW.trod enc Try.prog w base spare held n 3 [c0] = some y0 from g0)
      obtain ⟨xs2, n2, _, hx2, _, hlen2, hg2⟩ := DataW.trod_struct Try.underlying33 (show DataW.trod enc Try.prog w base spare held n 33 [c1, c2] = some y1 from g1)
      match xs2, hlen2 with
      | [z0, z1], _ =>
        have k0 := (show DataW.trod enc Try.prog w base spare held n2 3 (List.take (Try.prog.cellsOf 3) (List.drop 0 [c1, c2])) = some z0 from hg2 0 _ rfl)
        have k1 := (show DataW.trod enc Try.prog w base spare held n2 9 (List.take (Try.prog.cellsOf 9) (List.drop 1 [c1, c2])) = some z1 from hg2 1 _ rfl)
        rw [e1] at k0
        rw [e3] at k1
        obtain ⟨p, q1, -, -⟩ := DataW.trod_int Try.underlying3 (show DataW.trod enc Try.prog w base spare held n2 3 [c1] = some z0 from k0)
        obtain ⟨s, q2, -, -⟩ := DataW.trod_string Try.underlying9 (show DataW.trod enc Try.prog w base spare held n2 9 [c2] = some z1 from k1)
        simp only [List.cons.injEq, and_true] at q0 q1 q2
        exact ⟨⟨k, ⟨p, s⟩⟩, by rw [q0, q1, q2]⟩
instance : Inhabited (Int × Pc) := ⟨⟨0, ⟨0, ByteArray.empty⟩⟩⟩
/-- a slice of them that came in -/
theorem open_ops {H : Type} {enc : TypeId × Value → H} {w : World} {fuel : Nat} {a0 : Option Addr} {len cap : Nat} {x : DataW H × List MemPlace} (h : DataW.trod enc Try.prog w 0 (fun _ => true) true fuel 35 [.slice a0 len cap] = some x) :
    ∃ L : List (Int × Pc), L.length = len ∧ AtL encO w a0 L := by
  rcases open_slice Try.underlying35 h with ⟨hcs, _⟩ | ⟨a, len', cap', m, n, D, Pl, hcs, _, hl, _, hm, _, hi⟩
  · simp at hcs
    obtain ⟨rfl, rfl, rfl⟩ := hcs
    exact ⟨[], rfl, AtL.nil _ _ _⟩
  · simp at hcs
    obtain ⟨rfl, rfl, rfl⟩ := hcs
    simp only [if_true] at hm
    have each : ∀ i, i < len → ∃ o : Int × Pc, w.cell? (a.add (i * 3)) = some (.int .i64 o.1) ∧ w.cell? (a.add (i * 3 + 1)) = some (.int .i64 o.2.pid) ∧ w.cell? (a.add (i * 3 + 2)) = some (.string o.2.info) := by
      intro i hlt
      obtain ⟨cs', hc, ht⟩ := hi i (by omega)
      rw [Try.cellsOp] at hc
      obtain ⟨hlc, _, hat⟩ := World.cells?_some hc
      obtain ⟨o, hr⟩ := op_cells ht (by first | exact hlc | simpa using hlc | omega)
      have q0 := hat 0 (by omega)
      have q1 := hat 1 (by omega)
      have q2 := hat 2 (by omega)
      rw [add_add, hr] at q0 q1 q2
      exact ⟨o, q0, q1, q2⟩
    obtain ⟨R, hR⟩ := choose_lt each
    refine ⟨(List.range len).map R, by simp, fun k h => ?_⟩
    have hk : k < len := by simpa using h
    obtain ⟨q0, q1, q2⟩ := hR k hk
    obtain ⟨b, off, spot⟩ := a
    have hspot : spot = none := by simpa [Addr.add] using World.cell?_spot (hR 0 (by omega)).1
    subst hspot
    rw [add_plain] at q0 q1 q2
    have e : ((List.range len).map R)[k] = R k := by simp
    refine ⟨b, off, rfl, World.block_lt_of_cell? w ⟨b, off + k * 3, none⟩ (by simpa using q0), fun j u hj => ?_⟩
    rw [e] at hj
    match j, hj with
    | 0, hj =>
      obtain rfl : Value.int .i64 (R k).1 = u := Option.some.inj hj
      show w.cell? ⟨b, off + k * 3, none⟩ = _
      simpa using q0
    | 1, hj =>
      obtain rfl : Value.int .i64 (R k).2.pid = u := Option.some.inj hj
      show w.cell? ⟨b, off + k * 3 + 1, none⟩ = _
      rw [Nat.add_assoc]
      simpa using q1
    | 2, hj =>
      obtain rfl : Value.string (R k).2.info = u := Option.some.inj hj
      show w.cell? ⟨b, off + k * 3 + 2, none⟩ = _
      rw [Nat.add_assoc]
      simpa using q2
    | j + 3, hj => cases hj
end Go.Proofs.Ytaelhickopeocaa
