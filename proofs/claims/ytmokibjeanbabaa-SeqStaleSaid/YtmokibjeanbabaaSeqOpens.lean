/-
What is handed in: a slice of ints, a slice of steps.
-/
import Derived.Test.YtmokibjeanbabaaSeqThroughW
import Derived.Test.YtmokibjeanbabaaRows
import Derived.ProofKit
import Derived.SizedLaws
import Derived.Lib.SmallJoins
import Derived.Deep.Slices
import Derived.Deep.Fields
import Derived.Deep.Strs
import Derived.ChangeMaps5
namespace Go.Proofs.Ytmokibjeanbabaa
open Go.ChangeShapes Go.WideShapes Go.ChangeAt Go.RowKit Go.Joins Go.Deep
theorem Try.ownS : ownKnob Try.prog.godebug = none := by kernel_rfl
theorem Try.laidOutS : laidOutB Try.prog = true := by kernel_rfl
theorem Try.cellsI1 : Try.prog.cellsOf 3 = 1 := by kernel_rfl
theorem Try.cellsStep : Try.prog.cellsOf 58 = 2 := by kernel_rfl
/-- an int is as wide as one -/
theorem bounds_i64 {n : Int} (h : (Lit.int .i64 n).wf = true) : -9223372036854775808 ≤ n ∧ n ≤ 9223372036854775807 := by
  simp only [Lit.wf, Bool.and_eq_true, decide_eq_true_eq] at h
  exact h
theorem int_cells {H : Type} {enc : TypeId × Value → H} {w : World} {base n : Nat} {spare : Nat → Bool} {held : Bool} {cs : List Value} {y : DataW H × List MemPlace}
    (h : DataW.trod enc Try.prog w base spare held n 3 cs = some y) : ∃ k : Int, cs = [.int .i64 k] ∧ -9223372036854775808 ≤ k ∧ k ≤ 9223372036854775807 := by
  obtain ⟨k, q, -, hw⟩ := DataW.trod_int Try.underlying3 h
  exact ⟨k, q, bounds_i64 hw⟩
theorem step_cells {H : Type} {enc : TypeId × Value → H} {w : World} {base n : Nat} {spare : Nat → Bool} {held : Bool} {cs : List Value} {y : DataW H × List MemPlace}
    (h : DataW.trod enc Try.prog w base spare held n 58 cs = some y) (hl : cs.length = 2) : ∃ o : Int × Int, cs = [.int .i64 o.1, .int .i64 o.2] := by
  match cs, hl with
  | [c0, c1], _ =>
    obtain ⟨xs, n, _, hx, _, hlen, hg⟩ := DataW.trod_struct Try.underlying58 h
    match xs, hlen with
    | [y0, y1], _ =>
      have g0 := (show DataW.trod enc Try.prog w base spare held n 3 (List.take (Try.prog.cellsOf 3) (List.drop 0 [c0, c1])) = some y0 from hg 0 _ rfl)
      have g1 := (show DataW.trod enc Try.prog w base spare held n 3 (List.take (Try.prog.cellsOf 3) (List.drop 1 [c0, c1])) = some y1 from hg 1 _ rfl)
      rw [Try.cellsI1] at g0 g1
      obtain ⟨k, q0, -, -⟩ := int_cells (show DataW.trod enc Try.prog w base spare held n 3 [c0] = some y0 from g0)
      obtain ⟨j, q1, -, -⟩ := int_cells (show DataW.trod enc Try.prog w base spare held n 3 [c1] = some y1 from g1)
      simp only [List.cons.injEq, and_true] at q0 q1
      exact ⟨⟨k, j⟩, by rw [q0, q1]⟩
/-- a slice of ints that came in -/
theorem open_ints11 {H : Type} {enc : TypeId × Value → H} {w : World} {fuel : Nat} {a0 : Option Addr} {len cap : Nat} {x : DataW H × List MemPlace} (h : DataW.trod enc Try.prog w 0 (fun _ => true) true fuel 26 [.slice a0 len cap] = some x) :
    ∃ L : List Int, L.length = len ∧ AtL encI w a0 L ∧ ∀ y ∈ L, -9223372036854775808 ≤ y ∧ y ≤ 9223372036854775807 := by
  rcases open_slice Try.underlying26 h with ⟨hcs, _⟩ | ⟨a, len', cap', m, n, D, Pl, hcs, _, hl, _, hm, _, hi⟩
  · simp at hcs
    obtain ⟨rfl, rfl, rfl⟩ := hcs
    exact ⟨[], rfl, AtL.nil _ _ _, fun y hy => by cases hy⟩
  · simp at hcs
    obtain ⟨rfl, rfl, rfl⟩ := hcs
    simp only [if_true] at hm
    have each : ∀ i, i < len → ∃ k : Int, w.cell? (a.add (i * 1)) = some (.int .i64 k) ∧ -9223372036854775808 ≤ k ∧ k ≤ 9223372036854775807 := by
      intro i hlt
      obtain ⟨cs', hc, ht⟩ := hi i (by omega)
      rw [Try.cellsI1] at hc
      obtain ⟨hlc, _, hat⟩ := World.cells?_some hc
      obtain ⟨k, hr, hb⟩ := int_cells ht
      have q0 := hat 0 (by omega)
      rw [add_add, hr] at q0
      exact ⟨k, q0, hb⟩
    obtain ⟨R, hR⟩ := choose_lt each
    refine ⟨(List.range len).map R, by simp, fun k h => ?_, fun y hy => ?_⟩
    · have hk : k < len := by simpa using h
      have q0 := (hR k hk).1
      obtain ⟨b, off, spot⟩ := a
      have hspot : spot = none := by simpa [Addr.add] using World.cell?_spot (hR 0 (by omega)).1
      subst hspot
      rw [add_plain] at q0
      have e : ((List.range len).map R)[k] = R k := by simp
      refine ⟨b, off, rfl, World.block_lt_of_cell? w ⟨b, off + k * 1, none⟩ (by simpa using q0), fun j u hj => ?_⟩
      rw [e] at hj
      match j, hj with
      | 0, hj =>
        obtain rfl : Value.int .i64 (R k) = u := Option.some.inj hj
        show w.cell? ⟨b, off + k * 1, none⟩ = _
        simpa using q0
      | j + 1, hj => cases hj
    · obtain ⟨i, hi', rfl⟩ := List.mem_map.1 hy
      exact (hR i (by simpa using hi')).2
instance : Inhabited (Int × Int) := ⟨⟨0, 0⟩⟩
/-- a slice of steps that came in -/
theorem open_steps11 {H : Type} {enc : TypeId × Value → H} {w : World} {fuel : Nat} {a0 : Option Addr} {len cap : Nat} {x : DataW H × List MemPlace} (h : DataW.trod enc Try.prog w 0 (fun _ => true) true fuel 56 [.slice a0 len cap] = some x) :
    ∃ L : List (Int × Int), L.length = len ∧ AtL encS11 w a0 L := by
  rcases open_slice Try.underlying56 h with ⟨hcs, _⟩ | ⟨a, len', cap', m, n, D, Pl, hcs, _, hl, _, hm, _, hi⟩
  · simp at hcs
    obtain ⟨rfl, rfl, rfl⟩ := hcs
    exact ⟨[], rfl, AtL.nil _ _ _⟩
  · simp at hcs
    obtain ⟨rfl, rfl, rfl⟩ := hcs
    simp only [if_true] at hm
    have each : ∀ i, i < len → ∃ o : Int × Int, w.cell? (a.add (i * 2)) = some (.int .i64 o.1) ∧ w.cell? (a.add (i * 2 + 1)) = some (.int .i64 o.2) := by
      intro i hlt
      obtain ⟨cs', hc, ht⟩ := hi i (by omega)
      rw [Try.cellsStep] at hc
      obtain ⟨hlc, _, hat⟩ := World.cells?_some hc
      obtain ⟨o, hr⟩ := step_cells ht (by first | exact hlc | simpa using hlc | omega)
      have q0 := hat 0 (by omega)
      have q1 := hat 1 (by omega)
      rw [add_add, hr] at q0 q1
      exact ⟨o, q0, q1⟩
    obtain ⟨R, hR⟩ := choose_lt each
    refine ⟨(List.range len).map R, by simp, fun k h => ?_⟩
    have hk : k < len := by simpa using h
    obtain ⟨q0, q1⟩ := hR k hk
    obtain ⟨b, off, spot⟩ := a
    have hspot : spot = none := by simpa [Addr.add] using World.cell?_spot (hR 0 (by omega)).1
    subst hspot
    rw [add_plain] at q0 q1
    have e : ((List.range len).map R)[k] = R k := by simp
    refine ⟨b, off, rfl, World.block_lt_of_cell? w ⟨b, off + k * 2, none⟩ (by simpa using q0), fun j u hj => ?_⟩
    rw [e] at hj
    match j, hj with
    | 0, hj =>
      obtain rfl : Value.int .i64 (R k).1 = u := Option.some.inj hj
      show w.cell? ⟨b, off + k * 2, none⟩ = _
      simpa using q0
    | 1, hj =>
      obtain rfl : Value.int .i64 (R k).2 = u := Option.some.inj hj
      show w.cell? ⟨b, off + k * 2 + 1, none⟩ = _
      rw [Nat.add_assoc]
      simpa using q1
    | j + 2, hj => cases hj
theorem array_two11 {a : Array Value} (h : a.size = 2) : ∃ x y, a = #[x, y] := by
  obtain ⟨l⟩ := a
  match l, h with
  | [x, y], _ => exact ⟨x, y, rfl⟩
theorem byte_nat {n : Int} (h : (Lit.int .u8 n).wf = true) : ∃ b : Nat, n = (b : Int) ∧ b < 256 := by
  simp only [Lit.wf, Bool.and_eq_true, decide_eq_true_eq] at h
  have h3 : 0 ≤ n ∧ n ≤ 255 := h
  obtain ⟨b, hb⟩ := Int.eq_ofNat_of_zero_le h3.1
  exact ⟨b, hb, by omega⟩
end Go.Proofs.Ytmokibjeanbabaa
