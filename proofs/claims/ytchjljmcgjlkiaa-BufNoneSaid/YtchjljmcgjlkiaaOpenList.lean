/-
What is handed in: a slice of anything that takes so many cells, opened by how one of them is; ints, bytes, arrays of two bytes.
-/
import Derived.Test.YtchjljmcgjlkiaaSlices
import Derived.Test.YtchjljmcgjlkiaaRows
import Derived.ProofKit
import Derived.SizedLaws
import Derived.Lib.SmallJoins
import Derived.Deep.Slices
import Derived.Deep.Fields
import Derived.Deep.Strs
import Derived.ChangeMaps5
namespace Go.Proofs.Ytchjljmcgjlkiaa
open Go.ChangeShapes Go.WideShapes Go.ChangeAt Go.RowKit Go.Joins Go.Deep
theorem Try.ownS : ownKnob Try.prog.godebug = none := by kernel_rfl
theorem Try.laidOutS : laidOutB Try.prog = true := by kernel_rfl
/-- an int is as wide as one -/
theorem bounds_i64 {n : Int} (h : (Lit.int .i64 n).wf = true) : -9223372036854775808 ≤ n ∧ n ≤ 9223372036854775807 := by
  simp only [Lit.wf, Bool.and_eq_true, decide_eq_true_eq] at h
  exact h
theorem byte_nat {n : Int} (h : (Lit.int .u8 n).wf = true) : ∃ b : Nat, n = (b : Int) ∧ b < 256 := by
  simp only [Lit.wf, Bool.and_eq_true, decide_eq_true_eq] at h
  have h3 : 0 ≤ n ∧ n ≤ 255 := h
  obtain ⟨b, hb⟩ := Int.eq_ofNat_of_zero_le h3.1
  exact ⟨b, hb, by omega⟩
/-- bytes as numbers -/
def encB : Enc Nat := ⟨1, by omega, fun b => [.int .u8 (b : Int)], fun _ => rfl, fun _ u hu => by rw [List.mem_singleton.1 hu]; rfl⟩
theorem byte_at {w : World} {g o : Nat} {L : List Nat} (h : AtL encB w (some ⟨g, o, none⟩) L) (k : Nat) (hk : k < L.length) : w.cell? ⟨g, o + k, none⟩ = some (.int .u8 (L[k] : Int)) := by
  have := h.get k hk 0 (u := .int .u8 (L[k] : Int)) rfl
  simpa [encB] using this
/-- one int's cell -/
theorem int_cells {H : Type} {enc : TypeId × Value → H} {w : World} {base n : Nat} {spare : Nat → Bool} {held : Bool} {cs : List Value} {y : DataW H × List MemPlace} {t : TypeId} (ht : Try.prog.underlying t = some (.int .i64))
    (h : DataW.trod enc Try.prog w base spare held n t cs = some y) : ∃ k : Int, cs = [.int .i64 k] ∧ -9223372036854775808 ≤ k ∧ k ≤ 9223372036854775807 := by
  obtain ⟨k, q, -, hw⟩ := DataW.trod_int ht h
  exact ⟨k, q, bounds_i64 hw⟩
/-- one byte's cell -/
theorem byte_cells {H : Type} {enc : TypeId × Value → H} {w : World} {base n : Nat} {spare : Nat → Bool} {held : Bool} {cs : List Value} {y : DataW H × List MemPlace} {t : TypeId} (ht : Try.prog.underlying t = some (.int .u8))
    (h : DataW.trod enc Try.prog w base spare held n t cs = some y) : ∃ k : Nat, cs = [.int .u8 (k : Int)] ∧ k < 256 := by
  obtain ⟨k, q, -, hw⟩ := DataW.trod_int ht h
  obtain ⟨b, rfl, hb⟩ := byte_nat hw
  exact ⟨b, q, hb⟩
/-- a slice of anything, out of one of them -/
theorem open_list {α : Type} [Inhabited α] (E : Enc α) (Q : α → Prop) {H : Type} {enc : TypeId × Value → H} {w : World} {fuel : Nat} {a0 : Option Addr} {len cap : Nat} {x : DataW H × List MemPlace} {ts te : TypeId}
    (ht : Try.prog.underlying ts = some (.slice te)) (hn : Try.prog.cellsOf te = E.n)
    (hone : ∀ (n : Nat) (cs : List Value) (y : DataW H × List MemPlace), cs.length = E.n → DataW.trod enc Try.prog w 0 (fun _ => true) true n te cs = some y → ∃ a, cs = E.enc a ∧ Q a)
    (h : DataW.trod enc Try.prog w 0 (fun _ => true) true fuel ts [.slice a0 len cap] = some x) : ∃ L : List α, L.length = len ∧ AtL E w a0 L ∧ ∀ y ∈ L, Q y := by
  rcases open_slice ht h with ⟨hcs, _⟩ | ⟨a, len', cap', m, n, D, Pl, hcs, _, hl, _, hm, _, hi⟩
  · simp at hcs
    obtain ⟨rfl, rfl, rfl⟩ := hcs
    exact ⟨[], rfl, AtL.nil _ _ _, fun y hy => by cases hy⟩
  · simp at hcs
    obtain ⟨rfl, rfl, rfl⟩ := hcs
    simp only [if_true] at hm
    have each : ∀ i, i < len → ∃ k : α, Q k ∧ ∀ j u, (E.enc k)[j]? = some u → w.cell? (a.add (i * E.n + j)) = some u := by
      intro i hlt
      obtain ⟨cs', hc, hts⟩ := hi i (by omega)
      rw [hn] at hc
      obtain ⟨hlc, _, hat⟩ := World.cells?_some hc
      obtain ⟨k, hr, hb⟩ := hone _ _ _ (by first | exact hlc | simpa using hlc | omega) hts
      refine ⟨k, hb, fun j u hj => ?_⟩
      have hjn : j < E.n := by
        have := (List.getElem?_eq_some_iff.1 hj).1
        rwa [E.len] at this
      have q0 := hat j hjn
      rw [add_add, hr] at q0
      rw [q0]
      exact hj
    obtain ⟨R, hR⟩ := choose_lt each
    refine ⟨(List.range len).map R, by simp, fun k h => ?_, fun y hy => ?_⟩
    · have hk : k < len := by simpa using h
      obtain ⟨b, off, spot⟩ := a
      have hne : ∃ u, (E.enc (R 0))[0]? = some u := ⟨_, List.getElem?_eq_getElem (by rw [E.len]; exact E.pos)⟩
      obtain ⟨u0, hu0⟩ := hne
      have hspot : spot = none := by simpa [Addr.add] using World.cell?_spot ((hR 0 (by omega)).2 0 u0 hu0)
      subst hspot
      have e : ((List.range len).map R)[k] = R k := by simp
      have hb : b < w.heap.size := World.block_lt_of_cell? w ⟨b, off + (0 * E.n + 0), none⟩ (by
        have := (hR 0 (by omega)).2 0 u0 hu0
        rwa [add_plain] at this)
      refine ⟨b, off, rfl, hb, fun j u hj => ?_⟩
      rw [e] at hj
      have q0 := (hR k hk).2 j u hj
      rw [add_plain] at q0
      rw [Nat.add_assoc]
      exact q0
    · obtain ⟨i, hi', rfl⟩ := List.mem_map.1 hy
      exact (hR i (by simpa using hi')).1
theorem array_two' {a : Array Value} (h : a.size = 2) : ∃ x y, a = #[x, y] := by
  obtain ⟨l⟩ := a
  match l, h with
  | [x, y], _ => exact ⟨x, y, rfl⟩
end Go.Proofs.Ytchjljmcgjlkiaa
