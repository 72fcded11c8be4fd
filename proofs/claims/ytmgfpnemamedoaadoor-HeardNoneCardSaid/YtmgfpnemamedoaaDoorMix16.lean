/-
What opening an argument that is a call or a slice of calls gives, with the letters' lengths.
What is handed in: a slice of anything that takes so many cells, opened by how one of them is; ints, bytes, arrays of two bytes.
What the table of controls holds, out of the rows' conditions.
-/
import Derived.Test.YtmgfpnemamedoaaDoorMix15
import Derived.Test.YtmgfpnemamedoaaDoorMix08
import Derived.Test.YtmgfpnemamedoaaDoorMix00
import Derived.Test.YtmgfpnemamedoaaDoorRows
import Derived.ProofKit
import Derived.SizedLaws
import Derived.Lib.SmallJoins
import Derived.Deep.Slices
import Derived.Deep.Fields
import Derived.Deep.Strs
import Derived.ChangeMaps5
import Derived.Test.YtmgfpnemamedoaaDoorMix01
import Derived.Test.YtmgfpnemamedoaaDoorMix14
import Derived.Test.YtmgfpnemamedoaaDoorTie
import Derived.Lay
import Derived.LaidMore
import Derived.Stop.LaidErr
import Derived.Stop.Joined
import Derived.Lib.LaidTab
import Derived.Shelf.Vars
import Derived.SevenTiedAt
import Derived.Deep.DeepHandedRow
namespace Go.Proofs.YtmgfpnemamedoaaDoor
open Go.ChangeShapes Go.WideShapes Go.ChangeAt Go.RowKit Go.Joins Go.Deep Go.Sort
set_option maxRecDepth 100000
/-- a call that came in -/
theorem open_callP {H : Type} {enc : TypeId × Value → H} {w : World} {base b0 : Nat} {spare : Nat → Bool} {held : Bool} {r : Reach} {v : Value} {d : DataW H} {ps : List MemPlace}
    (hv : Value.okWide Tryd.prog w r b0 27 v) (h : DataW.Trod enc Tryd.prog w base spare held 27 v d ps) : ps = [] ∧ ∃ (b : ByteArray) (n : Int), v = .agg #[.string b, .int .i64 n] ∧ b.size ∈ DataW.weights Tryd.prog 27 d := by
  obtain ⟨c0, c1, y0, y1, m, rfl, rfl, rfl, hy0, hy1⟩ := open_agg2 Tryd.underlying27 (by kernel_rfl) Tryd.cellsCall hv h
  obtain ⟨s, e0, rfl, ws⟩ := DataW.trod_string Tryd.underlying9 hy0
  obtain ⟨n, e1, rfl, _⟩ := DataW.trod_int Tryd.underlying3 hy1
  simp at e0 e1
  subst e0 e1
  exact ⟨rfl, s, n, rfl, by simp [DataW.weights, DataW.weightsEach, Tryd.underlying27]⟩
instance : Inhabited (ByteArray × Int) := ⟨⟨ByteArray.empty, 0⟩⟩
theorem calls_weights {H : Type} (L : List (ByteArray × Int)) (rr : List (DataW H)) (e : ByteArray × Int) (he : e ∈ L) : e.1.size ∈ DataW.weights Tryd.prog 22 (DataW.slice (L.map fun r => DataW.agg (H := H) [.lit (.string r.1.data.toList), .lit (.int .i64 r.2)]) rr) := by
  have key : ∀ (M : List (ByteArray × Int)), e ∈ M → e.1.size ∈ DataW.weightsAll Tryd.prog 27 (M.map fun r => DataW.agg (H := H) [.lit (.string r.1.data.toList), .lit (.int .i64 r.2)]) := by
    intro M
    induction M with
    | nil => intro h; cases h
    | cons x M ih =>
      intro h
      rw [List.map_cons]
      simp only [DataW.weightsAll, List.mem_append]
      rcases List.mem_cons.1 h with h1 | h1
      · left
        subst h1
        simp [DataW.weights, DataW.weightsEach, Tryd.underlying27]
      · exact Or.inr (ih h1)
  simp only [DataW.weights, Tryd.underlying22, List.mem_cons, List.mem_append]
  exact Or.inr (Or.inl (key L he))
/-- a slice of calls that came in -/
theorem open_callsP {H : Type} {enc : TypeId × Value → H} {w : World} {fuel : Nat} {v : Value} {x : DataW H × List MemPlace} (h : DataW.trod enc Tryd.prog w 0 (fun _ => true) true fuel 22 [v] = some x) :
    ∃ (a : Option Addr) (cap : Nat) (D : List (ByteArray × Int)), v = .slice a D.length cap ∧ CallsAt w a D ∧ ∀ e ∈ D, e.1.size ∈ DataW.weights Tryd.prog 22 x.1 := by
  rcases open_slice Tryd.underlying22 h with ⟨hcs, _⟩ | ⟨a, len, cap, m, n, Dd, Pl, hcs, _, hl, hm2, hm, hx, hi⟩
  · simp only [List.cons.injEq, and_true] at hcs
    exact ⟨none, 0, [], hcs, fun k hk => by simp at hk, fun e he => by cases he⟩
  · simp only [List.cons.injEq, and_true] at hcs
    simp only [if_true] at hm
    have each : ∀ i, i < m → ∃ r : ByteArray × Int, Dd i = (.agg [.lit (.string r.1.data.toList), .lit (.int .i64 r.2)]) ∧ w.cell? (a.add (i * 2)) = some (.string r.1) ∧ w.cell? (a.add (i * 2 + 1)) = some (.int .i64 r.2) := by
      intro i hlt
      obtain ⟨cs', hc, ht⟩ := hi i hlt
      obtain ⟨r, hr, hy⟩ := call_cells Tryd.underlying27 (by kernel_rfl) rfl rfl ht
      rw [Tryd.cellsCall] at hc
      obtain ⟨_, _, hat⟩ := World.cells?_some hc
      have q0 := hat 0 (by omega)
      have q1 := hat 1 (by omega)
      rw [add_add, hr] at q0 q1
      exact ⟨r, (Prod.ext_iff.1 hy).1, q0, q1⟩
    obtain ⟨R, hR⟩ := choose_lt each
    refine ⟨some a, cap, (List.range len).map R, by rw [hcs]; simp, fun k hk => ?_, ?_⟩
    · have hk2 : k < len := by simpa using hk
      obtain ⟨_, q0, q1⟩ := hR k (by omega)
      obtain ⟨b, off, spot⟩ := a
      have hspot : spot = none := by simpa [Addr.add] using World.cell?_spot (hR 0 (by omega)).2.1
      subst hspot
      rw [add_plain] at q0 q1
      have e : ((List.range len).map R)[k]'hk = R k := by simp
      rw [e]
      exact ⟨b, off, rfl, World.block_lt_of_cell? w ⟨b, off + k * 2, none⟩ q0, q0, by rw [Nat.add_assoc]; exact q1⟩
    · intro e he
      rw [hx]
      have hmap : (List.range len).map Dd = ((List.range len).map R).map fun r => DataW.agg (H := H) [.lit (.string r.1.data.toList), .lit (.int .i64 r.2)] := by
        rw [List.map_map]
        apply List.map_congr_left
        intro i hi2
        exact (hR i (by have := List.mem_range.1 hi2; omega)).1
      show e.1.size ∈ DataW.weights Tryd.prog 22 (DataW.slice ((List.range len).map Dd) _)
      rw [hmap]
      exact calls_weights _ _ e he
end Go.Proofs.YtmgfpnemamedoaaDoor
namespace Go.Proofs.YtmgfpnemamedoaaDoor
set_option maxRecDepth 20000
open Go.ChangeShapes Go.WideShapes Go.ChangeAt Go.RowKit Go.Joins Go.Deep
theorem Tryd.ownS : ownKnob Tryd.prog.godebug = none := by kernel_rfl
theorem Tryd.laidOutS : laidOutB Tryd.prog = true := by kernel_rfl
/-- an int is as wide as one -/
theorem bounds_i64 {n : Int} (h : (Lit.int .i64 n).wf = true) : -9223372036854775808 ≤ n ∧ n ≤ 9223372036854775807 := by
  simp only [Lit.wf, Bool.and_eq_true, decide_eq_true_eq] at h
  exact h
theorem byte_nat {n : Int} (h : (Lit.int .u8 n).wf = true) : ∃ b : Nat, n = (b : Int) ∧ b < 256 := by
  simp only [Lit.wf, Bool.and_eq_true, decide_eq_true_eq] at h
  have h3 : 0 ≤ n ∧ n ≤ 255 := h
  obtain ⟨b, hb⟩ := Int.eq_ofNat_of_zero_le h3.1
  exact ⟨b, hb, by omega⟩
/-- bytes as numbers -/
def encB : Enc Nat := ⟨1, by omega, fun b => [.int .u8 (b : Int)], fun _ => rfl, fun _ u hu => by rw [List.mem_singleton.1 hu]; rfl⟩
theorem byte_at {w : World} {g o : Nat} {L : List Nat} (h : AtL encB w (some ⟨g, o, none⟩) L) (k : Nat) (hk : k < L.length) : w.cell? ⟨g, o + k, none⟩ = some (.int .u8 (L[k] : Int)) := by
  have := h.get k hk 0 (u := .int .u8 (L[k] : Int)) rfl
  simpa [encB] using this
/-- one int's cell -/
theorem int_cells {H : Type} {enc : TypeId × Value → H} {w : World} {base n : Nat} {spare : Nat → Bool} {held : Bool} {cs : List Value} {y : DataW H × List MemPlace} {t : TypeId} (ht : Tryd.prog.underlying t = some (.int .i64))
    (h : DataW.trod enc Tryd.prog w base spare held n t cs = some y) : ∃ k : Int, cs = [.int .i64 k] ∧ -9223372036854775808 ≤ k ∧ k ≤ 9223372036854775807 := by
  obtain ⟨k, q, -, hw⟩ := DataW.trod_int ht h
  exact ⟨k, q, bounds_i64 hw⟩
/-- one byte's cell -/
theorem byte_cells {H : Type} {enc : TypeId × Value → H} {w : World} {base n : Nat} {spare : Nat → Bool} {held : Bool} {cs : List Value} {y : DataW H × List MemPlace} {t : TypeId} (ht : Tryd.prog.underlying t = some (.int .u8))
    (h : DataW.trod enc Tryd.prog w base spare held n t cs = some y) : ∃ k : Nat, cs = [.int .u8 (k : Int)] ∧ k < 256 := by
  obtain ⟨k, q, -, hw⟩ := DataW.trod_int ht h
  obtain ⟨b, rfl, hb⟩ := byte_nat hw
  exact ⟨b, q, hb⟩
/-- a slice of anything, out of one of them -/
theorem open_list {α : Type} [Inhabited α] (E : Enc α) (Q : α → Prop) {H : Type} {enc : TypeId × Value → H} {w : World} {fuel : Nat} {a0 : Option Addr} {len cap : Nat} {x : DataW H × List MemPlace} {ts te : TypeId}
    (ht : Tryd.prog.underlying ts = some (.slice te)) (hn : Tryd.prog.cellsOf te = E.n)
    (hone : ∀ (n : Nat) (cs : List Value) (y : DataW H × List MemPlace), cs.length = E.n → DataW.trod enc Tryd.prog w 0 (fun _ => true) true n te cs = some y → ∃ a, cs = E.enc a ∧ Q a)
    (h : DataW.trod enc Tryd.prog w 0 (fun _ => true) true fuel ts [.slice a0 len cap] = some x) : ∃ L : List α, L.length = len ∧ AtL E w a0 L ∧ ∀ y ∈ L, Q y := by
  rcases open_slice ht h with ⟨hcs, _⟩ | ⟨a, len', cap', m, n, D, Pl, hcs, _, hl, _, hm, _, hi⟩
  · simp at hcs
    obtain ⟨rfl, rfl, rfl⟩ := hcs
    exact ⟨[], rfl, AtL.nil _ _ _, fun y hy => by cases hy⟩
  · simp at hcs
    obtain ⟨rfl, rfl, rfl⟩ := hcs
    simp only [if_true] at hm
    have each : ∀ i, i < len → ∃ k : α, Q k ∧ ∀ j u, (E.enc k)[j]? = some u → w.cell? (a.add (i * E.n + j)) = some u := by
      intro i hlt
      obtain ⟨cs', hc, hts⟩ := hi i (by omega)
      rw [hn] at hc
      obtain ⟨hlc, _, hat⟩ := World.cells?_some hc
      obtain ⟨k, hr, hb⟩ := hone _ _ _ (by first | exact hlc | simpa using hlc | omega) hts
      refine ⟨k, hb, fun j u hj => ?_⟩
      have hjn : j < E.n := by
        have := (List.getElem?_eq_some_iff.1 hj).1
        rwa [E.len] at this
      have q0 := hat j hjn
      rw [add_add, hr] at q0
      rw [q0]
      exact hj
    obtain ⟨R, hR⟩ := choose_lt each
    refine ⟨(List.range len).map R, by simp, fun k h => ?_, fun y hy => ?_⟩
    · have hk : k < len := by simpa using h
      obtain ⟨b, off, spot⟩ := a
      have hne : ∃ u, (E.enc (R 0))[0]? = some u := ⟨_, List.getElem?_eq_getElem (by rw [E.len]; exact E.pos)⟩
      obtain ⟨u0, hu0⟩ := hne
      have hspot : spot = none := by simpa [Addr.add] using World.cell?_spot ((hR 0 (by omega)).2 0 u0 hu0)
      subst hspot
      have e : ((List.range len).map R)[k] = R k := by simp
      have hb : b < w.heap.size := World.block_lt_of_cell? w ⟨b, off + (0 * E.n + 0), none⟩ (by
        have := (hR 0 (by omega)).2 0 u0 hu0
        rwa [add_plain] at this)
      refine ⟨b, off, rfl, hb, fun j u hj => ?_⟩
      rw [e] at hj
      have q0 := (hR k hk).2 j u hj
      rw [add_plain] at q0
      rw [Nat.add_assoc]
      exact q0
    · obtain ⟨i, hi', rfl⟩ := List.mem_map.1 hy
      exact (hR i (by simpa using hi')).1
theorem array_two' {a : Array Value} (h : a.size = 2) : ∃ x y, a = #[x, y] := by
  obtain ⟨l⟩ := a
  match l, h with
  | [x, y], _ => exact ⟨x, y, rfl⟩
end Go.Proofs.YtmgfpnemamedoaaDoor
namespace Go.Proofs.YtmgfpnemamedoaaDoor
open Go.ChangeShapes Go.WideShapes Go.ChangeAt Go.RowKit Go.Joins Go.Deep Go.Sort
set_option maxRecDepth 100000
theorem g_codes23 : Tryd.prog.globalNamed "squelch/ctl.codes" = some 0 := by kernel_rfl
theorem codes_datum23 : (Rows.laid_squelch_ctl_codes : DataW Unit) = Lib.tabData .u8 codeL := by kernel_rfl
theorem codes_laid23 {W : World} {r : List (String × DataW Unit)} (h : laidMet Tryd.prog (("squelch/ctl.codes", Rows.laid_squelch_ctl_codes) :: r) W) : CodesOk W := by
  rw [codes_datum23] at h
  have k := Lib.tabIs_of_head g_codes23 (t := 77) (e := 5) (by kernel_rfl) Tryd.underlying77 Tryd.underlying5 (by kernel_rfl) (by kernel_rfl) h
  exact ⟨fun i hi => k.cell g_codes23 i hi⟩
theorem vars_hrd {W : World} (h : laidMetH Tryd.prog Rows.heardNoneRow.laid W) : CodesOk W := by
  rw [MakeChecks.laidMetH_plain _ _ _ (by kernel_rfl)] at h
  exact codes_laid23 h
theorem met_hrd (os : Os) (args : Array Value) : laidMetH Tryd.prog Rows.heardNoneRow.laid ((World.laidAll Tryd.prog os Rows.heardNoneRow.laid).forCall (fun _ _ => 0) ⟨#[], args, []⟩).memory := by
  rw [MakeChecks.laidMetH_plain _ _ _ (by kernel_rfl)]
  exact laidMet_laidAll _ (by kernel_rfl) (by kernel_rfl)
end Go.Proofs.YtmgfpnemamedoaaDoor
