/-
The law of refused calls to a table of links: for every call, digipeaters and number.
What opening an argument that is a path, a call or a slice of calls gives.
What opening an argument that is a call or a slice of calls gives, with the letters' lengths.
What is handed in: a slice of anything that takes so many cells, opened by how one of them is; ints, bytes, arrays of two bytes.
What the table of controls holds, out of the rows' conditions.
-/
import Derived.Test.YtgoaepjjegblnaaGreatDoorMix45
import Derived.Test.YtgoaepjjegblnaaGreatDoorMix02
import Derived.ProofKit
import Derived.SizedLaws
import Derived.Lib.SmallJoins
import Derived.Deep.Slices
import Derived.Deep.Fields
import Derived.Deep.Strs
import Derived.Lib.ItoaNum
import Derived.BigRegion
import Derived.IntWalk
import Derived.Lib.QuietBelow
import Derived.BigQuiet
import Derived.Deep.QuietTactic
import Derived.Lib.IndexBytes
import Derived.Test.YtgoaepjjegblnaaGreatDoorMix05
import Derived.Test.YtgoaepjjegblnaaGreatDoorMix06
import Derived.Test.YtgoaepjjegblnaaGreatDoorRows
import Derived.ChangeMaps5
import Derived.Test.YtgoaepjjegblnaaGreatDoorTie
import Derived.Lay
import Derived.LaidMore
import Derived.Stop.LaidErr
import Derived.Stop.Joined
import Derived.Lib.LaidTab
import Derived.Shelf.Vars
import Derived.SevenTiedAt
import Derived.Deep.DeepHandedRow
namespace Go.Proofs.YtgoaepjjegblnaaGreatDoor
open Go.RowKit Go.Sort
set_option maxRecDepth 20000
theorem linksErrors_any (w : World) (cb : ByteArray) (cn : Int) (a : Option Addr) (cap : Nat) (C : List (ByteArray × Int)) (n : Int) (hC : CodesOk w) (hE : CallsAt w a C) (hs : ∀ x ∈ C, x.1.size ≤ 140737488351232) :
    Calls Tryz.prog 10 #[clV cb cn, .slice a C.length cap, .int .i64 n] w fun e w' => e = .returned (.bool true) ∧ Below w.heap.size w w' := by
  by_cases h30 : C.length ≤ 30
  · by_cases h100 : cb.size ≤ 100
    · cases hk : okPeer exT21 cb cn with
      | false => exact err_call w cb cn a cap C n hC hE hs h30 h100 hk
      | true =>
        cases hF : (decide (C.length ≤ 8) && C.all rdC) with
        | false => exact err_path w cb cn a cap C n hC hE hs h30 h100 hk hF
        | true => exact err_ok w cb cn a cap C n hC hE hs h30 h100 hk hF
    · exact err_great w cb cn a cap C n hC hE hs (Or.inr (by omega))
  · exact err_great w cb cn a cap C n hC hE hs (Or.inl (by omega))
end Go.Proofs.YtgoaepjjegblnaaGreatDoor
namespace Go.Proofs.YtgoaepjjegblnaaGreatDoor
open Go.ChangeShapes Go.WideShapes Go.ChangeAt Go.RowKit Go.Joins Go.Deep Go.Sort
set_option maxRecDepth 100000
theorem Tryz.cellsCall : Tryz.prog.cellsOf 54 = 2 := by kernel_rfl
/-- two cells that read as a call -/
theorem call_cells {H : Type} {enc : TypeId × Value → H} {w : World} {base n : Nat} {spare : Nat → Bool} {held : Bool} {f0 f1 : Field} {cs : List Value} {y : DataW H × List MemPlace}
    (hs : Tryz.prog.underlying 54 = some (.struct #[f0, f1])) (hone : oneCellFields Tryz.prog #[f0, f1] = true) (t0 : f0.type = 9) (t1 : f1.type = 3)
    (h : DataW.trod enc Tryz.prog w base spare held n 54 cs = some y) : ∃ r : ByteArray × Int, cs = [.string r.1, .int .i64 r.2] ∧ y = (.agg [.lit (.string r.1.data.toList), .lit (.int .i64 r.2)], []) := by
  obtain ⟨y0, y1, m, hy, hl, g0, g1⟩ := trod_struct2 hs h
  obtain ⟨o0, k0⟩ := hone_of hone 0 f0 rfl
  obtain ⟨o1, k1⟩ := hone_of hone 1 f1 rfl
  rw [o0, k0, t0] at g0
  rw [o1, k1, t1] at g1
  rw [Tryz.cellsCall] at hl
  match cs, hl with
  | [v0, v1], _ =>
    obtain ⟨s, e0, q0, _⟩ := DataW.trod_string Tryz.underlying9 (show DataW.trod enc Tryz.prog w base spare held m 9 [v0] = some y0 from g0)
    obtain ⟨p, e1, q1, _⟩ := DataW.trod_int Tryz.underlying3 (show DataW.trod enc Tryz.prog w base spare held m 3 [v1] = some y1 from g1)
    simp only [List.cons.injEq, and_true] at e0 e1
    exact ⟨⟨s, p⟩, by rw [e0, e1], by rw [hy, q0, q1]; rfl⟩
instance : Inhabited Ent := ⟨(ByteArray.empty, 0, false)⟩
/-- what lies within the reach -/
theorem sized_in {H : Type} {ts : List TypeId} {ds : List (DataW H)} (h : (DataW.weightsEach Tryz.prog ts ds).all (· ≤ reachBytes) = true) {j : Nat} {t : TypeId} {d : DataW H} (ht : ts[j]? = some t) (hd : ds[j]? = some d) {n : Nat} (hn : n ∈ DataW.weights Tryz.prog t d) : n ≤ 140737488351232 := by
  have hm := List.all_eq_true.1 h _ (DataW.weights_mem_each ht hd n hn)
  have h2 : n ≤ reachBytes := of_decide_eq_true hm
  exact h2
end Go.Proofs.YtgoaepjjegblnaaGreatDoor
namespace Go.Proofs.YtgoaepjjegblnaaGreatDoor
open Go.ChangeShapes Go.WideShapes Go.ChangeAt Go.RowKit Go.Joins Go.Deep Go.Sort
set_option maxRecDepth 100000
/-- a call that came in -/
theorem open_callP {H : Type} {enc : TypeId × Value → H} {w : World} {base b0 : Nat} {spare : Nat → Bool} {held : Bool} {r : Reach} {v : Value} {d : DataW H} {ps : List MemPlace}
    (hv : Value.okWide Tryz.prog w r b0 54 v) (h : DataW.Trod enc Tryz.prog w base spare held 54 v d ps) : ps = [] ∧ ∃ (b : ByteArray) (n : Int), v = .agg #[.string b, .int .i64 n] ∧ b.size ∈ DataW.weights Tryz.prog 54 d := by
  obtain ⟨c0, c1, y0, y1, m, rfl, rfl, rfl, hy0, hy1⟩ := open_agg2 Tryz.underlying54 (by kernel_rfl) Tryz.cellsCall hv h
  obtain ⟨s, e0, rfl, ws⟩ := DataW.trod_string Tryz.underlying9 hy0
  obtain ⟨n, e1, rfl, _⟩ := DataW.trod_int Tryz.underlying3 hy1
  simp at e0 e1
  subst e0 e1
  exact ⟨rfl, s, n, rfl, by simp [DataW.weights, DataW.weightsEach, Tryz.underlying54]⟩
instance : Inhabited (ByteArray × Int) := ⟨⟨ByteArray.empty, 0⟩⟩
theorem calls_weights {H : Type} (L : List (ByteArray × Int)) (rr : List (DataW H)) (e : ByteArray × Int) (he : e ∈ L) : e.1.size ∈ DataW.weights Tryz.prog 91 (DataW.slice (L.map fun r => DataW.agg (H := H) [.lit (.string r.1.data.toList), .lit (.int .i64 r.2)]) rr) := by
  have key : ∀ (M : List (ByteArray × Int)), e ∈ M → e.1.size ∈ DataW.weightsAll Tryz.prog 54 (M.map fun r => DataW.agg (H := H) [.lit (.string r.1.data.toList), .lit (.int .i64 r.2)]) := by
    intro M
    induction M with
    | nil => intro h; cases h
    | cons x M ih =>
      intro h
      rw [List.map_cons]
      simp only [DataW.weightsAll, List.mem_append]
      rcases List.mem_cons.1 h with h1 | h1
      · left
        subst h1
        simp [DataW.weights, DataW.weightsEach, Tryz.underlying54]
      · exact Or.inr (ih h1)
  simp only [DataW.weights, Tryz.underlying91, List.mem_cons, List.mem_append]
  exact Or.inr (Or.inl (key L he))
/-- a slice of calls that came in -/
theorem open_callsP {H : Type} {enc : TypeId × Value → H} {w : World} {fuel : Nat} {v : Value} {x : DataW H × List MemPlace} (h : DataW.trod enc Tryz.prog w 0 (fun _ => true) true fuel 91 [v] = some x) :
    ∃ (a : Option Addr) (cap : Nat) (D : List (ByteArray × Int)), v = .slice a D.length cap ∧ CallsAt w a D ∧ ∀ e ∈ D, e.1.size ∈ DataW.weights Tryz.prog 91 x.1 := by
  rcases open_slice Tryz.underlying91 h with ⟨hcs, _⟩ | ⟨a, len, cap, m, n, Dd, Pl, hcs, _, hl, hm2, hm, hx, hi⟩
  · simp only [List.cons.injEq, and_true] at hcs
    exact ⟨none, 0, [], hcs, fun k hk => by simp at hk, fun e he => by cases he⟩
  · simp only [List.cons.injEq, and_true] at hcs
    simp only [if_true] at hm
    have each : ∀ i, i < m → ∃ r : ByteArray × Int, Dd i = (.agg [.lit (.string r.1.data.toList), .lit (.int .i64 r.2)]) ∧ w.cell? (a.add (i * 2)) = some (.string r.1) ∧ w.cell? (a.add (i * 2 + 1)) = some (.int .i64 r.2) := by
      intro i hlt
      obtain ⟨cs', hc, ht⟩ := hi i hlt
      obtain ⟨r, hr, hy⟩ := call_cells Tryz.underlying54 (by kernel_rfl) rfl rfl ht
      rw [Tryz.cellsCall] at hc
      obtain ⟨_, _, hat⟩ := World.cells?_some hc
      have q0 := hat 0 (by omega)
      have q1 := hat 1 (by omega)
      rw [add_add, hr] at q0 q1
      exact ⟨r, (Prod.ext_iff.1 hy).1, q0, q1⟩
    obtain ⟨R, hR⟩ := choose_lt each
    refine ⟨some a, cap, (List.range len).map R, by rw [hcs]; simp, fun k hk => ?_, ?_⟩
    · have hk2 : k < len := by simpa using hk
      obtain ⟨_, q0, q1⟩ := hR k (by omega)
      obtain ⟨b, off, spot⟩ := a
      have hspot : spot = none := by simpa [Addr.add] using World.cell?_spot (hR 0 (by omega)).2.1
      subst hspot
      rw [add_plain] at q0 q1
      have e : ((List.range len).map R)[k]'hk = R k := by simp
      rw [e]
      exact ⟨b, off, rfl, World.block_lt_of_cell? w ⟨b, off + k * 2, none⟩ q0, q0, by rw [Nat.add_assoc]; exact q1⟩
    · intro e he
      rw [hx]
      have hmap : (List.range len).map Dd = ((List.range len).map R).map fun r => DataW.agg (H := H) [.lit (.string r.1.data.toList), .lit (.int .i64 r.2)] := by
        rw [List.map_map]
        apply List.map_congr_left
        intro i hi2
        exact (hR i (by have := List.mem_range.1 hi2; omega)).1
      show e.1.size ∈ DataW.weights Tryz.prog 91 (DataW.slice ((List.range len).map Dd) _)
      rw [hmap]
      exact calls_weights _ _ e he
end Go.Proofs.YtgoaepjjegblnaaGreatDoor
namespace Go.Proofs.YtgoaepjjegblnaaGreatDoor
set_option maxRecDepth 20000
open Go.ChangeShapes Go.WideShapes Go.ChangeAt Go.RowKit Go.Joins Go.Deep
theorem Tryz.ownS : ownKnob Tryz.prog.godebug = none := by kernel_rfl
theorem Tryz.laidOutS : laidOutB Tryz.prog = true := by kernel_rfl
end Go.Proofs.YtgoaepjjegblnaaGreatDoor
namespace Go.Proofs.YtgoaepjjegblnaaGreatDoor
open Go.ChangeShapes Go.WideShapes Go.ChangeAt Go.RowKit Go.Joins Go.Deep Go.Sort
set_option maxRecDepth 100000
theorem g_codes21 : Tryz.prog.globalNamed "squelch/ctl.codes" = some 0 := by kernel_rfl
theorem codes_datum21 : (Rows.laid_squelch_ctl_codes : DataW Unit) = Lib.tabData .u8 codeL := by kernel_rfl
theorem codes_laid21 {W : World} {r : List (String × DataW Unit)} (h : laidMet Tryz.prog (("squelch/ctl.codes", Rows.laid_squelch_ctl_codes) :: r) W) : CodesOk W := by
  rw [codes_datum21] at h
  have k := Lib.tabIs_of_head g_codes21 (t := 237) (e := 5) (by kernel_rfl) Tryz.underlying237 Tryz.underlying5 (by kernel_rfl) (by kernel_rfl) h
  exact ⟨fun i hi => k.cell g_codes21 i hi⟩
theorem vars_links {W : World} (h : laidMetH Tryz.prog Rows.linksErrorsRow.laid W) : CodesOk W := by
  rw [MakeChecks.laidMetH_plain _ _ _ (by kernel_rfl)] at h
  exact codes_laid21 h
theorem met_links (os : Os) (args : Array Value) : laidMetH Tryz.prog Rows.linksErrorsRow.laid ((World.laidAll Tryz.prog os Rows.linksErrorsRow.laid).forCall (fun _ _ => 0) ⟨#[], args, []⟩).memory := by
  rw [MakeChecks.laidMetH_plain _ _ _ (by kernel_rfl)]
  exact laidMet_laidAll _ (by kernel_rfl) (by kernel_rfl)
end Go.Proofs.YtgoaepjjegblnaaGreatDoor
