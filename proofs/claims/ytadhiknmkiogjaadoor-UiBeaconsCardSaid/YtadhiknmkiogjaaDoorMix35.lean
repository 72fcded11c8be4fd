/-
What opening an argument that is a path, a call or a slice of calls gives.
What opening an argument that is a call or a slice of calls gives, with the letters' lengths.
What is handed in: a slice of anything that takes so many cells, opened by how one of them is; ints, bytes, arrays of two bytes.
What is handed in: a datagram, a slice of ops; what the table of controls holds, out of the rows' conditions.
-/
import Derived.Test.YtadhiknmkiogjaaDoorPathBase
import Derived.ProofKit
import Derived.SizedLaws
import Derived.Lib.SmallJoins
import Derived.Deep.Slices
import Derived.Deep.Fields
import Derived.Deep.Strs
import Derived.Lib.ItoaNum
import Derived.BigRegion
import Derived.IntWalk
import Derived.Lib.QuietBelow
import Derived.BigQuiet
import Derived.Deep.QuietTactic
import Derived.Lib.IndexBytes
import Derived.Test.YtadhiknmkiogjaaDoorMix25
import Derived.Test.YtadhiknmkiogjaaDoorMix27
import Derived.Test.YtadhiknmkiogjaaDoorRows
import Derived.ChangeMaps5
import Derived.Test.YtadhiknmkiogjaaDoorMix34
import Derived.Test.YtadhiknmkiogjaaDoorTie
import Derived.Lay
import Derived.LaidMore
import Derived.Stop.LaidErr
import Derived.Stop.Joined
import Derived.Lib.LaidTab
import Derived.Shelf.Vars
import Derived.SevenTiedAt
import Derived.Deep.DeepHandedRow
namespace Go.Proofs.YtadhiknmkiogjaaDoor
open Go.ChangeShapes Go.WideShapes Go.ChangeAt Go.RowKit Go.Joins Go.Deep Go.Sort
set_option maxRecDepth 100000
theorem Tryd.own : ownKnob Tryd.prog.godebug = none := by kernel_rfl
theorem Tryd.laidOut : laidOutB Tryd.prog = true := by kernel_rfl
theorem Tryd.cellsCall : Tryd.prog.cellsOf 23 = 2 := by kernel_rfl
theorem Tryd.cellsDigi : Tryd.prog.cellsOf 79 = 3 := by kernel_rfl
theorem Tryd.cellsPath : Tryd.prog.cellsOf 58 = 7 := by kernel_rfl
/-- two cells that read as a call -/
theorem call_cells {H : Type} {enc : TypeId × Value → H} {w : World} {base n : Nat} {spare : Nat → Bool} {held : Bool} {f0 f1 : Field} {cs : List Value} {y : DataW H × List MemPlace}
    (hs : Tryd.prog.underlying 23 = some (.struct #[f0, f1])) (hone : oneCellFields Tryd.prog #[f0, f1] = true) (t0 : f0.type = 9) (t1 : f1.type = 3)
    (h : DataW.trod enc Tryd.prog w base spare held n 23 cs = some y) : ∃ r : ByteArray × Int, cs = [.string r.1, .int .i64 r.2] ∧ y = (.agg [.lit (.string r.1.data.toList), .lit (.int .i64 r.2)], []) := by
  obtain ⟨y0, y1, m, hy, hl, g0, g1⟩ := trod_struct2 hs h
  obtain ⟨o0, k0⟩ := hone_of hone 0 f0 rfl
  obtain ⟨o1, k1⟩ := hone_of hone 1 f1 rfl
  rw [o0, k0, t0] at g0
  rw [o1, k1, t1] at g1
  rw [Tryd.cellsCall] at hl
  match cs, hl with
  | [v0, v1], _ =>
    obtain ⟨s, e0, q0, _⟩ := DataW.trod_string Tryd.underlying9 (show DataW.trod enc Tryd.prog w base spare held m 9 [v0] = some y0 from g0)
    obtain ⟨p, e1, q1, _⟩ := DataW.trod_int Tryd.underlying3 (show DataW.trod enc Tryd.prog w base spare held m 3 [v1] = some y1 from g1)
    simp only [List.cons.injEq, and_true] at e0 e1
    exact ⟨⟨s, p⟩, by rw [e0, e1], by rw [hy, q0, q1]; rfl⟩
/-- three cells that read as an entry -/
theorem digi_cells {H : Type} {enc : TypeId × Value → H} {w : World} {base n : Nat} {spare : Nat → Bool} {held : Bool} {f0 f1 : Field} {cs : List Value} {y : DataW H × List MemPlace}
    (hs : Tryd.prog.underlying 79 = some (.struct #[f0, f1])) (o0 : f0.offset = 0) (o1 : f1.offset = 2) (t0 : f0.type = 23) (t1 : f1.type = 4)
    (h : DataW.trod enc Tryd.prog w base spare held n 79 cs = some y) : ∃ r : Ent, cs = entV r ∧ y = (.agg [.agg [.lit (.string r.1.data.toList), .lit (.int .i64 r.2.1)], .lit (.bool r.2.2)], []) := by
  obtain ⟨y0, y1, m, hy, hl, g0, g1⟩ := trod_struct2 hs h
  rw [o0, t0, Tryd.cellsCall] at g0
  rw [o1, t1, show Tryd.prog.cellsOf 4 = 1 from by kernel_rfl] at g1
  rw [Tryd.cellsDigi] at hl
  match cs, hl with
  | [v0, v1, v2], _ =>
    obtain ⟨r, e0, q0⟩ := call_cells Tryd.underlying23 (by kernel_rfl) rfl rfl (show DataW.trod enc Tryd.prog w base spare held m 23 [v0, v1] = some y0 from g0)
    obtain ⟨b, e1, q1⟩ := DataW.trod_bool Tryd.underlying4 (show DataW.trod enc Tryd.prog w base spare held m 4 [v2] = some y1 from g1)
    simp only [List.cons.injEq, and_true] at e0 e1
    refine ⟨(r.1, r.2, b), by rw [e0.1, e0.2, e1]; rfl, ?_⟩
    rw [hy, q0, q1]
    rfl
instance : Inhabited Ent := ⟨(ByteArray.empty, 0, false)⟩
/-- the letters of each entry of a slice lie within the reach -/
theorem ents_weights {H : Type} (L : List Ent) (rr : List (DataW H)) (e : Ent) (he : e ∈ L) : e.1.size ∈ DataW.weights Tryd.prog 56 (DataW.slice (L.map fun r => DataW.agg (H := H) [.agg [.lit (.string r.1.data.toList), .lit (.int .i64 r.2.1)], .lit (.bool r.2.2)]) rr) := by
  have key : ∀ (M : List Ent), e ∈ M → e.1.size ∈ DataW.weightsAll Tryd.prog 79 (M.map fun r => DataW.agg (H := H) [.agg [.lit (.string r.1.data.toList), .lit (.int .i64 r.2.1)], .lit (.bool r.2.2)]) := by
    intro M
    induction M with
    | nil => intro h; cases h
    | cons x M ih =>
      intro h
      rw [List.map_cons]
      simp only [DataW.weightsAll, List.mem_append]
      rcases List.mem_cons.1 h with h1 | h1
      · left
        subst h1
        simp [DataW.weights, DataW.weightsEach, Tryd.underlying79, Tryd.underlying23]
      · exact Or.inr (ih h1)
  simp only [DataW.weights, Tryd.underlying56, List.mem_cons, List.mem_append]
  exact Or.inr (Or.inl (key L he))
/-- a slice of entries that came in -/
theorem open_digis {H : Type} {enc : TypeId × Value → H} {w : World} {fuel : Nat} {v : Value} {x : DataW H × List MemPlace} (h : DataW.trod enc Tryd.prog w 0 (fun _ => true) true fuel 56 [v] = some x) :
    ∃ (a : Option Addr) (cap : Nat) (D : List Ent), v = .slice a D.length cap ∧ EntsAt w a cap D ∧ ∀ e ∈ D, e.1.size ∈ DataW.weights Tryd.prog 56 x.1 := by
  rcases open_slice Tryd.underlying56 h with ⟨hcs, _⟩ | ⟨a, len, cap, m, n, Dd, Pl, hcs, _, hl, hm2, hm, hx, hi⟩
  · simp only [List.cons.injEq, and_true] at hcs
    exact ⟨none, 0, [], hcs, EntsAt.nil w, fun e he => by cases he⟩
  · simp only [List.cons.injEq, and_true] at hcs
    simp only [if_true] at hm
    have each : ∀ i, i < m → ∃ r : Ent, Dd i = (.agg [.agg [.lit (.string r.1.data.toList), .lit (.int .i64 r.2.1)], .lit (.bool r.2.2)]) ∧ w.cell? (a.add (i * 3)) = some (.string r.1) ∧ w.cell? (a.add (i * 3 + 1)) = some (.int .i64 r.2.1) ∧ w.cell? (a.add (i * 3 + 2)) = some (.bool r.2.2) := by
      intro i hlt
      obtain ⟨cs', hc, ht⟩ := hi i hlt
      obtain ⟨r, hr, hy⟩ := digi_cells Tryd.underlying79 rfl rfl rfl rfl ht
      rw [Tryd.cellsDigi] at hc
      obtain ⟨_, _, hat⟩ := World.cells?_some hc
      have q0 := hat 0 (by omega)
      have q1 := hat 1 (by omega)
      have q2 := hat 2 (by omega)
      rw [add_add, hr] at q0 q1 q2
      exact ⟨r, (Prod.ext_iff.1 hy).1, q0, q1, q2⟩
    obtain ⟨R, hR⟩ := choose_lt each
    refine ⟨some a, cap, (List.range len).map R, by rw [hcs]; simp, ⟨by simpa using hl, hm2, fun k hk => ?_⟩, ?_⟩
    · have hk2 : k < len := by simpa using hk
      obtain ⟨_, q0, q1, q2⟩ := hR k (by omega)
      obtain ⟨b, off, spot⟩ := a
      have hspot : spot = none := by simpa [Addr.add] using World.cell?_spot (hR 0 (by omega)).2.1
      subst hspot
      rw [add_plain] at q0 q1 q2
      have e : ((List.range len).map R)[k]'hk = R k := by simp
      rw [e]
      exact ⟨b, off, rfl, World.block_lt_of_cell? w ⟨b, off + k * 3, none⟩ q0, q0, by rw [Nat.add_assoc]; exact q1, by rw [Nat.add_assoc]; exact q2⟩
    · intro e he
      rw [hx]
      have hmap : (List.range len).map Dd = ((List.range len).map R).map fun r => DataW.agg (H := H) [.agg [.lit (.string r.1.data.toList), .lit (.int .i64 r.2.1)], .lit (.bool r.2.2)] := by
        rw [List.map_map]
        apply List.map_congr_left
        intro i hi2
        exact (hR i (by have := List.mem_range.1 hi2; omega)).1
      show e.1.size ∈ DataW.weights Tryd.prog 56 (DataW.slice ((List.range len).map Dd) _)
      rw [hmap]
      exact ents_weights _ _ e he
/-- a path that came in -/
theorem open_path {H : Type} {enc : TypeId × Value → H} {w : World} {b0 : Nat} {r : Reach} {v : Value} {d : DataW H} {ps : List MemPlace}
    (hv : Value.okWide Tryd.prog w r b0 58 v) (h : DataW.Trod enc Tryd.prog w 0 (fun _ => true) true 58 v d ps) :
    ∃ (tb fb : ByteArray) (tn fn : Int) (tm fm : Bool) (a : Option Addr) (cap : Nat) (D : List Ent), v = .agg #[.string tb, .int .i64 tn, .string fb, .int .i64 fn, .bool tm, .bool fm, .slice a D.length cap] ∧ EntsAt w a cap D ∧
      (tb.size ∈ DataW.weights Tryd.prog 58 d ∧ fb.size ∈ DataW.weights Tryd.prog 58 d ∧ ∀ e ∈ D, e.1.size ∈ DataW.weights Tryd.prog 58 d) := by
  obtain ⟨cs, rfl, hsz⟩ := okWide_struct Tryd.underlying58 hv
  rw [Tryd.cellsPath] at hsz
  obtain ⟨l⟩ := cs
  match l, hsz with
  | [c0, c1, c2, c3, c4, c5, c6], _ =>
    obtain ⟨fuel, hf⟩ := h
    obtain ⟨xs, n, _, hx, _, hlen, hg⟩ := DataW.trod_struct Tryd.underlying58 hf
    match xs, hlen with
    | [y0, y1, y2, y3, y4], _ =>
      have g0 := (show DataW.trod enc Tryd.prog w 0 (fun _ => true) true n 23 (List.take (Tryd.prog.cellsOf 23) (List.drop 0 [c0, c1, c2, c3, c4, c5, c6])) = some y0 from hg 0 _ rfl)
      have g1 := (show DataW.trod enc Tryd.prog w 0 (fun _ => true) true n 23 (List.take (Tryd.prog.cellsOf 23) (List.drop 2 [c0, c1, c2, c3, c4, c5, c6])) = some y1 from hg 1 _ rfl)
      have g2 := (show DataW.trod enc Tryd.prog w 0 (fun _ => true) true n 4 (List.take (Tryd.prog.cellsOf 4) (List.drop 4 [c0, c1, c2, c3, c4, c5, c6])) = some y2 from hg 2 _ rfl)
      have g3 := (show DataW.trod enc Tryd.prog w 0 (fun _ => true) true n 4 (List.take (Tryd.prog.cellsOf 4) (List.drop 5 [c0, c1, c2, c3, c4, c5, c6])) = some y3 from hg 3 _ rfl)
      have g4 := (show DataW.trod enc Tryd.prog w 0 (fun _ => true) true n 56 (List.take (Tryd.prog.cellsOf 56) (List.drop 6 [c0, c1, c2, c3, c4, c5, c6])) = some y4 from hg 4 _ rfl)
      rw [Tryd.cellsCall] at g0 g1
      rw [show Tryd.prog.cellsOf 4 = 1 from by kernel_rfl] at g2 g3
      rw [show Tryd.prog.cellsOf 56 = 1 from by kernel_rfl] at g4
      obtain ⟨r0, e0, q0⟩ := call_cells Tryd.underlying23 (by kernel_rfl) rfl rfl (show DataW.trod enc Tryd.prog w 0 (fun _ => true) true n 23 [c0, c1] = some y0 from g0)
      obtain ⟨r1, e1, q1⟩ := call_cells Tryd.underlying23 (by kernel_rfl) rfl rfl (show DataW.trod enc Tryd.prog w 0 (fun _ => true) true n 23 [c2, c3] = some y1 from g1)
      obtain ⟨b2, e2, q2⟩ := DataW.trod_bool Tryd.underlying4 (show DataW.trod enc Tryd.prog w 0 (fun _ => true) true n 4 [c4] = some y2 from g2)
      obtain ⟨b3, e3, q3⟩ := DataW.trod_bool Tryd.underlying4 (show DataW.trod enc Tryd.prog w 0 (fun _ => true) true n 4 [c5] = some y3 from g3)
      obtain ⟨a, cap, D, e4, hE, hwt⟩ := open_digis (show DataW.trod enc Tryd.prog w 0 (fun _ => true) true n 56 [c6] = some y4 from g4)
      simp only [List.cons.injEq, and_true] at e0 e1 e2 e3
      obtain ⟨rfl, rfl⟩ := e0
      obtain ⟨rfl, rfl⟩ := e1
      subst e2 e3 e4
      have hd : d = .agg [y0.1, y1.1, y2.1, y3.1, y4.1] := by simpa using (Prod.ext_iff.1 hx).1
      refine ⟨r0.1, r1.1, r0.2, r1.2, b2, b3, a, cap, D, rfl, hE, ?_, ?_, ?_⟩
      · rw [hd, q0]
        simp [DataW.weights, DataW.weightsEach, Tryd.underlying58, Tryd.underlying23]
      · rw [hd, q0, q1]
        simp [DataW.weights, DataW.weightsEach, Tryd.underlying58, Tryd.underlying23]
      · intro e he
        have := hwt e he
        rw [hd]
        simp only [DataW.weights, Tryd.underlying58]
        simp only [List.map, DataW.weightsEach, List.mem_append]
        simp [this]
/-- what lies within the reach -/
theorem sized_in {H : Type} {ts : List TypeId} {ds : List (DataW H)} (h : (DataW.weightsEach Tryd.prog ts ds).all (· ≤ reachBytes) = true) {j : Nat} {t : TypeId} {d : DataW H} (ht : ts[j]? = some t) (hd : ds[j]? = some d) {n : Nat} (hn : n ∈ DataW.weights Tryd.prog t d) : n ≤ 140737488351232 := by
  have hm := List.all_eq_true.1 h _ (DataW.weights_mem_each ht hd n hn)
  have h2 : n ≤ reachBytes := of_decide_eq_true hm
  exact h2
end Go.Proofs.YtadhiknmkiogjaaDoor
namespace Go.Proofs.YtadhiknmkiogjaaDoor
open Go.ChangeShapes Go.WideShapes Go.ChangeAt Go.RowKit Go.Joins Go.Deep Go.Sort
set_option maxRecDepth 100000
/-- a call that came in -/
theorem open_callP {H : Type} {enc : TypeId × Value → H} {w : World} {base b0 : Nat} {spare : Nat → Bool} {held : Bool} {r : Reach} {v : Value} {d : DataW H} {ps : List MemPlace}
    (hv : Value.okWide Tryd.prog w r b0 23 v) (h : DataW.Trod enc Tryd.prog w base spare held 23 v d ps) : ps = [] ∧ ∃ (b : ByteArray) (n : Int), v = .agg #[.string b, .int .i64 n] ∧ b.size ∈ DataW.weights Tryd.prog 23 d := by
  obtain ⟨c0, c1, y0, y1, m, rfl, rfl, rfl, hy0, hy1⟩ := open_agg2 Tryd.underlying23 (by kernel_rfl) Tryd.cellsCall hv h
  obtain ⟨s, e0, rfl, ws⟩ := DataW.trod_string Tryd.underlying9 hy0
  obtain ⟨n, e1, rfl, _⟩ := DataW.trod_int Tryd.underlying3 hy1
  simp at e0 e1
  subst e0 e1
  exact ⟨rfl, s, n, rfl, by simp [DataW.weights, DataW.weightsEach, Tryd.underlying23]⟩
instance : Inhabited (ByteArray × Int) := ⟨⟨ByteArray.empty, 0⟩⟩
theorem calls_weights {H : Type} (L : List (ByteArray × Int)) (rr : List (DataW H)) (e : ByteArray × Int) (he : e ∈ L) : e.1.size ∈ DataW.weights Tryd.prog 24 (DataW.slice (L.map fun r => DataW.agg (H := H) [.lit (.string r.1.data.toList), .lit (.int .i64 r.2)]) rr) := by
  have key : ∀ (M : List (ByteArray × Int)), e ∈ M → e.1.size ∈ DataW.weightsAll Tryd.prog 23 (M.map fun r => DataW.agg (H := H) [.lit (.string r.1.data.toList), .lit (.int .i64 r.2)]) := by
    intro M
    induction M with
    | nil => intro h; cases h
    | cons x M ih =>
      intro h
      rw [List.map_cons]
      simp only [DataW.weightsAll, List.mem_append]
      rcases List.mem_cons.1 h with h1 | h1
      · left
        subst h1
        simp [DataW.weights, DataW.weightsEach, Tryd.underlying23]
      · exact Or.inr (ih h1)
  simp only [DataW.weights, Tryd.underlying24, List.mem_cons, List.mem_append]
  exact Or.inr (Or.inl (key L he))
/-- a slice of calls that came in -/
theorem open_callsP {H : Type} {enc : TypeId × Value → H} {w : World} {fuel : Nat} {v : Value} {x : DataW H × List MemPlace} (h : DataW.trod enc Tryd.prog w 0 (fun _ => true) true fuel 24 [v] = some x) :
    ∃ (a : Option Addr) (cap : Nat) (D : List (ByteArray × Int)), v = .slice a D.length cap ∧ CallsAt w a D ∧ ∀ e ∈ D, e.1.size ∈ DataW.weights Tryd.prog 24 x.1 := by
  rcases open_slice Tryd.underlying24 h with ⟨hcs, _⟩ | ⟨a, len, cap, m, n, Dd, Pl, hcs, _, hl, hm2, hm, hx, hi⟩
  · simp only [List.cons.injEq, and_true] at hcs
    exact ⟨none, 0, [], hcs, fun k hk => by simp at hk, fun e he => by cases he⟩
  · simp only [List.cons.injEq, and_true] at hcs
    simp only [if_true] at hm
    have each : ∀ i, i < m → ∃ r : ByteArray × Int, Dd i = (.agg [.lit (.string r.1.data.toList), .lit (.int .i64 r.2)]) ∧ w.cell? (a.add (i * 2)) = some (.string r.1) ∧ w.cell? (a.add (i * 2 + 1)) = some (.int .i64 r.2) := by
      intro i hlt
      obtain ⟨cs', hc, ht⟩ := hi i hlt
      obtain ⟨r, hr, hy⟩ := call_cells Tryd.underlying23 (by kernel_rfl) rfl rfl ht
      rw [Tryd.cellsCall] at hc
      obtain ⟨_, _, hat⟩ := World.cells?_some hc
      have q0 := hat 0 (by omega)
      have q1 := hat 1 (by omega)
      rw [add_add, hr] at q0 q1
      exact ⟨r, (Prod.ext_iff.1 hy).1, q0, q1⟩
    obtain ⟨R, hR⟩ := choose_lt each
    refine ⟨some a, cap, (List.range len).map R, by rw [hcs]; simp, fun k hk => ?_, ?_⟩
    · have hk2 : k < len := by simpa using hk
      obtain ⟨_, q0, q1⟩ := hR k (by omega)
      obtain ⟨b, off, spot⟩ := a
      have hspot : spot = none := by simpa [Addr.add] using World.cell?_spot (hR 0 (by omega)).2.1
      subst hspot
      rw [add_plain] at q0 q1
      have e : ((List.range len).map R)[k]'hk = R k := by simp
      rw [e]
      exact ⟨b, off, rfl, World.block_lt_of_cell? w ⟨b, off + k * 2, none⟩ q0, q0, by rw [Nat.add_assoc]; exact q1⟩
    · intro e he
      rw [hx]
      have hmap : (List.range len).map Dd = ((List.range len).map R).map fun r => DataW.agg (H := H) [.lit (.string r.1.data.toList), .lit (.int .i64 r.2)] := by
        rw [List.map_map]
        apply List.map_congr_left
        intro i hi2
        exact (hR i (by have := List.mem_range.1 hi2; omega)).1
      show e.1.size ∈ DataW.weights Tryd.prog 24 (DataW.slice ((List.range len).map Dd) _)
      rw [hmap]
      exact calls_weights _ _ e he
end Go.Proofs.YtadhiknmkiogjaaDoor
namespace Go.Proofs.YtadhiknmkiogjaaDoor
set_option maxRecDepth 20000
open Go.ChangeShapes Go.WideShapes Go.ChangeAt Go.RowKit Go.Joins Go.Deep
theorem Tryd.ownS : ownKnob Tryd.prog.godebug = none := by kernel_rfl
theorem Tryd.laidOutS : laidOutB Tryd.prog = true := by kernel_rfl
/-- an int is as wide as one -/
theorem bounds_i64 {n : Int} (h : (Lit.int .i64 n).wf = true) : -9223372036854775808 ≤ n ∧ n ≤ 9223372036854775807 := by
  simp only [Lit.wf, Bool.and_eq_true, decide_eq_true_eq] at h
  exact h
theorem byte_nat {n : Int} (h : (Lit.int .u8 n).wf = true) : ∃ b : Nat, n = (b : Int) ∧ b < 256 := by
  simp only [Lit.wf, Bool.and_eq_true, decide_eq_true_eq] at h
  have h3 : 0 ≤ n ∧ n ≤ 255 := h
  obtain ⟨b, hb⟩ := Int.eq_ofNat_of_zero_le h3.1
  exact ⟨b, hb, by omega⟩
/-- bytes as numbers -/
def encB : Enc Nat := ⟨1, by omega, fun b => [.int .u8 (b : Int)], fun _ => rfl, fun _ u hu => by rw [List.mem_singleton.1 hu]; rfl⟩
theorem byte_at {w : World} {g o : Nat} {L : List Nat} (h : AtL encB w (some ⟨g, o, none⟩) L) (k : Nat) (hk : k < L.length) : w.cell? ⟨g, o + k, none⟩ = some (.int .u8 (L[k] : Int)) := by
  have := h.get k hk 0 (u := .int .u8 (L[k] : Int)) rfl
  simpa [encB] using this
/-- one int's cell -/
theorem int_cells {H : Type} {enc : TypeId × Value → H} {w : World} {base n : Nat} {spare : Nat → Bool} {held : Bool} {cs : List Value} {y : DataW H × List MemPlace} {t : TypeId} (ht : Tryd.prog.underlying t = some (.int .i64))
    (h : DataW.trod enc Tryd.prog w base spare held n t cs = some y) : ∃ k : Int, cs = [.int .i64 k] ∧ -9223372036854775808 ≤ k ∧ k ≤ 9223372036854775807 := by
  obtain ⟨k, q, -, hw⟩ := DataW.trod_int ht h
  exact ⟨k, q, bounds_i64 hw⟩
/-- one byte's cell -/
theorem byte_cells {H : Type} {enc : TypeId × Value → H} {w : World} {base n : Nat} {spare : Nat → Bool} {held : Bool} {cs : List Value} {y : DataW H × List MemPlace} {t : TypeId} (ht : Tryd.prog.underlying t = some (.int .u8))
    (h : DataW.trod enc Tryd.prog w base spare held n t cs = some y) : ∃ k : Nat, cs = [.int .u8 (k : Int)] ∧ k < 256 := by
  obtain ⟨k, q, -, hw⟩ := DataW.trod_int ht h
  obtain ⟨b, rfl, hb⟩ := byte_nat hw
  exact ⟨b, q, hb⟩
/-- a slice of anything, out of one of them -/
theorem open_list {α : Type} [Inhabited α] (E : Enc α) (Q : α → Prop) {H : Type} {enc : TypeId × Value → H} {w : World} {fuel : Nat} {a0 : Option Addr} {len cap : Nat} {x : DataW H × List MemPlace} {ts te : TypeId}
    (ht : Tryd.prog.underlying ts = some (.slice te)) (hn : Tryd.prog.cellsOf te = E.n)
    (hone : ∀ (n : Nat) (cs : List Value) (y : DataW H × List MemPlace), cs.length = E.n → DataW.trod enc Tryd.prog w 0 (fun _ => true) true n te cs = some y → ∃ a, cs = E.enc a ∧ Q a)
    (h : DataW.trod enc Tryd.prog w 0 (fun _ => true) true fuel ts [.slice a0 len cap] = some x) : ∃ L : List α, L.length = len ∧ AtL E w a0 L ∧ ∀ y ∈ L, Q y := by
  rcases open_slice ht h with ⟨hcs, _⟩ | ⟨a, len', cap', m, n, D, Pl, hcs, _, hl, _, hm, _, hi⟩
  · simp at hcs
    obtain ⟨rfl, rfl, rfl⟩ := hcs
    exact ⟨[], rfl, AtL.nil _ _ _, fun y hy => by cases hy⟩
  · simp at hcs
    obtain ⟨rfl, rfl, rfl⟩ := hcs
    simp only [if_true] at hm
    have each : ∀ i, i < len → ∃ k : α, Q k ∧ ∀ j u, (E.enc k)[j]? = some u → w.cell? (a.add (i * E.n + j)) = some u := by
      intro i hlt
      obtain ⟨cs', hc, hts⟩ := hi i (by omega)
      rw [hn] at hc
      obtain ⟨hlc, _, hat⟩ := World.cells?_some hc
      obtain ⟨k, hr, hb⟩ := hone _ _ _ (by first | exact hlc | simpa using hlc | omega) hts
      refine ⟨k, hb, fun j u hj => ?_⟩
      have hjn : j < E.n := by
        have := (List.getElem?_eq_some_iff.1 hj).1
        rwa [E.len] at this
      have q0 := hat j hjn
      rw [add_add, hr] at q0
      rw [q0]
      exact hj
    obtain ⟨R, hR⟩ := choose_lt each
    refine ⟨(List.range len).map R, by simp, fun k h => ?_, fun y hy => ?_⟩
    · have hk : k < len := by simpa using h
      obtain ⟨b, off, spot⟩ := a
      have hne : ∃ u, (E.enc (R 0))[0]? = some u := ⟨_, List.getElem?_eq_getElem (by rw [E.len]; exact E.pos)⟩
      obtain ⟨u0, hu0⟩ := hne
      have hspot : spot = none := by simpa [Addr.add] using World.cell?_spot ((hR 0 (by omega)).2 0 u0 hu0)
      subst hspot
      have e : ((List.range len).map R)[k] = R k := by simp
      have hb : b < w.heap.size := World.block_lt_of_cell? w ⟨b, off + (0 * E.n + 0), none⟩ (by
        have := (hR 0 (by omega)).2 0 u0 hu0
        rwa [add_plain] at this)
      refine ⟨b, off, rfl, hb, fun j u hj => ?_⟩
      rw [e] at hj
      have q0 := (hR k hk).2 j u hj
      rw [add_plain] at q0
      rw [Nat.add_assoc]
      exact q0
    · obtain ⟨i, hi', rfl⟩ := List.mem_map.1 hy
      exact (hR i (by simpa using hi')).1
theorem array_two' {a : Array Value} (h : a.size = 2) : ∃ x y, a = #[x, y] := by
  obtain ⟨l⟩ := a
  match l, h with
  | [x, y], _ => exact ⟨x, y, rfl⟩
end Go.Proofs.YtadhiknmkiogjaaDoor
namespace Go.Proofs.YtadhiknmkiogjaaDoor
open Go.ChangeShapes Go.WideShapes Go.ChangeAt Go.RowKit Go.Joins Go.Deep Go.Sort
set_option maxRecDepth 100000
theorem g_codes22 : Tryd.prog.globalNamed "squelch/ctl.codes" = some 0 := by kernel_rfl
theorem codes_datum22 : (Rows.laid_squelch_ctl_codes : DataW Unit) = Lib.tabData .u8 codeL := by kernel_rfl
theorem codes_laid22 {W : World} {r : List (String × DataW Unit)} (h : laidMet Tryd.prog (("squelch/ctl.codes", Rows.laid_squelch_ctl_codes) :: r) W) : CodesOk W := by
  rw [codes_datum22] at h
  have k := Lib.tabIs_of_head g_codes22 (t := 114) (e := 5) (by kernel_rfl) Tryd.underlying114 Tryd.underlying5 (by kernel_rfl) (by kernel_rfl) h
  exact ⟨fun i hi => k.cell g_codes22 i hi⟩
theorem vars_ui {W : World} (h : laidMetH Tryd.prog Rows.uiNoneRow.laid W) : CodesOk W := by
  rw [MakeChecks.laidMetH_plain _ _ _ (by kernel_rfl)] at h
  exact codes_laid22 h
theorem met_ui (os : Os) (args : Array Value) : laidMetH Tryd.prog Rows.uiNoneRow.laid ((World.laidAll Tryd.prog os Rows.uiNoneRow.laid).forCall (fun _ _ => 0) ⟨#[], args, []⟩).memory := by
  rw [MakeChecks.laidMetH_plain _ _ _ (by kernel_rfl)]
  exact laidMet_laidAll _ (by kernel_rfl) (by kernel_rfl)
theorem Tryd.cellsGram : Tryd.prog.cellsOf 26 = 7 := by kernel_rfl
theorem Tryd.cellsOp : Tryd.prog.cellsOf 49 = 9 := by kernel_rfl
/-- seven cells that read as a datagram -/
theorem gram_cells {H : Type} {enc : TypeId × Value → H} {w : World} {n : Nat} {cs : List Value} {y : DataW H × List MemPlace} (hl : cs.length = 7)
    (h : DataW.trod enc Tryd.prog w 0 (fun _ => true) true n 26 cs = some y) :
    ∃ (fb tb : ByteArray) (fn tn : Int) (a : Option Addr) (cap : Nat) (C : List (ByteArray × Int)) (pid : Int) (t : ByteArray), cs = [.string fb, .int .i64 fn, .string tb, .int .i64 tn, .slice a C.length cap, .int .i64 pid, .string t] ∧ CallsAt w a C ∧
      (fb.size ∈ DataW.weights Tryd.prog 26 y.1 ∧ tb.size ∈ DataW.weights Tryd.prog 26 y.1 ∧ ∀ e ∈ C, e.1.size ∈ DataW.weights Tryd.prog 26 y.1) := by
  match cs, hl with
  | [c0, c1, c2, c3, c4, c5, c6], _ =>
    obtain ⟨xs, n', _, hx, _, hlen, hg⟩ := DataW.trod_struct Tryd.underlying26 h
    match xs, hlen with
    | [y0, y1, y2, y3, y4], _ =>
      have g0 := (show DataW.trod enc Tryd.prog w 0 (fun _ => true) true n' 23 (List.take (Tryd.prog.cellsOf 23) (List.drop 0 [c0, c1, c2, c3, c4, c5, c6])) = some y0 from hg 0 _ rfl)
      have g1 := (show DataW.trod enc Tryd.prog w 0 (fun _ => true) true n' 23 (List.take (Tryd.prog.cellsOf 23) (List.drop 2 [c0, c1, c2, c3, c4, c5, c6])) = some y1 from hg 1 _ rfl)
      have g2 := (show DataW.trod enc Tryd.prog w 0 (fun _ => true) true n' 24 (List.take (Tryd.prog.cellsOf 24) (List.drop 4 [c0, c1, c2, c3, c4, c5, c6])) = some y2 from hg 2 _ rfl)
      have g3 := (show DataW.trod enc Tryd.prog w 0 (fun _ => true) true n' 3 (List.take (Tryd.prog.cellsOf 3) (List.drop 5 [c0, c1, c2, c3, c4, c5, c6])) = some y3 from hg 3 _ rfl)
      have g4 := (show DataW.trod enc Tryd.prog w 0 (fun _ => true) true n' 9 (List.take (Tryd.prog.cellsOf 9) (List.drop 6 [c0, c1, c2, c3, c4, c5, c6])) = some y4 from hg 4 _ rfl)
      rw [Tryd.cellsCall] at g0 g1
      rw [show Tryd.prog.cellsOf 24 = 1 from by kernel_rfl] at g2
      rw [show Tryd.prog.cellsOf 3 = 1 from by kernel_rfl] at g3
      rw [show Tryd.prog.cellsOf 9 = 1 from by kernel_rfl] at g4
      obtain ⟨r0, e0, q0⟩ := call_cells Tryd.underlying23 (by kernel_rfl) rfl rfl (show DataW.trod enc Tryd.prog w 0 (fun _ => true) true n' 23 [c0, c1] = some y0 from g0)
      obtain ⟨r1, e1, q1⟩ := call_cells Tryd.underlying23 (by kernel_rfl) rfl rfl (show DataW.trod enc Tryd.prog w 0 (fun _ => true) true n' 23 [c2, c3] = some y1 from g1)
      obtain ⟨a, cap, C, e2, hE, hwt⟩ := open_callsP (show DataW.trod enc Tryd.prog w 0 (fun _ => true) true n' 24 [c4] = some y2 from g2)
      obtain ⟨pid, e3, -, -⟩ := DataW.trod_int Tryd.underlying3 (show DataW.trod enc Tryd.prog w 0 (fun _ => true) true n' 3 [c5] = some y3 from g3)
      obtain ⟨t, e4, -, -⟩ := DataW.trod_string Tryd.underlying9 (show DataW.trod enc Tryd.prog w 0 (fun _ => true) true n' 9 [c6] = some y4 from g4)
      simp only [List.cons.injEq, and_true] at e0 e1 e3 e4
      obtain ⟨rfl, rfl⟩ := e0
      obtain ⟨rfl, rfl⟩ := e1
      subst e2 e3 e4
      have hd : y.1 = .agg [y0.1, y1.1, y2.1, y3.1, y4.1] := by simpa using (Prod.ext_iff.1 hx).1
      refine ⟨r0.1, r1.1, r0.2, r1.2, a, cap, C, pid, t, rfl, hE, ?_, ?_, ?_⟩
      · rw [hd, q0]
        simp [DataW.weights, DataW.weightsEach, Tryd.underlying26, Tryd.underlying23]
      · rw [hd, q0, q1]
        simp [DataW.weights, DataW.weightsEach, Tryd.underlying26, Tryd.underlying23]
      · intro e he
        have := hwt e he
        rw [hd]
        simp only [DataW.weights, Tryd.underlying26]
        simp only [List.map, DataW.weightsEach, List.mem_append]
        simp [this]
/-- a datagram that came in -/
theorem open_gram {H : Type} {enc : TypeId × Value → H} {w : World} {b0 : Nat} {r : Reach} {v : Value} {d : DataW H} {ps : List MemPlace}
    (hv : Value.okWide Tryd.prog w r b0 26 v) (h : DataW.Trod enc Tryd.prog w 0 (fun _ => true) true 26 v d ps) :
    ∃ (fb tb : ByteArray) (fn tn : Int) (a : Option Addr) (cap : Nat) (C : List (ByteArray × Int)) (pid : Int) (t : ByteArray), v = .agg #[.string fb, .int .i64 fn, .string tb, .int .i64 tn, .slice a C.length cap, .int .i64 pid, .string t] ∧ CallsAt w a C ∧
      (fb.size ∈ DataW.weights Tryd.prog 26 d ∧ tb.size ∈ DataW.weights Tryd.prog 26 d ∧ ∀ e ∈ C, e.1.size ∈ DataW.weights Tryd.prog 26 d) := by
  obtain ⟨cs, rfl, hsz⟩ := okWide_struct Tryd.underlying26 hv
  rw [Tryd.cellsGram] at hsz
  obtain ⟨l⟩ := cs
  obtain ⟨fuel, hf⟩ := h
  obtain ⟨fb, tb, fn, tn, a, cap, C, pid, t, e, hE, hw⟩ := gram_cells (cs := l) hsz hf
  exact ⟨fb, tb, fn, tn, a, cap, C, pid, t, by rw [e], hE, hw⟩
/-- the sizes of an op's letters -/
def Op22.szs (o : Op22) : List Nat := o.tb.size :: o.C.map fun x => x.1.size
instance inhOp22 : Inhabited Op22 := ⟨⟨0, 0, ByteArray.empty, 0, ByteArray.empty, 0, none, 0, [], 0, ByteArray.empty⟩⟩
/-- nine cells that read as an op -/
theorem op_cells {H : Type} {enc : TypeId × Value → H} {w : World} {n : Nat} {cs : List Value} {y : DataW H × List MemPlace} (hl : cs.length = 9)
    (h : DataW.trod enc Tryd.prog w 0 (fun _ => true) true n 49 cs = some y) : ∃ o : Op22, cs = encOp.enc o ∧ CallsAt w o.a o.C ∧ ∀ m ∈ o.szs, m ∈ DataW.weights Tryd.prog 49 y.1 := by
  match cs, hl with
  | [c0, c1, c2, c3, c4, c5, c6, c7, c8], _ =>
    obtain ⟨xs, n', _, hx, _, hlen, hg⟩ := DataW.trod_struct Tryd.underlying49 h
    match xs, hlen with
    | [y0, y1, y2], _ =>
      have g0 := (show DataW.trod enc Tryd.prog w 0 (fun _ => true) true n' 3 (List.take (Tryd.prog.cellsOf 3) (List.drop 0 [c0, c1, c2, c3, c4, c5, c6, c7, c8])) = some y0 from hg 0 _ rfl)
      have g1 := (show DataW.trod enc Tryd.prog w 0 (fun _ => true) true n' 3 (List.take (Tryd.prog.cellsOf 3) (List.drop 1 [c0, c1, c2, c3, c4, c5, c6, c7, c8])) = some y1 from hg 1 _ rfl)
      have g2 := (show DataW.trod enc Tryd.prog w 0 (fun _ => true) true n' 26 (List.take (Tryd.prog.cellsOf 26) (List.drop 2 [c0, c1, c2, c3, c4, c5, c6, c7, c8])) = some y2 from hg 2 _ rfl)
      rw [show Tryd.prog.cellsOf 3 = 1 from by kernel_rfl] at g0 g1
      rw [Tryd.cellsGram] at g2
      obtain ⟨K, e0, -, -⟩ := DataW.trod_int Tryd.underlying3 (show DataW.trod enc Tryd.prog w 0 (fun _ => true) true n' 3 [c0] = some y0 from g0)
      obtain ⟨N, e1, -, -⟩ := DataW.trod_int Tryd.underlying3 (show DataW.trod enc Tryd.prog w 0 (fun _ => true) true n' 3 [c1] = some y1 from g1)
      obtain ⟨fb, tb, fn, tn, a, cap, C, pid, t, e2, hE, hw1, hw2, hw3⟩ := gram_cells (cs := [c2, c3, c4, c5, c6, c7, c8]) rfl (show DataW.trod enc Tryd.prog w 0 (fun _ => true) true n' 26 [c2, c3, c4, c5, c6, c7, c8] = some y2 from g2)
      simp only [List.cons.injEq, and_true] at e0 e1 e2
      obtain ⟨rfl, rfl, rfl, rfl, rfl, rfl, rfl⟩ := e2
      subst e0 e1
      have hd : y.1 = .agg [y0.1, y1.1, y2.1] := by simpa using (Prod.ext_iff.1 hx).1
      refine ⟨⟨K, N, fb, fn, tb, tn, a, cap, C, pid, t⟩, rfl, hE, fun m hm => ?_⟩
      have hm2 : m ∈ DataW.weights Tryd.prog 26 y2.1 := by
        rcases List.mem_cons.1 hm with rfl | hm
        · exact hw2
        · obtain ⟨e, he, rfl⟩ := List.mem_map.1 hm
          exact hw3 e he
      rw [hd]
      simp only [DataW.weights, Tryd.underlying49]
      simp only [List.map, DataW.weightsEach, List.mem_append]
      simp [hm2]
theorem all_weights {H : Type} (T : TypeId) (D : Nat → DataW H) (m i : Nat) (hm : m ∈ DataW.weights Tryd.prog T (D i)) : ∀ l : List Nat, i ∈ l → m ∈ DataW.weightsAll Tryd.prog T (l.map D) := by
  intro l
  induction l with
  | nil => intro h; cases h
  | cons x l ih =>
    intro h
    rw [List.map_cons]
    simp only [DataW.weightsAll, List.mem_append]
    rcases List.mem_cons.1 h with rfl | h
    · exact Or.inl hm
    · exact Or.inr (ih h)
/-- a slice of ops that came in -/
theorem open_ops22 {H : Type} {enc : TypeId × Value → H} {w : World} {fuel : Nat} {a0 : Option Addr} {len cap : Nat} {x : DataW H × List MemPlace} (h : DataW.trod enc Tryd.prog w 0 (fun _ => true) true fuel 41 [.slice a0 len cap] = some x) :
    ∃ L : List Op22, L.length = len ∧ AtL encOp w a0 L ∧ ∀ o ∈ L, CallsAt w o.a o.C ∧ ∀ m ∈ o.szs, m ∈ DataW.weights Tryd.prog 41 x.1 := by
  rcases open_slice Tryd.underlying41 h with ⟨hcs, _⟩ | ⟨a, len', cap', m, n, D, Pl, hcs, _, hl, _, hm, hx, hi⟩
  · simp at hcs
    obtain ⟨rfl, rfl, rfl⟩ := hcs
    exact ⟨[], rfl, AtL.nil _ _ _, fun y hy => by cases hy⟩
  · simp at hcs
    obtain ⟨rfl, rfl, rfl⟩ := hcs
    simp only [if_true] at hm
    have each : ∀ i, i < len → ∃ o : Op22, (CallsAt w o.a o.C ∧ ∀ m ∈ o.szs, m ∈ DataW.weights Tryd.prog 49 (D i)) ∧ ∀ j u, (encOp.enc o)[j]? = some u → w.cell? (a.add (i * 9 + j)) = some u := by
      intro i hlt
      obtain ⟨cs', hc, hts⟩ := hi i (by omega)
      rw [Tryd.cellsOp] at hc
      obtain ⟨hlc, _, hat⟩ := World.cells?_some hc
      obtain ⟨o, hr, hb, hw⟩ := op_cells (by first | exact hlc | simpa using hlc | omega) hts
      refine ⟨o, ⟨hb, hw⟩, fun j u hj => ?_⟩
      have hjn : j < 9 := by
        have := (List.getElem?_eq_some_iff.1 hj).1
        rwa [encOp.len] at this
      have q0 := hat j hjn
      rw [add_add, hr] at q0
      rw [q0]
      exact hj
    obtain ⟨R, hR⟩ := choose_lt each
    refine ⟨(List.range len).map R, by simp, fun k h => ?_, fun y hy => ?_⟩
    · have hk : k < len := by simpa using h
      obtain ⟨b, off, spot⟩ := a
      have hspot : spot = none := by simpa [Addr.add] using World.cell?_spot ((hR 0 (by omega)).2 0 _ rfl)
      subst hspot
      have e : ((List.range len).map R)[k] = R k := by simp
      have hb : b < w.heap.size := World.block_lt_of_cell? w ⟨b, off + (0 * 9 + 0), none⟩ (by
        have := (hR 0 (by omega)).2 0 _ rfl
        rwa [add_plain] at this)
      refine ⟨b, off, rfl, hb, fun j u hj => ?_⟩
      rw [e] at hj
      have q0 := (hR k hk).2 j u hj
      rw [add_plain] at q0
      show w.cell? ⟨b, off + k * 9 + j, none⟩ = some u
      rw [Nat.add_assoc]
      exact q0
    · obtain ⟨i, hi', rfl⟩ := List.mem_map.1 hy
      have hil : i < len := by simpa using hi'
      refine ⟨(hR i hil).1.1, fun m hm' => ?_⟩
      have h1 := (hR i hil).1.2 m hm'
      rw [hx]
      simp only [DataW.weights, Tryd.underlying41, List.mem_cons, List.mem_append]
      exact Or.inr (Or.inl (all_weights 49 D m i h1 _ hi'))
end Go.Proofs.YtadhiknmkiogjaaDoor
