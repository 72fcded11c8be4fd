/-
What opening an argument that is a path, a call or a slice of calls gives.
-/
import Derived.Test.YtplandmnmdkjmaaDoorPathBase
import Derived.ProofKit
import Derived.SizedLaws
import Derived.Lib.SmallJoins
import Derived.Deep.Slices
import Derived.Deep.Fields
import Derived.Deep.Strs
import Derived.Lib.ItoaNum
import Derived.BigRegion
import Derived.IntWalk
import Derived.Lib.QuietBelow
import Derived.BigQuiet
import Derived.Deep.QuietTactic
import Derived.Lib.IndexBytes
namespace Go.Proofs.YtplandmnmdkjmaaDoor
open Go.ChangeShapes Go.WideShapes Go.ChangeAt Go.RowKit Go.Joins Go.Deep Go.Sort
set_option maxRecDepth 100000
theorem Tryd.own : ownKnob Tryd.prog.godebug = none := by kernel_rfl
theorem Tryd.laidOut : laidOutB Tryd.prog = true := by kernel_rfl
theorem Tryd.cellsCall : Tryd.prog.cellsOf 23 = 2 := by kernel_rfl
theorem Tryd.cellsDigi : Tryd.prog.cellsOf 86 = 3 := by kernel_rfl
theorem Tryd.cellsPath : Tryd.prog.cellsOf 26 = 7 := by kernel_rfl
/-- two cells that read as a call -/
theorem call_cells {H : Type} {enc : TypeId × Value → H} {w : World} {base n : Nat} {spare : Nat → Bool} {held : Bool} {f0 f1 : Field} {cs : List Value} {y : DataW H × List MemPlace}
    (hs : Tryd.prog.underlying 23 = some (.struct #[f0, f1])) (hone : oneCellFields Tryd.prog #[f0, f1] = true) (t0 : f0.type = 9) (t1 : f1.type = 3)
    (h : DataW.trod enc Tryd.prog w base spare held n 23 cs = some y) : ∃ r : ByteArray × Int, cs = [.string r.1, .int .i64 r.2] ∧ y = (.agg [.lit (.string r.1.data.toList), .lit (.int .i64 r.2)], []) := by
  obtain ⟨y0, y1, m, hy, hl, g0, g1⟩ := trod_struct2 hs h
  obtain ⟨o0, k0⟩ := hone_of hone 0 f0 rfl
  obtain ⟨o1, k1⟩ := hone_of hone 1 f1 rfl
  rw [o0, k0, t0] at g0
  rw [o1, k1, t1] at g1
  rw [Tryd.cellsCall] at hl
  match cs, hl with
  | [v0, v1], _ =>
    obtain ⟨s, e0, q0, _⟩ := DataW.trod_string Tryd.underlying9 (show DataW.trod enc Tryd.prog w base spare held m 9 [v0] = some y0 from g0)
    obtain ⟨p, e1, q1, _⟩ := DataW.trod_int Tryd.underlying3 (show DataW.trod enc Tryd.prog w base spare held m 3 [v1] = some y1 from g1)
    simp only [List.cons.injEq, and_true] at e0 e1
    exact ⟨⟨s, p⟩, by rw [e0, e1], by rw [hy, q0, q1]; rfl⟩
/-- three cells that read as an entry -/
theorem digi_cells {H : Type} {enc : TypeId × Value → H} {w : World} {base n : Nat} {spare : Nat → Bool} {held : Bool} {f0 f1 : Field} {cs : List Value} {y : DataW H × List MemPlace}
    (hs : Tryd.prog.underlying 86 = some (.struct #[f0, f1])) (o0 : f0.offset = 0) (o1 : f1.offset = 2) (t0 : f0.type = 23) (t1 : f1.type = 4)
    (h : DataW.trod enc Tryd.prog w base spare held n 86 cs = some y) : ∃ r : Ent, cs = entV r ∧ y = (.agg [.agg [.lit (.string r.1.data.toList), .lit (.int .i64 r.2.1)], .lit (.bool r.2.2)], []) := by
  obtain ⟨y0, y1, m, hy, hl, g0, g1⟩ := trod_struct2 hs h
  rw [o0, t0, Tryd.cellsCall] at g0
  rw [o1, t1, show Tryd.prog.cellsOf 4 = 1 from by kernel_rfl] at g1
  rw [Tryd.cellsDigi] at hl
  match cs, hl with
  | [v0, v1, v2], _ =>
    obtain ⟨r, e0, q0⟩ := call_cells Tryd.underlying23 (by kernel_rfl) rfl rfl (show DataW.trod enc Tryd.prog w base spare held m 23 [v0, v1] = some y0 from g0)
    obtain ⟨b, e1, q1⟩ := DataW.trod_bool Tryd.underlying4 (show DataW.trod enc Tryd.prog w base spare held m 4 [v2] = some y1 from g1)
    simp only [List.cons.injEq, and_true] at e0 e1
    refine ⟨(r.1, r.2, b), by rw [e0.1, e0.2, e1]; rfl, ?_⟩
    rw [hy, q0, q1]
    rfl
instance : Inhabited Ent := ⟨(ByteArray.empty, 0, false)⟩
/-- the letters of each entry of a slice lie within the reach -/
theorem ents_weights {H : Type} (L : List Ent) (rr : List (DataW H)) (e : Ent) (he : e ∈ L) : e.1.size ∈ DataW.weights Tryd.prog 24 (DataW.slice (L.map fun r => DataW.agg (H := H) [.agg [.lit (.string r.1.data.toList), .lit (.int .i64 r.2.1)], .lit (.bool r.2.2)]) rr) := by
  have key : ∀ (M : List Ent), e ∈ M → e.1.size ∈ DataW.weightsAll Tryd.prog 86 (M.map fun r => DataW.agg (H := H) [.agg [.lit (.string r.1.data.toList), .lit (.int .i64 r.2.1)], .lit (.bool r.2.2)]) := by
    intro M
    induction M with
    | nil => intro h; cases h
    | cons x M ih =>
      intro h
      rw [List.map_cons]
      simp only [DataW.weightsAll, List.mem_append]
      rcases List.mem_cons.1 h with h1 | h1
      · left
        subst h1
        simp [DataW.weights, DataW.weightsEach, Tryd.underlying86, Tryd.underlying23]
      · exact Or.inr (ih h1)
  simp only [DataW.weights, Tryd.underlying24, List.mem_cons, List.mem_append]
  exact Or.inr (Or.inl (key L he))
/-- a slice of entries that came in -/
theorem open_digis {H : Type} {enc : TypeId × Value → H} {w : World} {fuel : Nat} {v : Value} {x : DataW H × List MemPlace} (h : DataW.trod enc Tryd.prog w 0 (fun _ => true) true fuel 24 [v] = some x) :
    ∃ (a : Option Addr) (cap : Nat) (D : List Ent), v = .slice a D.length cap ∧ EntsAt w a cap D ∧ ∀ e ∈ D, e.1.size ∈ DataW.weights Tryd.prog 24 x.1 := by
  rcases open_slice Tryd.underlying24 h with ⟨hcs, _⟩ | ⟨a, len, cap, m, n, Dd, Pl, hcs, _, hl, hm2, hm, hx, hi⟩
  · simp only [List.cons.injEq, and_true] at hcs
    exact ⟨none, 0, [], hcs, EntsAt.nil w, fun e he => by cases he⟩
  · simp only [List.cons.injEq, and_true] at hcs
    simp only [if_true] at hm
    have each : ∀ i, i < m → ∃ r : Ent, Dd i = (.agg [.agg [.lit (.string r.1.data.toList), .lit (.int .i64 r.2.1)], .lit (.bool r.2.2)]) ∧ w.cell? (a.add (i * 3)) = some (.string r.1) ∧ w.cell? (a.add (i * 3 + 1)) = some (.int .i64 r.2.1) ∧ w.cell? (a.add (i * 3 + 2)) = some (.bool r.2.2) := by
      intro i hlt
      obtain ⟨cs', hc, ht⟩ := hi i hlt
      obtain ⟨r, hr, hy⟩ := digi_cells Tryd.underlying86 rfl rfl rfl rfl ht
      rw [Tryd.cellsDigi] at hc
      obtain ⟨_, _, hat⟩ := World.cells?_some hc
      have q0 := hat 0 (by omega)
      have q1 := hat 1 (by omega)
      have q2 := hat 2 (by omega)
      rw [add_add, hr] at q0 q1 q2
      exact ⟨r, (Prod.ext_iff.1 hy).1, q0, q1, q2⟩
    obtain ⟨R, hR⟩ := choose_lt each
    refine ⟨some a, cap, (List.range len).map R, by rw [hcs]; simp, ⟨by simpa using hl, hm2, fun k hk => ?_⟩, ?_⟩
    · have hk2 : k < len := by simpa using hk
      obtain ⟨_, q0, q1, q2⟩ := hR k (by omega)
      obtain ⟨b, off, spot⟩ := a
      have hspot : spot = none := by simpa [Addr.add] using World.cell?_spot (hR 0 (by omega)).2.1
      subst hspot
      rw [add_plain] at q0 q1 q2
      have e : ((List.range len).map R)[k]'hk = R k := by simp
      rw [e]
      exact ⟨b, off, rfl, World.block_lt_of_cell? w ⟨b, off + k * 3, none⟩ q0, q0, by rw [Nat.add_assoc]; exact q1, by rw [Nat.add_assoc]; exact q2⟩
    · intro e he
      rw [hx]
      have hmap : (List.range len).map Dd = ((List.range len).map R).map fun r => DataW.agg (H := H) [.agg [.lit (.string r.1.data.toList), .lit (.int .i64 r.2.1)], .lit (.bool r.2.2)] := by
        rw [List.map_map]
        apply List.map_congr_left
        intro i hi2
        exact (hR i (by have := List.mem_range.1 hi2; omega)).1
      show e.1.size ∈ DataW.weights Tryd.prog 24 (DataW.slice ((List.range len).map Dd) _)
      rw [hmap]
      exact ents_weights _ _ e he
/-- a path that came in -/
theorem open_path {H : Type} {enc : TypeId × Value → H} {w : World} {b0 : Nat} {r : Reach} {v : Value} {d : DataW H} {ps : List MemPlace}
    (hv : Value.okWide Tryd.prog w r b0 26 v) (h : DataW.Trod enc Tryd.prog w 0 (fun _ => true) true 26 v d ps) :
    ∃ (tb fb : ByteArray) (tn fn : Int) (tm fm : Bool) (a : Option Addr) (cap : Nat) (D : List Ent), v = .agg #[.string tb, .int .i64 tn, .string fb, .int .i64 fn, .bool tm, .bool fm, .slice a D.length cap] ∧ EntsAt w a cap D ∧
      (tb.size ∈ DataW.weights Tryd.prog 26 d ∧ fb.size ∈ DataW.weights Tryd.prog 26 d ∧ ∀ e ∈ D, e.1.size ∈ DataW.weights Tryd.prog 26 d) := by
  obtain ⟨cs, rfl, hsz⟩ := okWide_struct Tryd.underlying26 hv
  rw [Tryd.cellsPath] at hsz
  obtain ⟨l⟩ := cs
  match l, hsz with
  | [c0, c1, c2, c3, c4, c5, c6], _ =>
    obtain ⟨fuel, hf⟩ := h
    obtain ⟨xs, n, _, hx, _, hlen, hg⟩ := DataW.trod_struct Tryd.underlying26 hf
    match xs, hlen with
    | [y0, y1, y2, y3, y4], _ =>
      have g0 := (show DataW.trod enc Tryd.prog w 0 (fun _ => true) true n 23 (List.take (Tryd.prog.cellsOf 23) (List.drop 0 [c0, c1, c2, c3, c4, c5, c6])) = some y0 from hg 0 _ rfl)
      have g1 := (show DataW.trod enc Tryd.prog w 0 (fun _ => true) true n 23 (List.take (Tryd.prog.cellsOf 23) (List.drop 2 [c0, c1, c2, c3, c4, c5, c6])) = some y1 from hg 1 _ rfl)
      have g2 := (show DataW.trod enc Tryd.prog w 0 (fun _ => true) true n 4 (List.take (Tryd.prog.cellsOf 4) (List.drop 4 [c0, c1, c2, c3, c4, c5, c6])) = some y2 from hg 2 _ rfl)
      have g3 := (show DataW.trod enc Tryd.prog w 0 (fun _ => true) true n 4 (List.take (Tryd.prog.cellsOf 4) (List.drop 5 [c0, c1, c2, c3, c4, c5, c6])) = some y3 from hg 3 _ rfl)
      have g4 := (show DataW.trod enc Tryd.prog w 0 (fun _ => true) true n 24 (List.take (Tryd.prog.cellsOf 24) (List.drop 6 [c0, c1, c2, c3, c4, c5, c6])) = some y4 from hg 4 _ rfl)
      rw [Tryd.cellsCall] at g0 g1
      rw [show Tryd.prog.cellsOf 4 = 1 from by kernel_rfl] at g2 g3
      rw [show Tryd.prog.cellsOf 24 = 1 from by kernel_rfl] at g4
      obtain ⟨r0, e0, q0⟩ := call_cells Tryd.underlying23 (by kernel_rfl) rfl rfl (show DataW.trod enc Tryd.prog w 0 (fun _ => true) true n 23 [c0, c1] = some y0 from g0)
      obtain ⟨r1, e1, q1⟩ := call_cells Tryd.underlying23 (by kernel_rfl) rfl rfl (show DataW.trod enc Tryd.prog w 0 (fun _ => true) true n 23 [c2, c3] = some y1 from g1)
      obtain ⟨b2, e2, q2⟩ := DataW.trod_bool Tryd.underlying4 (show DataW.trod enc Tryd.prog w 0 (fun _ => true) true n 4 [c4] = some y2 from g2)
      obtain ⟨b3, e3, q3⟩ := DataW.trod_bool Tryd.underlying4 (show DataW.trod enc Tryd.prog w 0 (fun _ => true) true n 4 [c5] = some y3 from g3)
      obtain ⟨a, cap, D, e4, hE, hwt⟩ := open_digis (show DataW.trod enc Tryd.prog w 0 (fun _ => true) true n 24 [c6] = some y4 from g4)
      simp only [List.cons.injEq, and_true] at e0 e1 e2 e3
      obtain ⟨rfl, rfl⟩ := e0
      obtain ⟨rfl, rfl⟩ := e1
      subst e2 e3 e4
      have hd : d = .agg [y0.1, y1.1, y2.1, y3.1, y4.1] := by simpa using (Prod.ext_iff.1 hx).1
      refine ⟨r0.1, r1.1, r0.2, r1.2, b2, b3, a, cap, D, rfl, hE, ?_, ?_, ?_⟩
      · rw [hd, q0]
        simp [DataW.weights, DataW.weightsEach, Tryd.underlying26, Tryd.underlying23]
      · rw [hd, q0, q1]
        simp [DataW.weights, DataW.weightsEach, Tryd.underlying26, Tryd.underlying23]
      · intro e he
        have := hwt e he
        rw [hd]
        simp only [DataW.weights, Tryd.underlying26]
        simp only [List.map, DataW.weightsEach, List.mem_append]
        simp [this]
/-- what lies within the reach -/
theorem sized_in {H : Type} {ts : List TypeId} {ds : List (DataW H)} (h : (DataW.weightsEach Tryd.prog ts ds).all (· ≤ reachBytes) = true) {j : Nat} {t : TypeId} {d : DataW H} (ht : ts[j]? = some t) (hd : ds[j]? = some d) {n : Nat} (hn : n ∈ DataW.weights Tryd.prog t d) : n ≤ 140737488351232 := by
  have hm := List.all_eq_true.1 h _ (DataW.weights_mem_each ht hd n hn)
  have h2 : n ≤ reachBytes := of_decide_eq_true hm
  exact h2
end Go.Proofs.YtplandmnmdkjmaaDoor
