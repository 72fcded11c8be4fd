/-
What opening an argument that is a call or a slice of calls gives, with the letters' lengths.
-/
import Derived.Test.YtfmcngchcalcmaaDoorPathOpens
import Derived.Test.YtfmcngchcalcmaaDoorPathCVia
namespace Go.Proofs.YtfmcngchcalcmaaDoor
open Go.ChangeShapes Go.WideShapes Go.ChangeAt Go.RowKit Go.Joins Go.Deep Go.Sort
set_option maxRecDepth 100000
/-- a call that came in -/
theorem open_callP {H : Type} {enc : TypeId × Value → H} {w : World} {base b0 : Nat} {spare : Nat → Bool} {held : Bool} {r : Reach} {v : Value} {d : DataW H} {ps : List MemPlace}
    (hv : Value.okWide Tryd.prog w r b0 23 v) (h : DataW.Trod enc Tryd.prog w base spare held 23 v d ps) : ps = [] ∧ ∃ (b : ByteArray) (n : Int), v = .agg #[.string b, .int .i64 n] ∧ b.size ∈ DataW.weights Tryd.prog 23 d := by
  obtain ⟨c0, c1, y0, y1, m, rfl, rfl, rfl, hy0, hy1⟩ := open_agg2 Tryd.underlying23 (by kernel_rfl) Tryd.cellsCall hv h
  obtain ⟨s, e0, rfl, ws⟩ := DataW.trod_string Tryd.underlying9 hy0
  obtain ⟨n, e1, rfl, _⟩ := DataW.trod_int Tryd.underlying3 hy1
  simp at e0 e1
  subst e0 e1
  exact ⟨rfl, s, n, rfl, by simp [DataW.weights, DataW.weightsEach, Tryd.underlying23]⟩
instance : Inhabited (ByteArray × Int) := ⟨⟨ByteArray.empty, 0⟩⟩
theorem calls_weights {H : Type} (L : List (ByteArray × Int)) (rr : List (DataW H)) (e : ByteArray × Int) (he : e ∈ L) : e.1.size ∈ DataW.weights Tryd.prog 57 (DataW.slice (L.map fun r => DataW.agg (H := H) [.lit (.string r.1.data.toList), .lit (.int .i64 r.2)]) rr) := by
  have key : ∀ (M : List (ByteArray × Int)), e ∈ M → e.1.size ∈ DataW.weightsAll Tryd.prog 23 (M.map fun r => DataW.agg (H := H) [.lit (.string r.1.data.toList), .lit (.int .i64 r.2)]) := by
    intro M
    induction M with
    | nil => intro h; cases h
    | cons x M ih =>
      intro h
      rw [List.map_cons]
      simp only [DataW.weightsAll, List.mem_append]
      rcases List.mem_cons.1 h with h1 | h1
      · left
        subst h1
        simp [DataW.weights, DataW.weightsEach, Tryd.underlying23]
      · exact Or.inr (ih h1)
  simp only [DataW.weights, Tryd.underlying57, List.mem_cons, List.mem_append]
  exact Or.inr (Or.inl (key L he))
/-- a slice of calls that came in -/
theorem open_callsP {H : Type} {enc : TypeId × Value → H} {w : World} {fuel : Nat} {v : Value} {x : DataW H × List MemPlace} (h : DataW.trod enc Tryd.prog w 0 (fun _ => true) true fuel 57 [v] = some x) :
    ∃ (a : Option Addr) (cap : Nat) (D : List (ByteArray × Int)), v = .slice a D.length cap ∧ CallsAt w a D ∧ ∀ e ∈ D, e.1.size ∈ DataW.weights Tryd.prog 57 x.1 := by
  rcases open_slice Tryd.underlying57 h with ⟨hcs, _⟩ | ⟨a, len, cap, m, n, Dd, Pl, hcs, _, hl, hm2, hm, hx, hi⟩
  · simp only [List.cons.injEq, and_true] at hcs
    exact ⟨none, 0, [], hcs, fun k hk => by simp at hk, fun e he => by cases he⟩
  · simp only [List.cons.injEq, and_true] at hcs
    simp only [if_true] at hm
    have each : ∀ i, i < m → ∃ r : ByteArray × Int, Dd i = (.agg [.lit (.string r.1.data.toList), .lit (.int .i64 r.2)]) ∧ w.cell? (a.add (i * 2)) = some (.string r.1) ∧ w.cell? (a.add (i * 2 + 1)) = some (.int .i64 r.2) := by
      intro i hlt
      obtain ⟨cs', hc, ht⟩ := hi i hlt
      obtain ⟨r, hr, hy⟩ := call_cells Tryd.underlying23 (by kernel_rfl) rfl rfl ht
      rw [Tryd.cellsCall] at hc
      obtain ⟨_, _, hat⟩ := World.cells?_some hc
      have q0 := hat 0 (by omega)
      have q1 := hat 1 (by omega)
      rw [add_add, hr] at q0 q1
      exact ⟨r, (Prod.ext_iff.1 hy).1, q0, q1⟩
    obtain ⟨R, hR⟩ := choose_lt each
    refine ⟨some a, cap, (List.range len).map R, by rw [hcs]; simp, fun k hk => ?_, ?_⟩
    · have hk2 : k < len := by simpa using hk
      obtain ⟨_, q0, q1⟩ := hR k (by omega)
      obtain ⟨b, off, spot⟩ := a
      have hspot : spot = none := by simpa [Addr.add] using World.cell?_spot (hR 0 (by omega)).2.1
      subst hspot
      rw [add_plain] at q0 q1
      have e : ((List.range len).map R)[k]'hk = R k := by simp
      rw [e]
      exact ⟨b, off, rfl, World.block_lt_of_cell? w ⟨b, off + k * 2, none⟩ q0, q0, by rw [Nat.add_assoc]; exact q1⟩
    · intro e he
      rw [hx]
      have hmap : (List.range len).map Dd = ((List.range len).map R).map fun r => DataW.agg (H := H) [.lit (.string r.1.data.toList), .lit (.int .i64 r.2)] := by
        rw [List.map_map]
        apply List.map_congr_left
        intro i hi2
        exact (hR i (by have := List.mem_range.1 hi2; omega)).1
      show e.1.size ∈ DataW.weights Tryd.prog 57 (DataW.slice ((List.range len).map Dd) _)
      rw [hmap]
      exact calls_weights _ _ e he
end Go.Proofs.YtfmcngchcalcmaaDoor
