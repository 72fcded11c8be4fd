/-
FcsTells, proved: of a sealed text in which bits of up to two bytes beside one another are turned, ErrSum is told. For every text, every place and every two bytes; no condition.
-/
import Derived.Test.YtgahmaaoieofhaaFcsTellsW
import Derived.Test.YtgahmaaoieofhaaFcsOpen1
import Derived.ChangeMaps5
import Derived.OpenShut
namespace Go.Proofs.Ytgahmaaoieofhaa
open Go.ChangeShapes Go.WideShapes Go.ChangeAt Go.RowKit
open Go.ChangeMaps (open_string shut_string)
theorem byte_back {n : Int} (h : 0 ≤ n ∧ n ≤ 255) : ∃ x : UInt8, n = ((x.toNat : Nat) : Int) := by
  obtain ⟨c, rfl⟩ := Int.eq_ofNat_of_zero_le h.1
  exact ⟨UInt8.ofNat c, by rw [UInt8.toNat_ofNat', Nat.mod_eq_of_lt (by omega)]⟩
theorem array_two {a : Array Value} (h : a.size = 2) : ∃ x y, a = #[x, y] := by
  obtain ⟨l⟩ := a
  match l, h with
  | [x, y], _ => exact ⟨x, y, rfl⟩
set_option maxRecDepth 100000 in
theorem fcsTells_lifted (os : Os) (started : os.Started) (H : Type) (enc : TypeId × Value → H) :
    ReturnsInHanded {} Try.checked os 5 .any (Rows.fcsTellsSpec.pre6 enc Try.prog Try.f5 Rows.fcsTellsRow.domain false) (Rows.fcsTellsSpec.post enc Try.prog Try.f5 false true false false) := by
  refine returnsInHanded_of_change_sized (C := Try.checked) Try.own started (by kernel_rfl) Try.func5
    (ChangeSpec.witness6 (enc := enc) (C := Try.checked) false ⟨#[], #[.string ⟨#[]⟩, .int .i64 0, .agg #[.int .u8 0, .int .u8 0]], []⟩ 8 (by kernel_rfl) (by kernel_rfl) (by kernel_rfl) (by kernel_rfl)) ?_
  intro W base args ds gs before hval0 hW _ hsz0 _
  have hsz : (DataW.weightsEach Try.prog (Try.f5.params.toList ++ Rows.fcsTellsSpec.plain.varTypes Try.prog) (ds ++ gs)).all (· ≤ reachBytes) = true := hsz0
  clear hsz0
  have hval : ∀ (j : Nat) t v, Try.f5.params[j]? = some t → args[j]? = some v → Value.okWide Try.prog W .any base t v := hval0
  have hW' := hW
  obtain ⟨p, q, hA0, hV, rfl, _, _⟩ := hW
  have hA : DataW.TrodAll enc Try.prog W 0 (fun _ => true) true Try.f5.params.toList args.toList ds p := hA0
  rw [Try.params5] at hA hval hsz
  obtain ⟨v0, v1, v2, d0, d1, d2, p0, p1, p2, rfl, rfl, rfl, h0, h1, h2⟩ := trodAll_three hA
  obtain ⟨rfl, rfl⟩ := trodVars_none hV
  obtain ⟨s, rfl, rfl, rfl, ws⟩ := open_string Try.underlying9 (hval 0 9 v0 rfl rfl) h0
  obtain ⟨n, rfl, rfl, rfl, wn⟩ := open_int Try.underlying3 (hval 1 3 v1 rfl rfl) h1
  have hc39 : Try.prog.cellsOf 39 = 2 := by kernel_rfl
  have hc5 : Try.prog.cellsOf 5 = 1 := by kernel_rfl
  obtain ⟨cs, rfl, hcs, _⟩ : ∃ cs, v2 = .agg cs ∧ cs.size = Try.prog.cellsOf 39 ∧ Row.okWide Try.prog W .any base 39 cs := by
    have := hval 2 39 v2 rfl rfl
    simpa [Value.okWide, Try.underlying39] using this
  rw [hc39] at hcs
  obtain ⟨c0, c1, rfl⟩ := array_two hcs
  have h2k := h2
  obtain ⟨fuel, hf⟩ := h2
  obtain ⟨ys, m, _, hx, _, hyl, hy⟩ := DataW.trod_array Try.underlying39 hf
  have y0 := hy 0 (by omega)
  have y1 := hy 1 (by omega)
  rw [hc5, List.getElem?_eq_getElem (by omega)] at y0 y1
  obtain ⟨x, e0, _, wx⟩ := DataW.trod_int Try.underlying5 y0
  obtain ⟨y, e1, _, wy⟩ := DataW.trod_int Try.underlying5 y1
  simp [Value.cells] at e0 e1
  subst e0 e1
  clear hA0 hval0
  simp only [List.append_nil] at hW'
  have hlt : ∀ z ∈ p2, z.block < W.heap.size := fun z hz => hW'.lt z (by simp [hz])
  have hs : s.size ≤ 140737488351232 := by
    have h := sized_string hsz (j := 0) (t := 9) rfl rfl
    have h2 : s.data.toList.length ≤ 140737488351232 := h
    simpa using h2
  obtain ⟨bx, rfl⟩ := byte_back (bounds_u8 wx)
  obtain ⟨by_, rfl⟩ := byte_back (bounds_u8 wy)
  refine (tells_any s n bx by_ W hs).mono fun e W' ⟨he, hnx⟩ => ?_
  subst he
  refine ⟨_, rfl, _, _, _, [], [] ++ ([] ++ p2), [], hW', ?_, ?_, rfl, hnx.frame _, fun h => by cases h⟩
  · exact trodAll_mk1 (shut_bool Try.underlying4 true)
  · exact trodAll_mk3 (shut_string Try.underlying9 ws) (shut_int Try.underlying3 wn) (Below.trod Try.laidOut (by kernel_rfl) (of_decide_eq_true (by kernel_rfl)) h2k hnx hlt)
theorem fcsTells_holds : Rows.FcsTellsSaid :=
  OpenClaim.holds_of_wide 5 Try.f5 rfl rfl rfl rfl rfl rfl rfl ⟨rfl, rfl, rfl, rfl, rfl⟩ rfl rfl rfl rfl rfl (by kernel_rfl) Try.func5 (by kernel_rfl)
    (of_decide_eq_true (by kernel_rfl)) (by unfold Func.isWrapper; rw [if_neg (of_decide_eq_false (by kernel_rfl))]; exact ⟨rfl, rfl⟩)
    (fun os started H enc _ => fcsTells_lifted os started H enc)
end Go.Proofs.Ytgahmaaoieofhaa
