/-
PlaceTurns, proved: four quarter turns about one place lead back, if none leads out; each leaves how far it is from that place; a way there and back, too. No condition.
-/
import Derived.Test.YthfnooldjbalcaaPlcTurnsW
import Derived.Test.YthfnooldjbalcaaPlcOpens
namespace Go.Proofs.Ythfnooldjbalcaa
open Go.ChangeShapes Go.WideShapes Go.ChangeAt Go.RowKit Go.Joins Go.Deep
open Go.ChangeMaps (open_string shut_string)
set_option maxRecDepth 100000 in
theorem placeTurns_lifted (os : Os) (started : os.Started) (H : Type) (enc : TypeId × Value → H) :
    ReturnsInHanded {} Try.checked os 3 .any (Rows.placeTurnsSpec.pre6 enc Try.prog Try.f3 Rows.placeTurnsRow.domain false) (Rows.placeTurnsSpec.post enc Try.prog Try.f3 false true false false) := by
  refine returnsInHanded_of_change_sized (C := Try.checked) Try.ownS started (by kernel_rfl) Try.func3
    (ChangeSpec.witness6 (enc := enc) (C := Try.checked) false ⟨#[], #[.agg #[.int .i16 0, .int .i16 0], .agg #[.int .i16 0, .int .i16 0]], []⟩ 8 (by kernel_rfl) (by kernel_rfl) (by kernel_rfl) (by kernel_rfl)) ?_
  intro W base args ds gs before hval0 hW _ _ _
  have hval : ∀ (j : Nat) t v, Try.f3.params[j]? = some t → args[j]? = some v → Value.okWide Try.prog W .any base t v := hval0
  have hW' := hW
  obtain ⟨p, q, hA0, hV, rfl, _, _⟩ := hW
  have hA : DataW.TrodAll enc Try.prog W 0 (fun _ => true) true Try.f3.params.toList args.toList ds p := hA0
  rw [Try.params3] at hA hval
  obtain ⟨v0, v1, d0, d1, p0, p1, rfl, rfl, rfl, h0, h1⟩ := trodAll_two hA
  obtain ⟨rfl, rfl⟩ := trodVars_none hV
  have hc39 : Try.prog.cellsOf 23 = 2 := by kernel_rfl
  have hc5 : Try.prog.cellsOf 22 = 1 := by kernel_rfl
  obtain ⟨cs, rfl, hcs, _⟩ : ∃ cs, v0 = .agg cs ∧ cs.size = Try.prog.cellsOf 23 ∧ Row.okWide Try.prog W .any base 23 cs := by
    have := hval 0 23 v0 rfl rfl
    simpa [Value.okWide, Try.underlying23] using this
  rw [hc39] at hcs
  obtain ⟨c0, c1, rfl⟩ := array_two' hcs
  have hk0 := h0
  obtain ⟨fuel0, hf0⟩ := h0
  obtain ⟨ys, m0, _, hx, _, hyl, hy⟩ := DataW.trod_array Try.underlying23 hf0
  have y0 := hy 0 (by omega)
  have y1 := hy 1 (by omega)
  rw [hc5, List.getElem?_eq_getElem (by omega)] at y0 y1
  obtain ⟨za, e0, _, wza⟩ := DataW.trod_int Try.underlying22 y0
  obtain ⟨zb, e1, _, wzb⟩ := DataW.trod_int Try.underlying22 y1
  simp [Value.cells] at e0 e1
  subst e0 e1
  have hbza := bounds_i16 wza
  have hbzb := bounds_i16 wzb
  have hc39 : Try.prog.cellsOf 23 = 2 := by kernel_rfl
  have hc5 : Try.prog.cellsOf 22 = 1 := by kernel_rfl
  obtain ⟨cs, rfl, hcs, _⟩ : ∃ cs, v1 = .agg cs ∧ cs.size = Try.prog.cellsOf 23 ∧ Row.okWide Try.prog W .any base 23 cs := by
    have := hval 1 23 v1 rfl rfl
    simpa [Value.okWide, Try.underlying23] using this
  rw [hc39] at hcs
  obtain ⟨c0, c1, rfl⟩ := array_two' hcs
  have hk1 := h1
  obtain ⟨fuel1, hf1⟩ := h1
  obtain ⟨ys, m1, _, hx, _, hyl, hy⟩ := DataW.trod_array Try.underlying23 hf1
  have y0 := hy 0 (by omega)
  have y1 := hy 1 (by omega)
  rw [hc5, List.getElem?_eq_getElem (by omega)] at y0 y1
  obtain ⟨wa, e0, _, wwa⟩ := DataW.trod_int Try.underlying22 y0
  obtain ⟨wb, e1, _, wwb⟩ := DataW.trod_int Try.underlying22 y1
  simp [Value.cells] at e0 e1
  subst e0 e1
  have hbwa := bounds_i16 wwa
  have hbwb := bounds_i16 wwb
  clear hA0 hval0
  simp only [List.append_nil] at hW'
  have hlt : ∀ z ∈ p0, z.block < W.heap.size := fun z hz => hW'.lt z (by simp [hz])
  have hlt2 : ∀ z ∈ p1, z.block < W.heap.size := fun z hz => hW'.lt z (by simp [hz])
  refine (turns_any za zb wa wb hbza hbzb hbwa hbwb W).mono fun e W' ⟨he, hnx⟩ => ?_
  subst he
  refine ⟨_, rfl, _, _, _, [], p0 ++ p1, [], hW', ?_, ?_, rfl, hnx.frame _, fun h => by cases h⟩
  · exact trodAll_mk1 (shut_bool Try.underlying4 true)
  · exact trodAll_mk2 (Below.trod Try.laidOutS (by kernel_rfl) (of_decide_eq_true (by kernel_rfl)) hk0 hnx hlt) (Below.trod Try.laidOutS (by kernel_rfl) (of_decide_eq_true (by kernel_rfl)) hk1 hnx hlt2)
theorem placeTurns_holds : Rows.PlaceTurnsSaid :=
  OpenClaim.holds_of_wide 3 Try.f3 rfl rfl rfl rfl rfl rfl rfl ⟨rfl, rfl, rfl, rfl, rfl⟩ rfl rfl rfl rfl rfl (by kernel_rfl) Try.func3 (by kernel_rfl)
    (of_decide_eq_true (by kernel_rfl)) (by unfold Func.isWrapper; rw [if_neg (of_decide_eq_false (by kernel_rfl))]; exact ⟨rfl, rfl⟩)
    (fun os started H enc _ => placeTurns_lifted os started H enc)
end Go.Proofs.Ythfnooldjbalcaa
