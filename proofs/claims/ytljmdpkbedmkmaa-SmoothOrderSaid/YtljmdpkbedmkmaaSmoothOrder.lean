/-
SmoothOrder, proved: behind the same times a longer one never makes T1 less than a shorter one does; no answer never makes it less. No condition.
-/
import Derived.Test.YtljmdpkbedmkmaaSmoOrderW
import Derived.Test.YtljmdpkbedmkmaaSmoOpens
namespace Go.Proofs.Ytljmdpkbedmkmaa
open Go.ChangeShapes Go.WideShapes Go.ChangeAt Go.RowKit Go.Joins Go.Deep
open Go.ChangeMaps (open_string shut_string)
set_option maxRecDepth 100000 in
theorem smoothOrder_lifted (os : Os) (started : os.Started) (H : Type) (enc : TypeId × Value → H) :
    ReturnsInHanded {} Try.checked os 6 .any (Rows.smoothOrderSpec.pre6 enc Try.prog Try.f6 Rows.smoothOrderRow.domain false) (Rows.smoothOrderSpec.post enc Try.prog Try.f6 false true false false) := by
  refine returnsInHanded_of_change_sized (C := Try.checked) Try.ownS started (by kernel_rfl) Try.func6
    (ChangeSpec.witness6 (enc := enc) (C := Try.checked) false ⟨#[], #[.int .i64 0, .slice none 0 0, .agg #[.int .u8 0, .int .u8 0]], []⟩ 8 (by kernel_rfl) (by kernel_rfl) (by kernel_rfl) (by kernel_rfl)) ?_
  intro W base args ds gs before hval0 hW _ _ _
  have hval : ∀ (j : Nat) t v, Try.f6.params[j]? = some t → args[j]? = some v → Value.okWide Try.prog W .any base t v := hval0
  have hW' := hW
  obtain ⟨p, q, hA0, hV, rfl, _, _⟩ := hW
  have hA : DataW.TrodAll enc Try.prog W 0 (fun _ => true) true Try.f6.params.toList args.toList ds p := hA0
  rw [Try.params6] at hA hval
  obtain ⟨v0, v1, v2, d0, d1, d2, p0, p1, p2, rfl, rfl, rfl, h0, h1, h2⟩ := trodAll_three hA
  obtain ⟨rfl, rfl⟩ := trodVars_none hV
  obtain ⟨n, rfl, rfl, rfl, wn⟩ := open_int Try.underlying3 (hval 0 3 v0 rfl rfl) h0
  obtain ⟨a0, len, cap, rfl⟩ := okWide_slice Try.underlying36 (hval 1 36 v1 rfl rfl)
  have hk1 := h1
  obtain ⟨fuel1, hf1⟩ := h1
  have hc39 : Try.prog.cellsOf 37 = 2 := by kernel_rfl
  have hc5 : Try.prog.cellsOf 5 = 1 := by kernel_rfl
  obtain ⟨cs, rfl, hcs, _⟩ : ∃ cs, v2 = .agg cs ∧ cs.size = Try.prog.cellsOf 37 ∧ Row.okWide Try.prog W .any base 37 cs := by
    have := hval 2 37 v2 rfl rfl
    simpa [Value.okWide, Try.underlying37] using this
  rw [hc39] at hcs
  obtain ⟨c0, c1, rfl⟩ := array_two' hcs
  have hk2 := h2
  obtain ⟨fuel2, hf2⟩ := h2
  obtain ⟨ys, m2, _, hx, _, hyl, hy⟩ := DataW.trod_array Try.underlying37 hf2
  have y0 := hy 0 (by omega)
  have y1 := hy 1 (by omega)
  rw [hc5, List.getElem?_eq_getElem (by omega)] at y0 y1
  obtain ⟨x, e0, _, wx⟩ := DataW.trod_int Try.underlying5 y0
  obtain ⟨y, e1, _, wy⟩ := DataW.trod_int Try.underlying5 y1
  simp [Value.cells] at e0 e1
  subst e0 e1
  obtain ⟨x, rfl, hbx⟩ := byte_nat wx
  obtain ⟨y, rfl, hby⟩ := byte_nat wy
  clear hA0 hval0
  simp only [List.append_nil] at hW'
  have hlt : ∀ z ∈ p1, z.block < W.heap.size := fun z hz => hW'.lt z (by simp [hz])
  have hlt2 : ∀ z ∈ p2, z.block < W.heap.size := fun z hz => hW'.lt z (by simp [hz])
  obtain ⟨L, hL, hAL, hLb⟩ := open_bytes (show DataW.trod enc Try.prog W 0 (fun _ => true) true fuel1 36 [.slice a0 len cap] = some (d1, p1) from hf1)
  refine (smorder_any n a0 len cap L x y W hL hAL hLb hbx hby).mono fun e W' ⟨he, hnx⟩ => ?_
  subst he
  refine ⟨_, rfl, _, _, _, [], [] ++ (p1 ++ p2), [], hW', ?_, ?_, rfl, hnx.frame _, fun h => by cases h⟩
  · exact trodAll_mk1 (shut_bool Try.underlying4 true)
  · exact trodAll_mk3 (shut_int (P := Try.prog) Try.underlying3 wn) (Below.trod Try.laidOutS (by kernel_rfl) (of_decide_eq_true (by kernel_rfl)) hk1 hnx hlt) (Below.trod Try.laidOutS (by kernel_rfl) (of_decide_eq_true (by kernel_rfl)) hk2 hnx hlt2)
theorem smoothOrder_holds : Rows.SmoothOrderSaid :=
  OpenClaim.holds_of_wide 6 Try.f6 rfl rfl rfl rfl rfl rfl rfl ⟨rfl, rfl, rfl, rfl, rfl⟩ rfl rfl rfl rfl rfl (by kernel_rfl) Try.func6 (by kernel_rfl)
    (of_decide_eq_true (by kernel_rfl)) (by unfold Func.isWrapper; rw [if_neg (of_decide_eq_false (by kernel_rfl))]; exact ⟨rfl, rfl⟩)
    (fun os started H enc _ => smoothOrder_lifted os started H enc)
end Go.Proofs.Ytljmdpkbedmkmaa
