/-
SeqStale, proved: what was taken in order, and comes again while less than the modulus less K came since, is never taken as new. No condition.
-/
import Derived.Test.YtmokibjeanbabaaSeqCBoth
import Derived.Test.YtmokibjeanbabaaSeqStaleW
import Derived.Test.YtmokibjeanbabaaSeqOpens
namespace Go.Proofs.Ytmokibjeanbabaa
open Go.ChangeShapes Go.WideShapes Go.ChangeAt Go.RowKit Go.Joins Go.Deep
open Go.ChangeMaps (open_string shut_string)
set_option maxRecDepth 100000 in
theorem seqStale_lifted (os : Os) (started : os.Started) (H : Type) (enc : TypeId × Value → H) :
    ReturnsInHanded {} Try.checked os 7 .any (Rows.seqStaleSpec.pre6 enc Try.prog Try.f7 Rows.seqStaleRow.domain false) (Rows.seqStaleSpec.post enc Try.prog Try.f7 false true false false) := by
  refine returnsInHanded_of_change_sized (C := Try.checked) Try.ownS started (by kernel_rfl) Try.func7
    (ChangeSpec.witness6 (enc := enc) (C := Try.checked) false ⟨#[], #[.bool false, .int .i64 0, .agg #[.int .u8 0, .int .u8 0]], []⟩ 8 (by kernel_rfl) (by kernel_rfl) (by kernel_rfl) (by kernel_rfl)) ?_
  intro W base args ds gs before hval0 hW _ _ _
  have hval : ∀ (j : Nat) t v, Try.f7.params[j]? = some t → args[j]? = some v → Value.okWide Try.prog W .any base t v := hval0
  have hW' := hW
  obtain ⟨p, q, hA0, hV, rfl, _, _⟩ := hW
  have hA : DataW.TrodAll enc Try.prog W 0 (fun _ => true) true Try.f7.params.toList args.toList ds p := hA0
  rw [Try.params7] at hA hval
  obtain ⟨v0, v1, v2, d0, d1, d2, p0, p1, p2, rfl, rfl, rfl, h0, h1, h2⟩ := trodAll_three hA
  obtain ⟨rfl, rfl⟩ := trodVars_none hV
  obtain ⟨b, rfl, rfl, rfl⟩ := open_bool Try.underlying4 (hval 0 4 v0 rfl rfl) h0
  obtain ⟨k, rfl, rfl, rfl, wk⟩ := open_int Try.underlying3 (hval 1 3 v1 rfl rfl) h1
  have hc39 : Try.prog.cellsOf 60 = 2 := by kernel_rfl
  have hc5 : Try.prog.cellsOf 5 = 1 := by kernel_rfl
  obtain ⟨cs, rfl, hcs, _⟩ : ∃ cs, v2 = .agg cs ∧ cs.size = Try.prog.cellsOf 60 ∧ Row.okWide Try.prog W .any base 60 cs := by
    have := hval 2 60 v2 rfl rfl
    simpa [Value.okWide, Try.underlying60] using this
  rw [hc39] at hcs
  obtain ⟨c0, c1, rfl⟩ := array_two11 hcs
  have h2k := h2
  obtain ⟨fuel, hf⟩ := h2
  obtain ⟨ys, m, _, hx, _, hyl, hy⟩ := DataW.trod_array Try.underlying60 hf
  have y0 := hy 0 (by omega)
  have y1 := hy 1 (by omega)
  rw [hc5, List.getElem?_eq_getElem (by omega)] at y0 y1
  obtain ⟨x, e0, _, wx⟩ := DataW.trod_int Try.underlying5 y0
  obtain ⟨y, e1, _, wy⟩ := DataW.trod_int Try.underlying5 y1
  simp [Value.cells] at e0 e1
  subst e0 e1
  obtain ⟨bx, rfl, hbx⟩ := byte_nat wx
  obtain ⟨by_, rfl, hby⟩ := byte_nat wy
  clear hA0 hval0
  simp only [List.append_nil] at hW'
  have hlt : ∀ x ∈ p2, x.block < W.heap.size := fun x hx => hW'.lt x (by simp [hx])
  refine (seqstale_of inC b k bx by_ hbx hby W).mono fun e W' ⟨he, hnx⟩ => ?_
  subst he
  refine ⟨_, rfl, _, _, _, [], [] ++ ([] ++ p2), [], hW', ?_, ?_, rfl, hnx.frame _, fun h => by cases h⟩
  · exact trodAll_mk1 (shut_bool Try.underlying4 true)
  · exact trodAll_mk3 (shut_bool Try.underlying4 _) (shut_int (P := Try.prog) Try.underlying3 wk) (Below.trod Try.laidOutS (by kernel_rfl) (of_decide_eq_true (by kernel_rfl)) h2k hnx hlt)
theorem seqStale_holds : Rows.SeqStaleSaid :=
  OpenClaim.holds_of_wide 7 Try.f7 rfl rfl rfl rfl rfl rfl rfl ⟨rfl, rfl, rfl, rfl, rfl⟩ rfl rfl rfl rfl rfl (by kernel_rfl) Try.func7 (by kernel_rfl)
    (of_decide_eq_true (by kernel_rfl)) (by unfold Func.isWrapper; rw [if_neg (of_decide_eq_false (by kernel_rfl))]; exact ⟨rfl, rfl⟩)
    (fun os started H enc _ => seqStale_lifted os started H enc)
end Go.Proofs.Ytmokibjeanbabaa
