/-
P5.1, proved: a path of some digipeaters is sent on just once by each of its entries, from the first one on; then by nobody; a path of more than eight is none (up to 30 calls). For every two ends and every calls between. Condition: the listed variables of Go's library read, when the call begins, as the program's text lays them; the card ties that (given).
-/
import Derived.Test.YtfmcngchcalcmaaDoorPathEightW
import Derived.Test.YtfmcngchcalcmaaDoorPathOpensC
import Derived.Test.YtfmcngchcalcmaaDoorPathTied
import Derived.Test.YtfmcngchcalcmaaDoorPathOpens
import Derived.ChangeMaps5
import Derived.Test.YtfmcngchcalcmaaDoorCards
namespace Go.Proofs.YtfmcngchcalcmaaDoor
open Go.ChangeShapes Go.WideShapes Go.ChangeAt Go.RowKit Go.Joins Go.Deep Go.Sort
open Go.ChangeMaps (open_string shut_string)
set_option maxRecDepth 100000
set_option maxHeartbeats 1000000 in
theorem pathEight_lifted (os : Os) (started : os.Started) (H : Type) (enc : TypeId × Value → H) (F : Stop.Interp) :
    ReturnsInHanded {} Tryd.checked os 6 .any ((OpenSpec.ofChange Rows.pathEightSpec).preRow enc Tryd.prog Tryd.f6 Rows.pathEightRow.domain false Rows.pathEightRow.laid) (((OpenSpec.ofChange Rows.pathEightSpec).at F).post enc Tryd.prog Tryd.f6 false true false false) := by
  refine returnsInHanded_of_row (C := Tryd.checked) (s := OpenSpec.ofChange Rows.pathEightSpec) Tryd.own started (by kernel_rfl) Tryd.func6
    (ChangeSpec.witness_shaped (enc := enc) (C := Tryd.checked) (os := os) (s := Rows.pathEightSpec) (X := fun w _ => laidMetH Tryd.prog Rows.pathEightRow.laid w) false (World.laidAll Tryd.prog os Rows.pathEightRow.laid) #[.agg #[.string ⟨#[]⟩, .int .i64 0], .agg #[.string ⟨#[]⟩, .int .i64 0], .slice none 0 0] 8 (World.laidAll_os _ _ _)
      (World.shaped_of_ZipB (by kernel_rfl) (by kernel_rfl)) (by kernel_rfl) (by kernel_rfl) (by kernel_rfl) (met_goes os _)) ?_
  intro W base args ds gs before hval0 hW _ _ HSZ hL hsh _
  clear hL hsh
  have hsz : (DataW.weightsEach Tryd.prog (Tryd.f6.params.toList ++ Rows.pathEightSpec.plain.varTypes Tryd.prog) (ds ++ gs)).all (· ≤ reachBytes) = true := HSZ
  clear HSZ
  have hval : ∀ (j : Nat) t v, Tryd.f6.params[j]? = some t → args[j]? = some v → Value.okWide Tryd.prog W .any base t v := hval0
  have hW' := hW
  obtain ⟨p, q, hA0, hV, rfl, _, _⟩ := hW
  have hA : DataW.TrodAll enc Tryd.prog W 0 (fun _ => true) true Tryd.f6.params.toList args.toList ds p := hA0
  rw [Tryd.params6] at hA hval
  obtain ⟨v0, v1, v2, d0, d1, d2, p0, p1, p2, rfl, rfl, rfl, h0, h1, h2⟩ := trodAll_three hA
  obtain ⟨rfl, rfl⟩ := trodVars_none hV
  have h0k := h0
  have h1k := h1
  have h2k := h2
  obtain ⟨rfl, fb, fn, rfl, hwf⟩ := open_callP (hval 0 23 v0 rfl rfl) h0
  obtain ⟨rfl, tb, tn, rfl, hwt⟩ := open_callP (hval 1 23 v1 rfl rfl) h1
  obtain ⟨a0, len, cap0, rfl⟩ := okWide_slice Tryd.underlying57 (hval 2 57 v2 rfl rfl)
  obtain ⟨fuel, hfu⟩ := h2
  obtain ⟨a, cap, C, hv, hE, hwc⟩ := open_callsP (show DataW.trod enc Tryd.prog W 0 (fun _ => true) true fuel 57 [.slice a0 len cap0] = some (d2, p2) from hfu)
  simp only [Value.slice.injEq] at hv
  obtain ⟨rfl, rfl, rfl⟩ := hv
  rw [Tryd.params6] at hsz
  clear hA0 hval0
  simp only [List.append_nil, List.nil_append] at hW'
  have hlt : ∀ x ∈ p2, x.block < W.heap.size := fun x hx => by simpa using hW'.lt x hx
  have hl0 : ∀ x ∈ ([] : List MemPlace), x.block < W.heap.size := fun x hx => by cases hx
  refine (peight_any fb tb fn tn a0 cap0 C W hE (sized_in hsz (j := 0) rfl rfl hwf) (sized_in hsz (j := 1) rfl rfl hwt) (fun x hx => sized_in hsz (j := 2) rfl rfl (hwc x hx))).mono fun e W' ⟨he, hnx⟩ => ?_
  subst he
  refine ⟨_, rfl, _, _, _, [], p2, [], hW', ?_, ?_, rfl, hnx.frame _, fun h => by cases h⟩
  · exact trodAll_mk1 (shut_bool Tryd.underlying4 true)
  · have h3 := trodAll_mk3 (Below.trod Tryd.laidOut (by kernel_rfl) (of_decide_eq_true (by kernel_rfl)) h0k hnx hl0) (Below.trod Tryd.laidOut (by kernel_rfl) (of_decide_eq_true (by kernel_rfl)) h1k hnx hl0) (Below.trod Tryd.laidOut (by kernel_rfl) (of_decide_eq_true (by kernel_rfl)) h2k hnx hlt)
    simp only [List.nil_append] at h3
    exact h3
theorem pathEight_said : Rows.PathEightSaid :=
  OpenClaim.holds_of_cond 6 Tryd.f6 rfl rfl rfl rfl rfl rfl rfl ⟨rfl, rfl, rfl, rfl, rfl⟩ rfl rfl rfl rfl rfl (by kernel_rfl) Tryd.func6 (by kernel_rfl)
    (of_decide_eq_true (by kernel_rfl)) (by unfold Func.isWrapper; rw [if_neg (of_decide_eq_false (by kernel_rfl))]; exact ⟨rfl, rfl⟩)
    (fun os started H enc _ F0 => by rw [OpenClaim.pre_eq_preRow]; exact pathEight_lifted os started H enc F0)
set_option maxHeartbeats 1000000 in
theorem pathEight_holds : Rows.PathEightCardSaid :=
  Claim7.holds_tied_plain_at .later [] [.data, .data, .data] true (true, "de01a5084a8e35784653fe692f8202fd18d91c1c33317f8f50b76c907e1b20e7") true
    pathEight_said (fun _ h => by cases h) (by kernel_rfl) (fun _ h => by cases h) pathEight_row_tie rfl ⟨rfl, rfl⟩ (by kernel_rfl) rfl
    (fun f fn hf hfn => by
      obtain rfl : f = 6 := Option.some.inj ((show Tryd.prog.funcNamed "squelch/squelchlaw05.PathEight" = some 6 by kernel_rfl).symm.trans hf) |>.symm
      obtain rfl : fn = Tryd.f6 := (Option.some.inj (Tryd.func6.symm.trans hfn)).symm
      exact ⟨by kernel_rfl, fun j t ht => by
        rw [Tryd.params6] at ht
        have hm : t ∈ [23, 23, 57] := by simpa using Array.mem_of_getElem? ht
        have hall : ([23, 23, 57].all fun u => !Tryd.prog.wantsStandIn u) = true := by kernel_rfl
        exact (show Tryd.prog.wantsStandIn t = false by simpa using List.all_eq_true.1 hall t hm)⟩)
    (by kernel_rfl)
end Go.Proofs.YtfmcngchcalcmaaDoor
