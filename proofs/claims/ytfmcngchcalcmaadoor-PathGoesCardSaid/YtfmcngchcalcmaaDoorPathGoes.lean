/-
P5.1, proved: which digipeater is next, what a path is when it has sent, and the way back, is what the document says; the path that was handed in stays (up to 30 digipeaters). For every path. Condition: the listed variables of Go's library read, when the call begins, as the program's text lays them; the card ties that (given).
-/
import Derived.Test.YtfmcngchcalcmaaDoorPathGoesW
import Derived.Test.YtfmcngchcalcmaaDoorPathTied
import Derived.Test.YtfmcngchcalcmaaDoorPathOpens
import Derived.ChangeMaps5
import Derived.Test.YtfmcngchcalcmaaDoorCards
namespace Go.Proofs.YtfmcngchcalcmaaDoor
open Go.ChangeShapes Go.WideShapes Go.ChangeAt Go.RowKit Go.Joins Go.Deep Go.Sort
open Go.ChangeMaps (open_string shut_string)
set_option maxRecDepth 100000
set_option maxHeartbeats 1000000 in
theorem pathGoes_lifted (os : Os) (started : os.Started) (H : Type) (enc : TypeId × Value → H) (F : Stop.Interp) :
    ReturnsInHanded {} Tryd.checked os 5 .any ((OpenSpec.ofChange Rows.pathGoesSpec).preRow enc Tryd.prog Tryd.f5 Rows.pathGoesRow.domain false Rows.pathGoesRow.laid) (((OpenSpec.ofChange Rows.pathGoesSpec).at F).post enc Tryd.prog Tryd.f5 false true false false) := by
  refine returnsInHanded_of_row (C := Tryd.checked) (s := OpenSpec.ofChange Rows.pathGoesSpec) Tryd.own started (by kernel_rfl) Tryd.func5
    (ChangeSpec.witness_shaped (enc := enc) (C := Tryd.checked) (os := os) (s := Rows.pathGoesSpec) (X := fun w _ => laidMetH Tryd.prog Rows.pathGoesRow.laid w) false (World.laidAll Tryd.prog os Rows.pathGoesRow.laid) #[.agg #[.string ⟨#[]⟩, .int .i64 0, .string ⟨#[]⟩, .int .i64 0, .bool false, .bool false, .slice none 0 0]] 8 (World.laidAll_os _ _ _)
      (World.shaped_of_ZipB (by kernel_rfl) (by kernel_rfl)) (by kernel_rfl) (by kernel_rfl) (by kernel_rfl) (met_goes os _)) ?_
  intro W base args ds gs before hval0 hW _ _ HSZ hL hsh _
  clear hL hsh
  have hsz : (DataW.weightsEach Tryd.prog (Tryd.f5.params.toList ++ Rows.pathGoesSpec.plain.varTypes Tryd.prog) (ds ++ gs)).all (· ≤ reachBytes) = true := HSZ
  clear HSZ
  have hval : ∀ (j : Nat) t v, Tryd.f5.params[j]? = some t → args[j]? = some v → Value.okWide Tryd.prog W .any base t v := hval0
  have hW' := hW
  obtain ⟨p, q, hA0, hV, rfl, _, _⟩ := hW
  have hA : DataW.TrodAll enc Tryd.prog W 0 (fun _ => true) true Tryd.f5.params.toList args.toList ds p := hA0
  rw [Tryd.params5] at hA hval
  obtain ⟨v0, d0, rfl, rfl, h0⟩ := trodAll_one hA
  obtain ⟨rfl, rfl⟩ := trodVars_none hV
  have h0k := h0
  obtain ⟨tb, fb, tn, fn, tm, fm, a, cap, D, rfl, hE, hwt, hwf, hwd⟩ := open_path (hval 0 26 v0 rfl rfl) h0
  rw [Tryd.params5] at hsz
  clear hA0 hval0
  simp only [List.append_nil] at hW'
  have hlt : ∀ x ∈ p, x.block < W.heap.size := fun x hx => by simpa using hW'.lt x hx
  refine (pgoes_any tb fb tn fn tm fm a cap D W hE (sized_in hsz (j := 0) rfl rfl hwt) (sized_in hsz (j := 0) rfl rfl hwf) (fun e he => sized_in hsz (j := 0) rfl rfl (hwd e he))).mono fun e W' ⟨he, hnx⟩ => ?_
  subst he
  refine ⟨_, rfl, _, _, _, [], p, [], hW', ?_, ?_, rfl, hnx.frame _, fun h => by cases h⟩
  · exact trodAll_mk1 (shut_bool Tryd.underlying4 true)
  · exact trodAll_mk1 (Below.trod Tryd.laidOut (by kernel_rfl) (of_decide_eq_true (by kernel_rfl)) h0k hnx hlt)
theorem pathGoes_said : Rows.PathGoesSaid :=
  OpenClaim.holds_of_cond 5 Tryd.f5 rfl rfl rfl rfl rfl rfl rfl ⟨rfl, rfl, rfl, rfl, rfl⟩ rfl rfl rfl rfl rfl (by kernel_rfl) Tryd.func5 (by kernel_rfl)
    (of_decide_eq_true (by kernel_rfl)) (by unfold Func.isWrapper; rw [if_neg (of_decide_eq_false (by kernel_rfl))]; exact ⟨rfl, rfl⟩)
    (fun os started H enc _ F0 => by rw [OpenClaim.pre_eq_preRow]; exact pathGoes_lifted os started H enc F0)
set_option maxHeartbeats 1000000 in
theorem pathGoes_holds : Rows.PathGoesCardSaid :=
  Claim7.holds_tied_plain_at .later [] [.data, .data, .data] true (true, "de01a5084a8e35784653fe692f8202fd18d91c1c33317f8f50b76c907e1b20e7") true
    pathGoes_said (fun _ h => by cases h) (by kernel_rfl) (fun _ h => by cases h) pathGoes_row_tie rfl ⟨rfl, rfl⟩ (by kernel_rfl) rfl
    (fun f fn hf hfn => by
      obtain rfl : f = 5 := Option.some.inj ((show Tryd.prog.funcNamed "squelch/squelchlaw05.PathGoes" = some 5 by kernel_rfl).symm.trans hf) |>.symm
      obtain rfl : fn = Tryd.f5 := (Option.some.inj (Tryd.func5.symm.trans hfn)).symm
      exact ⟨by kernel_rfl, fun j t ht => by
        rw [Tryd.params5] at ht
        have hm : t ∈ [26] := by simpa using Array.mem_of_getElem? ht
        have hall : ([26].all fun u => !Tryd.prog.wantsStandIn u) = true := by kernel_rfl
        exact (show Tryd.prog.wantsStandIn t = false by simpa using List.all_eq_true.1 hall t hm)⟩)
    (by kernel_rfl)
end Go.Proofs.YtfmcngchcalcmaaDoor
