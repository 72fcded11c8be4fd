/-
P6.1, proved: right controls have the same bytes just if they are the same. For every two controls, narrow and wide. Condition: the listed tables of the program read, when the call begins, as the program's text lays them; the card ties that (given).
-/
import Derived.Test.YtfmcngchcalcmaaDoorCtlLawA
import Derived.Test.YtfmcngchcalcmaaDoorCtlTied
import Derived.ChangeMaps5
import Derived.Test.YtfmcngchcalcmaaDoorCards
namespace Go.Proofs.YtfmcngchcalcmaaDoor
open Go.ChangeShapes Go.WideShapes Go.ChangeAt Go.RowKit Go.Joins
open Go.ChangeMaps (open_string shut_string)
set_option maxRecDepth 100000
theorem ctlUnlike_lifted (os : Os) (started : os.Started) (H : Type) (enc : TypeId × Value → H) (F : Stop.Interp) :
    ReturnsInHanded {} Tryd.checked os 11 .any ((OpenSpec.ofChange Rows.ctlUnlikeSpec).preRow enc Tryd.prog Tryd.f11 Rows.ctlUnlikeRow.domain false Rows.ctlUnlikeRow.laid) (((OpenSpec.ofChange Rows.ctlUnlikeSpec).at F).post enc Tryd.prog Tryd.f11 false true false false) := by
  refine returnsInHanded_of_row (C := Tryd.checked) (s := OpenSpec.ofChange Rows.ctlUnlikeSpec) Tryd.ownC started (by kernel_rfl) Tryd.func11
    (ChangeSpec.witness_shaped (enc := enc) (C := Tryd.checked) (os := os) (s := Rows.ctlUnlikeSpec) (X := fun w _ => laidMetH Tryd.prog Rows.ctlUnlikeRow.laid w) false (World.laidAll Tryd.prog os Rows.ctlUnlikeRow.laid) #[.agg #[.int .i64 0, .int .i64 0, .int .i64 0, .bool false], .agg #[.int .i64 0, .int .i64 0, .int .i64 0, .bool false], .bool false] 8 (World.laidAll_os _ _ _)
      (World.shaped_of_ZipB (by kernel_rfl) (by kernel_rfl)) (by kernel_rfl) (by kernel_rfl) (by kernel_rfl) (met_codes os _)) ?_
  intro W base args ds gs before hval0 hW _ _ HSZ hL hsh _
  have hVars := vars_codes hL
  clear hL hsh HSZ
  have hval : ∀ (j : Nat) t v, Tryd.f11.params[j]? = some t → args[j]? = some v → Value.okWide Tryd.prog W .any base t v := hval0
  have hW' := hW
  obtain ⟨p, q, hA0, hV, rfl, _, _⟩ := hW
  have hA : DataW.TrodAll enc Tryd.prog W 0 (fun _ => true) true Tryd.f11.params.toList args.toList ds p := hA0
  rw [Tryd.params11] at hA hval
  obtain ⟨v0, v1, v2, d0, d1, d2, p0, p1, p2, rfl, rfl, rfl, h0, h1, h2⟩ := trodAll_three hA
  obtain ⟨rfl, rfl⟩ := trodVars_none hV
  have h0k := h0
  have h1k := h1
  obtain ⟨rfl, k, nr, ns, pf, rfl⟩ := open_ctl (hval 0 65 v0 rfl rfl) h0
  obtain ⟨rfl, k', nr', ns', pf', rfl⟩ := open_ctl (hval 1 65 v1 rfl rfl) h1
  obtain ⟨wd, rfl, rfl, rfl⟩ := open_bool Tryd.underlying4 (hval 2 4 v2 rfl rfl) h2
  clear hA0 hval0
  simp only [List.append_nil] at hW'
  have hlt : ∀ x ∈ ([] : List MemPlace), x.block < W.heap.size := fun x hx => by cases hx
  refine (cunlike_any k nr ns k' nr' ns' pf pf' wd W hVars).mono fun e W' ⟨he, hnx⟩ => ?_
  subst he
  refine ⟨_, rfl, _, _, _, [], [], [], hW', ?_, ?_, rfl, hnx.frame _, fun h => by cases h⟩
  · exact trodAll_mk1 (shut_bool Tryd.underlying4 true)
  · exact trodAll_mk3 (Below.trod Tryd.laidOutC (by kernel_rfl) (of_decide_eq_true (by kernel_rfl)) h0k hnx hlt) (Below.trod Tryd.laidOutC (by kernel_rfl) (of_decide_eq_true (by kernel_rfl)) h1k hnx hlt) (shut_bool Tryd.underlying4 _)
theorem ctlUnlike_said : Rows.CtlUnlikeSaid :=
  OpenClaim.holds_of_cond 11 Tryd.f11 rfl rfl rfl rfl rfl rfl rfl ⟨rfl, rfl, rfl, rfl, rfl⟩ rfl rfl rfl rfl rfl (by kernel_rfl) Tryd.func11 (by kernel_rfl)
    (of_decide_eq_true (by kernel_rfl)) (by unfold Func.isWrapper; rw [if_neg (of_decide_eq_false (by kernel_rfl))]; exact ⟨rfl, rfl⟩)
    (fun os started H enc _ F0 => by rw [OpenClaim.pre_eq_preRow]; exact ctlUnlike_lifted os started H enc F0)
theorem ctlUnlike_holds : Rows.CtlUnlikeCardSaid :=
  Claim7.holds_tied_plain_at .later [] [.data] true (true, "de01a5084a8e35784653fe692f8202fd18d91c1c33317f8f50b76c907e1b20e7") true
    ctlUnlike_said (fun _ h => by cases h) (by kernel_rfl) (fun _ h => by cases h) ctlUnlike_row_tie rfl ⟨rfl, rfl⟩ (by kernel_rfl) rfl
    (fun f fn hf hfn => by
      obtain rfl : f = 11 := Option.some.inj ((show Tryd.prog.funcNamed "squelch/squelchlaw06.CtlUnlike" = some 11 by kernel_rfl).symm.trans hf) |>.symm
      obtain rfl : fn = Tryd.f11 := (Option.some.inj (Tryd.func11.symm.trans hfn)).symm
      exact ⟨by kernel_rfl, fun j t ht => by
        rw [Tryd.params11] at ht
        have hm : t ∈ [65, 65, 4] := by simpa using Array.mem_of_getElem? ht
        have hall : ([65, 65, 4].all fun u => !Tryd.prog.wantsStandIn u) = true := by kernel_rfl
        exact (show Tryd.prog.wantsStandIn t = false by simpa using List.all_eq_true.1 hall t hm)⟩)
    (by kernel_rfl)
end Go.Proofs.YtfmcngchcalcmaaDoor
