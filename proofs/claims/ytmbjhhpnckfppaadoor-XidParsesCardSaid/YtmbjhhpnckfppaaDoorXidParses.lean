/-
P8.1, proved: any text is the words of the parameters that are read of it, or of none (up to 200 letters). For every text. Condition: the listed variables of Go's library read, when the call begins, as the program's text lays them; the card ties that (given).
-/
import Derived.Test.YtmbjhhpnckfppaaDoorXidTextsW
import Derived.Test.YtmbjhhpnckfppaaDoorXidOpens
import Derived.Test.YtmbjhhpnckfppaaDoorXidTied
import Derived.ChangeMaps5
import Derived.Test.YtmbjhhpnckfppaaDoorCards
namespace Go.Proofs.YtmbjhhpnckfppaaDoor
open Go.ChangeShapes Go.WideShapes Go.ChangeAt Go.RowKit Go.Joins Go.Deep Go.Sort
open Go.ChangeMaps (open_string shut_string)
set_option maxRecDepth 100000
set_option maxHeartbeats 1000000 in
theorem xidParses_lifted (os : Os) (started : os.Started) (H : Type) (enc : TypeId × Value → H) (F : Stop.Interp) :
    ReturnsInHanded {} Tryd.checked os 4 .any ((OpenSpec.ofChange Rows.xidParsesSpec).preRow enc Tryd.prog Tryd.f4 Rows.xidParsesRow.domain false Rows.xidParsesRow.laid) (((OpenSpec.ofChange Rows.xidParsesSpec).at F).post enc Tryd.prog Tryd.f4 false true false false) := by
  refine returnsInHanded_of_row (C := Tryd.checked) (s := OpenSpec.ofChange Rows.xidParsesSpec) Tryd.ownX started (by kernel_rfl) Tryd.func4
    (ChangeSpec.witness_shaped (enc := enc) (C := Tryd.checked) (os := os) (s := Rows.xidParsesSpec) (X := fun w _ => laidMetH Tryd.prog Rows.xidParsesRow.laid w) false (World.laidAll Tryd.prog os Rows.xidParsesRow.laid) #[.string ⟨#[]⟩] 8 (World.laidAll_os _ _ _)
      (World.shaped_of_ZipB (by kernel_rfl) (by kernel_rfl)) (by kernel_rfl) (by kernel_rfl) (by kernel_rfl) (met_xid os _)) ?_
  intro W base args ds gs before hval0 hW _ _ HSZ hL hsh _
  have hVars := vars_xid hsh hL
  clear hL hsh HSZ
  have hval : ∀ (j : Nat) t v, Tryd.f4.params[j]? = some t → args[j]? = some v → Value.okWide Tryd.prog W .any base t v := hval0
  have hW' := hW
  obtain ⟨p, q, hA0, hV, rfl, _, _⟩ := hW
  have hA : DataW.TrodAll enc Tryd.prog W 0 (fun _ => true) true Tryd.f4.params.toList args.toList ds p := hA0
  rw [Tryd.params4] at hA hval
  obtain ⟨v0, d0, rfl, rfl, h0⟩ := trodAll_one hA
  obtain ⟨rfl, rfl⟩ := trodVars_none hV
  obtain ⟨s, rfl, rfl, rfl, ws⟩ := open_string Tryd.underlying9 (hval 0 9 v0 rfl rfl) h0
  clear hA0 hval0
  simp only [List.append_nil] at hW'
  refine (xparses_any s W hVars).mono fun e W' ⟨he, hnx⟩ => ?_
  subst he
  refine ⟨_, rfl, _, _, _, [], [], [], hW', ?_, ?_, rfl, hnx.frame _, fun h => by cases h⟩
  · exact trodAll_mk1 (shut_bool Tryd.underlying4 true)
  · exact trodAll_mk1 (shut_string (P := Tryd.prog) Tryd.underlying9 ws)
theorem xidParses_said : Rows.XidParsesSaid :=
  OpenClaim.holds_of_cond 4 Tryd.f4 rfl rfl rfl rfl rfl rfl rfl ⟨rfl, rfl, rfl, rfl, rfl⟩ rfl rfl rfl rfl rfl (by kernel_rfl) Tryd.func4 (by kernel_rfl)
    (of_decide_eq_true (by kernel_rfl)) (by unfold Func.isWrapper; rw [if_neg (of_decide_eq_false (by kernel_rfl))]; exact ⟨rfl, rfl⟩)
    (fun os started H enc _ F0 => by rw [OpenClaim.pre_eq_preRow]; exact xidParses_lifted os started H enc F0)
set_option maxHeartbeats 1000000 in
theorem xidParses_holds : Rows.XidParsesCardSaid :=
  Claim7.holds_tied_plain_at .later [] [.data, .data, .data, .sentinel, .sentinel] true (true, "620c8a15fc7f83811276ff23534ddba508ba8d57fe5457a3f16b5d90c56e2641") true
    xidParses_said (fun _ h => by cases h) (by kernel_rfl) (fun _ h => by cases h) xidParses_row_tie rfl ⟨rfl, rfl⟩ (by kernel_rfl) rfl
    (fun f fn hf hfn => by
      obtain rfl : f = 4 := Option.some.inj ((show Tryd.prog.funcNamed "squelch/squelchlaw08.XidParses" = some 4 by kernel_rfl).symm.trans hf) |>.symm
      obtain rfl : fn = Tryd.f4 := (Option.some.inj (Tryd.func4.symm.trans hfn)).symm
      exact ⟨by kernel_rfl, fun j t ht => by
        rw [Tryd.params4] at ht
        have hm : t ∈ [9] := by simpa using Array.mem_of_getElem? ht
        have hall : ([9].all fun u => !Tryd.prog.wantsStandIn u) = true := by kernel_rfl
        exact (show Tryd.prog.wantsStandIn t = false by simpa using List.all_eq_true.1 hall t hm)⟩)
    (by kernel_rfl)
end Go.Proofs.YtmbjhhpnckfppaaDoor
