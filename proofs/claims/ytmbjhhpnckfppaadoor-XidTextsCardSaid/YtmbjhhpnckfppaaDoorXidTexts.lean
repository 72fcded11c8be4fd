/-
P8.1, proved: any right parameters have the words that the document says, of which they are read; others have none. For every parameters. Condition: the listed variables of Go's library read, when the call begins, as the program's text lays them; the card ties that (given).
-/
import Derived.Test.YtmbjhhpnckfppaaDoorXidTextsW
import Derived.Test.YtmbjhhpnckfppaaDoorXidOpens
import Derived.Test.YtmbjhhpnckfppaaDoorXidTied
import Derived.ChangeMaps5
import Derived.Test.YtmbjhhpnckfppaaDoorCards
namespace Go.Proofs.YtmbjhhpnckfppaaDoor
open Go.ChangeShapes Go.WideShapes Go.ChangeAt Go.RowKit Go.Joins Go.Deep Go.Sort
open Go.ChangeMaps (open_string shut_string)
set_option maxRecDepth 100000
set_option maxHeartbeats 1000000 in
theorem xidTexts_lifted (os : Os) (started : os.Started) (H : Type) (enc : TypeId × Value → H) (F : Stop.Interp) :
    ReturnsInHanded {} Tryd.checked os 3 .any ((OpenSpec.ofChange Rows.xidTextsSpec).preRow enc Tryd.prog Tryd.f3 Rows.xidTextsRow.domain false Rows.xidTextsRow.laid) (((OpenSpec.ofChange Rows.xidTextsSpec).at F).post enc Tryd.prog Tryd.f3 false true false false) := by
  refine returnsInHanded_of_row (C := Tryd.checked) (s := OpenSpec.ofChange Rows.xidTextsSpec) Tryd.ownX started (by kernel_rfl) Tryd.func3
    (ChangeSpec.witness_shaped (enc := enc) (C := Tryd.checked) (os := os) (s := Rows.xidTextsSpec) (X := fun w _ => laidMetH Tryd.prog Rows.xidTextsRow.laid w) false (World.laidAll Tryd.prog os Rows.xidTextsRow.laid) #[.agg #[.bool false, .bool false, .int .i64 0, .int .i64 0, .int .i64 0, .int .i64 0]] 8 (World.laidAll_os _ _ _)
      (World.shaped_of_ZipB (by kernel_rfl) (by kernel_rfl)) (by kernel_rfl) (by kernel_rfl) (by kernel_rfl) (met_xid os _)) ?_
  intro W base args ds gs before hval0 hW _ _ HSZ hL hsh _
  have hVars := vars_xid hsh hL
  clear hL hsh HSZ
  have hval : ∀ (j : Nat) t v, Tryd.f3.params[j]? = some t → args[j]? = some v → Value.okWide Tryd.prog W .any base t v := hval0
  have hW' := hW
  obtain ⟨p, q, hA0, hV, rfl, _, _⟩ := hW
  have hA : DataW.TrodAll enc Tryd.prog W 0 (fun _ => true) true Tryd.f3.params.toList args.toList ds p := hA0
  rw [Tryd.params3] at hA hval
  obtain ⟨v0, d0, rfl, rfl, h0⟩ := trodAll_one hA
  obtain ⟨rfl, rfl⟩ := trodVars_none hV
  have h0k := h0
  obtain ⟨rfl, a, b, n, k, t, r, rfl⟩ := open_xid (hval 0 23 v0 rfl rfl) h0
  clear hA0 hval0
  simp only [List.append_nil] at hW'
  have hlt : ∀ x ∈ ([] : List MemPlace), x.block < W.heap.size := fun x hx => by cases hx
  refine (xtexts_any a b n k t r W hVars).mono fun e W' ⟨he, hnx⟩ => ?_
  subst he
  refine ⟨_, rfl, _, _, _, [], [], [], hW', ?_, ?_, rfl, hnx.frame _, fun h => by cases h⟩
  · exact trodAll_mk1 (shut_bool Tryd.underlying4 true)
  · exact trodAll_mk1 (Below.trod Tryd.laidOutX (by kernel_rfl) (of_decide_eq_true (by kernel_rfl)) h0k hnx hlt)
theorem xidTexts_said : Rows.XidTextsSaid :=
  OpenClaim.holds_of_cond 3 Tryd.f3 rfl rfl rfl rfl rfl rfl rfl ⟨rfl, rfl, rfl, rfl, rfl⟩ rfl rfl rfl rfl rfl (by kernel_rfl) Tryd.func3 (by kernel_rfl)
    (of_decide_eq_true (by kernel_rfl)) (by unfold Func.isWrapper; rw [if_neg (of_decide_eq_false (by kernel_rfl))]; exact ⟨rfl, rfl⟩)
    (fun os started H enc _ F0 => by rw [OpenClaim.pre_eq_preRow]; exact xidTexts_lifted os started H enc F0)
set_option maxHeartbeats 1000000 in
theorem xidTexts_holds : Rows.XidTextsCardSaid :=
  Claim7.holds_tied_plain_at .later [] [.data, .data, .data, .sentinel, .sentinel] true (true, "620c8a15fc7f83811276ff23534ddba508ba8d57fe5457a3f16b5d90c56e2641") true
    xidTexts_said (fun _ h => by cases h) (by kernel_rfl) (fun _ h => by cases h) xidTexts_row_tie rfl ⟨rfl, rfl⟩ (by kernel_rfl) rfl
    (fun f fn hf hfn => by
      obtain rfl : f = 3 := Option.some.inj ((show Tryd.prog.funcNamed "squelch/squelchlaw08.XidTexts" = some 3 by kernel_rfl).symm.trans hf) |>.symm
      obtain rfl : fn = Tryd.f3 := (Option.some.inj (Tryd.func3.symm.trans hfn)).symm
      exact ⟨by kernel_rfl, fun j t ht => by
        rw [Tryd.params3] at ht
        have hm : t ∈ [23] := by simpa using Array.mem_of_getElem? ht
        have hall : ([23].all fun u => !Tryd.prog.wantsStandIn u) = true := by kernel_rfl
        exact (show Tryd.prog.wantsStandIn t = false by simpa using List.all_eq_true.1 hall t hm)⟩)
    (by kernel_rfl)
end Go.Proofs.YtmbjhhpnckfppaaDoor
