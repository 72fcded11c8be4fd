/-
P6.1, proved: any control is right, or not, and has the bytes that the document says, or none, and comes back from them, whatever stands behind (up to 300 bytes behind). For every control and text. Condition: the listed tables of the program read, when the call begins, as the program's text lays them; the card ties that (given).
-/
import Derived.Test.YtfmcngchcalcmaaDoorCtlLawC
import Derived.Test.YtfmcngchcalcmaaDoorCtlTied
import Derived.ChangeMaps5
import Derived.Test.YtfmcngchcalcmaaDoorCards
namespace Go.Proofs.YtfmcngchcalcmaaDoor
open Go.ChangeShapes Go.WideShapes Go.ChangeAt Go.RowKit Go.Joins
open Go.ChangeMaps (open_string shut_string)
set_option maxRecDepth 100000
theorem ctlPuts_lifted (os : Os) (started : os.Started) (H : Type) (enc : TypeId × Value → H) (F : Stop.Interp) :
    ReturnsInHanded {} Tryd.checked os 9 .any ((OpenSpec.ofChange Rows.ctlPutsSpec).preRow enc Tryd.prog Tryd.f9 Rows.ctlPutsRow.domain false Rows.ctlPutsRow.laid) (((OpenSpec.ofChange Rows.ctlPutsSpec).at F).post enc Tryd.prog Tryd.f9 false true false false) := by
  refine returnsInHanded_of_row (C := Tryd.checked) (s := OpenSpec.ofChange Rows.ctlPutsSpec) Tryd.ownC started (by kernel_rfl) Tryd.func9
    (ChangeSpec.witness_shaped (enc := enc) (C := Tryd.checked) (os := os) (s := Rows.ctlPutsSpec) (X := fun w _ => laidMetH Tryd.prog Rows.ctlPutsRow.laid w) false (World.laidAll Tryd.prog os Rows.ctlPutsRow.laid) #[.agg #[.int .i64 0, .int .i64 0, .int .i64 0, .bool false], .bool false, .string ⟨#[]⟩] 8 (World.laidAll_os _ _ _)
      (World.shaped_of_ZipB (by kernel_rfl) (by kernel_rfl)) (by kernel_rfl) (by kernel_rfl) (by kernel_rfl) (met_codes os _)) ?_
  intro W base args ds gs before hval0 hW _ _ HSZ hL hsh _
  have hVars := vars_codes hL
  clear hL hsh HSZ
  have hval : ∀ (j : Nat) t v, Tryd.f9.params[j]? = some t → args[j]? = some v → Value.okWide Tryd.prog W .any base t v := hval0
  have hW' := hW
  obtain ⟨p, q, hA0, hV, rfl, _, _⟩ := hW
  have hA : DataW.TrodAll enc Tryd.prog W 0 (fun _ => true) true Tryd.f9.params.toList args.toList ds p := hA0
  rw [Tryd.params9] at hA hval
  obtain ⟨v0, v1, v2, d0, d1, d2, p0, p1, p2, rfl, rfl, rfl, h0, h1, h2⟩ := trodAll_three hA
  obtain ⟨rfl, rfl⟩ := trodVars_none hV
  have h0k := h0
  obtain ⟨rfl, k, nr, ns, pf, rfl⟩ := open_ctl (hval 0 65 v0 rfl rfl) h0
  obtain ⟨wd, rfl, rfl, rfl⟩ := open_bool Tryd.underlying4 (hval 1 4 v1 rfl rfl) h1
  obtain ⟨s, rfl, rfl, rfl, ws⟩ := open_string Tryd.underlying9 (hval 2 9 v2 rfl rfl) h2
  clear hA0 hval0
  simp only [List.append_nil] at hW'
  have hlt : ∀ x ∈ ([] : List MemPlace), x.block < W.heap.size := fun x hx => by cases hx
  refine (cputs_any k nr ns pf wd s W hVars).mono fun e W' ⟨he, hnx⟩ => ?_
  subst he
  refine ⟨_, rfl, _, _, _, [], [], [], hW', ?_, ?_, rfl, hnx.frame _, fun h => by cases h⟩
  · exact trodAll_mk1 (shut_bool Tryd.underlying4 true)
  · exact trodAll_mk3 (Below.trod Tryd.laidOutC (by kernel_rfl) (of_decide_eq_true (by kernel_rfl)) h0k hnx hlt) (shut_bool Tryd.underlying4 _) (shut_string (P := Tryd.prog) Tryd.underlying9 ws)
theorem ctlPuts_said : Rows.CtlPutsSaid :=
  OpenClaim.holds_of_cond 9 Tryd.f9 rfl rfl rfl rfl rfl rfl rfl ⟨rfl, rfl, rfl, rfl, rfl⟩ rfl rfl rfl rfl rfl (by kernel_rfl) Tryd.func9 (by kernel_rfl)
    (of_decide_eq_true (by kernel_rfl)) (by unfold Func.isWrapper; rw [if_neg (of_decide_eq_false (by kernel_rfl))]; exact ⟨rfl, rfl⟩)
    (fun os started H enc _ F0 => by rw [OpenClaim.pre_eq_preRow]; exact ctlPuts_lifted os started H enc F0)
theorem ctlPuts_holds : Rows.CtlPutsCardSaid :=
  Claim7.holds_tied_plain_at .later [] [.data] true (true, "de01a5084a8e35784653fe692f8202fd18d91c1c33317f8f50b76c907e1b20e7") true
    ctlPuts_said (fun _ h => by cases h) (by kernel_rfl) (fun _ h => by cases h) ctlPuts_row_tie rfl ⟨rfl, rfl⟩ (by kernel_rfl) rfl
    (fun f fn hf hfn => by
      obtain rfl : f = 9 := Option.some.inj ((show Tryd.prog.funcNamed "squelch/squelchlaw06.CtlPuts" = some 9 by kernel_rfl).symm.trans hf) |>.symm
      obtain rfl : fn = Tryd.f9 := (Option.some.inj (Tryd.func9.symm.trans hfn)).symm
      exact ⟨by kernel_rfl, fun j t ht => by
        rw [Tryd.params9] at ht
        have hm : t ∈ [65, 4, 9] := by simpa using Array.mem_of_getElem? ht
        have hall : ([65, 4, 9].all fun u => !Tryd.prog.wantsStandIn u) = true := by kernel_rfl
        exact (show Tryd.prog.wantsStandIn t = false by simpa using List.all_eq_true.1 hall t hm)⟩)
    (by kernel_rfl)
end Go.Proofs.YtfmcngchcalcmaaDoor
