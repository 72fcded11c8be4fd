/-
LinksErrors, proved: P21.1: a call to nobody, to oneself, by a path that may not be, a second time, or when there is no room, is told so, and makes no link; what isn't there can't be closed, sent to, or held. For every call, digipeaters and number. Condition: the listed variables (the program's table of controls, and tables of Go's library) read, when the call begins, as the program's text lays them; the card ties that (given).
-/
import Derived.Test.YtgoaepjjegblnaaGreatDoorMix46
import Derived.ChangeMaps5
import Derived.Test.YtgoaepjjegblnaaGreatDoorCards
namespace Go.Proofs.YtgoaepjjegblnaaGreatDoor
open Go.ChangeShapes Go.WideShapes Go.ChangeAt Go.RowKit Go.Joins Go.Deep Go.Sort
open Go.ChangeMaps (open_string shut_string)
set_option maxRecDepth 100000
set_option maxHeartbeats 1000000 in
theorem linksErrors_lifted (os : Os) (started : os.Started) (H : Type) (enc : TypeId × Value → H) (F : Stop.Interp) :
    ReturnsInHanded {} Tryz.checked os 10 .any ((OpenSpec.ofChange Rows.linksErrorsSpec).preRow enc Tryz.prog Tryz.f10 Rows.linksErrorsRow.domain false Rows.linksErrorsRow.laid) (((OpenSpec.ofChange Rows.linksErrorsSpec).at F).post enc Tryz.prog Tryz.f10 false true false false) := by
  refine returnsInHanded_of_row (C := Tryz.checked) (s := OpenSpec.ofChange Rows.linksErrorsSpec) Tryz.ownS started (by kernel_rfl) Tryz.func10
    (ChangeSpec.witness_shaped (enc := enc) (C := Tryz.checked) (os := os) (s := Rows.linksErrorsSpec) (X := fun w _ => laidMetH Tryz.prog Rows.linksErrorsRow.laid w) false (World.laidAll Tryz.prog os Rows.linksErrorsRow.laid) #[.agg #[.string ⟨#[]⟩, .int .i64 0], .slice none 0 0, .int .i64 0] 8 (World.laidAll_os _ _ _)
      (World.shaped_of_ZipB (by kernel_rfl) (by kernel_rfl)) (by kernel_rfl) (by kernel_rfl) (by kernel_rfl) (met_links os _)) ?_
  intro W base args ds gs before hval0 hW _ _ HSZ hL hsh _
  have hC := vars_links hL
  clear hL hsh
  have hsz : (DataW.weightsEach Tryz.prog (Tryz.f10.params.toList ++ Rows.linksErrorsSpec.plain.varTypes Tryz.prog) (ds ++ gs)).all (· ≤ reachBytes) = true := HSZ
  clear HSZ
  have hval : ∀ (j : Nat) t v, Tryz.f10.params[j]? = some t → args[j]? = some v → Value.okWide Tryz.prog W .any base t v := hval0
  have hW' := hW
  obtain ⟨p, q, hA0, hV, rfl, _, _⟩ := hW
  have hA : DataW.TrodAll enc Tryz.prog W 0 (fun _ => true) true Tryz.f10.params.toList args.toList ds p := hA0
  rw [Tryz.params10] at hA hval hsz
  obtain ⟨v0, v1, v2, d0, d1, d2, p0, p1, p2, rfl, rfl, rfl, h0, h1, h2⟩ := trodAll_three hA
  obtain ⟨rfl, rfl⟩ := trodVars_none hV
  have h0k := h0
  have h1k := h1
  have h2k := h2
  obtain ⟨rfl, cb, cn, rfl, hwf⟩ := open_callP (hval 0 54 v0 rfl rfl) h0
  obtain ⟨a0, len, cap0, rfl⟩ := okWide_slice Tryz.underlying91 (hval 1 91 v1 rfl rfl)
  obtain ⟨fuel, hfu⟩ := h1
  obtain ⟨a, cap, A, hv, hE, hwc⟩ := open_callsP (show DataW.trod enc Tryz.prog W 0 (fun _ => true) true fuel 91 [.slice a0 len cap0] = some (d1, p1) from hfu)
  simp only [Value.slice.injEq] at hv
  obtain ⟨rfl, rfl, rfl⟩ := hv
  obtain ⟨n, rfl, rfl, rfl, wn⟩ := open_int Tryz.underlying3 (hval 2 3 v2 rfl rfl) h2
  have hlt : ∀ x ∈ p1, x.block < W.heap.size := fun x hx => hW'.lt x (by simp [hx])
  have hl0 : ∀ x ∈ ([] : List MemPlace), x.block < W.heap.size := fun x hx => by cases hx
  clear hA0 hval0
  simp only [List.append_nil, List.nil_append] at hW'
  refine (linksErrors_any W cb cn a0 cap0 A n hC hE (fun x hx => sized_in hsz (j := 1) rfl rfl (hwc x hx))).mono fun e W' ⟨he, hnx⟩ => ?_
  subst he
  refine ⟨_, rfl, _, _, _, [], p1, [], hW', ?_, ?_, rfl, hnx.frame _, fun h => by cases h⟩
  · exact trodAll_mk1 (shut_bool Tryz.underlying4 true)
  · have h3 := trodAll_mk3 (Below.trod Tryz.laidOutS (by kernel_rfl) (of_decide_eq_true (by kernel_rfl)) h0k hnx hl0) (Below.trod Tryz.laidOutS (by kernel_rfl) (of_decide_eq_true (by kernel_rfl)) h1k hnx hlt) (Below.trod Tryz.laidOutS (by kernel_rfl) (of_decide_eq_true (by kernel_rfl)) h2k hnx hl0)
    simp only [List.nil_append, List.append_nil] at h3
    exact h3
theorem linksErrors_said : Rows.LinksErrorsSaid :=
  OpenClaim.holds_of_cond 10 Tryz.f10 rfl rfl rfl rfl rfl rfl rfl ⟨rfl, rfl, rfl, rfl, rfl⟩ rfl rfl rfl rfl rfl (by kernel_rfl) Tryz.func10 (by kernel_rfl)
    (of_decide_eq_true (by kernel_rfl)) (by unfold Func.isWrapper; rw [if_neg (of_decide_eq_false (by kernel_rfl))]; exact ⟨rfl, rfl⟩)
    (fun os started H enc _ F0 => by rw [OpenClaim.pre_eq_preRow]; exact linksErrors_lifted os started H enc F0)
set_option maxHeartbeats 1000000 in
theorem linksErrors_holds : Rows.LinksErrorsCardSaid :=
  Claim7.holds_tied_plain_at .later [] [.data, .data, .pinned] true (true, "40ec77e4eaf53f31bac6ccf5c7f0d2eb04297e8b1fa6b25974a349214fce3a6e") false
    linksErrors_said (fun _ h => by cases h) (by kernel_rfl) (fun _ h => by cases h) linksErrors_row_tie rfl ⟨rfl, rfl⟩ (by kernel_rfl) rfl
    (fun f fn hf hfn => by
      obtain rfl : f = 10 := Option.some.inj ((show Tryz.prog.funcNamed "squelch/squelchlaw21.LinksErrors" = some 10 by kernel_rfl).symm.trans hf) |>.symm
      obtain rfl : fn = Tryz.f10 := (Option.some.inj (Tryz.func10.symm.trans hfn)).symm
      exact ⟨by kernel_rfl, fun j t ht => by
        rw [Tryz.params10] at ht
        have hm : t ∈ [54, 91, 3] := by simpa using Array.mem_of_getElem? ht
        have hall : ([54, 91, 3].all fun u => !Tryz.prog.wantsStandIn u) = true := by kernel_rfl
        exact (show Tryz.prog.wantsStandIn t = false by simpa using List.all_eq_true.1 hall t hm)⟩)
    (by kernel_rfl)
end Go.Proofs.YtgoaepjjegblnaaGreatDoor
