/-
UiBeacons, proved: P22.1: whatever a beacon is set to, whenever: it is due just when the document says, with the bytes that it says (up to 200 calls). For every call and ops. Condition: the listed variables (the program's table of controls, and tables of Go's library) read, when the call begins, as the program's text lays them; the card ties that (given).
-/
import Derived.Test.YtadhiknmkiogjaaDoorUiBeaconsW
import Derived.Test.YtadhiknmkiogjaaDoorMix35
import Derived.ChangeMaps5
import Derived.Test.YtadhiknmkiogjaaDoorCards
namespace Go.Proofs.YtadhiknmkiogjaaDoor
open Go.ChangeShapes Go.WideShapes Go.ChangeAt Go.RowKit Go.Joins Go.Deep Go.Sort
open Go.ChangeMaps (open_string shut_string)
set_option maxRecDepth 100000
set_option maxHeartbeats 1000000 in
theorem uiBeacons_lifted (os : Os) (started : os.Started) (H : Type) (enc : TypeId × Value → H) (F : Stop.Interp) :
    ReturnsInHanded {} Tryd.checked os 4 .any ((OpenSpec.ofChange Rows.uiBeaconsSpec).preRow enc Tryd.prog Tryd.f4 Rows.uiBeaconsRow.domain false Rows.uiBeaconsRow.laid) (((OpenSpec.ofChange Rows.uiBeaconsSpec).at F).post enc Tryd.prog Tryd.f4 false true false false) := by
  refine returnsInHanded_of_row (C := Tryd.checked) (s := OpenSpec.ofChange Rows.uiBeaconsSpec) Tryd.ownS started (by kernel_rfl) Tryd.func4
    (ChangeSpec.witness_shaped (enc := enc) (C := Tryd.checked) (os := os) (s := Rows.uiBeaconsSpec) (X := fun w _ => laidMetH Tryd.prog Rows.uiBeaconsRow.laid w) false (World.laidAll Tryd.prog os Rows.uiBeaconsRow.laid) #[.agg #[.string ⟨#[]⟩, .int .i64 0], .slice none 0 0] 8 (World.laidAll_os _ _ _)
      (World.shaped_of_ZipB (by kernel_rfl) (by kernel_rfl)) (by kernel_rfl) (by kernel_rfl) (by kernel_rfl) (met_ui os _)) ?_
  intro W base args ds gs before hval0 hW _ _ HSZ hL hsh _
  have hC := vars_ui hL
  clear hL hsh
  have hsz : (DataW.weightsEach Tryd.prog (Tryd.f4.params.toList ++ Rows.uiBeaconsSpec.plain.varTypes Tryd.prog) (ds ++ gs)).all (· ≤ reachBytes) = true := HSZ
  clear HSZ
  have hval : ∀ (j : Nat) t v, Tryd.f4.params[j]? = some t → args[j]? = some v → Value.okWide Tryd.prog W .any base t v := hval0
  have hW' := hW
  obtain ⟨p, q, hA0, hV, rfl, _, _⟩ := hW
  have hA : DataW.TrodAll enc Tryd.prog W 0 (fun _ => true) true Tryd.f4.params.toList args.toList ds p := hA0
  rw [Tryd.params4] at hA hval hsz
  obtain ⟨v0, v1, d0, d1, p0, p1, rfl, rfl, rfl, h0, h1⟩ := trodAll_two hA
  obtain ⟨rfl, rfl⟩ := trodVars_none hV
  have h0k := h0
  have h1k := h1
  obtain ⟨rfl, b, n, rfl, hwf⟩ := open_callP (hval 0 23 v0 rfl rfl) h0
  obtain ⟨a1, m1, c1, rfl⟩ := okWide_slice Tryd.underlying41 (hval 1 41 v1 rfl rfl)
  obtain ⟨fuel, hfu⟩ := h1
  obtain ⟨L, hLn, hLA, hLo⟩ := open_ops22 (show DataW.trod enc Tryd.prog W 0 (fun _ => true) true fuel 41 [.slice a1 m1 c1] = some (d1, p1) from hfu)
  subst hLn
  have hlt : ∀ x ∈ p1, x.block < W.heap.size := fun x hx => hW'.lt x (by simp [hx])
  have hl0 : ∀ x ∈ ([] : List MemPlace), x.block < W.heap.size := fun x hx => by cases hx
  clear hA0 hval0
  simp only [List.append_nil, List.nil_append] at hW'
  refine (uibeacons_any b n a1 c1 L W hC hLA (fun o ho => ⟨(hLo o ho).1, sized_in hsz (j := 1) rfl rfl ((hLo o ho).2 _ (List.mem_cons_self)), fun x hx => sized_in hsz (j := 1) rfl rfl ((hLo o ho).2 _ (List.mem_cons_of_mem _ (List.mem_map.2 ⟨x, hx, rfl⟩)))⟩)).mono fun e W' ⟨he, hnx⟩ => ?_
  subst he
  refine ⟨_, rfl, _, _, _, [], p1, [], hW', ?_, ?_, rfl, hnx.frame _, fun h => by cases h⟩
  · exact trodAll_mk1 (shut_bool Tryd.underlying4 true)
  · have h3 := trodAll_mk2 (Below.trod Tryd.laidOutS (by kernel_rfl) (of_decide_eq_true (by kernel_rfl)) h0k hnx hl0) (Below.trod Tryd.laidOutS (by kernel_rfl) (of_decide_eq_true (by kernel_rfl)) h1k hnx hlt)
    simp only [List.nil_append, List.append_nil] at h3 ⊢
    exact h3
theorem uiBeacons_said : Rows.UiBeaconsSaid :=
  OpenClaim.holds_of_cond 4 Tryd.f4 rfl rfl rfl rfl rfl rfl rfl ⟨rfl, rfl, rfl, rfl, rfl⟩ rfl rfl rfl rfl rfl (by kernel_rfl) Tryd.func4 (by kernel_rfl)
    (of_decide_eq_true (by kernel_rfl)) (by unfold Func.isWrapper; rw [if_neg (of_decide_eq_false (by kernel_rfl))]; exact ⟨rfl, rfl⟩)
    (fun os started H enc _ F0 => by rw [OpenClaim.pre_eq_preRow]; exact uiBeacons_lifted os started H enc F0)
set_option maxHeartbeats 1000000 in
theorem uiBeacons_holds : Rows.UiBeaconsCardSaid :=
  Claim7.holds_tied_plain_at .later [] [.data, .data, .pinned] true (true, "c29b0bd37bbaa7268286862b599fb9c666b6c134d306491cceb6f4e1d8d83430") false
    uiBeacons_said (fun _ h => by cases h) (by kernel_rfl) (fun _ h => by cases h) uiBeacons_row_tie rfl ⟨rfl, rfl⟩ (by kernel_rfl) rfl
    (fun f fn hf hfn => by
      obtain rfl : f = 4 := Option.some.inj ((show Tryd.prog.funcNamed "squelch/squelchlaw22.UiBeacons" = some 4 by kernel_rfl).symm.trans hf) |>.symm
      obtain rfl : fn = Tryd.f4 := (Option.some.inj (Tryd.func4.symm.trans hfn)).symm
      exact ⟨by kernel_rfl, fun j t ht => by
        rw [Tryd.params4] at ht
        have hm : t ∈ [23, 41] := by simpa using Array.mem_of_getElem? ht
        have hall : ([23, 41].all fun u => !Tryd.prog.wantsStandIn u) = true := by kernel_rfl
        exact (show Tryd.prog.wantsStandIn t = false by simpa using List.all_eq_true.1 hall t hm)⟩)
    (by kernel_rfl)
end Go.Proofs.YtadhiknmkiogjaaDoor
