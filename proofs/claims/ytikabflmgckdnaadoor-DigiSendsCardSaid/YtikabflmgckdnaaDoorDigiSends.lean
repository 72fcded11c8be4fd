/-
DigiSends, proved: P18.1: what a digipeater with any call and aliases sends on, of any bytes, and what it counts, is what the document says (up to 40 texts of 1000 bytes). For every call, aliases and texts. Condition: the listed variables (the program's table of controls, and tables of Go's library) read, when the call begins, as the program's text lays them; the card ties that (given).
-/
import Derived.Test.YtikabflmgckdnaaDoorMix39
import Derived.Test.YtikabflmgckdnaaDoorDigSendsW
import Derived.Test.YtikabflmgckdnaaDoorMix40
import Derived.ChangeMaps5
import Derived.Test.YtikabflmgckdnaaDoorCards
namespace Go.Proofs.YtikabflmgckdnaaDoor
open Go.ChangeShapes Go.WideShapes Go.ChangeAt Go.RowKit Go.Joins Go.Deep Go.Sort
open Go.ChangeMaps (open_string shut_string)
set_option maxRecDepth 100000
set_option maxHeartbeats 1000000 in
theorem digiSends_lifted (os : Os) (started : os.Started) (H : Type) (enc : TypeId × Value → H) (F : Stop.Interp) :
    ReturnsInHanded {} Tryd.checked os 3 .any ((OpenSpec.ofChange Rows.digiSendsSpec).preRow enc Tryd.prog Tryd.f3 Rows.digiSendsRow.domain false Rows.digiSendsRow.laid) (((OpenSpec.ofChange Rows.digiSendsSpec).at F).post enc Tryd.prog Tryd.f3 false true false false) := by
  refine returnsInHanded_of_row (C := Tryd.checked) (s := OpenSpec.ofChange Rows.digiSendsSpec) Tryd.ownS started (by kernel_rfl) Tryd.func3
    (ChangeSpec.witness_shaped (enc := enc) (C := Tryd.checked) (os := os) (s := Rows.digiSendsSpec) (X := fun w _ => laidMetH Tryd.prog Rows.digiSendsRow.laid w) false (World.laidAll Tryd.prog os Rows.digiSendsRow.laid) #[.agg #[.string ⟨#[]⟩, .int .i64 0], .slice none 0 0, .slice none 0 0] 8 (World.laidAll_os _ _ _)
      (World.shaped_of_ZipB (by kernel_rfl) (by kernel_rfl)) (by kernel_rfl) (by kernel_rfl) (by kernel_rfl) (met_digi os _)) ?_
  intro W base args ds gs before hval0 hW _ _ HSZ hL hsh _
  have hC := vars_digi hL
  clear hL hsh HSZ
  have hval : ∀ (j : Nat) t v, Tryd.f3.params[j]? = some t → args[j]? = some v → Value.okWide Tryd.prog W .any base t v := hval0
  have hW' := hW
  obtain ⟨p, q, hA0, hV, rfl, _, _⟩ := hW
  have hA : DataW.TrodAll enc Tryd.prog W 0 (fun _ => true) true Tryd.f3.params.toList args.toList ds p := hA0
  rw [Tryd.params3] at hA hval
  obtain ⟨v0, v1, v2, d0, d1, d2, p0, p1, p2, rfl, rfl, rfl, h0, h1, h2⟩ := trodAll_three hA
  obtain ⟨rfl, rfl⟩ := trodVars_none hV
  have h0k := h0
  have h1k := h1
  have h2k := h2
  obtain ⟨rfl, b, n, rfl⟩ := open_call18 (hval 0 23 v0 rfl rfl) h0
  obtain ⟨a1, m1, c1, rfl⟩ := okWide_slice Tryd.underlying24 (hval 1 24 v1 rfl rfl)
  obtain ⟨a2, m2, c2, rfl⟩ := okWide_slice Tryd.underlying25 (hval 2 25 v2 rfl rfl)
  obtain ⟨fu1, hf1⟩ := h1
  obtain ⟨fu2, hf2⟩ := h2
  obtain ⟨A, hAn, hAC, hA0n⟩ := open_calls18 (show DataW.trod enc Tryd.prog W 0 (fun _ => true) true fu1 24 [.slice a1 m1 c1] = some (d1, p1) from hf1)
  obtain ⟨L, hLn, hLA⟩ := open_texts18 (show DataW.trod enc Tryd.prog W 0 (fun _ => true) true fu2 25 [.slice a2 m2 c2] = some (d2, p2) from hf2)
  have hlt1 : ∀ x ∈ p1, x.block < W.heap.size := fun x hx => hW'.lt x (by simp [hx])
  have hlt2 : ∀ x ∈ p2, x.block < W.heap.size := fun x hx => hW'.lt x (by simp [hx])
  have hl0 : ∀ x ∈ ([] : List MemPlace), x.block < W.heap.size := fun x hx => by cases hx
  clear hA0 hval0
  simp only [List.append_nil, List.nil_append] at hW'
  refine (disends_any b n a1 m1 c1 A a2 m2 c2 L W diC hC hAn hAC hA0n hLn hLA).mono fun e W' ⟨he, hnx⟩ => ?_
  subst he
  refine ⟨_, rfl, _, _, _, [], (p1 ++ p2), [], hW', ?_, ?_, rfl, hnx.frame _, fun h => by cases h⟩
  · exact trodAll_mk1 (shut_bool Tryd.underlying4 true)
  · have h3 := trodAll_mk3 (Below.trod Tryd.laidOutS (by kernel_rfl) (of_decide_eq_true (by kernel_rfl)) h0k hnx hl0) (Below.trod Tryd.laidOutS (by kernel_rfl) (of_decide_eq_true (by kernel_rfl)) h1k hnx hlt1) (Below.trod Tryd.laidOutS (by kernel_rfl) (of_decide_eq_true (by kernel_rfl)) h2k hnx hlt2)
    simp only [List.nil_append] at h3
    exact h3
theorem digiSends_said : Rows.DigiSendsSaid :=
  OpenClaim.holds_of_cond 3 Tryd.f3 rfl rfl rfl rfl rfl rfl rfl ⟨rfl, rfl, rfl, rfl, rfl⟩ rfl rfl rfl rfl rfl (by kernel_rfl) Tryd.func3 (by kernel_rfl)
    (of_decide_eq_true (by kernel_rfl)) (by unfold Func.isWrapper; rw [if_neg (of_decide_eq_false (by kernel_rfl))]; exact ⟨rfl, rfl⟩)
    (fun os started H enc _ F0 => by rw [OpenClaim.pre_eq_preRow]; exact digiSends_lifted os started H enc F0)
set_option maxHeartbeats 1000000 in
theorem digiSends_holds : Rows.DigiSendsCardSaid :=
  Claim7.holds_tied_plain_at .later [] [.data, .data, .pinned] true (true, "a690c11646df4d3beb38dc4bfeea8974dc3a385e2cdc2f7d20835369818b8d38") false
    digiSends_said (fun _ h => by cases h) (by kernel_rfl) (fun _ h => by cases h) digiSends_row_tie rfl ⟨rfl, rfl⟩ (by kernel_rfl) rfl
    (fun f fn hf hfn => by
      obtain rfl : f = 3 := Option.some.inj ((show Tryd.prog.funcNamed "squelch/squelchlaw18.DigiSends" = some 3 by kernel_rfl).symm.trans hf) |>.symm
      obtain rfl : fn = Tryd.f3 := (Option.some.inj (Tryd.func3.symm.trans hfn)).symm
      exact ⟨by kernel_rfl, fun j t ht => by
        rw [Tryd.params3] at ht
        have hm : t ∈ [23, 24, 25] := by simpa using Array.mem_of_getElem? ht
        have hall : ([23, 24, 25].all fun u => !Tryd.prog.wantsStandIn u) = true := by kernel_rfl
        exact (show Tryd.prog.wantsStandIn t = false by simpa using List.all_eq_true.1 hall t hm)⟩)
    (by kernel_rfl)
end Go.Proofs.YtikabflmgckdnaaDoor
