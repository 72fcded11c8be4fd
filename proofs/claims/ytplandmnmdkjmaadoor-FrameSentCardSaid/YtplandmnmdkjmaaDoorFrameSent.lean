/-
P7.2, proved: what the next digipeater sends on of a right frame has the same bytes but for one bit, of the value 128, in the byte of its own mark; when all have sent it, it is done (up to 30 digipeaters, 2000 bytes of information). For every frame, narrow and wide. Condition: the listed variables (the program's two tables of controls, and tables of Go's library) read, when the call begins, as the program's text lays them; the card ties that (given).
-/
import Derived.Test.YtplandmnmdkjmaaDoorFrmSentW
import Derived.Test.YtplandmnmdkjmaaDoorFrmOpens
import Derived.ChangeMaps5
import Derived.Test.YtplandmnmdkjmaaDoorCards
namespace Go.Proofs.YtplandmnmdkjmaaDoor
open Go.ChangeShapes Go.WideShapes Go.ChangeAt Go.RowKit Go.Joins Go.Deep Go.Sort
open Go.ChangeMaps (open_string shut_string)
set_option maxRecDepth 100000
set_option maxHeartbeats 1000000 in
theorem frameSent_lifted (os : Os) (started : os.Started) (H : Type) (enc : TypeId × Value → H) (F : Stop.Interp) :
    ReturnsInHanded {} Tryd.checked os 5 .any ((OpenSpec.ofChange Rows.frameSentSpec).preRow enc Tryd.prog Tryd.f5 Rows.frameSentRow.domain false Rows.frameSentRow.laid) (((OpenSpec.ofChange Rows.frameSentSpec).at F).post enc Tryd.prog Tryd.f5 false true false false) := by
  refine returnsInHanded_of_row (C := Tryd.checked) (s := OpenSpec.ofChange Rows.frameSentSpec) Tryd.own started (by kernel_rfl) Tryd.func5
    (ChangeSpec.witness_shaped (enc := enc) (C := Tryd.checked) (os := os) (s := Rows.frameSentSpec) (X := fun w _ => laidMetH Tryd.prog Rows.frameSentRow.laid w) false (World.laidAll Tryd.prog os Rows.frameSentRow.laid) #[.agg #[.string ⟨#[]⟩, .int .i64 0, .string ⟨#[]⟩, .int .i64 0, .bool false, .bool false, .slice none 0 0, .int .i64 0, .int .i64 0, .int .i64 0, .bool false, .int .i64 0, .string ⟨#[]⟩], .bool false] 8 (World.laidAll_os _ _ _)
      (World.shaped_of_ZipB (by kernel_rfl) (by kernel_rfl)) (by kernel_rfl) (by kernel_rfl) (by kernel_rfl) (met_frame os _)) ?_
  intro W base args ds gs before hval0 hW _ _ HSZ hL hsh _
  obtain ⟨hC, hN⟩ := vars_frame hL
  clear hL hsh HSZ
  have hval : ∀ (j : Nat) t v, Tryd.f5.params[j]? = some t → args[j]? = some v → Value.okWide Tryd.prog W .any base t v := hval0
  have hW' := hW
  obtain ⟨p, q, hA0, hV, rfl, _, _⟩ := hW
  have hA : DataW.TrodAll enc Tryd.prog W 0 (fun _ => true) true Tryd.f5.params.toList args.toList ds p := hA0
  rw [Tryd.params5] at hA hval
  obtain ⟨v0, v1, d0, d1, p0, p1, rfl, rfl, rfl, h0, h1⟩ := trodAll_two hA
  obtain ⟨rfl, rfl⟩ := trodVars_none hV
  have h0k := h0
  obtain ⟨tb, fb, tn, fn, tm, fm, a, cap, D, k, nr, ns, pf, pid, info, rfl, hE⟩ := open_frame (hval 0 30 v0 rfl rfl) h0
  obtain ⟨wd, rfl, rfl, rfl⟩ := open_bool Tryd.underlying4 (hval 1 4 v1 rfl rfl) h1
  clear hA0 hval0
  simp only [List.append_nil] at hW'
  have hlt : ∀ x ∈ p0, x.block < W.heap.size := fun x hx => by simpa using hW'.lt x hx
  refine (fsent_any tb fb tn fn tm fm a cap D k nr ns pf pid info wd W hC hN hE).mono fun e W' ⟨he, hnx⟩ => ?_
  subst he
  refine ⟨_, rfl, _, _, _, [], p0, [], hW', ?_, ?_, rfl, hnx.frame _, fun h => by cases h⟩
  · exact trodAll_mk1 (shut_bool Tryd.underlying4 true)
  · have h3 := trodAll_mk2 (Below.trod Tryd.laidOut (by kernel_rfl) (of_decide_eq_true (by kernel_rfl)) h0k hnx hlt) (shut_bool Tryd.underlying4 wd)
    simp only [List.append_nil] at h3
    exact h3
theorem frameSent_said : Rows.FrameSentSaid :=
  OpenClaim.holds_of_cond 5 Tryd.f5 rfl rfl rfl rfl rfl rfl rfl ⟨rfl, rfl, rfl, rfl, rfl⟩ rfl rfl rfl rfl rfl (by kernel_rfl) Tryd.func5 (by kernel_rfl)
    (of_decide_eq_true (by kernel_rfl)) (by unfold Func.isWrapper; rw [if_neg (of_decide_eq_false (by kernel_rfl))]; exact ⟨rfl, rfl⟩)
    (fun os started H enc _ F0 => by rw [OpenClaim.pre_eq_preRow]; exact frameSent_lifted os started H enc F0)
set_option maxHeartbeats 1000000 in
theorem frameSent_holds : Rows.FrameSentCardSaid :=
  Claim7.holds_tied_plain_at .later [] [.data, .data, .data, .data, .data, .data, .pinned] true (true, "c160ade12fdac1fc5a154c3203b117196fcfde24145a0f46aa1dd3e557938ea4") false
    frameSent_said (fun _ h => by cases h) (by kernel_rfl) (fun _ h => by cases h) frameSent_row_tie rfl ⟨rfl, rfl⟩ (by kernel_rfl) rfl
    (fun f fn hf hfn => by
      obtain rfl : f = 5 := Option.some.inj ((show Tryd.prog.funcNamed "squelch/squelchlaw07.FrameSent" = some 5 by kernel_rfl).symm.trans hf) |>.symm
      obtain rfl : fn = Tryd.f5 := (Option.some.inj (Tryd.func5.symm.trans hfn)).symm
      exact ⟨by kernel_rfl, fun j t ht => by
        rw [Tryd.params5] at ht
        have hm : t ∈ [30, 4] := by simpa using Array.mem_of_getElem? ht
        have hall : ([30, 4].all fun u => !Tryd.prog.wantsStandIn u) = true := by kernel_rfl
        exact (show Tryd.prog.wantsStandIn t = false by simpa using List.all_eq_true.1 hall t hm)⟩)
    (by kernel_rfl)
end Go.Proofs.YtplandmnmdkjmaaDoor
