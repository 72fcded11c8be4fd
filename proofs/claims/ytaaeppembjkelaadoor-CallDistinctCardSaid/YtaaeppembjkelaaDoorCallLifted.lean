/-
The four statements of call over what the code's own calls are to answer: whole frames, where the listed variables hold what the rows say.
-/
import Derived.Test.YtaaeppembjkelaaDoorCallOpens
import Derived.Test.YtaaeppembjkelaaDoorCallWordsW
import Derived.Test.YtaaeppembjkelaaDoorCallBytesW
import Derived.Test.YtaaeppembjkelaaDoorCallTied
namespace Go.Proofs.YtaaeppembjkelaaDoor
open Go.ChangeShapes Go.WideShapes Go.ChangeAt Go.RowKit Go.Joins Go.Deep Go.Sort
open Go.ChangeMaps (open_string shut_string)
set_option maxRecDepth 100000 in
theorem callOrder_lifted (hP : CParseOk) (hU : CPutOk) (hL : CLessOk) (os : Os) (started : os.Started) (H : Type) (enc : TypeId × Value → H) (F : Stop.Interp) :
    ReturnsInHanded {} Tryd.checked os 5 .any ((OpenSpec.ofChange Rows.callOrderSpec).preRow enc Tryd.prog Tryd.f5 Rows.callOrderRow.domain false Rows.callOrderRow.laid) (((OpenSpec.ofChange Rows.callOrderSpec).at F).post enc Tryd.prog Tryd.f5 false true false false) := by
  refine returnsInHanded_of_row (C := Tryd.checked) (s := OpenSpec.ofChange Rows.callOrderSpec) Tryd.own started (by kernel_rfl) Tryd.func5
    (ChangeSpec.witness_shaped (enc := enc) (C := Tryd.checked) (os := os) (s := Rows.callOrderSpec) (X := fun w _ => laidMetH Tryd.prog Rows.callOrderRow.laid w) false (World.laidAll Tryd.prog os Rows.callOrderRow.laid) #[.agg #[.string ⟨#[]⟩, .int .i64 0], .agg #[.string ⟨#[]⟩, .int .i64 0], .agg #[.string ⟨#[]⟩, .int .i64 0]] 8 (World.laidAll_os _ _ _)
      (World.shaped_of_ZipB (by kernel_rfl) (by kernel_rfl)) (by kernel_rfl) (by kernel_rfl) (by kernel_rfl) (met_five os _)) ?_
  intro W base args ds gs before hval0 hW _ _ HSZ hL hsh _
  have hVars := vars_five hsh hL
  clear hL hsh
  have hsz : (DataW.weightsEach Tryd.prog (Tryd.f5.params.toList ++ Rows.callOrderSpec.plain.varTypes Tryd.prog) (ds ++ gs)).all (· ≤ reachBytes) = true := HSZ
  clear HSZ
  have hval : ∀ (j : Nat) t v, Tryd.f5.params[j]? = some t → args[j]? = some v → Value.okWide Tryd.prog W .any base t v := hval0
  have hW' := hW
  obtain ⟨p, q, hA0, hV, rfl, _, _⟩ := hW
  have hA : DataW.TrodAll enc Tryd.prog W 0 (fun _ => true) true Tryd.f5.params.toList args.toList ds p := hA0
  rw [Tryd.params5] at hA hval
  obtain ⟨v0, v1, v2, d0, d1, d2, p0, p1, p2, rfl, rfl, rfl, h0, h1, h2⟩ := trodAll_three hA
  obtain ⟨rfl, rfl⟩ := trodVars_none hV
  have h0k := h0
  have h1k := h1
  have h2k := h2
  obtain ⟨rfl, a, n, rfl, e0, w0⟩ := open_call (hval 0 23 v0 rfl rfl) h0
  obtain ⟨rfl, b, m, rfl, e1, w1⟩ := open_call (hval 1 23 v1 rfl rfl) h1
  obtain ⟨rfl, c, k, rfl, e2, w2⟩ := open_call (hval 2 23 v2 rfl rfl) h2
  subst e0 e1 e2
  rw [Tryd.params5] at hsz
  clear hA0 hval0
  simp only [List.append_nil] at hW'
  have hlt : ∀ x ∈ ([] : List MemPlace), x.block < W.heap.size := fun x hx => by cases hx
  refine (corder_any hP hU hL a b c n m k W hVars (sized_call hsz (j := 0) rfl rfl) (sized_call hsz (j := 1) rfl rfl) (sized_call hsz (j := 2) rfl rfl)).mono fun e W' ⟨he, hnx⟩ => ?_
  subst he
  refine ⟨_, rfl, _, _, _, [], [], [], hW', ?_, ?_, rfl, hnx.frame _, fun h => by cases h⟩
  · exact trodAll_mk1 (shut_bool Tryd.underlying4 true)
  · exact trodAll_mk3 (Below.trod Tryd.laidOut (by kernel_rfl) (of_decide_eq_true (by kernel_rfl)) h0k hnx hlt) (Below.trod Tryd.laidOut (by kernel_rfl) (of_decide_eq_true (by kernel_rfl)) h1k hnx hlt) (Below.trod Tryd.laidOut (by kernel_rfl) (of_decide_eq_true (by kernel_rfl)) h2k hnx hlt)
set_option maxRecDepth 100000 in
theorem callWords_lifted (hR : CRightOk) (hT : CTextOk) (hP : CParseOk) (hU : CPutOk) (os : Os) (started : os.Started) (H : Type) (enc : TypeId × Value → H) (F : Stop.Interp) :
    ReturnsInHanded {} Tryd.checked os 3 .any ((OpenSpec.ofChange Rows.callWordsSpec).preRow enc Tryd.prog Tryd.f3 Rows.callWordsRow.domain false Rows.callWordsRow.laid) (((OpenSpec.ofChange Rows.callWordsSpec).at F).post enc Tryd.prog Tryd.f3 false true false false) := by
  refine returnsInHanded_of_row (C := Tryd.checked) (s := OpenSpec.ofChange Rows.callWordsSpec) Tryd.own started (by kernel_rfl) Tryd.func3
    (ChangeSpec.witness_shaped (enc := enc) (C := Tryd.checked) (os := os) (s := Rows.callWordsSpec) (X := fun w _ => laidMetH Tryd.prog Rows.callWordsRow.laid w) false (World.laidAll Tryd.prog os Rows.callWordsRow.laid) #[.agg #[.string ⟨#[]⟩, .int .i64 0], .string ⟨#[]⟩] 8 (World.laidAll_os _ _ _)
      (World.shaped_of_ZipB (by kernel_rfl) (by kernel_rfl)) (by kernel_rfl) (by kernel_rfl) (by kernel_rfl) (met_five os _)) ?_
  intro W base args ds gs before hval0 hW _ _ HSZ hL hsh _
  have hVars := vars_five hsh hL
  clear hL hsh
  have hsz : (DataW.weightsEach Tryd.prog (Tryd.f3.params.toList ++ Rows.callWordsSpec.plain.varTypes Tryd.prog) (ds ++ gs)).all (· ≤ reachBytes) = true := HSZ
  clear HSZ
  have hval : ∀ (j : Nat) t v, Tryd.f3.params[j]? = some t → args[j]? = some v → Value.okWide Tryd.prog W .any base t v := hval0
  have hW' := hW
  obtain ⟨p, q, hA0, hV, rfl, _, _⟩ := hW
  have hA : DataW.TrodAll enc Tryd.prog W 0 (fun _ => true) true Tryd.f3.params.toList args.toList ds p := hA0
  rw [Tryd.params3] at hA hval
  obtain ⟨v0, v1, d0, d1, p0, p1, rfl, rfl, rfl, h0, h1⟩ := trodAll_two hA
  obtain ⟨rfl, rfl⟩ := trodVars_none hV
  have h0k := h0
  have h1k := h1
  obtain ⟨rfl, b, n, rfl, e0, w0⟩ := open_call (hval 0 23 v0 rfl rfl) h0
  obtain ⟨s, rfl, rfl, rfl, ws⟩ := open_string Tryd.underlying9 (hval 1 9 v1 rfl rfl) h1
  clear hA0 hval0
  simp only [List.append_nil] at hW'
  have hlt : ∀ x ∈ ([] : List MemPlace), x.block < W.heap.size := fun x hx => by cases hx
  refine (cwords_any hR hT hP hU b n s W hVars).mono fun e W' ⟨he, hnx⟩ => ?_
  subst he
  refine ⟨_, rfl, _, _, _, [], [], [], hW', ?_, ?_, rfl, hnx.frame _, fun h => by cases h⟩
  · exact trodAll_mk1 (shut_bool Tryd.underlying4 true)
  · exact trodAll_mk2 (Below.trod Tryd.laidOut (by kernel_rfl) (of_decide_eq_true (by kernel_rfl)) h0k hnx hlt) (shut_string (P := Tryd.prog) Tryd.underlying9 ws)
set_option maxRecDepth 100000 in
theorem callBytes_lifted (hP : CParseOk) (hU : CPutOk) (hG : CGetOk) (os : Os) (started : os.Started) (H : Type) (enc : TypeId × Value → H) (F : Stop.Interp) :
    ReturnsInHanded {} Tryd.checked os 4 .any ((OpenSpec.ofChange Rows.callBytesSpec).preRow enc Tryd.prog Tryd.f4 Rows.callBytesRow.domain false Rows.callBytesRow.laid) (((OpenSpec.ofChange Rows.callBytesSpec).at F).post enc Tryd.prog Tryd.f4 false true false false) := by
  refine returnsInHanded_of_row (C := Tryd.checked) (s := OpenSpec.ofChange Rows.callBytesSpec) Tryd.own started (by kernel_rfl) Tryd.func4
    (ChangeSpec.witness_shaped (enc := enc) (C := Tryd.checked) (os := os) (s := Rows.callBytesSpec) (X := fun w _ => laidMetH Tryd.prog Rows.callBytesRow.laid w) false (World.laidAll Tryd.prog os Rows.callBytesRow.laid) #[.agg #[.string ⟨#[]⟩, .int .i64 0], .agg #[.bool false, .bool false], .string ⟨#[]⟩] 8 (World.laidAll_os _ _ _)
      (World.shaped_of_ZipB (by kernel_rfl) (by kernel_rfl)) (by kernel_rfl) (by kernel_rfl) (by kernel_rfl) (met_seven os _)) ?_
  intro W base args ds gs before hval0 hW _ _ HSZ hL hsh _
  have hVars := vars_seven hsh hL
  clear hL hsh
  have hsz : (DataW.weightsEach Tryd.prog (Tryd.f4.params.toList ++ Rows.callBytesSpec.plain.varTypes Tryd.prog) (ds ++ gs)).all (· ≤ reachBytes) = true := HSZ
  clear HSZ
  have hval : ∀ (j : Nat) t v, Tryd.f4.params[j]? = some t → args[j]? = some v → Value.okWide Tryd.prog W .any base t v := hval0
  have hW' := hW
  obtain ⟨p, q, hA0, hV, rfl, _, _⟩ := hW
  have hA : DataW.TrodAll enc Tryd.prog W 0 (fun _ => true) true Tryd.f4.params.toList args.toList ds p := hA0
  rw [Tryd.params4] at hA hval
  obtain ⟨v0, v1, v2, d0, d1, d2, p0, p1, p2, rfl, rfl, rfl, h0, h1, h2⟩ := trodAll_three hA
  obtain ⟨rfl, rfl⟩ := trodVars_none hV
  have h0k := h0
  have h1k := h1
  have h2k := h2
  obtain ⟨rfl, b, n, rfl, e0, w0⟩ := open_call (hval 0 23 v0 rfl rfl) h0
  obtain ⟨rfl, mk, la, rfl⟩ := open_marks (hval 1 34 v1 rfl rfl) h1
  obtain ⟨s, rfl, rfl, rfl, ws⟩ := open_string Tryd.underlying9 (hval 2 9 v2 rfl rfl) h2
  clear hA0 hval0
  simp only [List.append_nil] at hW'
  have hlt : ∀ x ∈ ([] : List MemPlace), x.block < W.heap.size := fun x hx => by cases hx
  refine (cbytes_any hP hU hG b n mk la s W hVars).mono fun e W' ⟨he, hnx⟩ => ?_
  subst he
  refine ⟨_, rfl, _, _, _, [], [], [], hW', ?_, ?_, rfl, hnx.frame _, fun h => by cases h⟩
  · exact trodAll_mk1 (shut_bool Tryd.underlying4 true)
  · exact trodAll_mk3 (Below.trod Tryd.laidOut (by kernel_rfl) (of_decide_eq_true (by kernel_rfl)) h0k hnx hlt) (Below.trod Tryd.laidOut (by kernel_rfl) (of_decide_eq_true (by kernel_rfl)) h1k hnx hlt) (shut_string (P := Tryd.prog) Tryd.underlying9 ws)
set_option maxRecDepth 100000 in
theorem callDistinct_lifted (hP : CParseOk) (hU : CPutOk) (hD : CDistinctOk) (os : Os) (started : os.Started) (H : Type) (enc : TypeId × Value → H) (F : Stop.Interp) :
    ReturnsInHanded {} Tryd.checked os 6 .any ((OpenSpec.ofChange Rows.callDistinctSpec).preRow enc Tryd.prog Tryd.f6 Rows.callDistinctRow.domain false Rows.callDistinctRow.laid) (((OpenSpec.ofChange Rows.callDistinctSpec).at F).post enc Tryd.prog Tryd.f6 false true false false) := by
  refine returnsInHanded_of_row (C := Tryd.checked) (s := OpenSpec.ofChange Rows.callDistinctSpec) Tryd.own started (by kernel_rfl) Tryd.func6
    (ChangeSpec.witness_shaped (enc := enc) (C := Tryd.checked) (os := os) (s := Rows.callDistinctSpec) (X := fun w _ => laidMetH Tryd.prog Rows.callDistinctRow.laid w) false (World.laidAll Tryd.prog os Rows.callDistinctRow.laid) #[.slice none 0 0] 8 (World.laidAll_os _ _ _)
      (World.shaped_of_ZipB (by kernel_rfl) (by kernel_rfl)) (by kernel_rfl) (by kernel_rfl) (by kernel_rfl) (met_five os _)) ?_
  intro W base args ds gs before hval0 hW _ _ HSZ hL hsh _
  have hVars := vars_five hsh hL
  clear hL hsh
  have hsz : (DataW.weightsEach Tryd.prog (Tryd.f6.params.toList ++ Rows.callDistinctSpec.plain.varTypes Tryd.prog) (ds ++ gs)).all (· ≤ reachBytes) = true := HSZ
  clear HSZ
  have hval : ∀ (j : Nat) t v, Tryd.f6.params[j]? = some t → args[j]? = some v → Value.okWide Tryd.prog W .any base t v := hval0
  have hW' := hW
  obtain ⟨p, q, hA0, hV, rfl, _, _⟩ := hW
  have hA : DataW.TrodAll enc Tryd.prog W 0 (fun _ => true) true Tryd.f6.params.toList args.toList ds p := hA0
  rw [Tryd.params6] at hA hval
  obtain ⟨v0, d0, rfl, rfl, h0⟩ := trodAll_one hA
  obtain ⟨rfl, rfl⟩ := trodVars_none hV
  have h0k := h0
  obtain ⟨a0, len, cap, rfl⟩ := okWide_slice Tryd.underlying45 (hval 0 45 v0 rfl rfl)
  obtain ⟨fuel, hf⟩ := h0
  clear hA0 hval0
  simp only [List.append_nil] at hW'
  have hlt : ∀ x ∈ p, x.block < W.heap.size := fun x hx => by simpa using hW'.lt x hx
  have hcore : Calls Tryd.prog 6 #[.slice a0 len cap] W fun e w' => e = .returned (.bool true) ∧ Below W.heap.size W w' := by
    obtain ⟨hcap, hz | ⟨C, lb, off, hl, ha, hlb, hS⟩⟩ := open_calls (show DataW.trod enc Tryd.prog W 0 (fun _ => true) true fuel 45 [.slice a0 len cap] = some (d0, p) from hf)
    · subst hz
      exact cdist_nil hP hU hD a0 cap W hVars
    · by_cases h60 : 60 < len
      · exact cdist_long hP hU a0 len cap W hVars h60
      · subst ha hl
        by_cases hz : C.length = 0
        · rw [hz]
          exact cdist_nil hP hU hD _ cap W hVars
        · exact cdist_some hP hU hD C lb off cap W hVars (by omega) (by omega) hcap hlb hS
  refine hcore.mono fun e W' ⟨he, hnx⟩ => ?_
  subst he
  refine ⟨_, rfl, _, _, _, [], p, [], hW', ?_, ?_, rfl, hnx.frame _, fun h => by cases h⟩
  · exact trodAll_mk1 (shut_bool Tryd.underlying4 true)
  · exact trodAll_mk1 (Below.trod Tryd.laidOut (by kernel_rfl) (of_decide_eq_true (by kernel_rfl)) h0k hnx hlt)
end Go.Proofs.YtaaeppembjkelaaDoor
