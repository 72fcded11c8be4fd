/-
TncApplies, proved: what any frame makes of any parameters, and what is told, is what the document says. For every parameters and every frame; no condition.
-/
import Derived.Test.YteglaenjmeocmaaTncAppliesC
import Derived.Test.YteglaenjmeocmaaTncApplyS
import Derived.Test.YteglaenjmeocmaaTncWinsC
import Derived.Test.YteglaenjmeocmaaTncOpens
namespace Go.Proofs.Yteglaenjmeocmaa
open Go.ChangeShapes Go.WideShapes Go.ChangeAt Go.RowKit Go.Joins Go.Deep
set_option maxHeartbeats 1000000 in
theorem tapplies_long (p : Par) (port cmd : Int) (s : ByteArray) (w : World) (hs : 300 < s.size) :
    Calls Try.prog 3 #[p.v, .agg #[.int .i64 port, .int .i64 cmd, .string s]] w fun e w' => e = .returned (.bool true) ∧ Below w.heap.size w w' := by
  have HAW := Lib.hid (fun W => tawake_any usual_ok apply_ok wins_ok W)
  obtain ⟨a, b, c, d, f⟩ := p
  show Calls Try.prog 3 #[.agg #[.int .i64 a, .int .i64 b, .int .i64 c, .int .i64 d, .bool f], .agg #[.int .i64 port, .int .i64 cmd, .string s]] w _
  go_enter Try.func3, Try.ntmps3
  have HF := Lib.hid (fun i => (World.cell?_alloc_at (w := w.alloc (.cells #[.int .i64 a, .int .i64 b, .int .i64 c, .int .i64 d, .bool f] 23)) #[.int .i64 port, .int .i64 cmd, .string s] 25 (w.heap.size + 1) i (by simp)))
  go_wp2_with (go_at_call 6; go_loud (refine (HAW.out _).mono ?_; rintro e w1 ⟨rfl, hb1⟩; obtain ⟨hc1, hf1⟩ := below_cells hb1; have k2 := (hc1 (w.heap.size + 1) 2 (by simp)).trans (HF.out 2); have HB := Lib.hid ((((Below.refl _ w).alloc (Nat.le_refl _) _).alloc (by simp) _).trans (hb1.mono (by simp; omega)))))
  go_ret
  exact ⟨rfl, HB.out⟩
set_option maxRecDepth 100000 in
theorem tncApplies_lifted (os : Os) (started : os.Started) (H : Type) (enc : TypeId × Value → H) :
    ReturnsInHanded {} Try.checked os 3 .any (Rows.tncAppliesSpec.pre6 enc Try.prog Try.f3 Rows.tncAppliesRow.domain false) (Rows.tncAppliesSpec.post enc Try.prog Try.f3 false true false false) := by
  refine returnsInHanded_of_change_sized (C := Try.checked) Try.own started (by kernel_rfl) Try.func3
    (ChangeSpec.witness6 (enc := enc) (C := Try.checked) false ⟨#[], #[.agg #[.int .i64 0, .int .i64 0, .int .i64 0, .int .i64 0, .bool false], .agg #[.int .i64 0, .int .i64 0, .string ⟨#[]⟩]], []⟩ 8 (by kernel_rfl) (by kernel_rfl) (by kernel_rfl) (by kernel_rfl)) ?_
  intro W base args ds gs before hval0 hW _ _ _
  have hval : ∀ (j : Nat) t v, Try.f3.params[j]? = some t → args[j]? = some v → Value.okWide Try.prog W .any base t v := hval0
  have hW' := hW
  obtain ⟨p, q, hA0, hV, rfl, _, _⟩ := hW
  have hA : DataW.TrodAll enc Try.prog W 0 (fun _ => true) true Try.f3.params.toList args.toList ds p := hA0
  rw [Try.params3] at hA hval
  obtain ⟨v0, v1, d0, d1, p0, p1, rfl, rfl, rfl, h0, h1⟩ := trodAll_two hA
  obtain ⟨rfl, rfl⟩ := trodVars_none hV
  have h0k := h0
  have h1k := h1
  obtain ⟨rfl, par, rfl⟩ := open_par (hval 0 23 v0 rfl rfl) h0
  obtain ⟨rfl, x, y, s, rfl, ws⟩ := open_fr (hval 1 25 v1 rfl rfl) h1
  clear hA0 hval0
  simp only [List.append_nil] at hW'
  have hlt : ∀ x ∈ ([] : List MemPlace), x.block < W.heap.size := fun x hx => by cases hx
  have hcore : Calls Try.prog 3 #[par.v, .agg #[.int .i64 x, .int .i64 y, .string s]] W fun e w' => e = .returned (.bool true) ∧ Below W.heap.size W w' := by
    by_cases hs : s.size ≤ 300
    · exact tapplies_core usual_ok apply_ok wins_ok right_ok par x y s W hs
    · exact tapplies_long par x y s W (by omega)
  refine hcore.mono fun e W' ⟨he, hnx⟩ => ?_
  subst he
  refine ⟨_, rfl, _, _, _, [], [], [], hW', ?_, ?_, rfl, hnx.frame _, fun h => by cases h⟩
  · exact trodAll_mk1 (shut_bool Try.underlying4 true)
  · exact trodAll_mk2 (Below.trod Try.laidOut (by kernel_rfl) (of_decide_eq_true (by kernel_rfl)) h0k hnx hlt) (Below.trod Try.laidOut (by kernel_rfl) (of_decide_eq_true (by kernel_rfl)) h1k hnx hlt)
theorem tncApplies_holds : Rows.TncAppliesSaid :=
  OpenClaim.holds_of_wide 3 Try.f3 rfl rfl rfl rfl rfl rfl rfl ⟨rfl, rfl, rfl, rfl, rfl⟩ rfl rfl rfl rfl rfl (by kernel_rfl) Try.func3 (by kernel_rfl)
    (of_decide_eq_true (by kernel_rfl)) (by unfold Func.isWrapper; rw [if_neg (of_decide_eq_false (by kernel_rfl))]; exact ⟨rfl, rfl⟩)
    (fun os started H enc _ => tncApplies_lifted os started H enc)
end Go.Proofs.Yteglaenjmeocmaa
