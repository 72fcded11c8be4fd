/-
The landed air: New, Send.
-/
import Derived.Test.YtgfipndilngfbaaAirCOn
import Derived.Shelf.Abstract
import Derived.Lib.SliceRun
namespace Go.Proofs.Ytgfipndilngfbaa
open Go.RowKit
set_option maxRecDepth 20000
theorem enters_long : ∀ args W, (callFunc 22 args).run Try.prog W = .ok (.enter 22 args) W := enters_of Try.func22 (by kernel_rfl) rfl
set_option maxHeartbeats 1000000 in
theorem cindexS15 (ad : Option Addr) (n c : Nat) (L : List ByteArray) (w : World) (hn : L.length = n) (h : AtL encS w ad L) (hl : n ≤ 7) (hs : ∀ f ∈ L, f.size ≤ 333) :
    Calls Try.prog 35 #[.slice ad n c, .func (.func 22) #[] #[]] w fun e w' => e = .returned (.int .i64 (-1)) ∧ w' = w := by
  have HN := Lib.hid hn
  have HA := Lib.hid h
  have HS := Lib.hid hs
  have hent := enters_long
  clear hn h hs
  go_enter Try.func35, Try.ntmps35
  go_wp2_with fail
  go_loopw [5, 8] (fun _ v wx => ∃ i : Nat, i ≤ n ∧ v = .int .i64 i ∧ w = wx) (fun _ v _ => n - (intOf v).toNat)
  case atStart => exact ⟨0, Nat.zero_le _, rfl, rfl⟩
  case round =>
    obtain ⟨i, hi, rfl, rfl⟩ := hrel
    by_cases hlt : i < n
    · have hL : i < L.length := by rw [HN.out]; exact hlt
      obtain ⟨g, o, rfl, -⟩ := HA.out.some_ (by omega)
      have x0 := text_at HA.out i hL
      have HC := Lib.hid (fun W => cislong15 L[i] (HS.out _ (List.getElem_mem hL)) W)
      generalize L[i] = f at *
      go_wp2_with (go_at_fn 22; (with_reducible refine (HC.out _).mono ?_); rintro e w1 ⟨rfl, rfl⟩)
      go_roundw
      case rel => exact ⟨i + 1, by omega, rfl, by first | rfl | trivial⟩
      case measure => simp [intOf]; omega
    · obtain rfl : i = n := by omega
      go_wp2_with fail
      exact bodyPost_ret (v := .int .i64 (-1)) (by simp [results, Try.results35, go_sem]) rfl ⟨rfl, rfl⟩
theorem ccontainsS15 (ad : Option Addr) (n c : Nat) (L : List ByteArray) (w : World) (hn : L.length = n) (h : AtL encS w ad L) (hl : n ≤ 7) (hs : ∀ f ∈ L, f.size ≤ 333) :
    Calls Try.prog 21 #[.slice ad n c, .func (.func 22) #[] #[]] w fun e w' => e = .returned (.bool false) ∧ w' = w := by
  have HI := Lib.hid (cindexS15 ad n c L w hn h hl hs)
  clear hn h hs
  go_enter Try.func21, Try.ntmps21
  go_wp2_with (go_at_call 35; (with_reducible refine HI.out.mono ?_); rintro e w1 ⟨rfl, rfl⟩)
  exact bodyPost_ret (v := .bool false) (by simp [results, Try.results21, go_sem]) rfl ⟨rfl, rfl⟩
theorem infoS15 : (Try.prog.info? 9).map (fun i => (i.zero, i.size, i.bytes)) = some (some (.string ⟨#[]⟩), 1, 16) := by kernel_rfl
/-- an append that runs so, as the next operation -/
theorem wpList_append_run {P : Program} {t : TypeId} (w : World) {ops : Array Oper} {rest : List Oper} {o : Oper} {a : Act} {Q : Exit → Act → World → Prop} (hgd : o.guard = none) (s x : Operand) (ho : o.op = .call { callee := .builtin .append, args := #[s, x], argTypes := #[t, t] })
    {vs vx v' : Value} {w' : World} (hs : a.eval s = vs) (hx : a.eval x = vx) (hr : (Builtin.append_ #[t, t] o.type #[vs, vx]).run P w = .ok v' w') (h : wpList P ops Q rest (a.put o.dst v') w') : wpList P ops Q (o :: rest) a w :=
  wpList_plain hgd fun _ hK => wp_append_run s x ho hs hx hr (hK _ _ h)
set_option maxHeartbeats 1000000 in
theorem cclone15 (g o n c : Nat) (L : List ByteArray) (w : World) (hn : L.length = n) (h : AtL encS w (some ⟨g, o, none⟩) L) (hl : n ≤ 7) (h0 : 0 < n) :
    Calls Try.prog 23 #[.slice (some ⟨g, o, none⟩) n c] w fun e w' => ∃ v, e = .returned v ∧ OwnL encS 9 w' w.heap.size v L ∧ Below w.heap.size w w' := by
  have HA := Lib.hid (show ∀ (W : World), Below w.heap.size w W → ∀ j u, (flatE encS L)[j]? = some u → W.cell? ((⟨g, o, none⟩ : Addr).add j) = some u from fun W hb j u hj => by
    have hjl := (List.getElem?_eq_some_iff.1 hj).1
    rw [flatE_length] at hjl
    have e1 : (⟨g, o, none⟩ : Addr).add j = ⟨g, o + j, none⟩ := by unfold Addr.add; split <;> simp_all
    have hjL : j < L.length := by simpa [encS] using hjl
    have e2 := flatE_at encS L j hjL 0 (by decide)
    simp only [encS, Nat.mul_one, Nat.add_zero] at e2
    rw [e1, text_at (h.below hb) j hjL]
    have e3 : (flatE encS L)[j]? = (flatE encS L)[j * encS.n + 0]? := by simp [encS]
    rw [e3, flatE_at encS L j hjL 0 (by decide)] at hj
    simpa [encS] using hj)
  subst hn
  clear h
  have heq : ∀ (W : World), (binOp .eql 22 (.slice (some ⟨g, o, none⟩) L.length c) (.slice none 0 0)).run Try.prog W = .ok (.bool false) W := fun W => Lib.run_eql_slice_nil W 22 9 (some ⟨g, o, none⟩) L.length c 0 0 Try.underlying22
  have HB0 := Lib.hid ((Below.refl w.heap.size w).alloc (Nat.le_refl _) (.cells #[] 9))
  have HO := Lib.hid (OwnL.lit encS 9 w w.heap.size [] [] rfl (Nat.le_refl _) (by simp) 0 rfl)
  obtain ⟨v1, w1, hrun, ho, hg, -⟩ := run_append_more encS 9 22 22 Try.underlying22 infoS15 rfl (by decide) _ _ _ [] HO.out ⟨g, o, none⟩ c L (HA.out _ HB0.out) (by simp; omega) (by simp)
  rw [List.nil_append] at ho
  have hbb := HO.out.appended (Below.refl w.heap.size w |>.alloc (Nat.le_refl _) _) (Nat.le_refl _) (by simp) hg
  have HE := Lib.hid (And.intro ho hbb)
  clear HO HA HB0 ho hg hbb
  go_enter Try.func23, Try.ntmps23
  go_wp2_with (at_builtin; refine wpList_append_run _ rfl (.tmp 5) (.tmp 6) rfl rfl rfl hrun ?_)
  exact bodyPost_ret (v := v1) (by simp [results, Try.results23, go_sem]) rfl ⟨v1, rfl, HE.out⟩
set_option maxHeartbeats 1000000 in
theorem cnew15 (w : World) (p g : Nat) (L : List Stn) (F : Nat → Prop) (n : Nat) (h : PlL w p g L (.map []) F) (hl : L.length = n) (hn : 1 ≤ n ∧ n ≤ 16) (hs : ∀ j (hj : j < L.length), L[j].is ⟨(j : Int) + 1, 0, 100⟩) :
    Calls Try.prog 18 #[ptrV p] w fun e w' => ∃ a F', e = .returned (.tuple #[ptrV a, .int .i64 0]) ∧ AirL w' a n (fullH n) Ai.quiet F' ∧ (∀ b, F' b → F b ∨ w.heap.size ≤ b) ∧ Below w.heap.size w w' := by
  have HP := Lib.hid (PlH.full h hl hn.2 hs)
  have HF := Lib.hid h.mem
  have hmm := @run_makeMap Try.prog
  clear h hl hs
  go_enter Try.func18, Try.ntmps18
  go_wp2_with fail
  have HB := Lib.hid (show Below w.heap.size w (((w.alloc (.map #[] 0)).alloc (.map #[] 0)).alloc (.cells #[ptrV p, .map (some w.heap.size), .map (some (w.heap.size + 1))] 68)) from
    (((Below.refl _ w).alloc (Nat.le_refl _) _).alloc (by simp) _).alloc (by simp; omega) _)
  refine bodyPost_ret (v := .tuple #[ptrV (w.heap.size + 2), .int .i64 0]) (by simp [results, Try.results18, go_sem]) rfl ⟨w.heap.size + 2, _, rfl, ⟨p, w.heap.size, w.heap.size + 1, F, fun _ => none, fun _ _ => False, fun _ => [], ⟨?_, ?_, ?_, ?_, ?_, ?_, ?_, ?_, ?_, ?_, ?_, ?_, ?_, ?_, hn⟩, ?_, rfl⟩, ?_, HB.out⟩
  · exact RowAt.new _ _ (by simp) [ptrV p, .map (some w.heap.size), .map (some (w.heap.size + 1))] _
  · exact HP.out.below HB.out
  · exact (OnM.made w).below ((Below.refl _ _).alloc (Nat.le_refl _) _ |>.alloc (by simp) _)
  · have := NoneM.made (w.alloc (.map #[] 0))
    rw [show (w.alloc (.map #[] 0)).heap.size = w.heap.size + 1 by simp] at this
    exact this.below ((Below.refl _ _).alloc (Nat.le_refl _) _)
  · intro i _
    exact ⟨rfl, fun _ h => h⟩
  · intro i b h
    cases h
  · omega
  · omega
  · omega
  · intro hf
    have := HF.out _ hf
    omega
  · intro hf
    have := HF.out _ hf
    omega
  · intro hf
    have := HF.out _ hf
    omega
  · intro _ _ hf
    exact hf.elim
  · intro _ _ _ _ hf
    exact hf.elim
  · intro i B hB
    cases hB
  · rintro b (rfl | rfl | rfl | hf | ⟨_, hf⟩)
    · exact Or.inr (by omega)
    · exact Or.inr (by omega)
    · exact Or.inr (by omega)
    · exact Or.inl hf
    · exact hf.elim
end Go.Proofs.Ytgfipndilngfbaa
