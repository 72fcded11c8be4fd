/-
The landed gate (as the verifier's stand-in has it: one count): it meets the contracts.
-/
import Derived.Test.YtofodlaebhjneaaCsmLaw
import Derived.Test.YtofodlaebhjneaaTncWinsC
namespace Go.Proofs.Ytofodlaebhjneaa
open Go.RowKit Go.Sort
set_option maxRecDepth 20000
/-- how a gate lies -/
def GaL : GaP := fun w g n F => RowAt w g [.int .i64 n] ∧ F = fun b => b = g
theorem gaL_mem {w : World} {g : Nat} {n : Int} {F : Nat → Prop} (h : GaL w g n F) : ∀ b, F b → b < w.heap.size := by
  obtain ⟨h1, rfl⟩ := h
  rintro b rfl
  exact h1.lt
theorem gaL_stay {w w' : World} {g : Nat} {n : Int} {F : Nat → Prop} (h : GaL w g n F) (hs : SameOn F w w') : GaL w' g n F := by
  obtain ⟨h1, rfl⟩ := h
  exact ⟨h1.block (hs.2 g rfl) hs.1, rfl⟩
set_option maxHeartbeats 1000000 in
theorem cnew17 (w : World) : Calls Try.prog 7 #[] w fun e w' => ∃ g F, e = .returned (ptrG g) ∧ GaL w' g 0 F ∧ (∀ b, F b → w.heap.size ≤ b) ∧ Below w.heap.size w w' := by
  have HR := Lib.hid (RowAt.new w w.heap.size rfl [.int .i64 0] 44)
  have HB := Lib.hid ((Below.refl w.heap.size w).alloc (Nat.le_refl _) (.cells #[.int .i64 0] 44))
  go_enter Try.func7, Try.ntmps7
  go_wp2_with fail
  exact bodyPost_ret (v := ptrG w.heap.size) (by simp [results, Try.results7, go_sem]) rfl ⟨_, _, rfl, ⟨HR.out, rfl⟩, (fun b hb => Nat.le_of_eq hb.symm), HB.out⟩
set_option maxHeartbeats 1000000 in
theorem ccount17 (w : World) (g : Nat) (n : Int) (F : Nat → Prop) (h : GaL w g n F) : Calls Try.prog 11 #[ptrG g] w fun e w' => e = .returned (.int .i64 n) ∧ Below w.heap.size w w' := by
  have c0 := h.1.cell 0 rfl
  clear h
  go_enter Try.func11, Try.ntmps11
  go_wp2_with fail
  exact bodyPost_ret (v := .int .i64 n) (by simp [results, Try.results11, go_sem]) rfl ⟨rfl, Below.refl _ _⟩
set_option maxHeartbeats 1000000 in
theorem ccount17_nil (w : World) : Calls Try.prog 11 #[.pointer none] w fun e w' => e = .returned (.int .i64 0) ∧ Below w.heap.size w w' := by
  go_enter Try.func11, Try.ntmps11
  go_wp2_with fail
  exact bodyPost_ret (v := .int .i64 0) (by simp [results, Try.results11, go_sem]) rfl ⟨rfl, Below.refl _ _⟩
set_option maxHeartbeats 1000000 in
theorem creset17 (w : World) (g : Nat) (n : Int) (F : Nat → Prop) (h : GaL w g n F) : Calls Try.prog 12 #[ptrG g] w fun e w' => e = .returned (.tuple #[]) ∧ GaL w' g 0 F ∧ Turn F w w' := by
  obtain ⟨h, rfl⟩ := h
  have c0 := h.cell 0 rfl
  have f0 := (h.get 0 rfl).free
  have HE := Lib.hid (And.intro (show GaL (w.setCell ⟨g, 0, none⟩ (.int .i64 0)) g 0 (fun b => b = g) from ⟨h.put 0 _ _ rfl, rfl⟩) ((Turn.refl (fun b => b = g) w).set (p := ⟨g, 0, none⟩) (Or.inl rfl) (.int .i64 0)))
  clear h
  go_enter Try.func12, Try.ntmps12
  go_wp2_with fail
  exact bodyPost_end (v := .tuple #[]) (by simp [results, Try.results12, go_sem]) rfl ⟨rfl, HE.out⟩
set_option maxHeartbeats 1000000 in
theorem creset17_nil (w : World) : Calls Try.prog 12 #[.pointer none] w fun e w' => e = .returned (.tuple #[]) ∧ Below w.heap.size w w' := by
  go_enter Try.func12, Try.ntmps12
  go_wp2_with fail
  exact bodyPost_end (v := .tuple #[]) (by simp [results, Try.results12, go_sem]) rfl ⟨rfl, Below.refl _ _⟩
set_option maxHeartbeats 1000000 in
theorem cstep17_nil (w : World) (p : Par) (waits busy : Bool) (draw : Int) : Calls Try.prog 8 #[.pointer none, p.v, .bool waits, .bool busy, .int .i64 draw] w fun e w' => e = .returned (.bool false) ∧ Below w.heap.size w w' := by
  have HB := Lib.hid ((Below.refl w.heap.size w).alloc (Nat.le_refl _) (.cells #[.int .i64 p.a, .int .i64 p.b, .int .i64 p.c, .int .i64 p.d, .bool p.f] 27))
  have HR := Lib.hid (fun W => right_ok p W)
  obtain ⟨a, b, c, d, f⟩ := p
  simp only [Par.v] at HR ⊢
  go_enter Try.func8, Try.ntmps8
  go_wp2_with fail
  exact bodyPost_ret (v := .bool false) (by simp [results, Try.results8, go_sem]) rfl ⟨rfl, HB.out⟩
/-- what a step answers -/
def StepTo (w : World) (g : Nat) (r : Int × Bool) : Ending → World → Prop := fun e w' => e = .returned (.bool r.2) ∧ GaL w' g r.1 (fun b => b = g) ∧ Turn (fun b => b = g) w w'
theorem step_end {w W : World} {g : Nat} {n : Int} (h : RowAt w g [.int .i64 n]) (hb : Below w.heap.size w W) : (GaL W g n (fun b => b = g) ∧ Turn (fun b => b = g) w W) ∧ ∀ x : Int, GaL (W.setCell ⟨g, 0, none⟩ (.int .i64 x)) g x (fun b => b = g) ∧ Turn (fun b => b = g) w (W.setCell ⟨g, 0, none⟩ (.int .i64 x)) :=
  ⟨⟨⟨h.below hb, rfl⟩, Turn.of_below hb⟩, fun x => ⟨⟨(h.below hb).put 0 _ _ rfl, rfl⟩, Turn.set (F := fun b => b = g) (Turn.of_below hb) (p := ⟨g, 0, none⟩) (Or.inl rfl) (.int .i64 x)⟩⟩
set_option maxHeartbeats 2000000 in
theorem cstep17 (w : World) (g : Nat) (n : Int) (p : Par) (waits busy : Bool) (draw : Int) (h : RowAt w g [.int .i64 n]) (hn : 0 ≤ n ∧ n ≤ 255) : Calls Try.prog 8 #[ptrG g, p.v, .bool waits, .bool busy, .int .i64 draw] w (StepTo w g (stepG n p waits busy draw)) := by
  have HG := Lib.hid h
  have HB := Lib.hid ((Below.refl w.heap.size w).alloc (Nat.le_refl _) (.cells #[.int .i64 p.a, .int .i64 p.b, .int .i64 p.c, .int .i64 p.d, .bool p.f] 27))
  have HP := Lib.hid (RowAt.new w w.heap.size rfl [.int .i64 p.a, .int .i64 p.b, .int .i64 p.c, .int .i64 p.d, .bool p.f] 27)
  have HR := Lib.hid (fun W => right_ok p W)
  have HW := Lib.hid (fun W => wins_ok p draw W)
  have hwd : winD p draw = (p.ok && decide (draw % 256 ≤ p.b)) := rfl
  obtain ⟨r, hr⟩ : ∃ r, stepG n p waits busy draw = r := ⟨_, rfl⟩
  rw [hr]
  have HS := Lib.hid hr
  clear hr h
  obtain ⟨a, b, c, d, f⟩ := p
  simp only [Par.v] at HR HW HP HB ⊢
  unfold StepTo
  cases hok : Par.ok ⟨a, b, c, d, f⟩ with
  | false =>
    rw [hok] at HR
    have e : r = (n, false) := by rw [← HS.out]; simp [stepG, hok]
    subst e
    go_enter Try.func8, Try.ntmps8
    go_wp2_with (first
      | (go_at_call 15; (with_reducible refine (HR.out _).mono ?_); rintro e w1 ⟨rfl, hb⟩; have HB1 := Lib.hid (HB.out.trans (hb.mono HB.out.size)); have HX := Lib.hid (step_end HG.out HB1.out); have c0 := (HX.out.1.1.1).cell 0 rfl; have f0 := ((HX.out.1.1.1).get 0 rfl).free; have HP1 := Lib.hid (HP.out.below hb); have y0 := HP1.out.cell 0 rfl; have y1 := HP1.out.cell 1 rfl; have y2 := HP1.out.cell 2 rfl; have y3 := HP1.out.cell 3 rfl; have y4 := HP1.out.cell 4 rfl; clear hb))
    exact bodyPost_ret (v := .bool false) (by simp [results, Try.results8, go_sem]) rfl ⟨rfl, HX.out.1⟩
  | true =>
    rw [hok] at HR
    cases waits with
    | false =>
      have e : r = (0, false) := by rw [← HS.out]; simp [stepG, hok]
      subst e
      go_enter Try.func8, Try.ntmps8
      go_wp2_with (first
        | (go_at_call 15; (with_reducible refine (HR.out _).mono ?_); rintro e w1 ⟨rfl, hb⟩; have HB1 := Lib.hid (HB.out.trans (hb.mono HB.out.size)); have HX := Lib.hid (step_end HG.out HB1.out); have c0 := (HX.out.1.1.1).cell 0 rfl; have f0 := ((HX.out.1.1.1).get 0 rfl).free; have HP1 := Lib.hid (HP.out.below hb); have y0 := HP1.out.cell 0 rfl; have y1 := HP1.out.cell 1 rfl; have y2 := HP1.out.cell 2 rfl; have y3 := HP1.out.cell 3 rfl; have y4 := HP1.out.cell 4 rfl; clear hb))
      exact bodyPost_ret (v := .bool false) (by simp [results, Try.results8, go_sem]) rfl ⟨rfl, HX.out.2 0⟩
    | true =>
      cases f with
      | true =>
        have e : r = (n, true) := by rw [← HS.out]; simp [stepG, hok]
        subst e
        go_enter Try.func8, Try.ntmps8
        go_wp2_with (first
          | (go_at_call 15; (with_reducible refine (HR.out _).mono ?_); rintro e w1 ⟨rfl, hb⟩; have HB1 := Lib.hid (HB.out.trans (hb.mono HB.out.size)); have HX := Lib.hid (step_end HG.out HB1.out); have c0 := (HX.out.1.1.1).cell 0 rfl; have f0 := ((HX.out.1.1.1).get 0 rfl).free; have HP1 := Lib.hid (HP.out.below hb); have y0 := HP1.out.cell 0 rfl; have y1 := HP1.out.cell 1 rfl; have y2 := HP1.out.cell 2 rfl; have y3 := HP1.out.cell 3 rfl; have y4 := HP1.out.cell 4 rfl; clear hb))
        exact bodyPost_ret (v := .bool true) (by simp [results, Try.results8, go_sem]) rfl ⟨rfl, HX.out.1⟩
      | false =>
        by_cases h0 : 0 < n
        · have hz : wrap64 (n - 1) = n - 1 := IntWalk.wrap64_in _ (by omega)
          have e : r = (n - 1, false) := by rw [← HS.out]; simp [stepG, hok, h0]
          subst e
          go_enter Try.func8, Try.ntmps8
          go_wp2_with (first
            | (go_at_call 15; (with_reducible refine (HR.out _).mono ?_); rintro e w1 ⟨rfl, hb⟩; have HB1 := Lib.hid (HB.out.trans (hb.mono HB.out.size)); have HX := Lib.hid (step_end HG.out HB1.out); have c0 := (HX.out.1.1.1).cell 0 rfl; have f0 := ((HX.out.1.1.1).get 0 rfl).free; have HP1 := Lib.hid (HP.out.below hb); have y0 := HP1.out.cell 0 rfl; have y1 := HP1.out.cell 1 rfl; have y2 := HP1.out.cell 2 rfl; have y3 := HP1.out.cell 3 rfl; have y4 := HP1.out.cell 4 rfl; clear hb))
          exact bodyPost_ret (v := .bool false) (by simp [results, Try.results8, go_sem]) rfl ⟨rfl, HX.out.2 (n - 1)⟩
        · cases busy with
          | true =>
            have e : r = (n, false) := by rw [← HS.out]; simp [stepG, hok, h0]
            subst e
            go_enter Try.func8, Try.ntmps8
            go_wp2_with (first
              | (go_at_call 15; (with_reducible refine (HR.out _).mono ?_); rintro e w1 ⟨rfl, hb⟩; have HB1 := Lib.hid (HB.out.trans (hb.mono HB.out.size)); have HX := Lib.hid (step_end HG.out HB1.out); have c0 := (HX.out.1.1.1).cell 0 rfl; have f0 := ((HX.out.1.1.1).get 0 rfl).free; have HP1 := Lib.hid (HP.out.below hb); have y0 := HP1.out.cell 0 rfl; have y1 := HP1.out.cell 1 rfl; have y2 := HP1.out.cell 2 rfl; have y3 := HP1.out.cell 3 rfl; have y4 := HP1.out.cell 4 rfl; clear hb))
            exact bodyPost_ret (v := .bool false) (by simp [results, Try.results8, go_sem]) rfl ⟨rfl, HX.out.1⟩
          | false =>
            by_cases hm : draw % 256 ≤ b
            · have ew : winD ⟨a, b, c, d, false⟩ draw = true := by rw [hwd, hok, decide_eq_true hm]; rfl
              rw [ew] at HW
              have e : r = (n, true) := by rw [← HS.out]; simp [stepG, hok, h0, hm]
              subst e
              clear hm hwd
              go_enter Try.func8, Try.ntmps8
              go_wp2_with (first
                | (go_at_call 15; (with_reducible refine (HR.out _).mono ?_); rintro e w1 ⟨rfl, hb⟩; have HB1 := Lib.hid (HB.out.trans (hb.mono HB.out.size)); have HX := Lib.hid (step_end HG.out HB1.out); have c0 := (HX.out.1.1.1).cell 0 rfl; have f0 := ((HX.out.1.1.1).get 0 rfl).free; have HP1 := Lib.hid (HP.out.below hb); have y0 := HP1.out.cell 0 rfl; have y1 := HP1.out.cell 1 rfl; have y2 := HP1.out.cell 2 rfl; have y3 := HP1.out.cell 3 rfl; have y4 := HP1.out.cell 4 rfl; clear hb)
                | (go_at_call 16; (with_reducible refine (HW.out _).mono ?_); rintro e w2 ⟨rfl, hb⟩; have HB2 := Lib.hid (HB1.out.trans (hb.mono HB1.out.size)); have HX2 := Lib.hid (step_end HG.out HB2.out); clear c0 f0 y0 y1 y2 y3 y4; have c0 := (HX2.out.1.1.1).cell 0 rfl; have f0 := ((HX2.out.1.1.1).get 0 rfl).free; have HP2 := Lib.hid (HP1.out.below hb); have y2 := HP2.out.cell 2 rfl; clear hb))
              exact bodyPost_ret (v := .bool true) (by simp [results, Try.results8, go_sem]) rfl ⟨rfl, HX2.out.1⟩
            · have ew : winD ⟨a, b, c, d, false⟩ draw = false := by rw [hwd, hok, decide_eq_false hm]; rfl
              rw [ew] at HW
              have e : r = (c, false) := by rw [← HS.out]; simp [stepG, hok, h0, hm]
              subst e
              clear hm hwd
              go_enter Try.func8, Try.ntmps8
              go_wp2_with (first
                | (go_at_call 15; (with_reducible refine (HR.out _).mono ?_); rintro e w1 ⟨rfl, hb⟩; have HB1 := Lib.hid (HB.out.trans (hb.mono HB.out.size)); have HX := Lib.hid (step_end HG.out HB1.out); have c0 := (HX.out.1.1.1).cell 0 rfl; have f0 := ((HX.out.1.1.1).get 0 rfl).free; have HP1 := Lib.hid (HP.out.below hb); have y0 := HP1.out.cell 0 rfl; have y1 := HP1.out.cell 1 rfl; have y2 := HP1.out.cell 2 rfl; have y3 := HP1.out.cell 3 rfl; have y4 := HP1.out.cell 4 rfl; clear hb)
                | (go_at_call 16; (with_reducible refine (HW.out _).mono ?_); rintro e w2 ⟨rfl, hb⟩; have HB2 := Lib.hid (HB1.out.trans (hb.mono HB1.out.size)); have HX2 := Lib.hid (step_end HG.out HB2.out); clear c0 f0 y0 y1 y2 y3 y4; have c0 := (HX2.out.1.1.1).cell 0 rfl; have f0 := ((HX2.out.1.1.1).get 0 rfl).free; have HP2 := Lib.hid (HP1.out.below hb); have y2 := HP2.out.cell 2 rfl; clear hb))
              exact bodyPost_ret (v := .bool false) (by simp [results, Try.results8, go_sem]) rfl ⟨rfl, HX2.out.2 c⟩
theorem gaC : GaC GaL where
  mem := gaL_mem
  stay := gaL_stay
  new := cnew17
  step := fun w g n F p waits busy draw h hn => by
    obtain ⟨h1, rfl⟩ := h
    exact cstep17 w g n p waits busy draw h1 hn
  count := ccount17
  reset := creset17
  step0 := cstep17_nil
  count0 := ccount17_nil
  reset0 := creset17_nil
end Go.Proofs.Ytofodlaebhjneaa
