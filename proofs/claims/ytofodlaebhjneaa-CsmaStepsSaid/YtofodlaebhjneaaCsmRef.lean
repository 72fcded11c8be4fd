/-
The document's step.
-/
import Derived.Test.YtofodlaebhjneaaCsmPure
import Derived.Test.YtofodlaebhjneaaFactsUpto
import Derived.Deep.RegionHeld
import Derived.Deep.DeepCutAuto
namespace Go.Proofs.Ytofodlaebhjneaa
open Go.RowKit
set_option maxRecDepth 20000
theorem low_mod (n : Int) : (n.tmod 256 < 0 → n.tmod 256 + 256 = n % 256 ∧ -256 < n.tmod 256) ∧ (¬ n.tmod 256 < 0 → n.tmod 256 = n % 256) := by
  rw [Int.tmod_eq_emod]
  split <;> omega
/-- what it answers -/
abbrev stepV (r : Int × Bool) : Value := .tuple #[.int .i64 r.1, .bool r.2]
set_option maxHeartbeats 1000000 in
theorem rstep17 (n : Int) (p : Par) (waits busy : Bool) (draw : Int) (w : World) (hn : 0 ≤ n ∧ n ≤ 255) : Calls Try.prog 9 #[.int .i64 n, p.v, .bool waits, .bool busy, .int .i64 draw] w fun e w' => e = .returned (stepV (stepG n p waits busy draw)) ∧ Below w.heap.size w w' := by
  have HR := Lib.hid (fun W => rright_any p W)
  have HB := Lib.hid ((Below.refl w.heap.size w).alloc (Nat.le_refl _) (.cells #[.int .i64 p.a, .int .i64 p.b, .int .i64 p.c, .int .i64 p.d, .bool p.f] 35))
  have HP := Lib.hid (show ParAt _ _ p from par_cells p w 35)
  have hin := fun h => par_in (p := p) h
  obtain ⟨r, hr⟩ : ∃ r, stepG n p waits busy draw = r := ⟨_, rfl⟩
  rw [hr]
  have HS := Lib.hid hr
  clear hr
  obtain ⟨a, b, c, d, f⟩ := p
  simp only [Par.v] at HR ⊢
  cases hok : Par.ok ⟨a, b, c, d, f⟩ with
  | false =>
    rw [hok] at HR
    clear hin
    have e : r = (n, false) := by rw [← HS.out]; simp [stepG, hok]
    subst e
    go_enter Try.func9, Try.ntmps9
    go_wp2_with (go_at_call 13; (with_reducible refine (HR.out _).mono ?_); rintro e w1 ⟨rfl, hb⟩)
    exact bodyPost_ret (v := stepV (n, false)) (by simp [results, Try.results9, go_sem]) rfl ⟨rfl, HB.out.trans (hb.mono HB.out.size)⟩
  | true =>
    rw [hok] at HR
    obtain ⟨hbb, hcc⟩ := hin hok
    simp only at hbb hcc
    clear hin
    cases waits with
    | false =>
      have e : r = (0, false) := by rw [← HS.out]; simp [stepG, hok]
      subst e
      go_enter Try.func9, Try.ntmps9
      go_wp2_with (go_at_call 13; (with_reducible refine (HR.out _).mono ?_); rintro e w1 ⟨rfl, hb⟩)
      exact bodyPost_ret (v := stepV (0, false)) (by simp [results, Try.results9, go_sem]) rfl ⟨rfl, HB.out.trans (hb.mono HB.out.size)⟩
    | true =>
      cases f with
      | true =>
        have e : r = (n, true) := by rw [← HS.out]; simp [stepG, hok]
        subst e
        go_enter Try.func9, Try.ntmps9
        go_wp2_with (go_at_call 13; (with_reducible refine (HR.out _).mono ?_); rintro e w1 ⟨rfl, hb⟩; obtain ⟨y0, y1, y2, y3, y4⟩ := HP.out.below (by simp) hb; simp only at y4)
        exact bodyPost_ret (v := stepV (n, true)) (by simp [results, Try.results9, go_sem]) rfl ⟨rfl, HB.out.trans (hb.mono HB.out.size)⟩
      | false =>
        by_cases h0 : 0 < n
        · have hz : wrap64 (n - 1) = n - 1 := IntWalk.wrap64_in _ (by omega)
          have e : r = (n - 1, false) := by rw [← HS.out]; simp [stepG, hok, h0]
          subst e
          go_enter Try.func9, Try.ntmps9
          go_wp2_with (go_at_call 13; (with_reducible refine (HR.out _).mono ?_); rintro e w1 ⟨rfl, hb⟩; obtain ⟨y0, y1, y2, y3, y4⟩ := HP.out.below (by simp) hb; simp only at y4)
          exact bodyPost_ret (v := stepV (n - 1, false)) (by simp [results, Try.results9, go_sem]) rfl ⟨rfl, HB.out.trans (hb.mono HB.out.size)⟩
        · cases busy with
          | true =>
            have e : r = (n, false) := by rw [← HS.out]; simp [stepG, hok, h0]
            subst e
            go_enter Try.func9, Try.ntmps9
            go_wp2_with (go_at_call 13; (with_reducible refine (HR.out _).mono ?_); rintro e w1 ⟨rfl, hb⟩; obtain ⟨y0, y1, y2, y3, y4⟩ := HP.out.below (by simp) hb; simp only at y4)
            exact bodyPost_ret (v := stepV (n, false)) (by simp [results, Try.results9, go_sem]) rfl ⟨rfl, HB.out.trans (hb.mono HB.out.size)⟩
          | false =>
            have e : r = if draw % 256 ≤ b then (n, true) else (c, false) := by
              rw [← HS.out]
              simp [stepG, hok, h0]
            have HE := Lib.hid e
            clear e hok HS
            go_enter Try.func9, Try.ntmps9
            go_upto_region 11 with (go_at_call 13; (with_reducible refine (HR.out _).mono ?_); rintro e w1 ⟨rfl, hb⟩; obtain ⟨y0, y1, y2, y3, y4⟩ := HP.out.below (by simp) hb; simp only at y1 y2 y4)
            go_upto_region 12 with fail
            have hlow := low_mod draw
            have hmod : 0 ≤ draw % 256 ∧ draw % 256 < 256 := by omega
            generalize draw.tmod 256 = low at *
            generalize draw % 256 = m at *
            have HB1 := Lib.hid (HB.out.trans (hb.mono HB.out.size))
            clear hb HB HR HP
            by_cases hl : low < 0
            · obtain ⟨e1, e2⟩ := hlow.1 hl
              have hz : wrap64 (low + 256) = m := by rw [← e1]; exact IntWalk.wrap64_in _ (by omega)
              by_cases hm : m ≤ b
              · have e := HE.out
                rw [if_pos hm] at e
                subst e
                clear hlow e1 e2 hmod hbb hcc hn HE
                go_wp2_with fail
                exact bodyPost_ret (v := stepV (n, true)) (by simp [results, Try.results9, go_sem]) rfl ⟨rfl, HB1.out⟩
              · have e := HE.out
                rw [if_neg hm] at e
                subst e
                clear hlow e1 e2 hmod hbb hcc hn HE
                go_wp2_with fail
                exact bodyPost_ret (v := stepV (c, false)) (by simp [results, Try.results9, go_sem]) rfl ⟨rfl, HB1.out⟩
            · have e1 := hlow.2 hl
              subst e1
              by_cases hm : low ≤ b
              · have e := HE.out
                rw [if_pos hm] at e
                subst e
                clear hlow hmod hbb hcc hn HE
                go_wp2_with fail
                exact bodyPost_ret (v := stepV (n, true)) (by simp [results, Try.results9, go_sem]) rfl ⟨rfl, HB1.out⟩
              · have e := HE.out
                rw [if_neg hm] at e
                subst e
                clear hlow hmod hbb hcc hn HE
                go_wp2_with fail
                exact bodyPost_ret (v := stepV (c, false)) (by simp [results, Try.results9, go_sem]) rfl ⟨rfl, HB1.out⟩
end Go.Proofs.Ytofodlaebhjneaa
