/-
The document's smoother: within, New, None, Took.
-/
import Derived.Test.YtljmdpkbedmkmaaSmoPure
namespace Go.Proofs.Ytljmdpkbedmkmaa
open Go.RowKit
set_option maxRecDepth 20000
theorem rwithin_any (n : Int) (w : World) : Calls Try.prog 19 #[.int .i64 n] w fun e w' => e = .returned (.int .i64 (inT n)) ∧ w' = w := by
  unfold inT
  by_cases h : n < 4
  · rw [if_pos h]
    go_enter Try.func19, Try.ntmps19
    go_wp2_with fail
    exact bodyPost_ret (v := .int .i64 4) (by simp [results, Try.results19, go_sem]) rfl ⟨rfl, rfl⟩
  · rw [if_neg h]
    by_cases h2 : 255 < n
    · rw [if_pos h2]
      go_enter Try.func19, Try.ntmps19
      go_wp2_with fail
      exact bodyPost_ret (v := .int .i64 255) (by simp [results, Try.results19, go_sem]) rfl ⟨rfl, rfl⟩
    · rw [if_neg h2]
      go_enter Try.func19, Try.ntmps19
      go_wp2_with fail
      exact bodyPost_ret (v := .int .i64 n) (by simp [results, Try.results19, go_sem]) rfl ⟨rfl, rfl⟩
/-- a smoother as a value -/
def smA (s : Sm) : Value := .agg #[.int .i64 s.srt, .int .i64 s.t1]
theorem rnew_any12 (n : Int) (w : World) : Calls Try.prog 9 #[.int .i64 n] w fun e w' => e = .returned (smA (Sm.new n)) ∧ Below w.heap.size w w' := by
  have HW := Lib.hid (fun W => rwithin_any n W)
  have hm := inT_most n
  simp only [Sm.new, smA]
  generalize inT n = x at *
  have z1 : IntKind.i64.wrap (4 * x) = 4 * x := i64_near _ (by omega) (by omega)
  clear hm
  go_enter Try.func9, Try.ntmps9
  go_wp2_with (go_at_call 19; (with_reducible refine (HW.out _).mono ?_); rintro e w ⟨rfl, rfl⟩)
  exact bodyPost_ret (v := .agg #[.int .i64 (4 * x), .int .i64 x]) (by simp [results, Try.results9, go_sem]) rfl ⟨rfl, by first | exact Below.refl _ _ | exact (Below.refl _ _).alloc (Nat.le_refl _) _⟩
theorem rnone_any (s : Sm) (w : World) (hok : s.ok) : Calls Try.prog 13 #[smA s] w fun e w' => e = .returned (smA s.none) ∧ Below w.heap.size w w' := by
  obtain ⟨a, b⟩ := s
  obtain ⟨-, h2, h3⟩ := hok
  simp only at h2 h3
  have HW := Lib.hid (fun W => rwithin_any (2 * b) W)
  simp only [Sm.none, smA]
  have z1 : IntKind.i64.wrap (b + b) = 2 * b := by rw [show b + b = 2 * b by omega]; exact i64_near _ (by omega) (by omega)
  generalize inT (2 * b) = y at *
  rw [IntWalk.i64_left] at z1
  obtain ⟨d, hd⟩ : ∃ d, 2 * b = d := ⟨_, rfl⟩
  rw [hd] at z1 HW
  have HS := Lib.hid (RowAt.new w w.heap.size rfl [.int .i64 a, .int .i64 b] 27)
  have HB := Lib.hid ((Below.refl w.heap.size w).alloc (Nat.le_refl _) (.cells #[.int .i64 a, .int .i64 b] 27))
  clear h2 h3 hd
  go_enter Try.func13, Try.ntmps13
  go_wp2_with (go_at_call 19; (with_reducible refine (HW.out _).mono ?_); rintro e wx ⟨rfl, rfl⟩)
  exact bodyPost_ret (v := .agg #[.int .i64 a, .int .i64 y]) (by simp [results, Try.results13, go_sem]) rfl ⟨rfl, below_alloc2 _ _ _⟩
set_option maxHeartbeats 1000000 in
theorem rtook_any (s : Sm) (t : Int) (w : World) (hok : s.ok) : Calls Try.prog 15 #[smA s, .int .i64 t] w fun e w' => e = .returned (smA (s.took t)) ∧ Below w.heap.size w w' := by
  obtain ⟨a, b⟩ := s
  obtain ⟨⟨h0, h1⟩, h2, h3⟩ := hok
  simp only at h0 h1 h2 h3
  simp only [Sm.took, smA]
  have hb := inB_most t
  have he : inB t = if t < 0 then 0 else if 255 < t then 255 else t := rfl
  generalize inB t = tb at *
  have d8 : a.tdiv 8 = a / 8 := Int.tdiv_eq_ediv_of_nonneg h0
  obtain ⟨q, hq⟩ : ∃ q, a / 8 = q := ⟨_, rfl⟩
  rw [hq] at d8 ⊢
  obtain ⟨x, hx⟩ : ∃ x, a - q + tb = x := ⟨_, rfl⟩
  rw [hx]
  have z1 : IntKind.i64.wrap (a - q) = a - q := i64_near _ (by omega) (by omega)
  have z2 : IntKind.i64.wrap (a - q + tb) = x := by rw [hx]; exact i64_near _ (by omega) (by omega)
  have hx0 : 0 ≤ x ∧ x ≤ 100000 := by omega
  have d4 : x.tdiv 4 = x / 4 := Int.tdiv_eq_ediv_of_nonneg hx0.1
  obtain ⟨r, hr⟩ : ∃ r, x / 4 = r := ⟨_, rfl⟩
  rw [hr] at d4 ⊢
  have z3 : IntKind.i64.wrap (r + 2) = r + 2 := i64_near _ (by omega) (by omega)
  have zq : IntKind.i64.wrap q = q := i64_near _ (by omega) (by omega)
  have zr : IntKind.i64.wrap r = r := i64_near _ (by omega) (by omega)
  have HX := Lib.hid hx
  have HW := Lib.hid (fun W => rwithin_any (r + 2) W)
  generalize inT (r + 2) = y at *
  rw [IntWalk.i64_left] at z1 z2 z3 zq zr
  have HB := Lib.hid ((Below.refl w.heap.size w).alloc (Nat.le_refl _) (.cells #[.int .i64 a, .int .i64 b] 27))
  clear h0 h1 h2 h3 hb hq hx hx0 hr
  by_cases h : t < 0
  · have d0 : decide (t < 0) = true := decide_eq_true h
    rw [if_pos h] at he
    subst he
    have hx := HX.out
    rw [Int.add_zero] at hx
    rw [Int.add_zero] at z2
    have zx : wrap64 x = x := by rw [← hx]; exact z1
    clear h hx z1
    go_enter Try.func15, Try.ntmps15
    go_wp2_with (go_at_call 19; (with_reducible refine (HW.out _).mono ?_); rintro e wx ⟨rfl, rfl⟩)
    exact bodyPost_ret (v := .agg #[.int .i64 x, .int .i64 y]) (by simp [results, Try.results15, go_sem]) rfl ⟨rfl, below_alloc2 _ _ _⟩
  · have d0 : decide (t < 0) = false := decide_eq_false h
    rw [if_neg h] at he
    by_cases h5 : 255 < t
    · have d5 : decide (255 < t) = true := decide_eq_true h5
      rw [if_pos h5] at he
      subst he
      clear h h5
      go_enter Try.func15, Try.ntmps15
      go_wp2_with (go_at_call 19; (with_reducible refine (HW.out _).mono ?_); rintro e wx ⟨rfl, rfl⟩)
      exact bodyPost_ret (v := .agg #[.int .i64 x, .int .i64 y]) (by simp [results, Try.results15, go_sem]) rfl ⟨rfl, below_alloc2 _ _ _⟩
    · have d5 : decide (255 < t) = false := decide_eq_false h5
      rw [if_neg h5] at he
      subst he
      clear h h5
      go_enter Try.func15, Try.ntmps15
      go_wp2_with (go_at_call 19; (with_reducible refine (HW.out _).mono ?_); rintro e wx ⟨rfl, rfl⟩)
      exact bodyPost_ret (v := .agg #[.int .i64 x, .int .i64 y]) (by simp [results, Try.results15, go_sem]) rfl ⟨rfl, below_alloc2 _ _ _⟩
end Go.Proofs.Ytljmdpkbedmkmaa
