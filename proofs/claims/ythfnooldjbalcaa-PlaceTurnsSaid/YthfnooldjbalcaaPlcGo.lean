/-
The landed Turn and Move.
-/
import Derived.Test.YthfnooldjbalcaaPlcStand
namespace Go.Proofs.Ythfnooldjbalcaa
open Go.RowKit
set_option maxRecDepth 20000
/-- where it stands behind a quarter of a turn -/
abbrev turnX (y u v : Int) : Int := u + -(y - v)
abbrev turnY (x u v : Int) : Int := v + (x - u)
section
variable (p g : Nat) (L : List Stn) (D : DataW Unit) (F : Nat → Prop) (k : Nat) (i : Int) (hi : i = k + 1) (hk : k < L.length) (hl : L.length ≤ 16) (x y r : Int) (hs : L[k].is ⟨x, y, r⟩) (hx : x.natAbs ≤ 1000) (hy : y.natAbs ≤ 1000)
  (c d : Nat) (u v : Int) (hc : Fl c u) (hd : Fl d v) (w : World) (h : PlL w p g L D F)
include hi hk hl hs hx hy hc hd h
set_option maxHeartbeats 1000000 in
theorem turn_yes (hab : inP u v = true) (hok : standOk (turnX y u v) (turnY x u v) r = true) :
    Calls Try.prog 9 #[.pointer (some ⟨p, 0, none⟩), .int .i64 i, .complex .f64 c d] w fun e w' =>
      ∃ re im, e = .returned (.int .i64 0) ∧ Fl re (turnX y u v) ∧ Fl im (turnY x u v) ∧ PlL w' p g (L.set k ⟨re, im, r⟩) D F ∧ Turn F w w' := by
  have ht := there_yes L.length k i hi hk
  obtain ⟨hu, hv⟩ := (inP_iff u v).1 hab
  obtain ⟨sx, sy, sr⟩ := hs
  simp only at sx sy sr
  obtain ⟨d1, d2, e1, g1, g2⟩ := cx_sub sx sy hc hd (by omega) (by omega)
  obtain ⟨q1, q2, e2, g3, g4⟩ := cx_left g1 g2 (by omega) (by omega)
  obtain ⟨re, im, e3, g5, g6⟩ := cx_add hc hd g3 g4 (by omega) (by omega)
  have HM := Lib.hid (RowAt.new w w.heap.size rfl [.int .i64 i] 3)
  have HP := Lib.hid (h.alloc (.cells #[.int .i64 i] 3))
  have HM2 := Lib.hid (RowAt.new (w.alloc (.cells #[.int .i64 i] 3)) (w.heap.size + 1) (by simp) [.complex .f64 c d] 29)
  have HP2 := Lib.hid (HP.out.alloc (.cells #[.complex .f64 c d] 29))
  have HB2 := Lib.hid (below_alloc2 w (.cells #[.int .i64 i] 3) (.cells #[.complex .f64 c d] 29))
  obtain ⟨cc, b', x0, -, -⟩ := HP.out.cells
  have HT := Lib.hid (fun W hp hm => there_one p w.heap.size L.length (some ⟨g, 0, none⟩) cc i W hp hm)
  rw [ht, show thereE true = 0 from rfl] at HT
  have HQ := Lib.hid (fun W hm => places_one (w.heap.size + 1) c d u v W hc hd (by omega) (by omega) hm)
  rw [hab] at HQ
  have HA := Lib.hid (fun W h => at_yes p g L D F k i hi hk hl W h)
  rw [sr] at HA
  have HS := Lib.hid (fun W h => stand_yes p g L D F k i hi hk hl re im _ _ r g5 g6 (by omega) (by omega) hok W h)
  generalize L[k].re = sre at *
  generalize L[k].im = sim at *
  clear hi ht hab hok hu hv sx sy sr hc hd hx hy g1 g2 g3 g4 g5 g6 h
  go_enter Try.func9, Try.ntmps9
  go_wp2_with (first
    | (go_at_call 12; (with_reducible refine (HT.out _ x0 HM.out).mono ?_); rintro e w1 ⟨rfl, rfl⟩)
    | (go_at_call 13; (with_reducible refine (HQ.out _ HM2.out).mono ?_); rintro e w1 ⟨rfl, rfl⟩)
    | (go_at_call 8; (with_reducible refine (HA.out _ HP2.out).mono ?_); rintro e w3 ⟨rfl, hb⟩; have HB3 := Lib.hid (HB2.out.trans (hb.mono HB2.out.size)); have HP3 := Lib.hid (HP2.out.below hb); clear hb HA)
    | (go_at_call 6; (with_reducible refine (HS.out _ HP3.out).mono ?_); rintro e w4 ⟨re', im', rfl, k1, k2, k3, k4⟩; have HE := Lib.hid (And.intro k1 (And.intro k2 (And.intro k3 ((Turn.of_below HB3.out).trans k4 (Grew.refl _ _))))); clear k1 k2 k3 k4 HS))
  exact bodyPost_ret (v := .int .i64 0) (by simp [results, Try.results9, go_sem]) rfl ⟨re', im', rfl, HE.out⟩
set_option maxHeartbeats 1000000 in
theorem turn_no (hab : inP u v = true) (hok : standOk (turnX y u v) (turnY x u v) r = false) :
    Calls Try.prog 9 #[.pointer (some ⟨p, 0, none⟩), .int .i64 i, .complex .f64 c d] w fun e w' => e = .returned (.int .i64 1) ∧ Below w.heap.size w w' := by
  have ht := there_yes L.length k i hi hk
  obtain ⟨hu, hv⟩ := (inP_iff u v).1 hab
  obtain ⟨sx, sy, sr⟩ := hs
  simp only at sx sy sr
  obtain ⟨d1, d2, e1, g1, g2⟩ := cx_sub sx sy hc hd (by omega) (by omega)
  obtain ⟨q1, q2, e2, g3, g4⟩ := cx_left g1 g2 (by omega) (by omega)
  obtain ⟨re, im, e3, g5, g6⟩ := cx_add hc hd g3 g4 (by omega) (by omega)
  have HM := Lib.hid (RowAt.new w w.heap.size rfl [.int .i64 i] 3)
  have HP := Lib.hid (h.alloc (.cells #[.int .i64 i] 3))
  have HM2 := Lib.hid (RowAt.new (w.alloc (.cells #[.int .i64 i] 3)) (w.heap.size + 1) (by simp) [.complex .f64 c d] 29)
  have HP2 := Lib.hid (HP.out.alloc (.cells #[.complex .f64 c d] 29))
  have HB2 := Lib.hid (below_alloc2 w (.cells #[.int .i64 i] 3) (.cells #[.complex .f64 c d] 29))
  obtain ⟨cc, b', x0, -, -⟩ := HP.out.cells
  have HT := Lib.hid (fun W hp hm => there_one p w.heap.size L.length (some ⟨g, 0, none⟩) cc i W hp hm)
  rw [ht, show thereE true = 0 from rfl] at HT
  have HQ := Lib.hid (fun W hm => places_one (w.heap.size + 1) c d u v W hc hd (by omega) (by omega) hm)
  rw [hab] at HQ
  have HA := Lib.hid (fun W h => at_yes p g L D F k i hi hk hl W h)
  rw [sr] at HA
  have HS := Lib.hid (fun W h => stand_no p g L D F k i hi hk re im _ _ r g5 g6 (by omega) (by omega) hok W h)
  generalize L[k].re = sre at *
  generalize L[k].im = sim at *
  clear hi ht hab hok hu hv sx sy sr hc hd hx hy g1 g2 g3 g4 g5 g6 h
  go_enter Try.func9, Try.ntmps9
  go_wp2_with (first
    | (go_at_call 12; (with_reducible refine (HT.out _ x0 HM.out).mono ?_); rintro e w1 ⟨rfl, rfl⟩)
    | (go_at_call 13; (with_reducible refine (HQ.out _ HM2.out).mono ?_); rintro e w1 ⟨rfl, rfl⟩)
    | (go_at_call 8; (with_reducible refine (HA.out _ HP2.out).mono ?_); rintro e w3 ⟨rfl, hb⟩; have HB3 := Lib.hid (HB2.out.trans (hb.mono HB2.out.size)); have HP3 := Lib.hid (HP2.out.below hb); clear hb HA)
    | (go_at_call 6; (with_reducible refine (HS.out _ HP3.out).mono ?_); rintro e w4 ⟨rfl, k1⟩; have HE := Lib.hid (HB3.out.trans (k1.mono HB3.out.size)); clear k1 HS))
  exact bodyPost_ret (v := .int .i64 1) (by simp [results, Try.results9, go_sem]) rfl ⟨rfl, HE.out⟩
set_option maxHeartbeats 1000000 in
theorem move_yes (hab : inZ 2000 u v = true) (hok : standOk (x + u) (y + v) r = true) :
    Calls Try.prog 10 #[.pointer (some ⟨p, 0, none⟩), .int .i64 i, .complex .f64 c d] w fun e w' =>
      ∃ re im, e = .returned (.int .i64 0) ∧ Fl re (x + u) ∧ Fl im (y + v) ∧ PlL w' p g (L.set k ⟨re, im, r⟩) D F ∧ Turn F w w' := by
  have ht := there_yes L.length k i hi hk
  have huv : u.natAbs ≤ 2000 ∧ v.natAbs ≤ 2000 := by
    have := hab
    unfold inZ at this
    rwa [Bool.and_eq_true, decide_eq_true_eq, decide_eq_true_eq] at this
  obtain ⟨sx, sy, sr⟩ := hs
  simp only at sx sy sr
  obtain ⟨re, im, e3, g5, g6⟩ := cx_add sx sy hc hd (by omega) (by omega)
  have HM := Lib.hid (RowAt.new w w.heap.size rfl [.int .i64 i] 3)
  have HP2 := Lib.hid (h.alloc (.cells #[.int .i64 i] 3))
  have HB2 := Lib.hid ((Below.refl _ w).alloc (Nat.le_refl _) (.cells #[.int .i64 i] 3))
  obtain ⟨cc, b', x0, -, -⟩ := HP2.out.cells
  have HT := Lib.hid (fun W hp hm => there_one p w.heap.size L.length (some ⟨g, 0, none⟩) cc i W hp hm)
  rw [ht, show thereE true = 0 from rfl] at HT
  have HQ := Lib.hid (fun W => whole_any c d 4656510908468559872 u v 2000 hc hd Fl.twothousand (by omega) (by omega) W)
  rw [hab] at HQ
  have HA := Lib.hid (fun W h => at_yes p g L D F k i hi hk hl W h)
  rw [sr] at HA
  have HS := Lib.hid (fun W h => stand_yes p g L D F k i hi hk hl re im _ _ r g5 g6 (by omega) (by omega) hok W h)
  generalize L[k].re = sre at *
  generalize L[k].im = sim at *
  clear hi ht hab hok huv sx sy sr hc hd hx hy g5 g6 h
  go_enter Try.func10, Try.ntmps10
  go_wp2_with (first
    | (go_at_call 12; (with_reducible refine (HT.out _ x0 HM.out).mono ?_); rintro e w1 ⟨rfl, rfl⟩)
    | (go_at_call 14; (with_reducible refine (HQ.out _).mono ?_); rintro e w1 ⟨rfl, rfl⟩)
    | (go_at_call 8; (with_reducible refine (HA.out _ HP2.out).mono ?_); rintro e w3 ⟨rfl, hb⟩; have HB3 := Lib.hid (HB2.out.trans (hb.mono HB2.out.size)); have HP3 := Lib.hid (HP2.out.below hb); clear hb HA)
    | (go_at_call 6; (with_reducible refine (HS.out _ HP3.out).mono ?_); rintro e w4 ⟨re', im', rfl, k1, k2, k3, k4⟩; have HE := Lib.hid (And.intro k1 (And.intro k2 (And.intro k3 ((Turn.of_below HB3.out).trans k4 (Grew.refl _ _))))); clear k1 k2 k3 k4 HS))
  exact bodyPost_ret (v := .int .i64 0) (by simp [results, Try.results10, go_sem]) rfl ⟨re', im', rfl, HE.out⟩
end
end Go.Proofs.Ythfnooldjbalcaa
