/-
Sums and products of complex numbers that stand for whole ones; the landed Apart.
-/
import Derived.Test.YtgfipndilngfbaaPlcMem
import Derived.Lib.QuietBelow
namespace Go.Proofs.Ytgfipndilngfbaa
open Go.RowKit
set_option maxRecDepth 20000
theorem cx_sum (op : BinOp) (hop : op = .add ∨ op = .sub) {a b c d re im : Nat} (h1 : floatBits op .f64 a c = some re) (h2 : floatBits op .f64 b d = some im) {P : Program} (t : TypeId) (W : World) :
    (binOp op t (.complex .f64 a b) (.complex .f64 c d)).run P W = .ok (.complex .f64 re im) W :=
  run_complex_sum W op hop t .f64 a b c d re im (by unfold cSumBits; rw [h1, h2]; rfl)
theorem cx_sub {a b c d : Nat} {x y u v : Int} (ha : Fl a x) (hb : Fl b y) (hc : Fl c u) (hd : Fl d v) (h1 : (x - u).natAbs < 2 ^ 53) (h2 : (y - v).natAbs < 2 ^ 53) :
    ∃ re im, (∀ t W, (binOp .sub t (.complex .f64 a b) (.complex .f64 c d)).run Try.prog W = .ok (.complex .f64 re im) W) ∧ Fl re (x - u) ∧ Fl im (y - v) := by
  obtain ⟨re, e1, g1⟩ := ha.sub hc h1
  obtain ⟨im, e2, g2⟩ := hb.sub hd h2
  exact ⟨re, im, fun t W => cx_sum .sub (Or.inr rfl) e1 e2 t W, g1, g2⟩
theorem cx_add {a b c d : Nat} {x y u v : Int} (ha : Fl a x) (hb : Fl b y) (hc : Fl c u) (hd : Fl d v) (h1 : (x + u).natAbs < 2 ^ 53) (h2 : (y + v).natAbs < 2 ^ 53) :
    ∃ re im, (∀ t W, (binOp .add t (.complex .f64 a b) (.complex .f64 c d)).run Try.prog W = .ok (.complex .f64 re im) W) ∧ Fl re (x + u) ∧ Fl im (y + v) := by
  obtain ⟨re, e1, g1⟩ := ha.add hc h1
  obtain ⟨im, e2, g2⟩ := hb.add hd h2
  exact ⟨re, im, fun t W => cx_sum .add (Or.inl rfl) e1 e2 t W, g1, g2⟩
/-- a quarter to the left -/
theorem cx_left {a b : Nat} {x y : Int} (ha : Fl a x) (hb : Fl b y) (hx : x.natAbs < 2 ^ 53) (hy : y.natAbs < 2 ^ 53) :
    ∃ re im, (∀ t W, (binOp .mul t (.complex .f64 a b) (.complex .f64 0 4607182418800017408)).run Try.prog W = .ok (.complex .f64 re im) W) ∧ Fl re (-y) ∧ Fl im x := by
  obtain ⟨ac, e1, g1⟩ := ha.mul Fl.zero (by omega)
  obtain ⟨bd, e2, g2⟩ := hb.mul Fl.one (by omega)
  obtain ⟨re, e3, g3⟩ := g1.sub g2 (by omega)
  obtain ⟨ad, e4, g4⟩ := ha.mul Fl.one (by omega)
  obtain ⟨bc, e5, g5⟩ := hb.mul Fl.zero (by omega)
  obtain ⟨im, e6, g6⟩ := g4.add g5 (by omega)
  rw [show x * 0 - y * 1 = -y by omega] at g3
  rw [show x * 1 + y * 0 = x by omega] at g6
  exact ⟨re, im, fun t W => run_complex_mul W t a b 0 4607182418800017408 re im (by unfold cMulBits; rw [e1, e2, e4, e5]; dsimp only [Option.bind]; rw [e3, e6]), g3, g6⟩
/-- products and sums of floats -/
theorem fl_mul {a b : Nat} {x y : Int} (ha : Fl a x) (hb : Fl b y) (h : (x * y).natAbs < 2 ^ 53) : ∃ r, (∀ t W, (binOp .mul t (.float .f64 a) (.float .f64 b)).run Try.prog W = .ok (.float .f64 r) W) ∧ Fl r (x * y) := by
  obtain ⟨r, e, g⟩ := ha.mul hb h
  exact ⟨r, fun t W => run_float_arith W .mul t .f64 a b r e, g⟩
theorem fl_add {a b : Nat} {x y : Int} (ha : Fl a x) (hb : Fl b y) (h : (x + y).natAbs < 2 ^ 53) : ∃ r, (∀ t W, (binOp .add t (.float .f64 a) (.float .f64 b)).run Try.prog W = .ok (.float .f64 r) W) ∧ Fl r (x + y) := by
  obtain ⟨r, e, g⟩ := ha.add hb h
  exact ⟨r, fun t W => run_float_arith W .add t .f64 a b r e, g⟩
theorem fl_int {a : Nat} {x : Int} (ha : Fl a x) (h : x.natAbs < 2 ^ 53) (W : World) : (convert 48 3 (.float .f64 a)).run Try.prog W = .ok (.int .i64 x) W :=
  run_convert_float_int W 48 3 .f64 .i64 a x (by rw [Try.underlying48]; rfl) Try.underlying3 (ha.toInt h)
/-- the square of how far apart -/
def farN (x y u v : Int) : Int := if (inP x y && inP u v) then (x - u) * (x - u) + (y - v) * (y - v) else -1
theorem inP_iff (x y : Int) : inP x y = true ↔ (-1000 ≤ x ∧ x ≤ 1000) ∧ (-1000 ≤ y ∧ y ≤ 1000) := by
  unfold inP inZ
  rw [Bool.and_eq_true, decide_eq_true_eq, decide_eq_true_eq]
  omega
theorem sq_small (z : Int) (h : -2000 ≤ z ∧ z ≤ 2000) : (z * z).natAbs ≤ 4000000 ∧ 0 ≤ z * z := by
  have e : (z * z).natAbs = z.natAbs * z.natAbs := Int.natAbs_mul z z
  have : z.natAbs * z.natAbs ≤ 2000 * 2000 := Nat.mul_le_mul (by omega) (by omega)
  exact ⟨by omega, by rw [← Int.natAbs_mul_self (a := z)]; exact Int.natCast_nonneg _⟩
set_option maxHeartbeats 1000000 in
theorem apart_any (a b c d : Nat) (x y u v : Int) (w : World) (ha : Fl a x) (hb : Fl b y) (hx : x.natAbs < 2 ^ 50) (hy : y.natAbs < 2 ^ 50) (hc : Fl c u) (hd : Fl d v) (hu : u.natAbs < 2 ^ 50) (hv : v.natAbs < 2 ^ 50) :
    Calls Try.prog 45 #[.complex .f64 a b, .complex .f64 c d] w fun e w' => e = .returned (.int .i64 (farN x y u v)) ∧ Below w.heap.size w w' := by
  have HM := Lib.hid (RowAt.new w w.heap.size rfl [.complex .f64 a b, .complex .f64 c d] 47)
  have HP := Lib.hid (fun W h => places_two w.heap.size a b c d x y u v W ha hb (by omega) (by omega) hc hd (by omega) (by omega) h)
  have HB := Lib.hid ((Below.refl _ w).alloc (Nat.le_refl _) (.cells #[.complex .f64 a b, .complex .f64 c d] 47))
  obtain ⟨E, hE⟩ : ∃ E, E = farN x y u v := ⟨_, rfl⟩
  rw [← hE]
  unfold farN at hE
  cases hq : inP x y && inP u v
  · rw [hq] at HP hE
    simp only [Bool.false_eq_true, if_false] at hE
    clear ha hb hc hd hx hy hu hv hq
    subst hE
    go_enter Try.func45, Try.ntmps45
    go_wp2_with (go_at_call 31; (with_reducible refine (HP.out _ HM.out).mono ?_); rintro e w1 ⟨rfl, rfl⟩)
    exact bodyPost_ret (v := .int .i64 (-1)) (by simp [results, Try.results45, go_sem]) rfl ⟨rfl, HB.out⟩
  · rw [hq] at HP hE
    rw [Bool.and_eq_true, inP_iff, inP_iff] at hq
    obtain ⟨re, im, s1, h1, h2⟩ := cx_sub ha hb hc hd (by omega) (by omega)
    obtain ⟨k1, -⟩ := sq_small (x - u) (by omega)
    obtain ⟨k2, -⟩ := sq_small (y - v) (by omega)
    obtain ⟨p, s2, h3⟩ := fl_mul h1 h1 (by omega)
    obtain ⟨q, s3, h4⟩ := fl_mul h2 h2 (by omega)
    obtain ⟨r, s4, h5⟩ := fl_add h3 h4 (by omega)
    have s5 := fun W => fl_int h5 (by omega) W
    simp only [if_true] at hE
    rw [← hE] at s5
    clear ha hb hc hd hx hy hu hv hq h1 h2 h3 h4 h5 k1 k2 hE
    go_enter Try.func45, Try.ntmps45
    go_wp2_with (go_at_call 31; (with_reducible refine (HP.out _ HM.out).mono ?_); rintro e w1 ⟨rfl, rfl⟩)
    exact bodyPost_ret (v := .int .i64 E) (by simp [results, Try.results45, go_sem]) rfl ⟨rfl, HB.out⟩
end Go.Proofs.Ytgfipndilngfbaa
