/-
Floats that stand for whole numbers, as words of 64 bits: what Trunc and Abs give; sums, products, comparing.
-/
import Derived.Test.YtgfipndilngfbaaFloats
import Derived.Test.YtgfipndilngfbaaRow
import Derived.Laws.BitsAllLaws
import Derived.WalkLawsBesides
import Derived.Lib.Hide
namespace Go.Proofs.Ytgfipndilngfbaa
open Ieee Go.RowKit
set_option maxRecDepth 20000
/-- a float that stands for the whole number n -/
structure Fl (b : Nat) (n : Int) : Prop where
  is : IsF b n
  lt : b < 2 ^ 64
theorem Fl.wf {b : Nat} {n : Int} (h : Fl b n) : (Lit.float .f64 b).wf = true := wf_of_lt .f64 b h.lt
theorem Fl.add {a b : Nat} {x y : Int} (ha : Fl a x) (hb : Fl b y) (h : (x + y).natAbs < 2 ^ 53) : ∃ r, floatBits .add .f64 a b = some r ∧ Fl r (x + y) := by
  obtain ⟨r, h1, h2⟩ := isF_add ha.is hb.is h
  exact ⟨r, h1, h2, double.add_lt h1⟩
theorem Fl.sub {a b : Nat} {x y : Int} (ha : Fl a x) (hb : Fl b y) (h : (x - y).natAbs < 2 ^ 53) : ∃ r, floatBits .sub .f64 a b = some r ∧ Fl r (x - y) := by
  obtain ⟨r, h1, h2⟩ := isF_sub ha.is hb.is h
  exact ⟨r, h1, h2, double.sub_lt h1⟩
theorem Fl.mul {a b : Nat} {x y : Int} (ha : Fl a x) (hb : Fl b y) (h : (x * y).natAbs < 2 ^ 53) : ∃ r, floatBits .mul .f64 a b = some r ∧ Fl r (x * y) := by
  obtain ⟨r, h1, h2⟩ := isF_mul ha.is hb.is h
  exact ⟨r, h1, h2, double.mul_lt h1⟩
theorem Fl.ofInt (n : Int) (h : n.natAbs < 2 ^ 53) : Fl (floatOfInt .f64 n) n := ⟨isF_ofInt n h, double.write_lt (.number (n < 0) n.natAbs 0)⟩
theorem Fl.eq {a b : Nat} {x y : Int} (ha : Fl a x) (hb : Fl b y) : (FloatKind.f64.format.order a b == some .eq) = decide (x = y) := (isF_cmp ha.is hb.is).1
theorem Fl.gt {a b : Nat} {x y : Int} (ha : Fl a x) (hb : Fl b y) : (FloatKind.f64.format.order a b == some .gt) = decide (y < x) := (isF_cmp ha.is hb.is).2.2
/-- 0, in its usual word -/
theorem Fl.zero : Fl 0 0 := ⟨⟨false, 0, -1074, rfl, Or.inr ⟨by decide, (Nat.zero_mul _).symm⟩, rfl⟩, by decide⟩
theorem Fl.one_ {b : Nat} {x y : Int} (h : Fl b x) (g : Fl b y) : x = y := isF_one h.is g.is
/-- some words -/
theorem fl_word (b : Nat) (m : Nat) (e : Int) (n : Nat) (s : Bool) (h : double.read b = .number s m e) (hv : e < 0 ∧ m = n * 2 ^ (-e).toNat) (k : Int) (hk : k = if s then -(n : Int) else (n : Int)) (hb : b < 2 ^ 64) : Fl b k := by
  have ha : k.natAbs = n := by
    subst hk
    cases s <;> simp
  exact ⟨⟨s, m, e, h, Or.inr ⟨hv.1, by rw [ha]; exact hv.2⟩, by rw [ha]; exact hk⟩, hb⟩
theorem Fl.one : Fl 4607182418800017408 1 := fl_word _ (2 ^ 52) (-52) 1 false (by kernel_rfl) ⟨by decide, by decide⟩ 1 rfl (by decide)
theorem Fl.three : Fl 4613937818241073152 3 := fl_word _ (3 * 2 ^ 51) (-51) 3 false (by kernel_rfl) ⟨by decide, by decide⟩ 3 rfl (by decide)
theorem Fl.four : Fl 4616189618054758400 4 := fl_word _ (2 ^ 52) (-50) 4 false (by kernel_rfl) ⟨by decide, by decide⟩ 4 rfl (by decide)
theorem Fl.thousand : Fl 4652007308841189376 1000 := fl_word _ (1000 * 2 ^ 43) (-43) 1000 false (by kernel_rfl) ⟨by decide, by decide⟩ 1000 rfl (by decide)
theorem Fl.twothousand : Fl 4656510908468559872 2000 := fl_word _ (1000 * 2 ^ 43) (-42) 2000 false (by kernel_rfl) ⟨by decide, by decide⟩ 2000 rfl (by decide)
/-- int(x) -/
theorem Fl.toInt {a : Nat} {x : Int} (ha : Fl a x) (h : x.natAbs < 2 ^ 53) : floatToIntVal .f64 a .i64 = some x := by
  have h1 := isF_toInt ha.is
  unfold floatToIntVal
  rw [h1]
  have e1 : IntKind.i64.min = -9223372036854775808 := rfl
  have e2 : IntKind.i64.max = 9223372036854775807 := rfl
  dsimp only
  rw [e1, e2, if_pos (by omega)]
/-- what Trunc gives -/
def truncB (b : Nat) : Nat := FloatKind.f64.encode ((FloatKind.f64.decode b).integral .zero)
theorem Fl.trunc {b : Nat} {n : Int} (h : Fl b n) (hn : n.natAbs < 2 ^ 53) : Fl (truncB b) n := by
  obtain ⟨s, m, i, h1, h2⟩ := h.is
  have e : FloatKind.f64.decode b = .number s m i := h1
  refine ⟨?_, double.write_lt _⟩
  unfold truncB
  rw [e]
  unfold Datum.integral
  simp only [cut_zero, Nat.shiftLeft_eq]
  have hm : m * 2 ^ i.toNat / 2 ^ (-i).toNat = n.natAbs := by
    rcases h2.1 with ⟨hi, h⟩ | ⟨hi, h⟩
    · rw [show (-i).toNat = 0 by omega, Nat.pow_zero, Nat.div_one, h]
    · rw [show i.toNat = 0 by omega, Nat.pow_zero, Nat.mul_one, h, Nat.mul_div_cancel _ (Nat.two_pow_pos _)]
  rw [hm]
  exact isF_write (s := s) ⟨Or.inl ⟨Int.le_refl 0, by simp⟩, h2.2⟩ hn
theorem run_trunc {P : Program} {b : Nat} {n : Int} (h : Fl b n) (w : World) : (Extern.MathFloor.toIntegral "math.archTrunc" .zero #[.float .f64 b]).run P w = .ok (.float .f64 (truncB b)) w := by
  obtain ⟨s, m, i, h1, h2⟩ := h.is
  have e : FloatKind.f64.decode b = .number s m i := h1
  have key : Extern.MathFloor.toIntegral "math.archTrunc" .zero #[.float .f64 b] = pure (.float .f64 (FloatKind.f64.encode ((Datum.number s m i).integral .zero))) := by
    delta Extern.MathFloor.toIntegral
    show Extern.MathFloor.toIntegral.match_1 _ (FloatKind.f64.decode b) _ _ = _
    rw [e]
  unfold truncB
  rw [key, e]
  rfl
/-- the word without its sign -/
theorem Fl.abs {b : Nat} {n : Int} (h : Fl b n) : Fl (b % 2 ^ 63) n.natAbs := by
  obtain ⟨s, m, i, h1, h2⟩ := h.is
  refine ⟨⟨false, m, i, ?_, ?_, ?_⟩, ?_⟩
  · unfold Format.read at h1 ⊢
    rw [dbl_sign] at h1 ⊢
    dsimp only at h1 ⊢
    have e1 : b % 2 ^ 63 % 2 ^ 63 = b % 2 ^ 63 := Nat.mod_mod _ _
    have e2 : b % 2 ^ 63 / 2 ^ 63 % 2 = 0 := by
      rw [Nat.div_eq_of_lt (Nat.mod_lt _ (by decide))]
    rw [e1, e2]
    generalize b % 2 ^ 63 = r at *
    by_cases q1 : r < double.binade
    · rw [if_pos q1] at h1 ⊢
      simp only [Datum.number.injEq] at h1
      obtain ⟨-, rfl, rfl⟩ := h1
      rfl
    · rw [if_neg q1] at h1 ⊢
      by_cases q2 : r < double.infRung
      · rw [if_pos q2] at h1 ⊢
        simp only [Datum.number.injEq] at h1
        obtain ⟨-, rfl, rfl⟩ := h1
        rfl
      · rw [if_neg q2] at h1
        split at h1 <;> cases h1
  · rw [Int.natAbs_natCast]
    exact h2.1
  · simp
  · exact Nat.lt_trans (Nat.mod_lt _ (by decide)) (by decide)
theorem bits_abs (b : Nat) (h : b < 2 ^ 64) : bits .andNot .u64 (b : Int) 9223372036854775808 = ((b % 2 ^ 63 : Nat) : Int) := by
  rw [u64_andNot _ _ (by omega) (by omega) (by omega) (by omega)]
  congr 1
  rw [Int.toNat_natCast]
  show b &&& (2 ^ 63 - 1) = _
  exact Nat.and_two_pow_sub_one_eq_mod b 63
end Go.Proofs.Ytgfipndilngfbaa
