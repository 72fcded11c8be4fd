/-
The landed isWhole: Trunc and Abs, walked down to the model's own entries; both parts of a complex number.
-/
import Derived.Test.YtgfipndilngfbaaPlcFloat
import Derived.Laws.Externs
namespace Go.Proofs.Ytgfipndilngfbaa
open Go.RowKit
set_option maxRecDepth 20000
theorem trunc_any (b : Nat) (n : Int) (h : Fl b n) (w : World) : Calls Try.prog 48 #[.float .f64 b] w fun e w' => e = .returned (.float .f64 (truncB b)) ∧ w' = w := by
  have hr := run_trunc (P := Try.prog) h w
  generalize truncB b = tb at *
  go_enter Try.func48, Try.ntmps48
  go_wp2
  rw [run_callFunc_extern Try.func50 (by kernel_rfl) (by kernel_rfl) (by kernel_rfl) (e := Extern.MathFloor.toIntegral "math.archTrunc" .zero) (by kernel_rfl), hr]
  simp only [Result.andThen]
  rw [Oper.upon_value]
  go_wp2
  go_ret
  exact ⟨rfl, rfl⟩
theorem abs_any (b : Nat) (n : Int) (h : Fl b n) (w : World) : Calls Try.prog 49 #[.float .f64 b] w fun e w' => e = .returned (.float .f64 (b % 2 ^ 63)) ∧ w' = w := by
  have hb := bits_abs b h.lt
  obtain ⟨x, hx⟩ : ∃ x, x = b % 2 ^ 63 := ⟨_, rfl⟩
  rw [← hx] at hb ⊢
  clear hx
  go_enter Try.func49, Try.ntmps49
  go_wp2
  rw [run_callFunc_extern Try.func53 (by kernel_rfl) (by kernel_rfl) (by kernel_rfl) (e := Extern.MathFloatBits.float64bits) (by kernel_rfl), show (Extern.MathFloatBits.float64bits #[.float .f64 b]).run Try.prog w = .ok (.int .u64 b) w from rfl]
  simp only [Result.andThen]
  rw [Oper.upon_value]
  go_wp2
  rw [run_callFunc_extern Try.func52 (by kernel_rfl) (by kernel_rfl) (by kernel_rfl) (e := Extern.MathFloatBits.float64frombits) (by kernel_rfl), show (Extern.MathFloatBits.float64frombits #[.int .u64 (x : Int)]).run Try.prog w = .ok (.float .f64 x) w from rfl]
  simp only [Result.andThen]
  rw [Oper.upon_value]
  go_wp2
  go_ret
  exact ⟨rfl, rfl⟩
/-- both parts are at most so far from 0 -/
def inZ (M : Nat) (x y : Int) : Bool := decide (x.natAbs ≤ M) && decide (y.natAbs ≤ M)
theorem fidx (a b : Nat) (W : World) : (Instr.index 109 (.agg #[.float .f64 a, .float .f64 b]) (.int .i64 0)).run Try.prog W = .ok (.float .f64 a) W ∧ (Instr.index 109 (.agg #[.float .f64 a, .float .f64 b]) (.int .i64 1)).run Try.prog W = .ok (.float .f64 b) W :=
  ⟨by kernel_rfl, by kernel_rfl⟩
/-- what the comparing of one part says -/
theorem part_facts {b m : Nat} {x : Int} {M : Nat} (h : Fl b x) (hm : Fl m M) (hx : x.natAbs < 2 ^ 53) :
    (FloatKind.f64.format.order b (truncB b) == some .eq) = true ∧ (FloatKind.f64.format.order b (truncB b) != some .eq) = false ∧ (FloatKind.f64.format.order (b % 2 ^ 63) m == some .gt) = !decide (x.natAbs ≤ M) := by
  have e1 := h.eq (h.trunc hx)
  rw [decide_eq_true rfl] at e1
  refine ⟨e1, by rw [bne, e1]; rfl, ?_⟩
  rw [h.abs.gt hm]
  by_cases q : x.natAbs ≤ M
  · rw [decide_eq_true q, decide_eq_false (by omega)]
    rfl
  · rw [decide_eq_false q, decide_eq_true (by omega)]
    rfl
set_option maxHeartbeats 1000000 in
theorem whole_any (a b m : Nat) (x y : Int) (M : Nat) (ha : Fl a x) (hb : Fl b y) (hm : Fl m M) (hx : x.natAbs < 2 ^ 53) (hy : y.natAbs < 2 ^ 53) (w : World) :
    Calls Try.prog 43 #[.complex .f64 a b, .float .f64 m] w fun e w' => e = .returned (.bool (inZ M x y)) ∧ w' = w := by
  have TA := Lib.hid (fun W => trunc_any a x ha W)
  have TB := Lib.hid (fun W => trunc_any b y hb W)
  have AA := Lib.hid (fun W => abs_any a x ha W)
  have AB := Lib.hid (fun W => abs_any b y hb W)
  obtain ⟨p1, p2, p3⟩ := part_facts ha hm hx
  obtain ⟨q1, q2, q3⟩ := part_facts hb hm hy
  have i0 := fun W => (fidx a b W).1
  have i1 := fun W => (fidx a b W).2
  simp only [inZ]
  generalize truncB a = ta at *
  generalize truncB b = tb at *
  generalize a % 2 ^ 63 = aa at *
  generalize b % 2 ^ 63 = ab at *
  generalize decide (x.natAbs ≤ M) = c at *
  generalize decide (y.natAbs ≤ M) = d at *
  clear ha hb hm hx hy
  go_enter Try.func43, Try.ntmps43
  go_wp2
  refine wp_loop_rounds 3 ?_
  rw [rounds_succ]
  cases c
  · go_wp2_with (first
      | (go_at_call 48; (with_reducible refine (TA.out _).mono ?_); rintro e w ⟨rfl, rfl⟩)
      | (go_at_call 49; (with_reducible refine (AA.out _).mono ?_); rintro e w ⟨rfl, rfl⟩))
    go_ret
    exact ⟨rfl, rfl⟩
  · go_wp2_with (first
      | (go_at_call 48; (with_reducible refine (TA.out _).mono ?_); rintro e w ⟨rfl, rfl⟩)
      | (go_at_call 49; (with_reducible refine (AA.out _).mono ?_); rintro e w ⟨rfl, rfl⟩))
    rw [rounds_succ]
    cases d
    · go_wp2_with (first
        | (go_at_call 48; (with_reducible refine (TB.out _).mono ?_); rintro e w ⟨rfl, rfl⟩)
        | (go_at_call 49; (with_reducible refine (AB.out _).mono ?_); rintro e w ⟨rfl, rfl⟩))
      go_ret
      exact ⟨rfl, rfl⟩
    · go_wp2_with (first
        | (go_at_call 48; (with_reducible refine (TB.out _).mono ?_); rintro e w ⟨rfl, rfl⟩)
        | (go_at_call 49; (with_reducible refine (AB.out _).mono ?_); rintro e w ⟨rfl, rfl⟩))
      rw [rounds_succ]
      go_wp2
      go_ret
      exact ⟨rfl, rfl⟩
end Go.Proofs.Ytgfipndilngfbaa
