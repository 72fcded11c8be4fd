/-
Reports as plain facts: whether one is right, its bytes, what bytes are read as.
-/
import Derived.Test.YtdaagllacmnekaaRow
namespace Go.Proofs.Ytdaagllacmnekaa
open Go.RowKit
/-- a report -/
structure Rp where
  c : ByteArray
  vs : Int
  vr : Int
  re : Bool
  m0 : Bool
  m1 : Bool
  m2 : Bool
  m3 : Bool
/-- is a number right -/
def numR (n : Int) (wide : Bool) : Bool := decide (0 ≤ n) && (decide (n < 8) || wide && decide (n < 128))
def sizeR (n : Nat) (wide : Bool) : Bool := ((n : Int) == 1) || wide && ((n : Int) == 2)
def rightR (r : Rp) (wide : Bool) : Bool := numR r.vs wide && (numR r.vr wide && sizeR r.c.size wide)
def bitR (b : Bool) (k : Int) : Int := if b then k else 0
def sumR (r : Rp) : Int := bitR r.m0 1 + bitR r.m1 2 + bitR r.m2 4 + bitR r.m3 8
/-- one as a value: eight cells, the document's as the landed code's -/
def repV (r : Rp) : Value := .agg #[.string r.c, .int .i64 r.vs, .int .i64 r.vr, .bool r.re, .bool r.m0, .bool r.m1, .bool r.m2, .bool r.m3]
def rowR (r : Rp) : List Value := [.string r.c, .int .i64 r.vs, .int .i64 r.vr, .bool r.re, .bool r.m0, .bool r.m1, .bool r.m2, .bool r.m3]
def zeroR : Rp := ⟨⟨#[]⟩, 0, 0, false, false, false, false, false⟩
theorem numR_facts {n : Int} {wide : Bool} (h : numR n wide = true) : 0 ≤ n ∧ n < 128 ∧ (wide = false → n < 8) := by
  simp [numR] at h
  refine ⟨h.1, ?_, fun hw => ?_⟩
  · omega
  · subst hw; simp at h; omega
theorem rnum_any (n : Int) (wide : Bool) (w : World) : Calls Try.prog 13 #[.int .i64 n, .bool wide] w fun e w' => e = .returned (.bool (numR n wide)) ∧ w' = w := by
  unfold numR
  cases x1 : decide (0 ≤ n)
  · go_enter Try.func13, Try.ntmps13
    go_wp2
    go_ret
    exact ⟨rfl, rfl⟩
  cases x2 : decide (n < 8)
  · cases wide
    · go_enter Try.func13, Try.ntmps13
      go_wp2
      go_ret
      exact ⟨rfl, rfl⟩
    · cases x3 : decide (n < 128)
      · go_enter Try.func13, Try.ntmps13
        go_wp2
        go_ret
        exact ⟨rfl, rfl⟩
      · go_enter Try.func13, Try.ntmps13
        go_wp2
        go_ret
        exact ⟨rfl, rfl⟩
  · go_enter Try.func13, Try.ntmps13
    go_wp2
    go_ret
    exact ⟨rfl, rfl⟩
set_option maxHeartbeats 1000000 in
/-- the document's Right -/
theorem rright9_any (r : Rp) (wide : Bool) (w : World) : Calls Try.prog 7 #[repV r, .bool wide] w fun e w' => e = .returned (.bool (rightR r wide)) ∧ Below w.heap.size w w' := by
  obtain ⟨c, vs, vr, re, m0, m1, m2, m3⟩ := r
  have HR := RowAt.new w w.heap.size rfl (rowR ⟨c, vs, vr, re, m0, m1, m2, m3⟩) 27
  have c0 := HR.cell 0 rfl
  have c1 := HR.cell 1 rfl
  have c2 := HR.cell 2 rfl
  have HB := Lib.hid ((Below.refl _ w).alloc (Nat.le_refl _) (.cells (rowR ⟨c, vs, vr, re, m0, m1, m2, m3⟩).toArray 27))
  clear HR
  simp only [rowR] at c0 c1 c2 HB
  have H1 := Lib.hid (fun W => rnum_any vs wide W)
  have H2 := Lib.hid (fun W => rnum_any vr wide W)
  unfold rightR repV sizeR
  simp only
  generalize numR vs wide = A at *
  generalize numR vr wide = B at *
  cases A
  · go_enter Try.func7, Try.ntmps7
    go_wp2_with (first
      | (go_at_call 13; ((with_reducible refine (H1.out _).mono ?_); rintro e w1 ⟨rfl, rfl⟩))
      | (go_at_call 13; ((with_reducible refine (H2.out _).mono ?_); rintro e w1 ⟨rfl, rfl⟩)))
    go_ret
    exact ⟨rfl, HB.out⟩
  cases B
  · go_enter Try.func7, Try.ntmps7
    go_wp2_with (first
      | (go_at_call 13; ((with_reducible refine (H1.out _).mono ?_); rintro e w1 ⟨rfl, rfl⟩))
      | (go_at_call 13; ((with_reducible refine (H2.out _).mono ?_); rintro e w1 ⟨rfl, rfl⟩)))
    go_ret
    exact ⟨rfl, HB.out⟩
  cases x1 : ((c.size : Int) == 1)
  · cases wide
    · go_enter Try.func7, Try.ntmps7
      go_wp2_with (first
        | (go_at_call 13; ((with_reducible refine (H1.out _).mono ?_); rintro e w1 ⟨rfl, rfl⟩))
        | (go_at_call 13; ((with_reducible refine (H2.out _).mono ?_); rintro e w1 ⟨rfl, rfl⟩)))
      go_ret
      exact ⟨rfl, HB.out⟩
    · cases x2 : ((c.size : Int) == 2)
      · go_enter Try.func7, Try.ntmps7
        go_wp2_with (first
          | (go_at_call 13; ((with_reducible refine (H1.out _).mono ?_); rintro e w1 ⟨rfl, rfl⟩))
          | (go_at_call 13; ((with_reducible refine (H2.out _).mono ?_); rintro e w1 ⟨rfl, rfl⟩)))
        go_ret
        exact ⟨rfl, HB.out⟩
      · go_enter Try.func7, Try.ntmps7
        go_wp2_with (first
          | (go_at_call 13; ((with_reducible refine (H1.out _).mono ?_); rintro e w1 ⟨rfl, rfl⟩))
          | (go_at_call 13; ((with_reducible refine (H2.out _).mono ?_); rintro e w1 ⟨rfl, rfl⟩)))
        go_ret
        exact ⟨rfl, HB.out⟩
  · go_enter Try.func7, Try.ntmps7
    go_wp2_with (first
      | (go_at_call 13; ((with_reducible refine (H1.out _).mono ?_); rintro e w1 ⟨rfl, rfl⟩))
      | (go_at_call 13; ((with_reducible refine (H2.out _).mono ?_); rintro e w1 ⟨rfl, rfl⟩)))
    go_ret
    exact ⟨rfl, HB.out⟩
end Go.Proofs.Ytdaagllacmnekaa
