/-
A landed code's Put of a report that isn't right; what Right and Put do (written over a stand-in of the landed code).
-/
import Derived.Test.YtdaagllacmnekaaRepCPut
namespace Go.Proofs.Ytdaagllacmnekaa
open Go.RowKit
set_option maxRecDepth 20000
set_option maxHeartbeats 1000000 in
theorem cput9_no (r : Rp) (wide : Bool) (w : World) (hr : rightR r wide = false) : Calls Try.prog 8 #[repV r, .bool wide] w fun e w' => e = .returned (.tuple #[.string ⟨#[]⟩, .int .i64 1]) ∧ Below w.heap.size w w' := by
  have h1 := fun W => cright9_any r wide W
  rw [hr] at h1
  obtain ⟨c, vs, vr, re, m0, m1, m2, m3⟩ := r
  simp only [repV] at h1
  have HRI := Lib.hid h1
  have HX0 := Lib.hid (RowAt.new w w.heap.size rfl (rowR ⟨c, vs, vr, re, m0, m1, m2, m3⟩) 23)
  have HB0 := Lib.hid ((Below.refl _ w).alloc (Nat.le_refl _) (.cells (rowR ⟨c, vs, vr, re, m0, m1, m2, m3⟩).toArray 23))
  clear h1 hr
  simp only [rowR] at HX0 HB0
  unfold repV
  simp only
  go_enter Try.func8, Try.ntmps8
  go_upto_region 1 with (fail)
  generalize w.alloc (.cells (#[.string c, .int .i64 vs, .int .i64 vr, .bool re, .bool m0, .bool m1, .bool m2, .bool m3]) 23) = w1 at *
  have l0 := HX0.out.cell 0 rfl
  have l1 := HX0.out.cell 1 rfl
  have l2 := HX0.out.cell 2 rfl
  have l3 := HX0.out.cell 3 rfl
  have l4 := HX0.out.cell 4 rfl
  have l5 := HX0.out.cell 5 rfl
  have l6 := HX0.out.cell 6 rfl
  have l7 := HX0.out.cell 7 rfl
  go_wp2_with fail
  go_at_call 9
  refine (HRI.out _).mono ?_
  rintro e w2 ⟨rfl, hb⟩
  have HB2 := Lib.hid (HB0.out.trans (hb.mono HB0.out.size))
  clear hb HX0 HB0 l0 l1 l2 l3 l4 l5 l6 l7
  go_wp2_with fail
  exact bodyPost_ret (v := .tuple #[.string ⟨#[]⟩, .int .i64 1]) (by simp [results, Try.results8, go_sem]) rfl ⟨rfl, HB2.out⟩
theorem cright9_ok : RepRightOk := fun r wide W _ => cright9_any r wide W
theorem cput9_ok : RepPutOk := fun r wide W _ => by
  unfold putE
  cases hr : rightR r wide
  · exact cput9_no r wide W hr
  · exact cput9_yes r wide W hr
/-- bits of a byte, as numbers -/
theorem and_all : ∀ x : Fin 256, bits BinOp.and .u8 ((x.1 : Int) / 2) 7 = (x.1 : Int) / 2 % 8 ∧ (bits BinOp.and .u8 (x.1 : Int) 16 != 0) = ((x.1 : Int) / 16 % 2 == 1) ∧ (bits BinOp.and .u8 (x.1 : Int) 1 != 0) = ((x.1 : Int) % 2 == 1) ∧
    (bits BinOp.and .u8 (x.1 : Int) 1 != 0) = markX (x.1 : Int) 0 ∧ (bits BinOp.and .u8 ((x.1 : Int) / 2) 1 != 0) = markX (x.1 : Int) 1 ∧ (bits BinOp.and .u8 ((x.1 : Int) / 4) 1 != 0) = markX (x.1 : Int) 2 ∧ (bits BinOp.and .u8 ((x.1 : Int) / 8) 1 != 0) = markX (x.1 : Int) 3 := by decide +kernel
theorem and_read (X : Int) (h0 : 0 ≤ X) (h1 : X ≤ 255) : bits BinOp.and .u8 (X / 2) 7 = X / 2 % 8 ∧ (bits BinOp.and .u8 X 16 != 0) = (X / 16 % 2 == 1) ∧ (bits BinOp.and .u8 X 1 != 0) = (X % 2 == 1) ∧
    (bits BinOp.and .u8 X 1 != 0) = markX X 0 ∧ (bits BinOp.and .u8 (X / 2) 1 != 0) = markX X 1 ∧ (bits BinOp.and .u8 (X / 4) 1 != 0) = markX X 2 ∧ (bits BinOp.and .u8 (X / 8) 1 != 0) = markX X 3 := by
  have := and_all ⟨X.toNat, by omega⟩
  simpa only [Int.toNat_of_nonneg h0] using this
end Go.Proofs.Ytdaagllacmnekaa
