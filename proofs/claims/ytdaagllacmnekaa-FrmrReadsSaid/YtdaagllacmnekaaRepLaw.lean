/-
What the landed code's Right, Put and Get are to do; the statements' awake, plain and == on reports.
-/
import Derived.Test.YtdaagllacmnekaaRepPure
import Derived.Test.YtdaagllacmnekaaRepRGet
namespace Go.Proofs.Ytdaagllacmnekaa
open Go.RowKit
set_option maxRecDepth 20000
def putE (r : Rp) (wide : Bool) : ByteArray × Int := if rightR r wide then (putR r wide, 0) else (⟨#[]⟩, 1)
def RepRightOk : Prop := ∀ (r : Rp) (wide : Bool) (W : World), r.c.size ≤ 100 → Calls Try.prog 9 #[repV r, .bool wide] W fun e w' => e = .returned (.bool (rightR r wide)) ∧ Below W.heap.size W w'
def RepPutOk : Prop := ∀ (r : Rp) (wide : Bool) (W : World), r.c.size ≤ 100 → Calls Try.prog 8 #[repV r, .bool wide] W fun e w' => e = .returned (.tuple #[.string (putE r wide).1, .int .i64 (putE r wide).2]) ∧ Below W.heap.size W w'
def RepGetOk : Prop := ∀ (b : ByteArray) (wide : Bool) (W : World), b.size ≤ 300 → Calls Try.prog 10 #[.string b, .bool wide] W fun e w' => e = .returned (.tuple #[repV (getR b wide).1, .int .i64 (getR b wide).2]) ∧ Below W.heap.size W w'
theorem rget9_any (b : ByteArray) (wide : Bool) (w : World) : Calls Try.prog 12 #[.string b, .bool wide] w fun e w' => e = .returned (.tuple #[repV (getR b wide).1, .int .i64 (getR b wide).2]) ∧ Below w.heap.size w w' := by
  cases wide
  · exact rget9_narrow b w
  · exact rget9_wide b w
theorem repawake_any (HP : RepPutOk) (w : World) : Calls Try.prog 5 #[] w fun e w' => e = .returned (.bool true) ∧ Below w.heap.size w w' := by
  have hp := fun W => HP ⟨⟨#[255]⟩, 1, 2, false, true, false, false, false⟩ false W (by decide)
  have e : putE ⟨⟨#[255]⟩, 1, 2, false, true, false, false, false⟩ false = (⟨#[255, 66, 1]⟩, 0) := rfl
  rw [e] at hp
  simp only [repV] at hp
  have HPP := Lib.hid hp
  clear hp e
  go_enter Try.func5, Try.ntmps5
  go_wp2_with fail
  go_at_call 8
  refine (HPP.out _).mono ?_
  rintro e w1 ⟨rfl, hb⟩
  have HB := Lib.hid hb
  clear hb
  go_wp2_with fail
  go_ret
  exact ⟨rfl, HB.out⟩
set_option maxHeartbeats 1000000 in
theorem repplain_any (r : Rp) (w : World) : Calls Try.prog 6 #[repV r] w fun e w' => e = .returned (repV r) ∧ Below w.heap.size w w' := by
  obtain ⟨c, vs, vr, re, m0, m1, m2, m3⟩ := r
  have HR := Lib.hid ((RowAt.new w w.heap.size rfl (rowR ⟨c, vs, vr, re, m0, m1, m2, m3⟩) 23).alloc (.cells (rowR zeroR).toArray 27))
  have HZ := Lib.hid (RowAt.new (w.alloc (.cells (rowR ⟨c, vs, vr, re, m0, m1, m2, m3⟩).toArray 23)) (w.heap.size + 1) (by simp) (rowR zeroR) 27)
  have HB := Lib.hid (((Below.refl _ w).alloc (Nat.le_refl _) (.cells (rowR ⟨c, vs, vr, re, m0, m1, m2, m3⟩).toArray 23)).alloc (by simp) (.cells (rowR zeroR).toArray 27))
  simp only [rowR, zeroR] at HR HZ HB
  unfold repV
  simp only
  go_enter Try.func6, Try.ntmps6
  go_upto_region 1 with (fail)
  generalize (w.alloc (.cells #[.string c, .int .i64 vs, .int .i64 vr, .bool re, .bool m0, .bool m1, .bool m2, .bool m3] 23)).alloc (.cells #[.string ⟨#[]⟩, .int .i64 0, .int .i64 0, .bool false, .bool false, .bool false, .bool false, .bool false] 27) = w1 at *
  have p0 := HR.out.cell 0 rfl
  have p1 := HR.out.cell 1 rfl
  have p2 := HR.out.cell 2 rfl
  have p3 := HR.out.cell 3 rfl
  have p4 := HR.out.cell 4 rfl
  have p5 := HR.out.cell 5 rfl
  have p6 := HR.out.cell 6 rfl
  have p7 := HR.out.cell 7 rfl
  have x0 := HZ.out.cell 0 rfl
  have f0 := (HZ.out.get 0 rfl).free
  have x1 := HZ.out.cell 1 rfl
  have f1 := (HZ.out.get 1 rfl).free
  have x2 := HZ.out.cell 2 rfl
  have f2 := (HZ.out.get 2 rfl).free
  have x3 := HZ.out.cell 3 rfl
  have f3 := (HZ.out.get 3 rfl).free
  have x4 := HZ.out.cell 4 rfl
  have f4 := (HZ.out.get 4 rfl).free
  have x5 := HZ.out.cell 5 rfl
  have f5 := (HZ.out.get 5 rfl).free
  have x6 := HZ.out.cell 6 rfl
  have f6 := (HZ.out.get 6 rfl).free
  have x7 := HZ.out.cell 7 rfl
  have f7 := (HZ.out.get 7 rfl).free
  go_wp2_with fail
  have S := Lib.hid (stored8 HZ.out rfl (.string c) (.int .i64 vs) (.int .i64 vr) (.bool re) (.bool m0) (.bool m1) (.bool m2) (.bool m3))
  have HE := Lib.hid (set8_below (m := w.heap.size + 1) HB.out (Nat.le_succ _) (.string c) (.int .i64 vs) (.int .i64 vr) (.bool re) (.bool m0) (.bool m1) (.bool m2) (.bool m3))
  have s0 := S.out.cell 0 rfl
  have s1 := S.out.cell 1 rfl
  have s2 := S.out.cell 2 rfl
  have s3 := S.out.cell 3 rfl
  have s4 := S.out.cell 4 rfl
  have s5 := S.out.cell 5 rfl
  have s6 := S.out.cell 6 rfl
  have s7 := S.out.cell 7 rfl
  exact bodyPost_ret (v := repV ⟨c, vs, vr, re, m0, m1, m2, m3⟩) (by simp [results, Try.results6, go_sem, s0, s1, s2, s3, s4, s5, s6, s7, repV]) rfl ⟨rfl, HE.out⟩
/-- == of four marks with themselves -/
theorem marks_eq (d : Nat) (a b c e : Bool) (w : World) : (Op.equalIn (d + 2) 25 (.agg #[.bool a, .bool b, .bool c, .bool e]) (.agg #[.bool a, .bool b, .bool c, .bool e])).run Try.prog w = .ok true w := by
  have hb : ∀ (v : Bool) (W : World), (Op.equalIn (d + 1) 4 (.bool v) (.bool v)).run Try.prog W = .ok true W := fun v W => by
    rw [run_equalIn_bool' W d _ v v Try.underlying4]
    simp
  have hz : ∀ W, (Go.sizeOf 4).run Try.prog W = .ok 1 W := fun W => by kernel_rfl
  rw [Op.equalIn]
  simp only [Sem.run_bind, run_underlying Try.underlying25, Result.andThen_ok, hz]
  rw [Std.Legacy.Range.forIn_eq_forIn_range']
  simp only [Std.Legacy.Range.size, List.range', Nat.sub_zero, List.forIn_cons, List.forIn_nil]
  go_simp
/-- == of a report with itself, the document's as the landed code's -/
theorem rep_eq_doc (r : Rp) (w : World) : (Op.equalIn 10000 27 (repV r) (repV r)).run Try.prog w = .ok true w := by
  have h := marks_eq 9997 r.m0 r.m1 r.m2 r.m3
  unfold repV
  go_simp
theorem rep_eq_cod (r : Rp) (w : World) : (Op.equalIn 10000 23 (repV r) (repV r)).run Try.prog w = .ok true w := by
  unfold repV
  go_simp
end Go.Proofs.Ytdaagllacmnekaa
