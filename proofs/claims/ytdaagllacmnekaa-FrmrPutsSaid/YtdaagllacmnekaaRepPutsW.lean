/-
Walk of the statement FrmrPuts, out of what Right, Put and Get are to do (written by tools/gen9/gen_puts.py).
-/
import Derived.Test.YtdaagllacmnekaaRepLaw
namespace Go.Proofs.Ytdaagllacmnekaa
open Go.RowKit
set_option maxRecDepth 20000
set_option maxHeartbeats 1000000 in
theorem repputs_great (hPut : RepPutOk) (c : ByteArray) (vs vr : Int) (re m0 m1 m2 m3 wide : Bool) (w : World) (hs : ¬ c.size ≤ 100) : Calls Try.prog 3 #[repV ⟨c, vs, vr, re, m0, m1, m2, m3⟩, .bool wide] w fun e w' => e = .returned (.bool true) ∧ Below w.heap.size w w' := by
  have HAW := Lib.hid (fun W => repawake_any hPut W)
  have HB0 := Lib.hid ((Below.refl _ w).alloc (Nat.le_refl _) (.cells #[.string c, .int .i64 vs, .int .i64 vr, .bool re, .bool m0, .bool m1, .bool m2, .bool m3] 23))
  have HX0 := Lib.hid (RowAt.new w w.heap.size rfl [.string c, .int .i64 vs, .int .i64 vr, .bool re, .bool m0, .bool m1, .bool m2, .bool m3] 23)
  have hd : decide (100 < (c.size : Int)) = true := decide_eq_true (by omega)
  clear hPut hs
  unfold repV
  simp only
  go_enter Try.func3, Try.ntmps3
  go_wp2_with fail
  go_at_call 5
  refine (HAW.out _).mono ?_
  rintro e w1 ⟨rfl, hb⟩
  have HB1 := Lib.hid (HB0.out.trans (hb.mono HB0.out.size))
  have HX1 := Lib.hid (HX0.out.below hb)
  clear hb HB0 HX0
  have a0 := HX1.out.cell 0 rfl
  have a1 := HX1.out.cell 1 rfl
  have a2 := HX1.out.cell 2 rfl
  have a3 := HX1.out.cell 3 rfl
  have a4 := HX1.out.cell 4 rfl
  have a5 := HX1.out.cell 5 rfl
  have a6 := HX1.out.cell 6 rfl
  have a7 := HX1.out.cell 7 rfl
  go_wp2_with fail
  go_ret
  exact ⟨rfl, HB1.out⟩
set_option maxHeartbeats 2000000 in
theorem repputs_no (hPut : RepPutOk) (hRight : RepRightOk) (c : ByteArray) (vs vr : Int) (re m0 m1 m2 m3 wide : Bool) (w : World) (hs : c.size ≤ 100) (hr : rightR ⟨c, vs, vr, re, m0, m1, m2, m3⟩ wide = false) : Calls Try.prog 3 #[repV ⟨c, vs, vr, re, m0, m1, m2, m3⟩, .bool wide] w fun e w' => e = .returned (.bool true) ∧ Below w.heap.size w w' := by
  have HAW := Lib.hid (fun W => repawake_any hPut W)
  have HB0 := Lib.hid ((Below.refl _ w).alloc (Nat.le_refl _) (.cells #[.string c, .int .i64 vs, .int .i64 vr, .bool re, .bool m0, .bool m1, .bool m2, .bool m3] 23))
  have HX0 := Lib.hid (RowAt.new w w.heap.size rfl [.string c, .int .i64 vs, .int .i64 vr, .bool re, .bool m0, .bool m1, .bool m2, .bool m3] 23)
  have hd : decide (100 < (c.size : Int)) = false := decide_eq_false (by omega)
  have h1 := fun W => hPut ⟨c, vs, vr, re, m0, m1, m2, m3⟩ wide W hs
  have h2 := fun W => hRight ⟨c, vs, vr, re, m0, m1, m2, m3⟩ wide W hs
  have h3 := fun W => rright9_any ⟨c, vs, vr, re, m0, m1, m2, m3⟩ wide W
  have h4 := fun W => repplain_any ⟨c, vs, vr, re, m0, m1, m2, m3⟩ W
  simp only [putE, hr] at h1
  rw [hr] at h2 h3
  simp only [repV] at h1 h2 h3 h4
  clear hr hs
  have HPUT := Lib.hid h1
  have HRI := Lib.hid h2
  have HRR := Lib.hid h3
  have HPL := Lib.hid h4
  clear h1 h2 h3 h4 hPut hRight
  unfold repV
  simp only
  go_enter Try.func3, Try.ntmps3
  go_wp2_with fail
  go_at_call 5
  refine (HAW.out _).mono ?_
  rintro e w1 ⟨rfl, hb⟩
  have HB1 := Lib.hid (HB0.out.trans (hb.mono HB0.out.size))
  have HX1 := Lib.hid (HX0.out.below hb)
  clear hb HB0 HX0
  have a0 := HX1.out.cell 0 rfl
  have a1 := HX1.out.cell 1 rfl
  have a2 := HX1.out.cell 2 rfl
  have a3 := HX1.out.cell 3 rfl
  have a4 := HX1.out.cell 4 rfl
  have a5 := HX1.out.cell 5 rfl
  have a6 := HX1.out.cell 6 rfl
  have a7 := HX1.out.cell 7 rfl
  go_wp2_with fail
  go_at_call 6
  refine (HPL.out _).mono ?_
  rintro e w2 ⟨rfl, hb⟩
  have HB2 := Lib.hid (HB1.out.trans (hb.mono HB1.out.size))
  have HX2 := Lib.hid (HX1.out.below hb)
  clear hb HB1 HX1
  clear a0 a1 a2 a3 a4 a5 a6 a7
  go_upto_region 6 with (fail)
  have HB3 := Lib.hid (HB2.out.alloc HB2.out.size (.cells #[.string c, .int .i64 vs, .int .i64 vr, .bool re, .bool m0, .bool m1, .bool m2, .bool m3] 27))
  have HX3 := Lib.hid (HX2.out.alloc (.cells #[.string c, .int .i64 vs, .int .i64 vr, .bool re, .bool m0, .bool m1, .bool m2, .bool m3] 27))
  have HY3 := Lib.hid (RowAt.new w2 w2.heap.size rfl [.string c, .int .i64 vs, .int .i64 vr, .bool re, .bool m0, .bool m1, .bool m2, .bool m3] 27)
  have hlg : w.heap.size < w2.heap.size := (HX2.out.get 0 rfl).lt
  generalize w2.alloc (.cells #[.string c, .int .i64 vs, .int .i64 vr, .bool re, .bool m0, .bool m1, .bool m2, .bool m3] 27) = w3 at *
  generalize w2.heap.size = g at *
  clear HB2 HX2
  have a0 := HX3.out.cell 0 rfl
  have a1 := HX3.out.cell 1 rfl
  have a2 := HX3.out.cell 2 rfl
  have a3 := HX3.out.cell 3 rfl
  have a4 := HX3.out.cell 4 rfl
  have a5 := HX3.out.cell 5 rfl
  have a6 := HX3.out.cell 6 rfl
  have a7 := HX3.out.cell 7 rfl
  have b0 := HY3.out.cell 0 rfl
  have b1 := HY3.out.cell 1 rfl
  have b2 := HY3.out.cell 2 rfl
  have b3 := HY3.out.cell 3 rfl
  have b4 := HY3.out.cell 4 rfl
  have b5 := HY3.out.cell 5 rfl
  have b6 := HY3.out.cell 6 rfl
  have b7 := HY3.out.cell 7 rfl
  go_wp2_with fail
  go_at_call 7
  refine (HRR.out _).mono ?_
  rintro e w4 ⟨rfl, hb⟩
  have HB4 := Lib.hid (HB3.out.trans (hb.mono HB3.out.size))
  have HX4 := Lib.hid (HX3.out.below hb)
  have HY4 := Lib.hid (HY3.out.below hb)
  clear hb HB3 HX3 HY3
  clear a0 a1 a2 a3 a4 a5 a6 a7 b0 b1 b2 b3 b4 b5 b6 b7
  have a0 := HX4.out.cell 0 rfl
  have a1 := HX4.out.cell 1 rfl
  have a2 := HX4.out.cell 2 rfl
  have a3 := HX4.out.cell 3 rfl
  have a4 := HX4.out.cell 4 rfl
  have a5 := HX4.out.cell 5 rfl
  have a6 := HX4.out.cell 6 rfl
  have a7 := HX4.out.cell 7 rfl
  go_wp2_with fail
  go_at_call 8
  refine (HPUT.out _).mono ?_
  rintro e w5 ⟨rfl, hb⟩
  have HB5 := Lib.hid (HB4.out.trans (hb.mono HB4.out.size))
  have HX5 := Lib.hid (HX4.out.below hb)
  have HY5 := Lib.hid (HY4.out.below hb)
  clear hb HB4 HX4 HY4
  clear a0 a1 a2 a3 a4 a5 a6 a7
  have a0 := HX5.out.cell 0 rfl
  have a1 := HX5.out.cell 1 rfl
  have a2 := HX5.out.cell 2 rfl
  have a3 := HX5.out.cell 3 rfl
  have a4 := HX5.out.cell 4 rfl
  have a5 := HX5.out.cell 5 rfl
  have a6 := HX5.out.cell 6 rfl
  have a7 := HX5.out.cell 7 rfl
  go_wp2_with fail
  go_at_call 9
  refine (HRI.out _).mono ?_
  rintro e w6 ⟨rfl, hb⟩
  have HB6 := Lib.hid (HB5.out.trans (hb.mono HB5.out.size))
  have HX6 := Lib.hid (HX5.out.below hb)
  have HY6 := Lib.hid (HY5.out.below hb)
  clear hb HB5 HX5 HY5
  clear a0 a1 a2 a3 a4 a5 a6 a7
  go_wp2_with fail
  go_ret
  exact ⟨rfl, HB6.out⟩
theorem putR_size (r : Rp) (wide : Bool) (h : rightR r wide = true) : (putR r wide).size ≤ 300 := by
  simp only [rightR, Bool.and_eq_true] at h
  obtain ⟨-, -, h3⟩ := h
  have hc : r.c.size ≤ 2 := by
    cases wide
    · have := sizeR_no h3
      omega
    · have := sizeR_yes h3
      omega
  have hk : (ctlR r wide).size ≤ 3 := by
    unfold ctlR
    split
    · rw [ByteArray.size_append]
      show r.c.size + 1 ≤ 3
      omega
    · omega
  have ht : (tailR r wide).length ≤ 3 := by
    unfold tailR
    split <;> simp
  unfold putR
  rw [ByteArray.size_append]
  show (ctlR r wide).size + (tailR r wide).toArray.size ≤ 300
  simp only [List.size_toArray]
  omega
set_option maxHeartbeats 2000000 in
theorem repputs_same (hPut : RepPutOk) (hRight : RepRightOk) (hGet : RepGetOk) (c : ByteArray) (vs vr : Int) (re m0 m1 m2 m3 wide : Bool) (w : World) (hs : c.size ≤ 100) (hr : rightR ⟨c, vs, vr, re, m0, m1, m2, m3⟩ wide = true) (hp : (wide && ((c.size : Int) == 1)) = false) : Calls Try.prog 3 #[repV ⟨c, vs, vr, re, m0, m1, m2, m3⟩, .bool wide] w fun e w' => e = .returned (.bool true) ∧ Below w.heap.size w w' := by
  have HAW := Lib.hid (fun W => repawake_any hPut W)
  have HB0 := Lib.hid ((Below.refl _ w).alloc (Nat.le_refl _) (.cells #[.string c, .int .i64 vs, .int .i64 vr, .bool re, .bool m0, .bool m1, .bool m2, .bool m3] 23))
  have HX0 := Lib.hid (RowAt.new w w.heap.size rfl [.string c, .int .i64 vs, .int .i64 vr, .bool re, .bool m0, .bool m1, .bool m2, .bool m3] 23)
  have hd : decide (100 < (c.size : Int)) = false := decide_eq_false (by omega)
  have h1 := fun W => hPut ⟨c, vs, vr, re, m0, m1, m2, m3⟩ wide W hs
  have h2 := fun W => hRight ⟨c, vs, vr, re, m0, m1, m2, m3⟩ wide W hs
  have h3 := fun W => rright9_any ⟨c, vs, vr, re, m0, m1, m2, m3⟩ wide W
  have h4 := fun W => repplain_any ⟨c, vs, vr, re, m0, m1, m2, m3⟩ W
  simp only [putE, hr] at h1
  rw [hr] at h2 h3
  simp only [repV] at h1 h2 h3 h4
  have h5 := fun W => hGet (putR ⟨c, vs, vr, re, m0, m1, m2, m3⟩ wide) wide W (putR_size _ _ hr)
  rw [rep_get_put _ _ hr] at h5
  have h6 := fun W => rput9_any ⟨c, vs, vr, re, m0, m1, m2, m3⟩ wide W hr
  simp only [backR, ctlR, hp, Bool.false_eq_true, if_false, repV] at h5 h6
  have hq := fun W => rep_eq_cod ⟨c, vs, vr, re, m0, m1, m2, m3⟩ W
  simp only [repV] at hq
  generalize putR ⟨c, vs, vr, re, m0, m1, m2, m3⟩ wide = S at *
  have hss : (S.toList == S.toList) = true := beq_self_eq_true _
  have HGET := Lib.hid h5
  have HRP := Lib.hid h6
  clear h5 h6 hGet hr hs
  have HPUT := Lib.hid h1
  have HRI := Lib.hid h2
  have HRR := Lib.hid h3
  have HPL := Lib.hid h4
  clear h1 h2 h3 h4 hPut hRight
  unfold repV
  simp only
  go_enter Try.func3, Try.ntmps3
  go_wp2_with fail
  go_at_call 5
  refine (HAW.out _).mono ?_
  rintro e w1 ⟨rfl, hb⟩
  have HB1 := Lib.hid (HB0.out.trans (hb.mono HB0.out.size))
  have HX1 := Lib.hid (HX0.out.below hb)
  clear hb HB0 HX0
  have a0 := HX1.out.cell 0 rfl
  have a1 := HX1.out.cell 1 rfl
  have a2 := HX1.out.cell 2 rfl
  have a3 := HX1.out.cell 3 rfl
  have a4 := HX1.out.cell 4 rfl
  have a5 := HX1.out.cell 5 rfl
  have a6 := HX1.out.cell 6 rfl
  have a7 := HX1.out.cell 7 rfl
  go_wp2_with fail
  go_at_call 6
  refine (HPL.out _).mono ?_
  rintro e w2 ⟨rfl, hb⟩
  have HB2 := Lib.hid (HB1.out.trans (hb.mono HB1.out.size))
  have HX2 := Lib.hid (HX1.out.below hb)
  clear hb HB1 HX1
  clear a0 a1 a2 a3 a4 a5 a6 a7
  go_upto_region 6 with (fail)
  have HB3 := Lib.hid (HB2.out.alloc HB2.out.size (.cells #[.string c, .int .i64 vs, .int .i64 vr, .bool re, .bool m0, .bool m1, .bool m2, .bool m3] 27))
  have HX3 := Lib.hid (HX2.out.alloc (.cells #[.string c, .int .i64 vs, .int .i64 vr, .bool re, .bool m0, .bool m1, .bool m2, .bool m3] 27))
  have HY3 := Lib.hid (RowAt.new w2 w2.heap.size rfl [.string c, .int .i64 vs, .int .i64 vr, .bool re, .bool m0, .bool m1, .bool m2, .bool m3] 27)
  have hlg : w.heap.size < w2.heap.size := (HX2.out.get 0 rfl).lt
  generalize w2.alloc (.cells #[.string c, .int .i64 vs, .int .i64 vr, .bool re, .bool m0, .bool m1, .bool m2, .bool m3] 27) = w3 at *
  generalize w2.heap.size = g at *
  clear HB2 HX2
  have a0 := HX3.out.cell 0 rfl
  have a1 := HX3.out.cell 1 rfl
  have a2 := HX3.out.cell 2 rfl
  have a3 := HX3.out.cell 3 rfl
  have a4 := HX3.out.cell 4 rfl
  have a5 := HX3.out.cell 5 rfl
  have a6 := HX3.out.cell 6 rfl
  have a7 := HX3.out.cell 7 rfl
  have b0 := HY3.out.cell 0 rfl
  have b1 := HY3.out.cell 1 rfl
  have b2 := HY3.out.cell 2 rfl
  have b3 := HY3.out.cell 3 rfl
  have b4 := HY3.out.cell 4 rfl
  have b5 := HY3.out.cell 5 rfl
  have b6 := HY3.out.cell 6 rfl
  have b7 := HY3.out.cell 7 rfl
  go_wp2_with fail
  go_at_call 7
  refine (HRR.out _).mono ?_
  rintro e w4 ⟨rfl, hb⟩
  have HB4 := Lib.hid (HB3.out.trans (hb.mono HB3.out.size))
  have HX4 := Lib.hid (HX3.out.below hb)
  have HY4 := Lib.hid (HY3.out.below hb)
  clear hb HB3 HX3 HY3
  clear a0 a1 a2 a3 a4 a5 a6 a7 b0 b1 b2 b3 b4 b5 b6 b7
  have a0 := HX4.out.cell 0 rfl
  have a1 := HX4.out.cell 1 rfl
  have a2 := HX4.out.cell 2 rfl
  have a3 := HX4.out.cell 3 rfl
  have a4 := HX4.out.cell 4 rfl
  have a5 := HX4.out.cell 5 rfl
  have a6 := HX4.out.cell 6 rfl
  have a7 := HX4.out.cell 7 rfl
  go_wp2_with fail
  go_at_call 8
  refine (HPUT.out _).mono ?_
  rintro e w5 ⟨rfl, hb⟩
  have HB5 := Lib.hid (HB4.out.trans (hb.mono HB4.out.size))
  have HX5 := Lib.hid (HX4.out.below hb)
  have HY5 := Lib.hid (HY4.out.below hb)
  clear hb HB4 HX4 HY4
  clear a0 a1 a2 a3 a4 a5 a6 a7
  have a0 := HX5.out.cell 0 rfl
  have a1 := HX5.out.cell 1 rfl
  have a2 := HX5.out.cell 2 rfl
  have a3 := HX5.out.cell 3 rfl
  have a4 := HX5.out.cell 4 rfl
  have a5 := HX5.out.cell 5 rfl
  have a6 := HX5.out.cell 6 rfl
  have a7 := HX5.out.cell 7 rfl
  go_wp2_with fail
  go_at_call 9
  refine (HRI.out _).mono ?_
  rintro e w6 ⟨rfl, hb⟩
  have HB6 := Lib.hid (HB5.out.trans (hb.mono HB5.out.size))
  have HX6 := Lib.hid (HX5.out.below hb)
  have HY6 := Lib.hid (HY5.out.below hb)
  clear hb HB5 HX5 HY5
  clear a0 a1 a2 a3 a4 a5 a6 a7
  go_wp2_with fail
  go_at_call 10
  refine (HGET.out _).mono ?_
  rintro e w7 ⟨rfl, hb⟩
  have HB7 := Lib.hid (HB6.out.trans (hb.mono HB6.out.size))
  have HX7 := Lib.hid (HX6.out.below hb)
  have HY7 := Lib.hid (HY6.out.below hb)
  clear hb HB6 HX6 HY6
  go_upto_region 13 with (fail)
  have HB8 := Lib.hid (HB7.out.alloc HB7.out.size (.cells #[.string c, .int .i64 vs, .int .i64 vr, .bool re, .bool m0, .bool m1, .bool m2, .bool m3] 23))
  have HX8 := Lib.hid (HX7.out.alloc (.cells #[.string c, .int .i64 vs, .int .i64 vr, .bool re, .bool m0, .bool m1, .bool m2, .bool m3] 23))
  have HY8 := Lib.hid (HY7.out.alloc (.cells #[.string c, .int .i64 vs, .int .i64 vr, .bool re, .bool m0, .bool m1, .bool m2, .bool m3] 23))
  have HQ8 := Lib.hid (RowAt.new w7 w7.heap.size rfl [.string c, .int .i64 vs, .int .i64 vr, .bool re, .bool m0, .bool m1, .bool m2, .bool m3] 23)
  have hlg2 : w.heap.size < w7.heap.size := (HX7.out.get 0 rfl).lt
  generalize w7.alloc (.cells #[.string c, .int .i64 vs, .int .i64 vr, .bool re, .bool m0, .bool m1, .bool m2, .bool m3] 23) = w8 at *
  generalize w7.heap.size = g2 at *
  clear HB7 HX7 HY7
  have a0 := HX8.out.cell 0 rfl
  have a1 := HX8.out.cell 1 rfl
  have a2 := HX8.out.cell 2 rfl
  have a3 := HX8.out.cell 3 rfl
  have a4 := HX8.out.cell 4 rfl
  have a5 := HX8.out.cell 5 rfl
  have a6 := HX8.out.cell 6 rfl
  have a7 := HX8.out.cell 7 rfl
  cases wide
  · go_upto_region 15 with (fail)
    clear a0 a1 a2 a3 a4 a5 a6 a7
    have b0 := HY8.out.cell 0 rfl
    have b1 := HY8.out.cell 1 rfl
    have b2 := HY8.out.cell 2 rfl
    have b3 := HY8.out.cell 3 rfl
    have b4 := HY8.out.cell 4 rfl
    have b5 := HY8.out.cell 5 rfl
    have b6 := HY8.out.cell 6 rfl
    have b7 := HY8.out.cell 7 rfl
    go_wp2_with fail
    go_at_call 11
    refine (HRP.out _).mono ?_
    rintro e w9 ⟨rfl, hb⟩
    have HB9 := Lib.hid (HB8.out.trans (hb.mono HB8.out.size))
    have HX9 := Lib.hid (HX8.out.below hb)
    have HQ9 := Lib.hid (HQ8.out.below hb)
    clear hb HB8 HX8 HQ8
    clear HY8
    clear b0 b1 b2 b3 b4 b5 b6 b7
    have a0 := HX9.out.cell 0 rfl
    have a1 := HX9.out.cell 1 rfl
    have a2 := HX9.out.cell 2 rfl
    have a3 := HX9.out.cell 3 rfl
    have a4 := HX9.out.cell 4 rfl
    have a5 := HX9.out.cell 5 rfl
    have a6 := HX9.out.cell 6 rfl
    have a7 := HX9.out.cell 7 rfl
    have b0 := HQ9.out.cell 0 rfl
    have b1 := HQ9.out.cell 1 rfl
    have b2 := HQ9.out.cell 2 rfl
    have b3 := HQ9.out.cell 3 rfl
    have b4 := HQ9.out.cell 4 rfl
    have b5 := HQ9.out.cell 5 rfl
    have b6 := HQ9.out.cell 6 rfl
    have b7 := HQ9.out.cell 7 rfl
    go_wp2_with fail
    go_ret
    exact ⟨rfl, HB9.out⟩
  · have hz : ((c.size : Int) == 1) = false := hp
    go_upto_region 15 with (fail)
    clear a0 a1 a2 a3 a4 a5 a6 a7
    have b0 := HY8.out.cell 0 rfl
    have b1 := HY8.out.cell 1 rfl
    have b2 := HY8.out.cell 2 rfl
    have b3 := HY8.out.cell 3 rfl
    have b4 := HY8.out.cell 4 rfl
    have b5 := HY8.out.cell 5 rfl
    have b6 := HY8.out.cell 6 rfl
    have b7 := HY8.out.cell 7 rfl
    go_wp2_with fail
    go_at_call 11
    refine (HRP.out _).mono ?_
    rintro e w9 ⟨rfl, hb⟩
    have HB9 := Lib.hid (HB8.out.trans (hb.mono HB8.out.size))
    have HX9 := Lib.hid (HX8.out.below hb)
    have HQ9 := Lib.hid (HQ8.out.below hb)
    clear hb HB8 HX8 HQ8
    clear HY8
    clear b0 b1 b2 b3 b4 b5 b6 b7
    have a0 := HX9.out.cell 0 rfl
    have a1 := HX9.out.cell 1 rfl
    have a2 := HX9.out.cell 2 rfl
    have a3 := HX9.out.cell 3 rfl
    have a4 := HX9.out.cell 4 rfl
    have a5 := HX9.out.cell 5 rfl
    have a6 := HX9.out.cell 6 rfl
    have a7 := HX9.out.cell 7 rfl
    have b0 := HQ9.out.cell 0 rfl
    have b1 := HQ9.out.cell 1 rfl
    have b2 := HQ9.out.cell 2 rfl
    have b3 := HQ9.out.cell 3 rfl
    have b4 := HQ9.out.cell 4 rfl
    have b5 := HQ9.out.cell 5 rfl
    have b6 := HQ9.out.cell 6 rfl
    have b7 := HQ9.out.cell 7 rfl
    go_wp2_with fail
    go_ret
    exact ⟨rfl, HB9.out⟩
set_option maxHeartbeats 2000000 in
theorem repputs_pad (hPut : RepPutOk) (hRight : RepRightOk) (hGet : RepGetOk) (c : ByteArray) (vs vr : Int) (re m0 m1 m2 m3 wide : Bool) (w : World) (hs : c.size ≤ 100) (hr : rightR ⟨c, vs, vr, re, m0, m1, m2, m3⟩ wide = true) (hp : (wide && ((c.size : Int) == 1)) = true) : Calls Try.prog 3 #[repV ⟨c, vs, vr, re, m0, m1, m2, m3⟩, .bool wide] w fun e w' => e = .returned (.bool true) ∧ Below w.heap.size w w' := by
  have HAW := Lib.hid (fun W => repawake_any hPut W)
  have HB0 := Lib.hid ((Below.refl _ w).alloc (Nat.le_refl _) (.cells #[.string c, .int .i64 vs, .int .i64 vr, .bool re, .bool m0, .bool m1, .bool m2, .bool m3] 23))
  have HX0 := Lib.hid (RowAt.new w w.heap.size rfl [.string c, .int .i64 vs, .int .i64 vr, .bool re, .bool m0, .bool m1, .bool m2, .bool m3] 23)
  have hd : decide (100 < (c.size : Int)) = false := decide_eq_false (by omega)
  have h1 := fun W => hPut ⟨c, vs, vr, re, m0, m1, m2, m3⟩ wide W hs
  have h2 := fun W => hRight ⟨c, vs, vr, re, m0, m1, m2, m3⟩ wide W hs
  have h3 := fun W => rright9_any ⟨c, vs, vr, re, m0, m1, m2, m3⟩ wide W
  have h4 := fun W => repplain_any ⟨c, vs, vr, re, m0, m1, m2, m3⟩ W
  simp only [putE, hr] at h1
  rw [hr] at h2 h3
  simp only [repV] at h1 h2 h3 h4
  have h5 := fun W => hGet (putR ⟨c, vs, vr, re, m0, m1, m2, m3⟩ wide) wide W (putR_size _ _ hr)
  rw [rep_get_put _ _ hr] at h5
  have h6 := fun W => rput9_any ⟨c, vs, vr, re, m0, m1, m2, m3⟩ wide W hr
  simp only [backR, ctlR, hp, if_true, repV] at h5 h6
  have ha := fun (W : World) => run_string_add_sum (P := Try.prog) (w := W) c ⟨#[0]⟩ (by show c.size + 1 ≤ _; omega)
  have hq := fun W => rep_eq_cod ⟨c ++ ⟨#[0]⟩, vs, vr, re, m0, m1, m2, m3⟩ W
  simp only [repV] at hq
  obtain ⟨hw, hz⟩ := Bool.and_eq_true_iff.1 hp
  generalize c ++ (⟨#[0]⟩ : ByteArray) = d at *
  generalize putR ⟨c, vs, vr, re, m0, m1, m2, m3⟩ wide = S at *
  have hss : (S.toList == S.toList) = true := beq_self_eq_true _
  have HGET := Lib.hid h5
  have HRP := Lib.hid h6
  clear h5 h6 hGet hr hs
  subst hw
  clear hp
  have HPUT := Lib.hid h1
  have HRI := Lib.hid h2
  have HRR := Lib.hid h3
  have HPL := Lib.hid h4
  clear h1 h2 h3 h4 hPut hRight
  unfold repV
  simp only
  go_enter Try.func3, Try.ntmps3
  go_wp2_with fail
  go_at_call 5
  refine (HAW.out _).mono ?_
  rintro e w1 ⟨rfl, hb⟩
  have HB1 := Lib.hid (HB0.out.trans (hb.mono HB0.out.size))
  have HX1 := Lib.hid (HX0.out.below hb)
  clear hb HB0 HX0
  have a0 := HX1.out.cell 0 rfl
  have a1 := HX1.out.cell 1 rfl
  have a2 := HX1.out.cell 2 rfl
  have a3 := HX1.out.cell 3 rfl
  have a4 := HX1.out.cell 4 rfl
  have a5 := HX1.out.cell 5 rfl
  have a6 := HX1.out.cell 6 rfl
  have a7 := HX1.out.cell 7 rfl
  go_wp2_with fail
  go_at_call 6
  refine (HPL.out _).mono ?_
  rintro e w2 ⟨rfl, hb⟩
  have HB2 := Lib.hid (HB1.out.trans (hb.mono HB1.out.size))
  have HX2 := Lib.hid (HX1.out.below hb)
  clear hb HB1 HX1
  clear a0 a1 a2 a3 a4 a5 a6 a7
  go_upto_region 6 with (fail)
  have HB3 := Lib.hid (HB2.out.alloc HB2.out.size (.cells #[.string c, .int .i64 vs, .int .i64 vr, .bool re, .bool m0, .bool m1, .bool m2, .bool m3] 27))
  have HX3 := Lib.hid (HX2.out.alloc (.cells #[.string c, .int .i64 vs, .int .i64 vr, .bool re, .bool m0, .bool m1, .bool m2, .bool m3] 27))
  have HY3 := Lib.hid (RowAt.new w2 w2.heap.size rfl [.string c, .int .i64 vs, .int .i64 vr, .bool re, .bool m0, .bool m1, .bool m2, .bool m3] 27)
  have hlg : w.heap.size < w2.heap.size := (HX2.out.get 0 rfl).lt
  generalize w2.alloc (.cells #[.string c, .int .i64 vs, .int .i64 vr, .bool re, .bool m0, .bool m1, .bool m2, .bool m3] 27) = w3 at *
  generalize w2.heap.size = g at *
  clear HB2 HX2
  have a0 := HX3.out.cell 0 rfl
  have a1 := HX3.out.cell 1 rfl
  have a2 := HX3.out.cell 2 rfl
  have a3 := HX3.out.cell 3 rfl
  have a4 := HX3.out.cell 4 rfl
  have a5 := HX3.out.cell 5 rfl
  have a6 := HX3.out.cell 6 rfl
  have a7 := HX3.out.cell 7 rfl
  have b0 := HY3.out.cell 0 rfl
  have b1 := HY3.out.cell 1 rfl
  have b2 := HY3.out.cell 2 rfl
  have b3 := HY3.out.cell 3 rfl
  have b4 := HY3.out.cell 4 rfl
  have b5 := HY3.out.cell 5 rfl
  have b6 := HY3.out.cell 6 rfl
  have b7 := HY3.out.cell 7 rfl
  go_wp2_with fail
  go_at_call 7
  refine (HRR.out _).mono ?_
  rintro e w4 ⟨rfl, hb⟩
  have HB4 := Lib.hid (HB3.out.trans (hb.mono HB3.out.size))
  have HX4 := Lib.hid (HX3.out.below hb)
  have HY4 := Lib.hid (HY3.out.below hb)
  clear hb HB3 HX3 HY3
  clear a0 a1 a2 a3 a4 a5 a6 a7 b0 b1 b2 b3 b4 b5 b6 b7
  have a0 := HX4.out.cell 0 rfl
  have a1 := HX4.out.cell 1 rfl
  have a2 := HX4.out.cell 2 rfl
  have a3 := HX4.out.cell 3 rfl
  have a4 := HX4.out.cell 4 rfl
  have a5 := HX4.out.cell 5 rfl
  have a6 := HX4.out.cell 6 rfl
  have a7 := HX4.out.cell 7 rfl
  go_wp2_with fail
  go_at_call 8
  refine (HPUT.out _).mono ?_
  rintro e w5 ⟨rfl, hb⟩
  have HB5 := Lib.hid (HB4.out.trans (hb.mono HB4.out.size))
  have HX5 := Lib.hid (HX4.out.below hb)
  have HY5 := Lib.hid (HY4.out.below hb)
  clear hb HB4 HX4 HY4
  clear a0 a1 a2 a3 a4 a5 a6 a7
  have a0 := HX5.out.cell 0 rfl
  have a1 := HX5.out.cell 1 rfl
  have a2 := HX5.out.cell 2 rfl
  have a3 := HX5.out.cell 3 rfl
  have a4 := HX5.out.cell 4 rfl
  have a5 := HX5.out.cell 5 rfl
  have a6 := HX5.out.cell 6 rfl
  have a7 := HX5.out.cell 7 rfl
  go_wp2_with fail
  go_at_call 9
  refine (HRI.out _).mono ?_
  rintro e w6 ⟨rfl, hb⟩
  have HB6 := Lib.hid (HB5.out.trans (hb.mono HB5.out.size))
  have HX6 := Lib.hid (HX5.out.below hb)
  have HY6 := Lib.hid (HY5.out.below hb)
  clear hb HB5 HX5 HY5
  clear a0 a1 a2 a3 a4 a5 a6 a7
  go_wp2_with fail
  go_at_call 10
  refine (HGET.out _).mono ?_
  rintro e w7 ⟨rfl, hb⟩
  have HB7 := Lib.hid (HB6.out.trans (hb.mono HB6.out.size))
  have HX7 := Lib.hid (HX6.out.below hb)
  have HY7 := Lib.hid (HY6.out.below hb)
  clear hb HB6 HX6 HY6
  go_upto_region 13 with (fail)
  have HB8 := Lib.hid (HB7.out.alloc HB7.out.size (.cells #[.string d, .int .i64 vs, .int .i64 vr, .bool re, .bool m0, .bool m1, .bool m2, .bool m3] 23))
  have HX8 := Lib.hid (HX7.out.alloc (.cells #[.string d, .int .i64 vs, .int .i64 vr, .bool re, .bool m0, .bool m1, .bool m2, .bool m3] 23))
  have HY8 := Lib.hid (HY7.out.alloc (.cells #[.string d, .int .i64 vs, .int .i64 vr, .bool re, .bool m0, .bool m1, .bool m2, .bool m3] 23))
  have HQ8 := Lib.hid (RowAt.new w7 w7.heap.size rfl [.string d, .int .i64 vs, .int .i64 vr, .bool re, .bool m0, .bool m1, .bool m2, .bool m3] 23)
  have hlg2 : w.heap.size < w7.heap.size := (HX7.out.get 0 rfl).lt
  generalize w7.alloc (.cells #[.string d, .int .i64 vs, .int .i64 vr, .bool re, .bool m0, .bool m1, .bool m2, .bool m3] 23) = w8 at *
  generalize w7.heap.size = g2 at *
  clear HB7 HX7 HY7
  have a0 := HX8.out.cell 0 rfl
  have a1 := HX8.out.cell 1 rfl
  have a2 := HX8.out.cell 2 rfl
  have a3 := HX8.out.cell 3 rfl
  have a4 := HX8.out.cell 4 rfl
  have a5 := HX8.out.cell 5 rfl
  have a6 := HX8.out.cell 6 rfl
  have a7 := HX8.out.cell 7 rfl
  have af := (HX8.out.get 0 rfl).free
  go_upto_region 15 with (fail)
  have HX9 := Lib.hid (HX8.out.put 0 (.string d) [.string d, .int .i64 vs, .int .i64 vr, .bool re, .bool m0, .bool m1, .bool m2, .bool m3] rfl)
  have HY9 := Lib.hid (HY8.out.other (p := 0) (.string d) (show w.heap.size ≠ g by omega))
  have HQ9 := Lib.hid (HQ8.out.other (p := 0) (.string d) (show w.heap.size ≠ g2 by omega))
  have HB9 := Lib.hid (HB8.out.setCell (p := ⟨w.heap.size, 0, none⟩) (Nat.le_refl _) (.string d))
  generalize w8.setCell ⟨w.heap.size, 0, none⟩ (.string d) = w9 at *
  clear HX8 HY8 HQ8 HB8 af
  clear a0 a1 a2 a3 a4 a5 a6 a7
  have b0 := HY9.out.cell 0 rfl
  have b1 := HY9.out.cell 1 rfl
  have b2 := HY9.out.cell 2 rfl
  have b3 := HY9.out.cell 3 rfl
  have b4 := HY9.out.cell 4 rfl
  have b5 := HY9.out.cell 5 rfl
  have b6 := HY9.out.cell 6 rfl
  have b7 := HY9.out.cell 7 rfl
  go_wp2_with fail
  go_at_call 11
  refine (HRP.out _).mono ?_
  rintro e w10 ⟨rfl, hb⟩
  have HB10 := Lib.hid (HB9.out.trans (hb.mono HB9.out.size))
  have HX10 := Lib.hid (HX9.out.below hb)
  have HQ10 := Lib.hid (HQ9.out.below hb)
  clear hb HB9 HX9 HQ9
  clear HY9
  clear b0 b1 b2 b3 b4 b5 b6 b7
  have a0 := HX10.out.cell 0 rfl
  have a1 := HX10.out.cell 1 rfl
  have a2 := HX10.out.cell 2 rfl
  have a3 := HX10.out.cell 3 rfl
  have a4 := HX10.out.cell 4 rfl
  have a5 := HX10.out.cell 5 rfl
  have a6 := HX10.out.cell 6 rfl
  have a7 := HX10.out.cell 7 rfl
  have b0 := HQ10.out.cell 0 rfl
  have b1 := HQ10.out.cell 1 rfl
  have b2 := HQ10.out.cell 2 rfl
  have b3 := HQ10.out.cell 3 rfl
  have b4 := HQ10.out.cell 4 rfl
  have b5 := HQ10.out.cell 5 rfl
  have b6 := HQ10.out.cell 6 rfl
  have b7 := HQ10.out.cell 7 rfl
  go_wp2_with fail
  go_ret
  exact ⟨rfl, HB10.out⟩
theorem repputs_any (hPut : RepPutOk) (hRight : RepRightOk) (hGet : RepGetOk) (r : Rp) (wide : Bool) (w : World) : Calls Try.prog 3 #[repV r, .bool wide] w fun e w' => e = .returned (.bool true) ∧ Below w.heap.size w w' := by
  obtain ⟨c, vs, vr, re, m0, m1, m2, m3⟩ := r
  by_cases hs : c.size ≤ 100
  · cases hr : rightR ⟨c, vs, vr, re, m0, m1, m2, m3⟩ wide
    · exact repputs_no hPut hRight c vs vr re m0 m1 m2 m3 wide w hs hr
    · cases hp : (wide && ((c.size : Int) == 1))
      · exact repputs_same hPut hRight hGet c vs vr re m0 m1 m2 m3 wide w hs hr hp
      · exact repputs_pad hPut hRight hGet c vs vr re m0 m1 m2 m3 wide w hs hr hp
  · exact repputs_great hPut c vs vr re m0 m1 m2 m3 wide w hs
end Go.Proofs.Ytdaagllacmnekaa
