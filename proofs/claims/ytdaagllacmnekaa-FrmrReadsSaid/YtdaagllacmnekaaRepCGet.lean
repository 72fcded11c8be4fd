/-
The landed code's Get, of any bytes (written by tools/gen9/gen_cget.py).
-/
import Derived.Test.YtdaagllacmnekaaRepCRead
namespace Go.Proofs.Ytdaagllacmnekaa
open Go.RowKit
set_option maxRecDepth 20000
set_option maxHeartbeats 2000000 in
theorem cget9_narrow (b : ByteArray) (w : World) : Calls Try.prog 10 #[.string b, .bool false] w fun e w' => e = .returned (.tuple #[repV (getR b false).1, .int .i64 (getR b false).2]) ∧ Below w.heap.size w w' := by
  have HB := Lib.hid ((Below.refl _ w).alloc (Nat.le_refl _) (.cells (rowR zeroR).toArray 23))
  have HR := Lib.hid (RowAt.new w w.heap.size rfl (rowR zeroR) 23)
  simp only [rowR, zeroR] at HB HR
  rcases Nat.lt_trichotomy b.size 3 with h | h | h
  · have hg : getR b false = (zeroR, 4) := by
      unfold getR
      rw [if_pos (show b.size < sizeB false from h)]
    rw [hg]
    have S := Lib.hid (stored8 HR.out rfl (.string ⟨#[]⟩) (.int .i64 0) (.int .i64 0) (.bool false) (.bool false) (.bool false) (.bool false) (.bool false))
    have HE := Lib.hid (set8_below (m := w.heap.size) HB.out (Nat.le_refl _) (.string ⟨#[]⟩) (.int .i64 0) (.int .i64 0) (.bool false) (.bool false) (.bool false) (.bool false) (.bool false))
    have x0 := HR.out.cell 0 rfl
    have x1 := HR.out.cell 1 rfl
    have x2 := HR.out.cell 2 rfl
    have x3 := HR.out.cell 3 rfl
    have x4 := HR.out.cell 4 rfl
    have x5 := HR.out.cell 5 rfl
    have x6 := HR.out.cell 6 rfl
    have x7 := HR.out.cell 7 rfl
    have f0 := (HR.out.get 0 rfl).free
    have f1 := (HR.out.get 1 rfl).free
    have f2 := (HR.out.get 2 rfl).free
    have f3 := (HR.out.get 3 rfl).free
    have f4 := (HR.out.get 4 rfl).free
    have f5 := (HR.out.get 5 rfl).free
    have f6 := (HR.out.get 6 rfl).free
    have f7 := (HR.out.get 7 rfl).free
    go_enter Try.func10, Try.ntmps10
    go_upto_region 1 with (fail)
    generalize w.alloc (.cells #[.string ⟨#[]⟩, .int .i64 0, .int .i64 0, .bool false, .bool false, .bool false, .bool false, .bool false] 23) = w1 at *
    clear HB HR hg
    go_wp2_with fail
    have s0 := S.out.cell 0 rfl
    have s1 := S.out.cell 1 rfl
    have s2 := S.out.cell 2 rfl
    have s3 := S.out.cell 3 rfl
    have s4 := S.out.cell 4 rfl
    have s5 := S.out.cell 5 rfl
    have s6 := S.out.cell 6 rfl
    have s7 := S.out.cell 7 rfl
    exact bodyPost_ret (v := .tuple #[repV zeroR, .int .i64 4]) (by simp [results, Try.results10, go_sem, s0, s1, s2, s3, s4, s5, s6, s7, repV, zeroR]) rfl ⟨rfl, HE.out⟩
  · obtain ⟨x0, x1, x2, hb⟩ := bytes3 b h
    have hg : getR b false = if putR (readN x0 x1 x2) false = b then (readN x0 x1 x2, 0) else (zeroR, 2) := by
      unfold getR
      rw [if_neg (show ¬ b.size < sizeB false by show ¬ b.size < 3; omega), if_neg (show ¬ sizeB false < b.size by show ¬ 3 < b.size; omega), hb]
      rfl
    have hput := fun W => cput9_yes (readN x0 x1 x2) false W (readN_right x0 x1 x2)
    have hrd := fun W => cread_narrow b x0 x1 x2 hb W
    rw [hg]
    clear hg hb
    generalize putR (readN x0 x1 x2) false = P at *
    generalize readN x0 x1 x2 = r at *
    generalize hG : (if P = b then (r, 0) else (zeroR, 2) : Rp × Int) = G
    obtain ⟨C, V0, V1, V2, N0, N1, N2, N3⟩ := r
    simp only [repV] at hput hrd
    have HPUT := Lib.hid hput
    have HRD := Lib.hid hrd
    have HG := Lib.hid hG
    clear hput hrd hG
    go_enter Try.func10, Try.ntmps10
    go_upto_region 1 with (fail)
    generalize w.alloc (.cells #[.string ⟨#[]⟩, .int .i64 0, .int .i64 0, .bool false, .bool false, .bool false, .bool false, .bool false] 23) = w1 at *
    go_wp2_with fail
    go_at_call 19
    refine (HRD.out _).mono ?_
    rintro e w2 ⟨rfl, hb⟩
    replace HR := Lib.hid (HR.out.below hb)
    replace HB := Lib.hid (HB.out.trans (hb.mono HB.out.size))
    clear hb HRD
    have HZ2 := Lib.hid (HR.out.alloc (.cells #[.string C, .int .i64 V0, .int .i64 V1, .bool V2, .bool N0, .bool N1, .bool N2, .bool N3] 23))
    have HB2 := Lib.hid (HB.out.alloc HB.out.size (.cells #[.string C, .int .i64 V0, .int .i64 V1, .bool V2, .bool N0, .bool N1, .bool N2, .bool N3] 23))
    have HR2 := Lib.hid (RowAt.new w2 w2.heap.size rfl [.string C, .int .i64 V0, .int .i64 V1, .bool V2, .bool N0, .bool N1, .bool N2, .bool N3] 23)
    clear HB HR
    go_upto_region 9 with (fail)
    generalize w2.alloc (.cells #[.string C, .int .i64 V0, .int .i64 V1, .bool V2, .bool N0, .bool N1, .bool N2, .bool N3] 23) = w3 at *
    have l0 := HR2.out.cell 0 rfl
    have l1 := HR2.out.cell 1 rfl
    have l2 := HR2.out.cell 2 rfl
    have l3 := HR2.out.cell 3 rfl
    have l4 := HR2.out.cell 4 rfl
    have l5 := HR2.out.cell 5 rfl
    have l6 := HR2.out.cell 6 rfl
    have l7 := HR2.out.cell 7 rfl
    go_wp2_with fail
    go_at_call 8
    refine (HPUT.out _).mono ?_
    rintro e w5 ⟨rfl, hb⟩
    have HO5 := Lib.hid (HZ2.out.below hb)
    have HQ5 := Lib.hid (HB2.out.trans (hb.mono HB2.out.size))
    have HK5 := Lib.hid (HR2.out.below hb)
    clear hb HZ2 HB2 HR2 HPUT l0 l1 l2 l3 l4 l5 l6 l7
    have x0 := HO5.out.cell 0 rfl
    have x1 := HO5.out.cell 1 rfl
    have x2 := HO5.out.cell 2 rfl
    have x3 := HO5.out.cell 3 rfl
    have x4 := HO5.out.cell 4 rfl
    have x5 := HO5.out.cell 5 rfl
    have x6 := HO5.out.cell 6 rfl
    have x7 := HO5.out.cell 7 rfl
    have f0 := (HO5.out.get 0 rfl).free
    have f1 := (HO5.out.get 1 rfl).free
    have f2 := (HO5.out.get 2 rfl).free
    have f3 := (HO5.out.get 3 rfl).free
    have f4 := (HO5.out.get 4 rfl).free
    have f5 := (HO5.out.get 5 rfl).free
    have f6 := (HO5.out.get 6 rfl).free
    have f7 := (HO5.out.get 7 rfl).free
    by_cases hq : P = b
    · obtain rfl : (⟨C, V0, V1, V2, N0, N1, N2, N3⟩, 0) = G := by
        have := HG.out
        rwa [if_pos hq] at this
      clear HG
      subst hq
      have y0 := HK5.out.cell 0 rfl
      have y1 := HK5.out.cell 1 rfl
      have y2 := HK5.out.cell 2 rfl
      have y3 := HK5.out.cell 3 rfl
      have y4 := HK5.out.cell 4 rfl
      have y5 := HK5.out.cell 5 rfl
      have y6 := HK5.out.cell 6 rfl
      have y7 := HK5.out.cell 7 rfl
      have S := Lib.hid (stored8 HO5.out rfl (.string C) (.int .i64 V0) (.int .i64 V1) (.bool V2) (.bool N0) (.bool N1) (.bool N2) (.bool N3))
      have HE := Lib.hid (set8_below (m := w.heap.size) HQ5.out (Nat.le_refl _) (.string C) (.int .i64 V0) (.int .i64 V1) (.bool V2) (.bool N0) (.bool N1) (.bool N2) (.bool N3))
      go_wp2_with fail
      have s0 := S.out.cell 0 rfl
      have s1 := S.out.cell 1 rfl
      have s2 := S.out.cell 2 rfl
      have s3 := S.out.cell 3 rfl
      have s4 := S.out.cell 4 rfl
      have s5 := S.out.cell 5 rfl
      have s6 := S.out.cell 6 rfl
      have s7 := S.out.cell 7 rfl
      exact bodyPost_ret (v := .tuple #[repV ⟨C, V0, V1, V2, N0, N1, N2, N3⟩, .int .i64 0]) (by simp [results, Try.results10, go_sem, s0, s1, s2, s3, s4, s5, s6, s7, repV]) rfl ⟨rfl, HE.out⟩
    · have hne : (P.toList == b.toList) = false := by
        simp only [beq_eq_false_iff_ne, ne_eq]
        intro he
        rw [ByteArray.toList_eq, ByteArray.toList_eq] at he
        exact hq (bytes_ext' he)
      obtain rfl : (zeroR, 2) = G := by
        have := HG.out
        rwa [if_neg hq] at this
      clear HG
      have S := Lib.hid (stored8 HO5.out rfl (.string ⟨#[]⟩) (.int .i64 0) (.int .i64 0) (.bool false) (.bool false) (.bool false) (.bool false) (.bool false))
      have HE := Lib.hid (set8_below (m := w.heap.size) HQ5.out (Nat.le_refl _) (.string ⟨#[]⟩) (.int .i64 0) (.int .i64 0) (.bool false) (.bool false) (.bool false) (.bool false) (.bool false))
      go_wp2_with fail
      have s0 := S.out.cell 0 rfl
      have s1 := S.out.cell 1 rfl
      have s2 := S.out.cell 2 rfl
      have s3 := S.out.cell 3 rfl
      have s4 := S.out.cell 4 rfl
      have s5 := S.out.cell 5 rfl
      have s6 := S.out.cell 6 rfl
      have s7 := S.out.cell 7 rfl
      exact bodyPost_ret (v := .tuple #[repV zeroR, .int .i64 2]) (by simp [results, Try.results10, go_sem, s0, s1, s2, s3, s4, s5, s6, s7, repV, zeroR]) rfl ⟨rfl, HE.out⟩
  · have hg : getR b false = (zeroR, 5) := by
      unfold getR
      rw [if_neg (show ¬ b.size < sizeB false by show ¬ b.size < 3; omega), if_pos (show sizeB false < b.size from h)]
    rw [hg]
    have S := Lib.hid (stored8 HR.out rfl (.string ⟨#[]⟩) (.int .i64 0) (.int .i64 0) (.bool false) (.bool false) (.bool false) (.bool false) (.bool false))
    have HE := Lib.hid (set8_below (m := w.heap.size) HB.out (Nat.le_refl _) (.string ⟨#[]⟩) (.int .i64 0) (.int .i64 0) (.bool false) (.bool false) (.bool false) (.bool false) (.bool false))
    have x0 := HR.out.cell 0 rfl
    have x1 := HR.out.cell 1 rfl
    have x2 := HR.out.cell 2 rfl
    have x3 := HR.out.cell 3 rfl
    have x4 := HR.out.cell 4 rfl
    have x5 := HR.out.cell 5 rfl
    have x6 := HR.out.cell 6 rfl
    have x7 := HR.out.cell 7 rfl
    have f0 := (HR.out.get 0 rfl).free
    have f1 := (HR.out.get 1 rfl).free
    have f2 := (HR.out.get 2 rfl).free
    have f3 := (HR.out.get 3 rfl).free
    have f4 := (HR.out.get 4 rfl).free
    have f5 := (HR.out.get 5 rfl).free
    have f6 := (HR.out.get 6 rfl).free
    have f7 := (HR.out.get 7 rfl).free
    go_enter Try.func10, Try.ntmps10
    go_upto_region 1 with (fail)
    generalize w.alloc (.cells #[.string ⟨#[]⟩, .int .i64 0, .int .i64 0, .bool false, .bool false, .bool false, .bool false, .bool false] 23) = w1 at *
    clear HB HR hg
    go_wp2_with fail
    have s0 := S.out.cell 0 rfl
    have s1 := S.out.cell 1 rfl
    have s2 := S.out.cell 2 rfl
    have s3 := S.out.cell 3 rfl
    have s4 := S.out.cell 4 rfl
    have s5 := S.out.cell 5 rfl
    have s6 := S.out.cell 6 rfl
    have s7 := S.out.cell 7 rfl
    exact bodyPost_ret (v := .tuple #[repV zeroR, .int .i64 5]) (by simp [results, Try.results10, go_sem, s0, s1, s2, s3, s4, s5, s6, s7, repV, zeroR]) rfl ⟨rfl, HE.out⟩
set_option maxHeartbeats 2000000 in
theorem cget9_wide (b : ByteArray) (w : World) : Calls Try.prog 10 #[.string b, .bool true] w fun e w' => e = .returned (.tuple #[repV (getR b true).1, .int .i64 (getR b true).2]) ∧ Below w.heap.size w w' := by
  have HB := Lib.hid ((Below.refl _ w).alloc (Nat.le_refl _) (.cells (rowR zeroR).toArray 23))
  have HR := Lib.hid (RowAt.new w w.heap.size rfl (rowR zeroR) 23)
  simp only [rowR, zeroR] at HB HR
  rcases Nat.lt_trichotomy b.size 5 with h | h | h
  · have hg : getR b true = (zeroR, 4) := by
      unfold getR
      rw [if_pos (show b.size < sizeB true from h)]
    rw [hg]
    have S := Lib.hid (stored8 HR.out rfl (.string ⟨#[]⟩) (.int .i64 0) (.int .i64 0) (.bool false) (.bool false) (.bool false) (.bool false) (.bool false))
    have HE := Lib.hid (set8_below (m := w.heap.size) HB.out (Nat.le_refl _) (.string ⟨#[]⟩) (.int .i64 0) (.int .i64 0) (.bool false) (.bool false) (.bool false) (.bool false) (.bool false))
    have x0 := HR.out.cell 0 rfl
    have x1 := HR.out.cell 1 rfl
    have x2 := HR.out.cell 2 rfl
    have x3 := HR.out.cell 3 rfl
    have x4 := HR.out.cell 4 rfl
    have x5 := HR.out.cell 5 rfl
    have x6 := HR.out.cell 6 rfl
    have x7 := HR.out.cell 7 rfl
    have f0 := (HR.out.get 0 rfl).free
    have f1 := (HR.out.get 1 rfl).free
    have f2 := (HR.out.get 2 rfl).free
    have f3 := (HR.out.get 3 rfl).free
    have f4 := (HR.out.get 4 rfl).free
    have f5 := (HR.out.get 5 rfl).free
    have f6 := (HR.out.get 6 rfl).free
    have f7 := (HR.out.get 7 rfl).free
    go_enter Try.func10, Try.ntmps10
    go_upto_region 1 with (fail)
    generalize w.alloc (.cells #[.string ⟨#[]⟩, .int .i64 0, .int .i64 0, .bool false, .bool false, .bool false, .bool false, .bool false] 23) = w1 at *
    clear HB HR hg
    go_wp2_with fail
    have s0 := S.out.cell 0 rfl
    have s1 := S.out.cell 1 rfl
    have s2 := S.out.cell 2 rfl
    have s3 := S.out.cell 3 rfl
    have s4 := S.out.cell 4 rfl
    have s5 := S.out.cell 5 rfl
    have s6 := S.out.cell 6 rfl
    have s7 := S.out.cell 7 rfl
    exact bodyPost_ret (v := .tuple #[repV zeroR, .int .i64 4]) (by simp [results, Try.results10, go_sem, s0, s1, s2, s3, s4, s5, s6, s7, repV, zeroR]) rfl ⟨rfl, HE.out⟩
  · obtain ⟨x0, x1, x2, x3, x4, hb⟩ := bytes5 b h
    have hg : getR b true = if putR (readW x0 x1 x2 x3 x4) true = b then (readW x0 x1 x2 x3 x4, 0) else (zeroR, 2) := by
      unfold getR
      rw [if_neg (show ¬ b.size < sizeB true by show ¬ b.size < 5; omega), if_neg (show ¬ sizeB true < b.size by show ¬ 5 < b.size; omega), hb]
      rfl
    have hput := fun W => cput9_yes (readW x0 x1 x2 x3 x4) true W (readW_right x0 x1 x2 x3 x4)
    have hrd := fun W => cread_wide b x0 x1 x2 x3 x4 hb W
    rw [hg]
    clear hg hb
    generalize putR (readW x0 x1 x2 x3 x4) true = P at *
    generalize readW x0 x1 x2 x3 x4 = r at *
    generalize hG : (if P = b then (r, 0) else (zeroR, 2) : Rp × Int) = G
    obtain ⟨C, V0, V1, V2, N0, N1, N2, N3⟩ := r
    simp only [repV] at hput hrd
    have HPUT := Lib.hid hput
    have HRD := Lib.hid hrd
    have HG := Lib.hid hG
    clear hput hrd hG
    go_enter Try.func10, Try.ntmps10
    go_upto_region 1 with (fail)
    generalize w.alloc (.cells #[.string ⟨#[]⟩, .int .i64 0, .int .i64 0, .bool false, .bool false, .bool false, .bool false, .bool false] 23) = w1 at *
    go_wp2_with fail
    go_at_call 19
    refine (HRD.out _).mono ?_
    rintro e w2 ⟨rfl, hb⟩
    replace HR := Lib.hid (HR.out.below hb)
    replace HB := Lib.hid (HB.out.trans (hb.mono HB.out.size))
    clear hb HRD
    have HZ2 := Lib.hid (HR.out.alloc (.cells #[.string C, .int .i64 V0, .int .i64 V1, .bool V2, .bool N0, .bool N1, .bool N2, .bool N3] 23))
    have HB2 := Lib.hid (HB.out.alloc HB.out.size (.cells #[.string C, .int .i64 V0, .int .i64 V1, .bool V2, .bool N0, .bool N1, .bool N2, .bool N3] 23))
    have HR2 := Lib.hid (RowAt.new w2 w2.heap.size rfl [.string C, .int .i64 V0, .int .i64 V1, .bool V2, .bool N0, .bool N1, .bool N2, .bool N3] 23)
    clear HB HR
    go_upto_region 9 with (fail)
    generalize w2.alloc (.cells #[.string C, .int .i64 V0, .int .i64 V1, .bool V2, .bool N0, .bool N1, .bool N2, .bool N3] 23) = w3 at *
    have l0 := HR2.out.cell 0 rfl
    have l1 := HR2.out.cell 1 rfl
    have l2 := HR2.out.cell 2 rfl
    have l3 := HR2.out.cell 3 rfl
    have l4 := HR2.out.cell 4 rfl
    have l5 := HR2.out.cell 5 rfl
    have l6 := HR2.out.cell 6 rfl
    have l7 := HR2.out.cell 7 rfl
    go_wp2_with fail
    go_at_call 8
    refine (HPUT.out _).mono ?_
    rintro e w5 ⟨rfl, hb⟩
    have HO5 := Lib.hid (HZ2.out.below hb)
    have HQ5 := Lib.hid (HB2.out.trans (hb.mono HB2.out.size))
    have HK5 := Lib.hid (HR2.out.below hb)
    clear hb HZ2 HB2 HR2 HPUT l0 l1 l2 l3 l4 l5 l6 l7
    have x0 := HO5.out.cell 0 rfl
    have x1 := HO5.out.cell 1 rfl
    have x2 := HO5.out.cell 2 rfl
    have x3 := HO5.out.cell 3 rfl
    have x4 := HO5.out.cell 4 rfl
    have x5 := HO5.out.cell 5 rfl
    have x6 := HO5.out.cell 6 rfl
    have x7 := HO5.out.cell 7 rfl
    have f0 := (HO5.out.get 0 rfl).free
    have f1 := (HO5.out.get 1 rfl).free
    have f2 := (HO5.out.get 2 rfl).free
    have f3 := (HO5.out.get 3 rfl).free
    have f4 := (HO5.out.get 4 rfl).free
    have f5 := (HO5.out.get 5 rfl).free
    have f6 := (HO5.out.get 6 rfl).free
    have f7 := (HO5.out.get 7 rfl).free
    by_cases hq : P = b
    · obtain rfl : (⟨C, V0, V1, V2, N0, N1, N2, N3⟩, 0) = G := by
        have := HG.out
        rwa [if_pos hq] at this
      clear HG
      subst hq
      have y0 := HK5.out.cell 0 rfl
      have y1 := HK5.out.cell 1 rfl
      have y2 := HK5.out.cell 2 rfl
      have y3 := HK5.out.cell 3 rfl
      have y4 := HK5.out.cell 4 rfl
      have y5 := HK5.out.cell 5 rfl
      have y6 := HK5.out.cell 6 rfl
      have y7 := HK5.out.cell 7 rfl
      have S := Lib.hid (stored8 HO5.out rfl (.string C) (.int .i64 V0) (.int .i64 V1) (.bool V2) (.bool N0) (.bool N1) (.bool N2) (.bool N3))
      have HE := Lib.hid (set8_below (m := w.heap.size) HQ5.out (Nat.le_refl _) (.string C) (.int .i64 V0) (.int .i64 V1) (.bool V2) (.bool N0) (.bool N1) (.bool N2) (.bool N3))
      go_wp2_with fail
      have s0 := S.out.cell 0 rfl
      have s1 := S.out.cell 1 rfl
      have s2 := S.out.cell 2 rfl
      have s3 := S.out.cell 3 rfl
      have s4 := S.out.cell 4 rfl
      have s5 := S.out.cell 5 rfl
      have s6 := S.out.cell 6 rfl
      have s7 := S.out.cell 7 rfl
      exact bodyPost_ret (v := .tuple #[repV ⟨C, V0, V1, V2, N0, N1, N2, N3⟩, .int .i64 0]) (by simp [results, Try.results10, go_sem, s0, s1, s2, s3, s4, s5, s6, s7, repV]) rfl ⟨rfl, HE.out⟩
    · have hne : (P.toList == b.toList) = false := by
        simp only [beq_eq_false_iff_ne, ne_eq]
        intro he
        rw [ByteArray.toList_eq, ByteArray.toList_eq] at he
        exact hq (bytes_ext' he)
      obtain rfl : (zeroR, 2) = G := by
        have := HG.out
        rwa [if_neg hq] at this
      clear HG
      have S := Lib.hid (stored8 HO5.out rfl (.string ⟨#[]⟩) (.int .i64 0) (.int .i64 0) (.bool false) (.bool false) (.bool false) (.bool false) (.bool false))
      have HE := Lib.hid (set8_below (m := w.heap.size) HQ5.out (Nat.le_refl _) (.string ⟨#[]⟩) (.int .i64 0) (.int .i64 0) (.bool false) (.bool false) (.bool false) (.bool false) (.bool false))
      go_wp2_with fail
      have s0 := S.out.cell 0 rfl
      have s1 := S.out.cell 1 rfl
      have s2 := S.out.cell 2 rfl
      have s3 := S.out.cell 3 rfl
      have s4 := S.out.cell 4 rfl
      have s5 := S.out.cell 5 rfl
      have s6 := S.out.cell 6 rfl
      have s7 := S.out.cell 7 rfl
      exact bodyPost_ret (v := .tuple #[repV zeroR, .int .i64 2]) (by simp [results, Try.results10, go_sem, s0, s1, s2, s3, s4, s5, s6, s7, repV, zeroR]) rfl ⟨rfl, HE.out⟩
  · have hg : getR b true = (zeroR, 5) := by
      unfold getR
      rw [if_neg (show ¬ b.size < sizeB true by show ¬ b.size < 5; omega), if_pos (show sizeB true < b.size from h)]
    rw [hg]
    have S := Lib.hid (stored8 HR.out rfl (.string ⟨#[]⟩) (.int .i64 0) (.int .i64 0) (.bool false) (.bool false) (.bool false) (.bool false) (.bool false))
    have HE := Lib.hid (set8_below (m := w.heap.size) HB.out (Nat.le_refl _) (.string ⟨#[]⟩) (.int .i64 0) (.int .i64 0) (.bool false) (.bool false) (.bool false) (.bool false) (.bool false))
    have x0 := HR.out.cell 0 rfl
    have x1 := HR.out.cell 1 rfl
    have x2 := HR.out.cell 2 rfl
    have x3 := HR.out.cell 3 rfl
    have x4 := HR.out.cell 4 rfl
    have x5 := HR.out.cell 5 rfl
    have x6 := HR.out.cell 6 rfl
    have x7 := HR.out.cell 7 rfl
    have f0 := (HR.out.get 0 rfl).free
    have f1 := (HR.out.get 1 rfl).free
    have f2 := (HR.out.get 2 rfl).free
    have f3 := (HR.out.get 3 rfl).free
    have f4 := (HR.out.get 4 rfl).free
    have f5 := (HR.out.get 5 rfl).free
    have f6 := (HR.out.get 6 rfl).free
    have f7 := (HR.out.get 7 rfl).free
    go_enter Try.func10, Try.ntmps10
    go_upto_region 1 with (fail)
    generalize w.alloc (.cells #[.string ⟨#[]⟩, .int .i64 0, .int .i64 0, .bool false, .bool false, .bool false, .bool false, .bool false] 23) = w1 at *
    clear HB HR hg
    go_wp2_with fail
    have s0 := S.out.cell 0 rfl
    have s1 := S.out.cell 1 rfl
    have s2 := S.out.cell 2 rfl
    have s3 := S.out.cell 3 rfl
    have s4 := S.out.cell 4 rfl
    have s5 := S.out.cell 5 rfl
    have s6 := S.out.cell 6 rfl
    have s7 := S.out.cell 7 rfl
    exact bodyPost_ret (v := .tuple #[repV zeroR, .int .i64 5]) (by simp [results, Try.results10, go_sem, s0, s1, s2, s3, s4, s5, s6, s7, repV, zeroR]) rfl ⟨rfl, HE.out⟩
theorem cget9_ok : RepGetOk := fun b wide W _ => by
  cases wide
  · exact cget9_narrow b W
  · exact cget9_wide b W
end Go.Proofs.Ytdaagllacmnekaa
