/-
The document's own Get, of any bytes (written by tools/gen9/gen_rget.py).
-/
import Derived.Test.YtdaagllacmnekaaRepGetP
namespace Go.Proofs.Ytdaagllacmnekaa
open Go.RowKit
set_option maxRecDepth 20000
set_option maxHeartbeats 2000000 in
theorem rget9_narrow (b : ByteArray) (w : World) : Calls Try.prog 12 #[.string b, .bool false] w fun e w' => e = .returned (.tuple #[repV (getR b false).1, .int .i64 (getR b false).2]) ∧ Below w.heap.size w w' := by
  have HB := Lib.hid ((Below.refl _ w).alloc (Nat.le_refl _) (.cells (rowR zeroR).toArray 27))
  have HR := Lib.hid (RowAt.new w w.heap.size rfl (rowR zeroR) 27)
  have hz : (w.alloc (.cells (rowR zeroR).toArray 27)).heap.size = w.heap.size + 1 := by simp
  simp only [rowR, zeroR] at HB HR hz
  rcases Nat.lt_trichotomy b.size 3 with h | h | h
  · have hg : getR b false = (zeroR, 4) := by
      unfold getR
      rw [if_pos (show b.size < sizeB false from h)]
    rw [hg]
    have S := Lib.hid (stored8 HR.out rfl (.string ⟨#[]⟩) (.int .i64 0) (.int .i64 0) (.bool false) (.bool false) (.bool false) (.bool false) (.bool false))
    have HE := Lib.hid (set8_below (m := w.heap.size) HB.out (Nat.le_refl _) (.string ⟨#[]⟩) (.int .i64 0) (.int .i64 0) (.bool false) (.bool false) (.bool false) (.bool false) (.bool false))
    have x0 := HR.out.cell 0 rfl
    have x1 := HR.out.cell 1 rfl
    have x2 := HR.out.cell 2 rfl
    have x3 := HR.out.cell 3 rfl
    have x4 := HR.out.cell 4 rfl
    have x5 := HR.out.cell 5 rfl
    have x6 := HR.out.cell 6 rfl
    have x7 := HR.out.cell 7 rfl
    have f0 := (HR.out.get 0 rfl).free
    have f1 := (HR.out.get 1 rfl).free
    have f2 := (HR.out.get 2 rfl).free
    have f3 := (HR.out.get 3 rfl).free
    have f4 := (HR.out.get 4 rfl).free
    have f5 := (HR.out.get 5 rfl).free
    have f6 := (HR.out.get 6 rfl).free
    have f7 := (HR.out.get 7 rfl).free
    go_enter Try.func12, Try.ntmps12
    go_upto_region 1 with (fail)
    generalize w.alloc (.cells #[.string ⟨#[]⟩, .int .i64 0, .int .i64 0, .bool false, .bool false, .bool false, .bool false, .bool false] 27) = w1 at *
    clear HB HR hz hg
    go_wp2_with fail
    have s0 := S.out.cell 0 rfl
    have s1 := S.out.cell 1 rfl
    have s2 := S.out.cell 2 rfl
    have s3 := S.out.cell 3 rfl
    have s4 := S.out.cell 4 rfl
    have s5 := S.out.cell 5 rfl
    have s6 := S.out.cell 6 rfl
    have s7 := S.out.cell 7 rfl
    exact bodyPost_ret (v := .tuple #[repV zeroR, .int .i64 4]) (by simp [results, Try.results12, go_sem, s0, s1, s2, s3, s4, s5, s6, s7, repV, zeroR]) rfl ⟨rfl, HE.out⟩
  · obtain ⟨x0, x1, x2, hb⟩ := bytes3 b h
    have hg : getR b false = if putR (readN x0 x1 x2) false = b then (readN x0 x1 x2, 0) else (zeroR, 2) := by
      unfold getR
      rw [if_neg (show ¬ b.size < sizeB false by show ¬ b.size < 3; omega), if_neg (show ¬ sizeB false < b.size by show ¬ 3 < b.size; omega), hb]
      rfl
    have hi1 : ∀ W, (Instr.index 9 (.string b) (.int .i64 1)).run Try.prog W = .ok (.int .u8 (int8 x1)) W := fun W => index_text b 1 x1 (by rw [hb]; rfl) W
    have hi2 : ∀ W, (Instr.index 9 (.string b) (.int .i64 2)).run Try.prog W = .ok (.int .u8 (int8 x2)) W := fun W => index_text b 2 x2 (by rw [hb]; rfl) W
    have hsl : ∀ W, (Instr.slice 9 (.string b) none (some (.int .i64 1)) none).run Try.prog W = .ok (.string ⟨#[x0]⟩) W := fun W => by
      have k := slice_text b 1 (by omega) W
      rw [show b.data.toList.take 1 = [x0] by rw [hb]; rfl] at k
      exact k
    have hput := fun W => rput9_any (readN x0 x1 x2) false W (readN_right x0 x1 x2)
    rw [hg]
    clear hg
    generalize hG : (if putR (readN x0 x1 x2) false = b then (readN x0 x1 x2, 0) else (zeroR, 2) : Rp × Int) = G
    have ⟨a1, b1⟩ := int8_low x1
    have hlow := mK_low (int8 x2) (int8_low x2).1 (int8_low x2).2
    generalize putR (readN x0 x1 x2) false = P at *
    simp only [repV, readN] at hput
    simp only [readN] at hG
    clear hb
    generalize int8 x1 = X1 at *
    generalize int8 x2 = X2 at *
    generalize (⟨#[x0]⟩ : ByteArray) = C at *
    have HPUT := Lib.hid hput
    have HG := Lib.hid hG
    clear hput hG
    go_enter Try.func12, Try.ntmps12
    go_upto_region 9 with (fail)
    have HZ2 := Lib.hid (HR.out.alloc (.cells #[.string C, .int .i64 0, .int .i64 0, .bool false, .bool false, .bool false, .bool false, .bool false] 27))
    have HB2 := Lib.hid (HB.out.alloc HB.out.size (.cells #[.string C, .int .i64 0, .int .i64 0, .bool false, .bool false, .bool false, .bool false, .bool false] 27))
    have HR2 := Lib.hid (RowAt.new _ (w.heap.size + 1) hz.symm [.string C, .int .i64 0, .int .i64 0, .bool false, .bool false, .bool false, .bool false, .bool false] 27)
    clear HB HR
    generalize (w.alloc (.cells #[.string ⟨#[]⟩, .int .i64 0, .int .i64 0, .bool false, .bool false, .bool false, .bool false, .bool false] 27)).alloc (.cells #[.string C, .int .i64 0, .int .i64 0, .bool false, .bool false, .bool false, .bool false, .bool false] 27) = w2 at *
    go_upto_region 11 with (fail)
    have RA := Lib.hid HR2.out
    have q0 := RA.out.drew.cell 1 rfl
    have g0 := (RA.out.drew.get 1 rfl).free
    have RB := Lib.hid (RA.out.put 1 (.int .i64 (X1 / 2 % 8)) _ rfl)
    have q1 := RB.out.drew.cell 2 rfl
    have g1 := (RB.out.drew.get 2 rfl).free
    have RC := Lib.hid (RB.out.put 2 (.int .i64 (X1 / 32)) _ rfl)
    have q2 := RC.out.drew.cell 3 rfl
    have g2 := (RC.out.drew.get 3 rfl).free
    have RD := Lib.hid (RC.out.put 3 (.bool (X1 / 16 % 2 == 1)) _ rfl)
    have e1 : IntKind.i64.wrap (X1) = X1 := IntWalk.i64_in _ (by omega)
    have e2 : Int.tdiv (X1) 2 = X1 / 2 := Int.tdiv_eq_ediv_of_nonneg (by omega)
    have e3 : IntKind.i64.wrap (X1 / 2) = X1 / 2 := IntWalk.i64_in _ (by omega)
    have e4 : Int.tmod (X1 / 2) 8 = X1 / 2 % 8 := Int.tmod_eq_emod_of_nonneg (by omega)
    have e5 : Int.tdiv (X1) 32 = X1 / 32 := Int.tdiv_eq_ediv_of_nonneg (by omega)
    have e6 : IntKind.i64.wrap (X1 / 32) = X1 / 32 := IntWalk.i64_in _ (by omega)
    have e7 : Int.tdiv (X1) 16 = X1 / 16 := Int.tdiv_eq_ediv_of_nonneg (by omega)
    have e8 : IntKind.u8.wrap (X1 / 16) = X1 / 16 := (IntKind.wrap_u8 _).trans (by omega)
    have e9 : Int.tmod (X1 / 16) 2 = X1 / 16 % 2 := Int.tmod_eq_emod_of_nonneg (by omega)
    refine wp_region_any (by kernel_rfl) ?_
    try (change wpAny _ _ _ _ _ _ _ (World.drew _))
    refine wpAny_take (i := 0) (v := ?_) rfl (by kernel_rfl) (by kernel_rfl) (by kernel_rfl) (fun _ _ _ h => h) (Or.inl ⟨by rfl, ?_⟩) ?_
    rotate_left
    · intro w; go_simp; with_reducible rfl
    refine wpAny_take (i := 1) (v := ?_) rfl (by kernel_rfl) (by kernel_rfl) (by kernel_rfl) (fun _ _ _ h => h) (Or.inl ⟨by rfl, ?_⟩) ?_
    rotate_left
    · intro w; go_simp; with_reducible rfl
    refine wpAny_take (i := 2) (v := ?_) rfl (by kernel_rfl) (by kernel_rfl) (by kernel_rfl) (fun _ _ _ h => h) (Or.inl ⟨by rfl, ?_⟩) ?_
    rotate_left
    · intro w; go_simp; with_reducible rfl
    refine wpAny_take (i := 3) (v := ?_) rfl (by kernel_rfl) (by kernel_rfl) (by kernel_rfl) (fun _ _ _ h => h) (Or.inl ⟨by rfl, ?_⟩) ?_
    rotate_left
    · intro w; go_simp; with_reducible rfl
    refine wpAny_take (i := 4) (v := ?_) rfl (by kernel_rfl) (by kernel_rfl) (by kernel_rfl) (fun _ _ _ h => h) (Or.inl ⟨by rfl, ?_⟩) ?_
    rotate_left
    · intro w; go_simp; with_reducible rfl
    refine wpAny_take (i := 5) (v := ?_) rfl (by kernel_rfl) (by kernel_rfl) (by kernel_rfl) (fun _ _ _ h => h) (Or.inl ⟨by rfl, ?_⟩) ?_
    rotate_left
    · intro w; go_simp; with_reducible rfl
    refine wpAny_take (i := 6) (v := ?_) rfl (by kernel_rfl) (by kernel_rfl) (by kernel_rfl) (fun _ _ _ h => h) (Or.inl ⟨by rfl, ?_⟩) ?_
    rotate_left
    · intro w; go_simp; with_reducible rfl
    refine wpAny_take (i := 7) (v := ?_) rfl (by kernel_rfl) (by kernel_rfl) (by kernel_rfl) (fun _ _ _ h => h) (Or.inl ⟨by rfl, ?_⟩) ?_
    rotate_left
    · intro w; go_simp; with_reducible rfl
    refine wpAny_take (i := 8) (v := ?_) rfl (by kernel_rfl) (by kernel_rfl) (by kernel_rfl) (fun _ _ _ h => h) (Or.inl ⟨by rfl, ?_⟩) ?_
    rotate_left
    · intro w; go_simp; with_reducible rfl
    refine wpAny_take (i := 9) (v := ?_) rfl (by kernel_rfl) (by kernel_rfl) (by kernel_rfl) (fun _ _ _ h => h) (Or.inl ⟨by rfl, ?_⟩) ?_
    rotate_left
    · intro w; go_simp; with_reducible rfl
    refine wpAny_take (i := 10) (v := ?_) rfl (by kernel_rfl) (by kernel_rfl) (by kernel_rfl) (fun _ _ _ h => h) (Or.inl ⟨by rfl, ?_⟩) ?_
    rotate_left
    · intro w; go_simp; with_reducible rfl
    refine wpAny_take (i := 11) (v := ?_) rfl (by kernel_rfl) (by kernel_rfl) (by kernel_rfl) (fun _ _ _ h => h) (Or.inl ⟨by rfl, ?_⟩) ?_
    rotate_left
    · intro w; go_simp; with_reducible rfl
    refine wpAny_take (i := 12) (v := ?_) rfl (by kernel_rfl) (by kernel_rfl) (by kernel_rfl) (fun _ _ _ h => h) (Or.inl ⟨by rfl, ?_⟩) ?_
    rotate_left
    · intro w; go_simp; with_reducible rfl
    refine wpAny_take (i := 13) (v := ?_) rfl (by kernel_rfl) (by kernel_rfl) (by kernel_rfl) (fun _ _ _ h => h) (Or.inl ⟨by rfl, ?_⟩) ?_
    rotate_left
    · intro w; go_simp; with_reducible rfl
    refine wpAny_take (i := 14) (v := ?_) rfl (by kernel_rfl) (by kernel_rfl) (by kernel_rfl) (fun _ _ _ h => h) (Or.inl ⟨by rfl, ?_⟩) ?_
    rotate_left
    · intro w; go_simp; with_reducible rfl
    refine wpAny_ready (rs := [15]) (by kernel_rfl) (by simp) ?_
    refine AllReady.cons rfl (fun K hK => ?_) AllReady.nil
    go_simp
    refine hK _ _ ?_
    clear hK K
    refine wpAny_take (i := 16) (v := ?_) rfl (by kernel_rfl) (by kernel_rfl) (by kernel_rfl) (fun _ _ _ h => h) (Or.inl ⟨by rfl, ?_⟩) ?_
    rotate_left
    · intro w; go_simp; with_reducible rfl
    refine wpAny_ready (rs := [17]) (by kernel_rfl) (by simp) ?_
    refine AllReady.cons rfl (fun K hK => ?_) AllReady.nil
    go_simp
    refine hK _ _ ?_
    clear hK K
    refine wpAny_take (i := 18) (v := ?_) rfl (by kernel_rfl) (by kernel_rfl) (by kernel_rfl) (fun _ _ _ h => h) (Or.inl ⟨by rfl, ?_⟩) ?_
    rotate_left
    · intro w; go_simp; with_reducible rfl
    refine wpAny_ready (rs := [19]) (by kernel_rfl) (by simp) ?_
    refine AllReady.cons rfl (fun K hK => ?_) AllReady.nil
    go_simp
    refine hK _ _ ?_
    clear hK K
    refine wpAny_done (by kernel_rfl) ?_ _
    have RE := Lib.hid (show RowAt (((w2.setCell ⟨w.heap.size + 1, 1, none⟩ (.int .i64 (X1 / 2 % 8))).setCell ⟨w.heap.size + 1, 2, none⟩ (.int .i64 (X1 / 32))).setCell ⟨w.heap.size + 1, 3, none⟩ (.bool (X1 / 16 % 2 == 1))).drew (w.heap.size + 1) (rowK C (X1 / 2 % 8) (X1 / 32) (X1 / 16 % 2 == 1) X2 0) from RD.out.drew)
    have HZ3 := Lib.hid ((((HZ2.out.other (p := 1) (.int .i64 (X1 / 2 % 8)) (show w.heap.size + 1 ≠ w.heap.size by omega)).other (p := 2) (.int .i64 (X1 / 32)) (show w.heap.size + 1 ≠ w.heap.size by omega)).other (p := 3) (.bool (X1 / 16 % 2 == 1)) (show w.heap.size + 1 ≠ w.heap.size by omega)).drew)
    have HB3 := Lib.hid ((((HB2.out.setCell (p := ⟨w.heap.size + 1, 1, none⟩) (show w.heap.size ≤ w.heap.size + 1 by omega) (.int .i64 (X1 / 2 % 8))).setCell (p := ⟨w.heap.size + 1, 2, none⟩) (show w.heap.size ≤ w.heap.size + 1 by omega) (.int .i64 (X1 / 32))).setCell (p := ⟨w.heap.size + 1, 3, none⟩) (show w.heap.size ≤ w.heap.size + 1 by omega) (.bool (X1 / 16 % 2 == 1))).drew)
    generalize (((w2.setCell ⟨w.heap.size + 1, 1, none⟩ (.int .i64 (X1 / 2 % 8))).setCell ⟨w.heap.size + 1, 2, none⟩ (.int .i64 (X1 / 32))).setCell ⟨w.heap.size + 1, 3, none⟩ (.bool (X1 / 16 % 2 == 1))).drew = w3 at *
    clear RA RB RC RD HZ2 HB2 HR2 q0 g0 q1 g1 q2 g2
    generalize (X1 / 2 % 8) = V0 at *
    generalize (X1 / 32) = V1 at *
    generalize (X1 / 16 % 2 == 1) = V2 at *
    clear e1 e2 e3 e4 e5 e6 e7 e8 e9 a1 b1
    go_wp2_with fail
    go_loopw [8, 9] (fun m i wx => ∃ j : Nat, j ≤ 4 ∧ i = .int .i64 j ∧ m = .int .i64 (mK X2 j) ∧ Hid (RowAt wx (w.heap.size + 1) (rowK C V0 V1 V2 X2 j) ∧ RowAt wx w.heap.size (rowR zeroR) ∧ Below w.heap.size w wx)) (fun _ i _ => 4 - (intOf i).toNat)
    case atStart =>
      have hz0 : 0 ≤ X2 ∧ X2 ≤ 255 := hlow 0
      exact ⟨0, by omega, rfl, congrArg (Value.int .i64) ((Go.IntWalk.i64_left _).symm.trans (IntWalk.i64_in _ (by omega))), RE.out, HZ3.out, HB3.out⟩
    case round =>
      obtain ⟨j, hj, rfl, rfl, HK⟩ := hrel
      clear RE HZ3 HB3
      obtain rfl | rfl | rfl | rfl | rfl : j = 0 ∨ j = 1 ∨ j = 2 ∨ j = 3 ∨ j = 4 := by omega
      · have ⟨s0, s1⟩ := hlow 0
        have hm : mK X2 1 = mK X2 0 / 2 := rfl
        have hn : (rowK C V0 V1 V2 X2 1) = (rowK C V0 V1 V2 X2 0).set 4 (.bool (mK X2 0 % 2 == 1)) := rfl
        have l0 := HK.out.1.cell 4 rfl
        have l1 := (HK.out.1.get 4 rfl).free
        have HN := Lib.hid (show RowAt (wr.setCell ⟨w.heap.size + 1, 4, none⟩ (.bool (mK X2 0 % 2 == 1))) (w.heap.size + 1) (rowK C V0 V1 V2 X2 1) from HK.out.1.put 4 _ _ hn)
        have HO := Lib.hid (HK.out.2.1.other (p := 4) (.bool (mK X2 0 % 2 == 1)) (show w.heap.size + 1 ≠ w.heap.size by omega))
        have HQ := Lib.hid (HK.out.2.2.setCell (p := ⟨w.heap.size + 1, 4, none⟩) (show w.heap.size ≤ w.heap.size + 1 by omega) (.bool (mK X2 0 % 2 == 1)))
        clear HK hn
        generalize mK X2 0 = M at *
        have e1 : M.tmod 2 = M % 2 := Int.tmod_eq_emod_of_nonneg (by omega)
        have e2 : M.tdiv 2 = M / 2 := Int.tdiv_eq_ediv_of_nonneg (by omega)
        have e3 : IntKind.i64.wrap (M / 2) = M / 2 := IntWalk.i64_in _ (by omega)
        go_wp2_with fail
        go_roundw
        case rel => exact ⟨1, by omega, by go_num, by rw [hm], HN.out, HO.out, HQ.out⟩
        case measure => simp [intOf]
      · have ⟨s0, s1⟩ := hlow 1
        have hm : mK X2 2 = mK X2 1 / 2 := rfl
        have hn : (rowK C V0 V1 V2 X2 2) = (rowK C V0 V1 V2 X2 1).set 5 (.bool (mK X2 1 % 2 == 1)) := rfl
        have l0 := HK.out.1.cell 5 rfl
        have l1 := (HK.out.1.get 5 rfl).free
        have HN := Lib.hid (show RowAt (wr.setCell ⟨w.heap.size + 1, 5, none⟩ (.bool (mK X2 1 % 2 == 1))) (w.heap.size + 1) (rowK C V0 V1 V2 X2 2) from HK.out.1.put 5 _ _ hn)
        have HO := Lib.hid (HK.out.2.1.other (p := 5) (.bool (mK X2 1 % 2 == 1)) (show w.heap.size + 1 ≠ w.heap.size by omega))
        have HQ := Lib.hid (HK.out.2.2.setCell (p := ⟨w.heap.size + 1, 5, none⟩) (show w.heap.size ≤ w.heap.size + 1 by omega) (.bool (mK X2 1 % 2 == 1)))
        clear HK hn
        generalize mK X2 1 = M at *
        have e1 : M.tmod 2 = M % 2 := Int.tmod_eq_emod_of_nonneg (by omega)
        have e2 : M.tdiv 2 = M / 2 := Int.tdiv_eq_ediv_of_nonneg (by omega)
        have e3 : IntKind.i64.wrap (M / 2) = M / 2 := IntWalk.i64_in _ (by omega)
        go_wp2_with fail
        go_roundw
        case rel => exact ⟨2, by omega, by go_num, by rw [hm], HN.out, HO.out, HQ.out⟩
        case measure => simp [intOf]
      · have ⟨s0, s1⟩ := hlow 2
        have hm : mK X2 3 = mK X2 2 / 2 := rfl
        have hn : (rowK C V0 V1 V2 X2 3) = (rowK C V0 V1 V2 X2 2).set 6 (.bool (mK X2 2 % 2 == 1)) := rfl
        have l0 := HK.out.1.cell 6 rfl
        have l1 := (HK.out.1.get 6 rfl).free
        have HN := Lib.hid (show RowAt (wr.setCell ⟨w.heap.size + 1, 6, none⟩ (.bool (mK X2 2 % 2 == 1))) (w.heap.size + 1) (rowK C V0 V1 V2 X2 3) from HK.out.1.put 6 _ _ hn)
        have HO := Lib.hid (HK.out.2.1.other (p := 6) (.bool (mK X2 2 % 2 == 1)) (show w.heap.size + 1 ≠ w.heap.size by omega))
        have HQ := Lib.hid (HK.out.2.2.setCell (p := ⟨w.heap.size + 1, 6, none⟩) (show w.heap.size ≤ w.heap.size + 1 by omega) (.bool (mK X2 2 % 2 == 1)))
        clear HK hn
        generalize mK X2 2 = M at *
        have e1 : M.tmod 2 = M % 2 := Int.tmod_eq_emod_of_nonneg (by omega)
        have e2 : M.tdiv 2 = M / 2 := Int.tdiv_eq_ediv_of_nonneg (by omega)
        have e3 : IntKind.i64.wrap (M / 2) = M / 2 := IntWalk.i64_in _ (by omega)
        go_wp2_with fail
        go_roundw
        case rel => exact ⟨3, by omega, by go_num, by rw [hm], HN.out, HO.out, HQ.out⟩
        case measure => simp [intOf]
      · have ⟨s0, s1⟩ := hlow 3
        have hm : mK X2 4 = mK X2 3 / 2 := rfl
        have hn : (rowK C V0 V1 V2 X2 4) = (rowK C V0 V1 V2 X2 3).set 7 (.bool (mK X2 3 % 2 == 1)) := rfl
        have l0 := HK.out.1.cell 7 rfl
        have l1 := (HK.out.1.get 7 rfl).free
        have HN := Lib.hid (show RowAt (wr.setCell ⟨w.heap.size + 1, 7, none⟩ (.bool (mK X2 3 % 2 == 1))) (w.heap.size + 1) (rowK C V0 V1 V2 X2 4) from HK.out.1.put 7 _ _ hn)
        have HO := Lib.hid (HK.out.2.1.other (p := 7) (.bool (mK X2 3 % 2 == 1)) (show w.heap.size + 1 ≠ w.heap.size by omega))
        have HQ := Lib.hid (HK.out.2.2.setCell (p := ⟨w.heap.size + 1, 7, none⟩) (show w.heap.size ≤ w.heap.size + 1 by omega) (.bool (mK X2 3 % 2 == 1)))
        clear HK hn
        generalize mK X2 3 = M at *
        have e1 : M.tmod 2 = M % 2 := Int.tmod_eq_emod_of_nonneg (by omega)
        have e2 : M.tdiv 2 = M / 2 := Int.tdiv_eq_ediv_of_nonneg (by omega)
        have e3 : IntKind.i64.wrap (M / 2) = M / 2 := IntWalk.i64_in _ (by omega)
        go_wp2_with fail
        go_roundw
        case rel => exact ⟨4, by omega, by go_num, by rw [hm], HN.out, HO.out, HQ.out⟩
        case measure => simp [intOf]
      · have hrow := HK.out.1
        have l0 := hrow.cell 0 rfl
        have l1 := hrow.cell 1 rfl
        have l2 := hrow.cell 2 rfl
        have l3 := hrow.cell 3 rfl
        have l4 := hrow.cell 4 rfl
        have l5 := hrow.cell 5 rfl
        have l6 := hrow.cell 6 rfl
        have l7 := hrow.cell 7 rfl
        have HKK := Lib.hid (show RowAt wr (w.heap.size + 1) [.string C, .int .i64 V0, .int .i64 V1, .bool V2, .bool (markX X2 0), .bool (markX X2 1), .bool (markX X2 2), .bool (markX X2 3)] from HK.out.1)
        have HO := Lib.hid HK.out.2.1
        have HQ := Lib.hid HK.out.2.2
        clear HK hrow hlow
        generalize markX X2 0 = N0 at *
        generalize markX X2 1 = N1 at *
        generalize markX X2 2 = N2 at *
        generalize markX X2 3 = N3 at *
        go_wp2_with fail
        go_at_call 11
        refine (HPUT.out _).mono ?_
        rintro e w5 ⟨rfl, hb⟩
        have HO5 := Lib.hid (HO.out.below hb)
        have HQ5 := Lib.hid (HQ.out.trans (hb.mono HQ.out.size))
        have HK5 := Lib.hid (HKK.out.below hb)
        clear hb HO HQ HKK HPUT l0 l1 l2 l3 l4 l5 l6 l7
        have x0 := HO5.out.cell 0 rfl
        have x1 := HO5.out.cell 1 rfl
        have x2 := HO5.out.cell 2 rfl
        have x3 := HO5.out.cell 3 rfl
        have x4 := HO5.out.cell 4 rfl
        have x5 := HO5.out.cell 5 rfl
        have x6 := HO5.out.cell 6 rfl
        have x7 := HO5.out.cell 7 rfl
        have f0 := (HO5.out.get 0 rfl).free
        have f1 := (HO5.out.get 1 rfl).free
        have f2 := (HO5.out.get 2 rfl).free
        have f3 := (HO5.out.get 3 rfl).free
        have f4 := (HO5.out.get 4 rfl).free
        have f5 := (HO5.out.get 5 rfl).free
        have f6 := (HO5.out.get 6 rfl).free
        have f7 := (HO5.out.get 7 rfl).free
        by_cases hq : P = b
        · obtain rfl : (⟨C, V0, V1, V2, N0, N1, N2, N3⟩, 0) = G := by
            have := HG.out
            rwa [if_pos hq] at this
          clear HG
          subst hq
          have y0 := HK5.out.cell 0 rfl
          have y1 := HK5.out.cell 1 rfl
          have y2 := HK5.out.cell 2 rfl
          have y3 := HK5.out.cell 3 rfl
          have y4 := HK5.out.cell 4 rfl
          have y5 := HK5.out.cell 5 rfl
          have y6 := HK5.out.cell 6 rfl
          have y7 := HK5.out.cell 7 rfl
          have S := Lib.hid (stored8 HO5.out rfl (.string C) (.int .i64 V0) (.int .i64 V1) (.bool V2) (.bool N0) (.bool N1) (.bool N2) (.bool N3))
          have HE := Lib.hid (set8_below (m := w.heap.size) HQ5.out (Nat.le_refl _) (.string C) (.int .i64 V0) (.int .i64 V1) (.bool V2) (.bool N0) (.bool N1) (.bool N2) (.bool N3))
          go_wp2_with fail
          have s0 := S.out.cell 0 rfl
          have s1 := S.out.cell 1 rfl
          have s2 := S.out.cell 2 rfl
          have s3 := S.out.cell 3 rfl
          have s4 := S.out.cell 4 rfl
          have s5 := S.out.cell 5 rfl
          have s6 := S.out.cell 6 rfl
          have s7 := S.out.cell 7 rfl
          exact bodyPost_ret (v := .tuple #[repV ⟨C, V0, V1, V2, N0, N1, N2, N3⟩, .int .i64 0]) (by simp [results, Try.results12, go_sem, s0, s1, s2, s3, s4, s5, s6, s7, repV]) rfl ⟨rfl, HE.out⟩
        · have hne : (P.toList == b.toList) = false := by
            simp only [beq_eq_false_iff_ne, ne_eq]
            intro he
            rw [ByteArray.toList_eq, ByteArray.toList_eq] at he
            exact hq (bytes_ext' he)
          obtain rfl : (zeroR, 2) = G := by
            have := HG.out
            rwa [if_neg hq] at this
          clear HG
          have S := Lib.hid (stored8 HO5.out rfl (.string ⟨#[]⟩) (.int .i64 0) (.int .i64 0) (.bool false) (.bool false) (.bool false) (.bool false) (.bool false))
          have HE := Lib.hid (set8_below (m := w.heap.size) HQ5.out (Nat.le_refl _) (.string ⟨#[]⟩) (.int .i64 0) (.int .i64 0) (.bool false) (.bool false) (.bool false) (.bool false) (.bool false))
          go_wp2_with fail
          have s0 := S.out.cell 0 rfl
          have s1 := S.out.cell 1 rfl
          have s2 := S.out.cell 2 rfl
          have s3 := S.out.cell 3 rfl
          have s4 := S.out.cell 4 rfl
          have s5 := S.out.cell 5 rfl
          have s6 := S.out.cell 6 rfl
          have s7 := S.out.cell 7 rfl
          exact bodyPost_ret (v := .tuple #[repV zeroR, .int .i64 2]) (by simp [results, Try.results12, go_sem, s0, s1, s2, s3, s4, s5, s6, s7, repV, zeroR]) rfl ⟨rfl, HE.out⟩
  · have hg : getR b false = (zeroR, 5) := by
      unfold getR
      rw [if_neg (show ¬ b.size < sizeB false by show ¬ b.size < 3; omega), if_pos (show sizeB false < b.size from h)]
    rw [hg]
    have S := Lib.hid (stored8 HR.out rfl (.string ⟨#[]⟩) (.int .i64 0) (.int .i64 0) (.bool false) (.bool false) (.bool false) (.bool false) (.bool false))
    have HE := Lib.hid (set8_below (m := w.heap.size) HB.out (Nat.le_refl _) (.string ⟨#[]⟩) (.int .i64 0) (.int .i64 0) (.bool false) (.bool false) (.bool false) (.bool false) (.bool false))
    have x0 := HR.out.cell 0 rfl
    have x1 := HR.out.cell 1 rfl
    have x2 := HR.out.cell 2 rfl
    have x3 := HR.out.cell 3 rfl
    have x4 := HR.out.cell 4 rfl
    have x5 := HR.out.cell 5 rfl
    have x6 := HR.out.cell 6 rfl
    have x7 := HR.out.cell 7 rfl
    have f0 := (HR.out.get 0 rfl).free
    have f1 := (HR.out.get 1 rfl).free
    have f2 := (HR.out.get 2 rfl).free
    have f3 := (HR.out.get 3 rfl).free
    have f4 := (HR.out.get 4 rfl).free
    have f5 := (HR.out.get 5 rfl).free
    have f6 := (HR.out.get 6 rfl).free
    have f7 := (HR.out.get 7 rfl).free
    go_enter Try.func12, Try.ntmps12
    go_upto_region 1 with (fail)
    generalize w.alloc (.cells #[.string ⟨#[]⟩, .int .i64 0, .int .i64 0, .bool false, .bool false, .bool false, .bool false, .bool false] 27) = w1 at *
    clear HB HR hz hg
    go_wp2_with fail
    have s0 := S.out.cell 0 rfl
    have s1 := S.out.cell 1 rfl
    have s2 := S.out.cell 2 rfl
    have s3 := S.out.cell 3 rfl
    have s4 := S.out.cell 4 rfl
    have s5 := S.out.cell 5 rfl
    have s6 := S.out.cell 6 rfl
    have s7 := S.out.cell 7 rfl
    exact bodyPost_ret (v := .tuple #[repV zeroR, .int .i64 5]) (by simp [results, Try.results12, go_sem, s0, s1, s2, s3, s4, s5, s6, s7, repV, zeroR]) rfl ⟨rfl, HE.out⟩
set_option maxHeartbeats 2000000 in
theorem rget9_wide (b : ByteArray) (w : World) : Calls Try.prog 12 #[.string b, .bool true] w fun e w' => e = .returned (.tuple #[repV (getR b true).1, .int .i64 (getR b true).2]) ∧ Below w.heap.size w w' := by
  have HB := Lib.hid ((Below.refl _ w).alloc (Nat.le_refl _) (.cells (rowR zeroR).toArray 27))
  have HR := Lib.hid (RowAt.new w w.heap.size rfl (rowR zeroR) 27)
  have hz : (w.alloc (.cells (rowR zeroR).toArray 27)).heap.size = w.heap.size + 1 := by simp
  simp only [rowR, zeroR] at HB HR hz
  rcases Nat.lt_trichotomy b.size 5 with h | h | h
  · have hg : getR b true = (zeroR, 4) := by
      unfold getR
      rw [if_pos (show b.size < sizeB true from h)]
    rw [hg]
    have S := Lib.hid (stored8 HR.out rfl (.string ⟨#[]⟩) (.int .i64 0) (.int .i64 0) (.bool false) (.bool false) (.bool false) (.bool false) (.bool false))
    have HE := Lib.hid (set8_below (m := w.heap.size) HB.out (Nat.le_refl _) (.string ⟨#[]⟩) (.int .i64 0) (.int .i64 0) (.bool false) (.bool false) (.bool false) (.bool false) (.bool false))
    have x0 := HR.out.cell 0 rfl
    have x1 := HR.out.cell 1 rfl
    have x2 := HR.out.cell 2 rfl
    have x3 := HR.out.cell 3 rfl
    have x4 := HR.out.cell 4 rfl
    have x5 := HR.out.cell 5 rfl
    have x6 := HR.out.cell 6 rfl
    have x7 := HR.out.cell 7 rfl
    have f0 := (HR.out.get 0 rfl).free
    have f1 := (HR.out.get 1 rfl).free
    have f2 := (HR.out.get 2 rfl).free
    have f3 := (HR.out.get 3 rfl).free
    have f4 := (HR.out.get 4 rfl).free
    have f5 := (HR.out.get 5 rfl).free
    have f6 := (HR.out.get 6 rfl).free
    have f7 := (HR.out.get 7 rfl).free
    go_enter Try.func12, Try.ntmps12
    go_upto_region 1 with (fail)
    generalize w.alloc (.cells #[.string ⟨#[]⟩, .int .i64 0, .int .i64 0, .bool false, .bool false, .bool false, .bool false, .bool false] 27) = w1 at *
    clear HB HR hz hg
    go_wp2_with fail
    have s0 := S.out.cell 0 rfl
    have s1 := S.out.cell 1 rfl
    have s2 := S.out.cell 2 rfl
    have s3 := S.out.cell 3 rfl
    have s4 := S.out.cell 4 rfl
    have s5 := S.out.cell 5 rfl
    have s6 := S.out.cell 6 rfl
    have s7 := S.out.cell 7 rfl
    exact bodyPost_ret (v := .tuple #[repV zeroR, .int .i64 4]) (by simp [results, Try.results12, go_sem, s0, s1, s2, s3, s4, s5, s6, s7, repV, zeroR]) rfl ⟨rfl, HE.out⟩
  · obtain ⟨x0, x1, x2, x3, x4, hb⟩ := bytes5 b h
    have hg : getR b true = if putR (readW x0 x1 x2 x3 x4) true = b then (readW x0 x1 x2 x3 x4, 0) else (zeroR, 2) := by
      unfold getR
      rw [if_neg (show ¬ b.size < sizeB true by show ¬ b.size < 5; omega), if_neg (show ¬ sizeB true < b.size by show ¬ 5 < b.size; omega), hb]
      rfl
    have hi2 : ∀ W, (Instr.index 9 (.string b) (.int .i64 2)).run Try.prog W = .ok (.int .u8 (int8 x2)) W := fun W => index_text b 2 x2 (by rw [hb]; rfl) W
    have hi3 : ∀ W, (Instr.index 9 (.string b) (.int .i64 3)).run Try.prog W = .ok (.int .u8 (int8 x3)) W := fun W => index_text b 3 x3 (by rw [hb]; rfl) W
    have hi4 : ∀ W, (Instr.index 9 (.string b) (.int .i64 4)).run Try.prog W = .ok (.int .u8 (int8 x4)) W := fun W => index_text b 4 x4 (by rw [hb]; rfl) W
    have hsl : ∀ W, (Instr.slice 9 (.string b) none (some (.int .i64 2)) none).run Try.prog W = .ok (.string ⟨#[x0, x1]⟩) W := fun W => by
      have k := slice_text b 2 (by omega) W
      rw [show b.data.toList.take 2 = [x0, x1] by rw [hb]; rfl] at k
      exact k
    have hput := fun W => rput9_any (readW x0 x1 x2 x3 x4) true W (readW_right x0 x1 x2 x3 x4)
    rw [hg]
    clear hg
    generalize hG : (if putR (readW x0 x1 x2 x3 x4) true = b then (readW x0 x1 x2 x3 x4, 0) else (zeroR, 2) : Rp × Int) = G
    have ⟨a2, b2⟩ := int8_low x2
    have ⟨a3, b3⟩ := int8_low x3
    have hlow := mK_low (int8 x4) (int8_low x4).1 (int8_low x4).2
    generalize putR (readW x0 x1 x2 x3 x4) true = P at *
    simp only [repV, readW] at hput
    simp only [readW] at hG
    clear hb
    generalize int8 x2 = X2 at *
    generalize int8 x3 = X3 at *
    generalize int8 x4 = X4 at *
    generalize (⟨#[x0, x1]⟩ : ByteArray) = C at *
    have HPUT := Lib.hid hput
    have HG := Lib.hid hG
    clear hput hG
    go_enter Try.func12, Try.ntmps12
    go_upto_region 9 with (fail)
    have HZ2 := Lib.hid (HR.out.alloc (.cells #[.string C, .int .i64 0, .int .i64 0, .bool false, .bool false, .bool false, .bool false, .bool false] 27))
    have HB2 := Lib.hid (HB.out.alloc HB.out.size (.cells #[.string C, .int .i64 0, .int .i64 0, .bool false, .bool false, .bool false, .bool false, .bool false] 27))
    have HR2 := Lib.hid (RowAt.new _ (w.heap.size + 1) hz.symm [.string C, .int .i64 0, .int .i64 0, .bool false, .bool false, .bool false, .bool false, .bool false] 27)
    clear HB HR
    generalize (w.alloc (.cells #[.string ⟨#[]⟩, .int .i64 0, .int .i64 0, .bool false, .bool false, .bool false, .bool false, .bool false] 27)).alloc (.cells #[.string C, .int .i64 0, .int .i64 0, .bool false, .bool false, .bool false, .bool false, .bool false] 27) = w2 at *
    go_upto_region 10 with (fail)
    have RA := Lib.hid HR2.out
    have q0 := RA.out.drew.cell 1 rfl
    have g0 := (RA.out.drew.get 1 rfl).free
    have RB := Lib.hid (RA.out.put 1 (.int .i64 (X2 / 2)) _ rfl)
    have q1 := RB.out.drew.cell 2 rfl
    have g1 := (RB.out.drew.get 2 rfl).free
    have RC := Lib.hid (RB.out.put 2 (.int .i64 (X3 / 2)) _ rfl)
    have q2 := RC.out.drew.cell 3 rfl
    have g2 := (RC.out.drew.get 3 rfl).free
    have RD := Lib.hid (RC.out.put 3 (.bool (X3 % 2 == 1)) _ rfl)
    have e1 : IntKind.i64.wrap (X2) = X2 := IntWalk.i64_in _ (by omega)
    have e2 : Int.tdiv (X2) 2 = X2 / 2 := Int.tdiv_eq_ediv_of_nonneg (by omega)
    have e3 : IntKind.i64.wrap (X2 / 2) = X2 / 2 := IntWalk.i64_in _ (by omega)
    have e4 : IntKind.i64.wrap (X3) = X3 := IntWalk.i64_in _ (by omega)
    have e5 : Int.tdiv (X3) 2 = X3 / 2 := Int.tdiv_eq_ediv_of_nonneg (by omega)
    have e6 : IntKind.i64.wrap (X3 / 2) = X3 / 2 := IntWalk.i64_in _ (by omega)
    have e7 : Int.tmod (X3) 2 = X3 % 2 := Int.tmod_eq_emod_of_nonneg (by omega)
    refine wp_region_any (by kernel_rfl) ?_
    try (change wpAny _ _ _ _ _ _ _ (World.drew _))
    refine wpAny_take (i := 0) (v := ?_) rfl (by kernel_rfl) (by kernel_rfl) (by kernel_rfl) (fun _ _ _ h => h) (Or.inl ⟨by rfl, ?_⟩) ?_
    rotate_left
    · intro w; go_simp; with_reducible rfl
    refine wpAny_take (i := 1) (v := ?_) rfl (by kernel_rfl) (by kernel_rfl) (by kernel_rfl) (fun _ _ _ h => h) (Or.inl ⟨by rfl, ?_⟩) ?_
    rotate_left
    · intro w; go_simp; with_reducible rfl
    refine wpAny_take (i := 2) (v := ?_) rfl (by kernel_rfl) (by kernel_rfl) (by kernel_rfl) (fun _ _ _ h => h) (Or.inl ⟨by rfl, ?_⟩) ?_
    rotate_left
    · intro w; go_simp; with_reducible rfl
    refine wpAny_take (i := 3) (v := ?_) rfl (by kernel_rfl) (by kernel_rfl) (by kernel_rfl) (fun _ _ _ h => h) (Or.inl ⟨by rfl, ?_⟩) ?_
    rotate_left
    · intro w; go_simp; with_reducible rfl
    refine wpAny_take (i := 4) (v := ?_) rfl (by kernel_rfl) (by kernel_rfl) (by kernel_rfl) (fun _ _ _ h => h) (Or.inl ⟨by rfl, ?_⟩) ?_
    rotate_left
    · intro w; go_simp; with_reducible rfl
    refine wpAny_take (i := 5) (v := ?_) rfl (by kernel_rfl) (by kernel_rfl) (by kernel_rfl) (fun _ _ _ h => h) (Or.inl ⟨by rfl, ?_⟩) ?_
    rotate_left
    · intro w; go_simp; with_reducible rfl
    refine wpAny_take (i := 6) (v := ?_) rfl (by kernel_rfl) (by kernel_rfl) (by kernel_rfl) (fun _ _ _ h => h) (Or.inl ⟨by rfl, ?_⟩) ?_
    rotate_left
    · intro w; go_simp; with_reducible rfl
    refine wpAny_take (i := 7) (v := ?_) rfl (by kernel_rfl) (by kernel_rfl) (by kernel_rfl) (fun _ _ _ h => h) (Or.inl ⟨by rfl, ?_⟩) ?_
    rotate_left
    · intro w; go_simp; with_reducible rfl
    refine wpAny_take (i := 8) (v := ?_) rfl (by kernel_rfl) (by kernel_rfl) (by kernel_rfl) (fun _ _ _ h => h) (Or.inl ⟨by rfl, ?_⟩) ?_
    rotate_left
    · intro w; go_simp; with_reducible rfl
    refine wpAny_take (i := 9) (v := ?_) rfl (by kernel_rfl) (by kernel_rfl) (by kernel_rfl) (fun _ _ _ h => h) (Or.inl ⟨by rfl, ?_⟩) ?_
    rotate_left
    · intro w; go_simp; with_reducible rfl
    refine wpAny_take (i := 10) (v := ?_) rfl (by kernel_rfl) (by kernel_rfl) (by kernel_rfl) (fun _ _ _ h => h) (Or.inl ⟨by rfl, ?_⟩) ?_
    rotate_left
    · intro w; go_simp; with_reducible rfl
    refine wpAny_take (i := 11) (v := ?_) rfl (by kernel_rfl) (by kernel_rfl) (by kernel_rfl) (fun _ _ _ h => h) (Or.inl ⟨by rfl, ?_⟩) ?_
    rotate_left
    · intro w; go_simp; with_reducible rfl
    refine wpAny_take (i := 12) (v := ?_) rfl (by kernel_rfl) (by kernel_rfl) (by kernel_rfl) (fun _ _ _ h => h) (Or.inl ⟨by rfl, ?_⟩) ?_
    rotate_left
    · intro w; go_simp; with_reducible rfl
    refine wpAny_ready (rs := [13]) (by kernel_rfl) (by simp) ?_
    refine AllReady.cons rfl (fun K hK => ?_) AllReady.nil
    go_simp
    refine hK _ _ ?_
    clear hK K
    refine wpAny_take (i := 14) (v := ?_) rfl (by kernel_rfl) (by kernel_rfl) (by kernel_rfl) (fun _ _ _ h => h) (Or.inl ⟨by rfl, ?_⟩) ?_
    rotate_left
    · intro w; go_simp; with_reducible rfl
    refine wpAny_ready (rs := [15]) (by kernel_rfl) (by simp) ?_
    refine AllReady.cons rfl (fun K hK => ?_) AllReady.nil
    go_simp
    refine hK _ _ ?_
    clear hK K
    refine wpAny_take (i := 16) (v := ?_) rfl (by kernel_rfl) (by kernel_rfl) (by kernel_rfl) (fun _ _ _ h => h) (Or.inl ⟨by rfl, ?_⟩) ?_
    rotate_left
    · intro w; go_simp; with_reducible rfl
    refine wpAny_ready (rs := [17]) (by kernel_rfl) (by simp) ?_
    refine AllReady.cons rfl (fun K hK => ?_) AllReady.nil
    go_simp
    refine hK _ _ ?_
    clear hK K
    refine wpAny_done (by kernel_rfl) ?_ _
    have RE := Lib.hid (show RowAt (((w2.setCell ⟨w.heap.size + 1, 1, none⟩ (.int .i64 (X2 / 2))).setCell ⟨w.heap.size + 1, 2, none⟩ (.int .i64 (X3 / 2))).setCell ⟨w.heap.size + 1, 3, none⟩ (.bool (X3 % 2 == 1))).drew (w.heap.size + 1) (rowK C (X2 / 2) (X3 / 2) (X3 % 2 == 1) X4 0) from RD.out.drew)
    have HZ3 := Lib.hid ((((HZ2.out.other (p := 1) (.int .i64 (X2 / 2)) (show w.heap.size + 1 ≠ w.heap.size by omega)).other (p := 2) (.int .i64 (X3 / 2)) (show w.heap.size + 1 ≠ w.heap.size by omega)).other (p := 3) (.bool (X3 % 2 == 1)) (show w.heap.size + 1 ≠ w.heap.size by omega)).drew)
    have HB3 := Lib.hid ((((HB2.out.setCell (p := ⟨w.heap.size + 1, 1, none⟩) (show w.heap.size ≤ w.heap.size + 1 by omega) (.int .i64 (X2 / 2))).setCell (p := ⟨w.heap.size + 1, 2, none⟩) (show w.heap.size ≤ w.heap.size + 1 by omega) (.int .i64 (X3 / 2))).setCell (p := ⟨w.heap.size + 1, 3, none⟩) (show w.heap.size ≤ w.heap.size + 1 by omega) (.bool (X3 % 2 == 1))).drew)
    generalize (((w2.setCell ⟨w.heap.size + 1, 1, none⟩ (.int .i64 (X2 / 2))).setCell ⟨w.heap.size + 1, 2, none⟩ (.int .i64 (X3 / 2))).setCell ⟨w.heap.size + 1, 3, none⟩ (.bool (X3 % 2 == 1))).drew = w3 at *
    clear RA RB RC RD HZ2 HB2 HR2 q0 g0 q1 g1 q2 g2
    generalize (X2 / 2) = V0 at *
    generalize (X3 / 2) = V1 at *
    generalize (X3 % 2 == 1) = V2 at *
    clear e1 e2 e3 e4 e5 e6 e7 a2 b2 a3 b3
    go_wp2_with fail
    go_loopw [8, 9] (fun m i wx => ∃ j : Nat, j ≤ 4 ∧ i = .int .i64 j ∧ m = .int .i64 (mK X4 j) ∧ Hid (RowAt wx (w.heap.size + 1) (rowK C V0 V1 V2 X4 j) ∧ RowAt wx w.heap.size (rowR zeroR) ∧ Below w.heap.size w wx)) (fun _ i _ => 4 - (intOf i).toNat)
    case atStart =>
      have hz0 : 0 ≤ X4 ∧ X4 ≤ 255 := hlow 0
      exact ⟨0, by omega, rfl, congrArg (Value.int .i64) ((Go.IntWalk.i64_left _).symm.trans (IntWalk.i64_in _ (by omega))), RE.out, HZ3.out, HB3.out⟩
    case round =>
      obtain ⟨j, hj, rfl, rfl, HK⟩ := hrel
      clear RE HZ3 HB3
      obtain rfl | rfl | rfl | rfl | rfl : j = 0 ∨ j = 1 ∨ j = 2 ∨ j = 3 ∨ j = 4 := by omega
      · have ⟨s0, s1⟩ := hlow 0
        have hm : mK X4 1 = mK X4 0 / 2 := rfl
        have hn : (rowK C V0 V1 V2 X4 1) = (rowK C V0 V1 V2 X4 0).set 4 (.bool (mK X4 0 % 2 == 1)) := rfl
        have l0 := HK.out.1.cell 4 rfl
        have l1 := (HK.out.1.get 4 rfl).free
        have HN := Lib.hid (show RowAt (wr.setCell ⟨w.heap.size + 1, 4, none⟩ (.bool (mK X4 0 % 2 == 1))) (w.heap.size + 1) (rowK C V0 V1 V2 X4 1) from HK.out.1.put 4 _ _ hn)
        have HO := Lib.hid (HK.out.2.1.other (p := 4) (.bool (mK X4 0 % 2 == 1)) (show w.heap.size + 1 ≠ w.heap.size by omega))
        have HQ := Lib.hid (HK.out.2.2.setCell (p := ⟨w.heap.size + 1, 4, none⟩) (show w.heap.size ≤ w.heap.size + 1 by omega) (.bool (mK X4 0 % 2 == 1)))
        clear HK hn
        generalize mK X4 0 = M at *
        have e1 : M.tmod 2 = M % 2 := Int.tmod_eq_emod_of_nonneg (by omega)
        have e2 : M.tdiv 2 = M / 2 := Int.tdiv_eq_ediv_of_nonneg (by omega)
        have e3 : IntKind.i64.wrap (M / 2) = M / 2 := IntWalk.i64_in _ (by omega)
        go_wp2_with fail
        go_roundw
        case rel => exact ⟨1, by omega, by go_num, by rw [hm], HN.out, HO.out, HQ.out⟩
        case measure => simp [intOf]
      · have ⟨s0, s1⟩ := hlow 1
        have hm : mK X4 2 = mK X4 1 / 2 := rfl
        have hn : (rowK C V0 V1 V2 X4 2) = (rowK C V0 V1 V2 X4 1).set 5 (.bool (mK X4 1 % 2 == 1)) := rfl
        have l0 := HK.out.1.cell 5 rfl
        have l1 := (HK.out.1.get 5 rfl).free
        have HN := Lib.hid (show RowAt (wr.setCell ⟨w.heap.size + 1, 5, none⟩ (.bool (mK X4 1 % 2 == 1))) (w.heap.size + 1) (rowK C V0 V1 V2 X4 2) from HK.out.1.put 5 _ _ hn)
        have HO := Lib.hid (HK.out.2.1.other (p := 5) (.bool (mK X4 1 % 2 == 1)) (show w.heap.size + 1 ≠ w.heap.size by omega))
        have HQ := Lib.hid (HK.out.2.2.setCell (p := ⟨w.heap.size + 1, 5, none⟩) (show w.heap.size ≤ w.heap.size + 1 by omega) (.bool (mK X4 1 % 2 == 1)))
        clear HK hn
        generalize mK X4 1 = M at *
        have e1 : M.tmod 2 = M % 2 := Int.tmod_eq_emod_of_nonneg (by omega)
        have e2 : M.tdiv 2 = M / 2 := Int.tdiv_eq_ediv_of_nonneg (by omega)
        have e3 : IntKind.i64.wrap (M / 2) = M / 2 := IntWalk.i64_in _ (by omega)
        go_wp2_with fail
        go_roundw
        case rel => exact ⟨2, by omega, by go_num, by rw [hm], HN.out, HO.out, HQ.out⟩
        case measure => simp [intOf]
      · have ⟨s0, s1⟩ := hlow 2
        have hm : mK X4 3 = mK X4 2 / 2 := rfl
        have hn : (rowK C V0 V1 V2 X4 3) = (rowK C V0 V1 V2 X4 2).set 6 (.bool (mK X4 2 % 2 == 1)) := rfl
        have l0 := HK.out.1.cell 6 rfl
        have l1 := (HK.out.1.get 6 rfl).free
        have HN := Lib.hid (show RowAt (wr.setCell ⟨w.heap.size + 1, 6, none⟩ (.bool (mK X4 2 % 2 == 1))) (w.heap.size + 1) (rowK C V0 V1 V2 X4 3) from HK.out.1.put 6 _ _ hn)
        have HO := Lib.hid (HK.out.2.1.other (p := 6) (.bool (mK X4 2 % 2 == 1)) (show w.heap.size + 1 ≠ w.heap.size by omega))
        have HQ := Lib.hid (HK.out.2.2.setCell (p := ⟨w.heap.size + 1, 6, none⟩) (show w.heap.size ≤ w.heap.size + 1 by omega) (.bool (mK X4 2 % 2 == 1)))
        clear HK hn
        generalize mK X4 2 = M at *
        have e1 : M.tmod 2 = M % 2 := Int.tmod_eq_emod_of_nonneg (by omega)
        have e2 : M.tdiv 2 = M / 2 := Int.tdiv_eq_ediv_of_nonneg (by omega)
        have e3 : IntKind.i64.wrap (M / 2) = M / 2 := IntWalk.i64_in _ (by omega)
        go_wp2_with fail
        go_roundw
        case rel => exact ⟨3, by omega, by go_num, by rw [hm], HN.out, HO.out, HQ.out⟩
        case measure => simp [intOf]
      · have ⟨s0, s1⟩ := hlow 3
        have hm : mK X4 4 = mK X4 3 / 2 := rfl
        have hn : (rowK C V0 V1 V2 X4 4) = (rowK C V0 V1 V2 X4 3).set 7 (.bool (mK X4 3 % 2 == 1)) := rfl
        have l0 := HK.out.1.cell 7 rfl
        have l1 := (HK.out.1.get 7 rfl).free
        have HN := Lib.hid (show RowAt (wr.setCell ⟨w.heap.size + 1, 7, none⟩ (.bool (mK X4 3 % 2 == 1))) (w.heap.size + 1) (rowK C V0 V1 V2 X4 4) from HK.out.1.put 7 _ _ hn)
        have HO := Lib.hid (HK.out.2.1.other (p := 7) (.bool (mK X4 3 % 2 == 1)) (show w.heap.size + 1 ≠ w.heap.size by omega))
        have HQ := Lib.hid (HK.out.2.2.setCell (p := ⟨w.heap.size + 1, 7, none⟩) (show w.heap.size ≤ w.heap.size + 1 by omega) (.bool (mK X4 3 % 2 == 1)))
        clear HK hn
        generalize mK X4 3 = M at *
        have e1 : M.tmod 2 = M % 2 := Int.tmod_eq_emod_of_nonneg (by omega)
        have e2 : M.tdiv 2 = M / 2 := Int.tdiv_eq_ediv_of_nonneg (by omega)
        have e3 : IntKind.i64.wrap (M / 2) = M / 2 := IntWalk.i64_in _ (by omega)
        go_wp2_with fail
        go_roundw
        case rel => exact ⟨4, by omega, by go_num, by rw [hm], HN.out, HO.out, HQ.out⟩
        case measure => simp [intOf]
      · have hrow := HK.out.1
        have l0 := hrow.cell 0 rfl
        have l1 := hrow.cell 1 rfl
        have l2 := hrow.cell 2 rfl
        have l3 := hrow.cell 3 rfl
        have l4 := hrow.cell 4 rfl
        have l5 := hrow.cell 5 rfl
        have l6 := hrow.cell 6 rfl
        have l7 := hrow.cell 7 rfl
        have HKK := Lib.hid (show RowAt wr (w.heap.size + 1) [.string C, .int .i64 V0, .int .i64 V1, .bool V2, .bool (markX X4 0), .bool (markX X4 1), .bool (markX X4 2), .bool (markX X4 3)] from HK.out.1)
        have HO := Lib.hid HK.out.2.1
        have HQ := Lib.hid HK.out.2.2
        clear HK hrow hlow
        generalize markX X4 0 = N0 at *
        generalize markX X4 1 = N1 at *
        generalize markX X4 2 = N2 at *
        generalize markX X4 3 = N3 at *
        go_wp2_with fail
        go_at_call 11
        refine (HPUT.out _).mono ?_
        rintro e w5 ⟨rfl, hb⟩
        have HO5 := Lib.hid (HO.out.below hb)
        have HQ5 := Lib.hid (HQ.out.trans (hb.mono HQ.out.size))
        have HK5 := Lib.hid (HKK.out.below hb)
        clear hb HO HQ HKK HPUT l0 l1 l2 l3 l4 l5 l6 l7
        have x0 := HO5.out.cell 0 rfl
        have x1 := HO5.out.cell 1 rfl
        have x2 := HO5.out.cell 2 rfl
        have x3 := HO5.out.cell 3 rfl
        have x4 := HO5.out.cell 4 rfl
        have x5 := HO5.out.cell 5 rfl
        have x6 := HO5.out.cell 6 rfl
        have x7 := HO5.out.cell 7 rfl
        have f0 := (HO5.out.get 0 rfl).free
        have f1 := (HO5.out.get 1 rfl).free
        have f2 := (HO5.out.get 2 rfl).free
        have f3 := (HO5.out.get 3 rfl).free
        have f4 := (HO5.out.get 4 rfl).free
        have f5 := (HO5.out.get 5 rfl).free
        have f6 := (HO5.out.get 6 rfl).free
        have f7 := (HO5.out.get 7 rfl).free
        by_cases hq : P = b
        · obtain rfl : (⟨C, V0, V1, V2, N0, N1, N2, N3⟩, 0) = G := by
            have := HG.out
            rwa [if_pos hq] at this
          clear HG
          subst hq
          have y0 := HK5.out.cell 0 rfl
          have y1 := HK5.out.cell 1 rfl
          have y2 := HK5.out.cell 2 rfl
          have y3 := HK5.out.cell 3 rfl
          have y4 := HK5.out.cell 4 rfl
          have y5 := HK5.out.cell 5 rfl
          have y6 := HK5.out.cell 6 rfl
          have y7 := HK5.out.cell 7 rfl
          have S := Lib.hid (stored8 HO5.out rfl (.string C) (.int .i64 V0) (.int .i64 V1) (.bool V2) (.bool N0) (.bool N1) (.bool N2) (.bool N3))
          have HE := Lib.hid (set8_below (m := w.heap.size) HQ5.out (Nat.le_refl _) (.string C) (.int .i64 V0) (.int .i64 V1) (.bool V2) (.bool N0) (.bool N1) (.bool N2) (.bool N3))
          go_wp2_with fail
          have s0 := S.out.cell 0 rfl
          have s1 := S.out.cell 1 rfl
          have s2 := S.out.cell 2 rfl
          have s3 := S.out.cell 3 rfl
          have s4 := S.out.cell 4 rfl
          have s5 := S.out.cell 5 rfl
          have s6 := S.out.cell 6 rfl
          have s7 := S.out.cell 7 rfl
          exact bodyPost_ret (v := .tuple #[repV ⟨C, V0, V1, V2, N0, N1, N2, N3⟩, .int .i64 0]) (by simp [results, Try.results12, go_sem, s0, s1, s2, s3, s4, s5, s6, s7, repV]) rfl ⟨rfl, HE.out⟩
        · have hne : (P.toList == b.toList) = false := by
            simp only [beq_eq_false_iff_ne, ne_eq]
            intro he
            rw [ByteArray.toList_eq, ByteArray.toList_eq] at he
            exact hq (bytes_ext' he)
          obtain rfl : (zeroR, 2) = G := by
            have := HG.out
            rwa [if_neg hq] at this
          clear HG
          have S := Lib.hid (stored8 HO5.out rfl (.string ⟨#[]⟩) (.int .i64 0) (.int .i64 0) (.bool false) (.bool false) (.bool false) (.bool false) (.bool false))
          have HE := Lib.hid (set8_below (m := w.heap.size) HQ5.out (Nat.le_refl _) (.string ⟨#[]⟩) (.int .i64 0) (.int .i64 0) (.bool false) (.bool false) (.bool false) (.bool false) (.bool false))
          go_wp2_with fail
          have s0 := S.out.cell 0 rfl
          have s1 := S.out.cell 1 rfl
          have s2 := S.out.cell 2 rfl
          have s3 := S.out.cell 3 rfl
          have s4 := S.out.cell 4 rfl
          have s5 := S.out.cell 5 rfl
          have s6 := S.out.cell 6 rfl
          have s7 := S.out.cell 7 rfl
          exact bodyPost_ret (v := .tuple #[repV zeroR, .int .i64 2]) (by simp [results, Try.results12, go_sem, s0, s1, s2, s3, s4, s5, s6, s7, repV, zeroR]) rfl ⟨rfl, HE.out⟩
  · have hg : getR b true = (zeroR, 5) := by
      unfold getR
      rw [if_neg (show ¬ b.size < sizeB true by show ¬ b.size < 5; omega), if_pos (show sizeB true < b.size from h)]
    rw [hg]
    have S := Lib.hid (stored8 HR.out rfl (.string ⟨#[]⟩) (.int .i64 0) (.int .i64 0) (.bool false) (.bool false) (.bool false) (.bool false) (.bool false))
    have HE := Lib.hid (set8_below (m := w.heap.size) HB.out (Nat.le_refl _) (.string ⟨#[]⟩) (.int .i64 0) (.int .i64 0) (.bool false) (.bool false) (.bool false) (.bool false) (.bool false))
    have x0 := HR.out.cell 0 rfl
    have x1 := HR.out.cell 1 rfl
    have x2 := HR.out.cell 2 rfl
    have x3 := HR.out.cell 3 rfl
    have x4 := HR.out.cell 4 rfl
    have x5 := HR.out.cell 5 rfl
    have x6 := HR.out.cell 6 rfl
    have x7 := HR.out.cell 7 rfl
    have f0 := (HR.out.get 0 rfl).free
    have f1 := (HR.out.get 1 rfl).free
    have f2 := (HR.out.get 2 rfl).free
    have f3 := (HR.out.get 3 rfl).free
    have f4 := (HR.out.get 4 rfl).free
    have f5 := (HR.out.get 5 rfl).free
    have f6 := (HR.out.get 6 rfl).free
    have f7 := (HR.out.get 7 rfl).free
    go_enter Try.func12, Try.ntmps12
    go_upto_region 1 with (fail)
    generalize w.alloc (.cells #[.string ⟨#[]⟩, .int .i64 0, .int .i64 0, .bool false, .bool false, .bool false, .bool false, .bool false] 27) = w1 at *
    clear HB HR hz hg
    go_wp2_with fail
    have s0 := S.out.cell 0 rfl
    have s1 := S.out.cell 1 rfl
    have s2 := S.out.cell 2 rfl
    have s3 := S.out.cell 3 rfl
    have s4 := S.out.cell 4 rfl
    have s5 := S.out.cell 5 rfl
    have s6 := S.out.cell 6 rfl
    have s7 := S.out.cell 7 rfl
    exact bodyPost_ret (v := .tuple #[repV zeroR, .int .i64 5]) (by simp [results, Try.results12, go_sem, s0, s1, s2, s3, s4, s5, s6, s7, repV, zeroR]) rfl ⟨rfl, HE.out⟩
end Go.Proofs.Ytdaagllacmnekaa
