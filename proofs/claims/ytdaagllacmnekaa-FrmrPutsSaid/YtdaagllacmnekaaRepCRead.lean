/-
The landed code's read: the report of bytes that are as many as one has (written by tools/gen9/gen_cget.py).
-/
import Derived.Test.YtdaagllacmnekaaRepCPutN
import Derived.Test.YtdaagllacmnekaaShelf
namespace Go.Proofs.Ytdaagllacmnekaa
open Go.RowKit
set_option maxRecDepth 20000
theorem and_nums_all : ∀ x : Fin 256, bits BinOp.and .i64 ((x.1 : Int) / 2) 7 = (x.1 : Int) / 2 % 8 ∧ (bits BinOp.and .u8 (x.1 : Int) 16 != 0) = ((x.1 : Int) / 16 % 2 == 1) ∧ (bits BinOp.and .u8 (x.1 : Int) 1 != 0) = ((x.1 : Int) % 2 == 1) := by decide +kernel
theorem and_nums (X : Int) (h0 : 0 ≤ X) (h1 : X ≤ 255) : bits BinOp.and .i64 (X / 2) 7 = X / 2 % 8 ∧ (bits BinOp.and .u8 X 16 != 0) = (X / 16 % 2 == 1) ∧ (bits BinOp.and .u8 X 1 != 0) = (X % 2 == 1) := by
  have := and_nums_all ⟨X.toNat, by omega⟩
  simpa only [Int.toNat_of_nonneg h0] using this
theorem and_marks_all : ∀ x : Fin 256, (bits BinOp.and .u8 (x.1 : Int) 1 != 0) = markX (x.1 : Int) 0 ∧ (bits BinOp.and .u8 (x.1 : Int) 2 != 0) = markX (x.1 : Int) 1 ∧ (bits BinOp.and .u8 (x.1 : Int) 4 != 0) = markX (x.1 : Int) 2 ∧ (bits BinOp.and .u8 (x.1 : Int) 8 != 0) = markX (x.1 : Int) 3 := by decide +kernel
theorem and_marks (X : Int) (h0 : 0 ≤ X) (h1 : X ≤ 255) : (bits BinOp.and .u8 X 1 != 0) = markX X 0 ∧ (bits BinOp.and .u8 X 2 != 0) = markX X 1 ∧ (bits BinOp.and .u8 X 4 != 0) = markX X 2 ∧ (bits BinOp.and .u8 X 8 != 0) = markX X 3 := by
  have := and_marks_all ⟨X.toNat, by omega⟩
  simpa only [Int.toNat_of_nonneg h0] using this
theorem cclone_any (s : ByteArray) (w : World) (h : s.size ≤ 1000) : Calls Try.prog 29 #[.string s] w fun e w' => e = .returned (.string s) ∧ Below w.heap.size w w' := by
  have HC := Lib.hid (Try.stringslite_Clone s w (by omega))
  clear h
  go_enter Try.func29, Try.ntmps29
  go_wp2_with (go_at_call 35; (with_reducible refine HC.out.mono ?_); rintro e w1 ⟨rfl, hb⟩; have HB := Lib.hid hb; clear hb)
  go_ret
  exact ⟨rfl, HB.out⟩
set_option maxHeartbeats 2000000 in
theorem cread_narrow (b : ByteArray) (x0 x1 x2 : UInt8) (hb : b = ⟨#[x0, x1, x2]⟩) (w : World) : Calls Try.prog 19 #[.string b, .bool false] w fun e w' => e = .returned (repV (readN x0 x1 x2)) ∧ Below w.heap.size w w' := by
  have HB := Lib.hid ((Below.refl _ w).alloc (Nat.le_refl _) (.cells (rowR zeroR).toArray 23))
  have HR := Lib.hid (RowAt.new w w.heap.size rfl (rowR zeroR) 23)
  have hz : w.heap.size < (w.alloc (.cells (rowR zeroR).toArray 23)).heap.size := by simp
  simp only [rowR, zeroR] at HB HR hz
  have hsz : b.size = 3 := by rw [hb]; rfl
  have hi1 : ∀ W, (Instr.index 9 (.string b) (.int .i64 1)).run Try.prog W = .ok (.int .u8 (int8 x1)) W := fun W => index_text b 1 x1 (by rw [hb]; rfl) W
  have hi2 : ∀ W, (Instr.index 9 (.string b) (.int .i64 2)).run Try.prog W = .ok (.int .u8 (int8 x2)) W := fun W => index_text b 2 x2 (by rw [hb]; rfl) W
  have hsl : ∀ W, (Instr.slice 9 (.string b) none (some (.int .i64 1)) none).run Try.prog W = .ok (.string ⟨#[x0]⟩) W := fun W => by
    have k := slice_text b 1 (by omega) W
    rw [show b.data.toList.take 1 = [x0] by rw [hb]; rfl] at k
    exact k
  have ⟨a1, b1⟩ := int8_low x1
  have hlow := int8_low x2
  unfold readN repV
  simp only
  have HC := Lib.hid (fun W => cclone_any ⟨#[x0]⟩ W (by show 1 ≤ 1000; omega))
  clear hb
  generalize int8 x1 = X1 at *
  generalize int8 x2 = X2 at *
  generalize (⟨#[x0]⟩ : ByteArray) = C at *
  have HS := Lib.hid (show ∀ W, Calls Try.prog 15 #[.bool false] W fun e w' => e = .returned (.int .i64 1) ∧ w' = W from fun W => croom_any false W)
  go_enter Try.func19, Try.ntmps19
  go_upto_region 1 with (fail)
  generalize w.alloc (.cells #[.string ⟨#[]⟩, .int .i64 0, .int .i64 0, .bool false, .bool false, .bool false, .bool false, .bool false] 23) = w1 at *
  go_wp2_with fail
  go_at_call 15
  refine (HS.out _).mono ?_
  rintro e w2 ⟨rfl, rfl⟩
  go_wp2_with fail
  go_at_call 29
  refine (HC.out _).mono ?_
  rintro e w3 ⟨rfl, hb⟩
  replace HR := Lib.hid (HR.out.below hb)
  replace hz := Nat.lt_of_lt_of_le hz hb.size
  replace HB := Lib.hid (HB.out.trans (hb.mono HB.out.size))
  clear hb HC HS
  have HZ2 := Lib.hid (HR.out.alloc (.cells #[.string C, .int .i64 0, .int .i64 0, .bool false, .bool false, .bool false, .bool false, .bool false] 23))
  have HB2 := Lib.hid (HB.out.alloc HB.out.size (.cells #[.string C, .int .i64 0, .int .i64 0, .bool false, .bool false, .bool false, .bool false, .bool false] 23))
  have HR2 := Lib.hid (RowAt.new w3 w3.heap.size rfl [.string C, .int .i64 0, .int .i64 0, .bool false, .bool false, .bool false, .bool false, .bool false] 23)
  clear HB HR
  go_upto_region 3 with (fail)
  generalize w3.alloc (.cells #[.string C, .int .i64 0, .int .i64 0, .bool false, .bool false, .bool false, .bool false, .bool false] 23) = w4 at *
  have q0 := HR2.out.cell 1 rfl
  have g0 := (HR2.out.get 1 rfl).free
  have RA := Lib.hid (HR2.out.put 1 (.int .i64 (X1 / 2 % 8)) _ rfl)
  have HZ3 := Lib.hid (HZ2.out.other (p := 1) (.int .i64 (X1 / 2 % 8)) (show w3.heap.size ≠ w.heap.size by omega))
  have HB3 := Lib.hid (HB2.out.setCell (p := ⟨w3.heap.size, 1, none⟩) (show w.heap.size ≤ w3.heap.size by omega) (.int .i64 (X1 / 2 % 8)))
  obtain ⟨y10, y11, y12⟩ := and_nums X1 a1 b1
  have e1 : IntKind.i64.wrap (X1 / 2) = X1 / 2 := IntWalk.i64_in _ (by omega)
  have e2 : IntKind.i64.wrap (X1 / 32) = X1 / 32 := IntWalk.i64_in _ (by omega)
  go_upto_region 7 with (fail)
  clear HZ2 HB2 HR2 q0 g0
  generalize w4.setCell ⟨w3.heap.size, 1, none⟩ (.int .i64 (X1 / 2 % 8)) = w5 at *
  have q1 := RA.out.drew.cell 2 rfl
  have g1 := (RA.out.drew.get 2 rfl).free
  have RB := Lib.hid (RA.out.put 2 (.int .i64 (X1 / 32)) _ rfl)
  have q2 := RB.out.drew.cell 3 rfl
  have g2 := (RB.out.drew.get 3 rfl).free
  have RC := Lib.hid (RB.out.put 3 (.bool (X1 / 16 % 2 == 1)) _ rfl)
  refine wp_region_any (by kernel_rfl) ?_
  try (change wpAny _ _ _ _ _ _ _ (World.drew _))
  refine wpAny_take (i := 0) (v := ?_) rfl (by kernel_rfl) (by kernel_rfl) (by kernel_rfl) (fun _ _ _ h => h) (Or.inl ⟨by rfl, ?_⟩) ?_
  rotate_left
  · intro w; go_simp; with_reducible rfl
  refine wpAny_take (i := 1) (v := ?_) rfl (by kernel_rfl) (by kernel_rfl) (by kernel_rfl) (fun _ _ _ h => h) (Or.inl ⟨by rfl, ?_⟩) ?_
  rotate_left
  · intro w; go_simp; with_reducible rfl
  refine wpAny_take (i := 2) (v := ?_) rfl (by kernel_rfl) (by kernel_rfl) (by kernel_rfl) (fun _ _ _ h => h) (Or.inl ⟨by rfl, ?_⟩) ?_
  rotate_left
  · intro w; go_simp; with_reducible rfl
  refine wpAny_take (i := 3) (v := ?_) rfl (by kernel_rfl) (by kernel_rfl) (by kernel_rfl) (fun _ _ _ h => h) (Or.inl ⟨by rfl, ?_⟩) ?_
  rotate_left
  · intro w; go_simp; with_reducible rfl
  refine wpAny_take (i := 4) (v := ?_) rfl (by kernel_rfl) (by kernel_rfl) (by kernel_rfl) (fun _ _ _ h => h) (Or.inl ⟨by rfl, ?_⟩) ?_
  rotate_left
  · intro w; go_simp; with_reducible rfl
  refine wpAny_take (i := 5) (v := ?_) rfl (by kernel_rfl) (by kernel_rfl) (by kernel_rfl) (fun _ _ _ h => h) (Or.inl ⟨by rfl, ?_⟩) ?_
  rotate_left
  · intro w; go_simp; with_reducible rfl
  refine wpAny_take (i := 6) (v := ?_) rfl (by kernel_rfl) (by kernel_rfl) (by kernel_rfl) (fun _ _ _ h => h) (Or.inl ⟨by rfl, ?_⟩) ?_
  rotate_left
  · intro w; go_simp; with_reducible rfl
  refine wpAny_take (i := 7) (v := ?_) rfl (by kernel_rfl) (by kernel_rfl) (by kernel_rfl) (fun _ _ _ h => h) (Or.inl ⟨by rfl, ?_⟩) ?_
  rotate_left
  · intro w; go_simp; with_reducible rfl
  refine wpAny_take (i := 8) (v := ?_) rfl (by kernel_rfl) (by kernel_rfl) (by kernel_rfl) (fun _ _ _ h => h) (Or.inl ⟨by rfl, ?_⟩) ?_
  rotate_left
  · intro w; go_simp; with_reducible rfl
  refine wpAny_take (i := 9) (v := ?_) rfl (by kernel_rfl) (by kernel_rfl) (by kernel_rfl) (fun _ _ _ h => h) (Or.inl ⟨by rfl, ?_⟩) ?_
  rotate_left
  · intro w; go_simp; with_reducible rfl
  refine wpAny_take (i := 10) (v := ?_) rfl (by kernel_rfl) (by kernel_rfl) (by kernel_rfl) (fun _ _ _ h => h) (Or.inl ⟨by rfl, ?_⟩) ?_
  rotate_left
  · intro w; go_simp; with_reducible rfl
  refine wpAny_ready (rs := [11]) (by kernel_rfl) (by simp) ?_
  refine AllReady.cons rfl (fun K hK => ?_) AllReady.nil
  go_simp
  refine hK _ _ ?_
  clear hK K
  refine wpAny_take (i := 12) (v := ?_) rfl (by kernel_rfl) (by kernel_rfl) (by kernel_rfl) (fun _ _ _ h => h) (Or.inl ⟨by rfl, ?_⟩) ?_
  rotate_left
  · intro w; go_simp; with_reducible rfl
  refine wpAny_ready (rs := [13]) (by kernel_rfl) (by simp) ?_
  refine AllReady.cons rfl (fun K hK => ?_) AllReady.nil
  go_simp
  refine hK _ _ ?_
  clear hK K
  refine wpAny_done (by kernel_rfl) ?_ _
  have RE := Lib.hid (show RowAt ((w5.setCell ⟨w3.heap.size, 2, none⟩ (.int .i64 (X1 / 32))).setCell ⟨w3.heap.size, 3, none⟩ (.bool (X1 / 16 % 2 == 1))).drew (w3.heap.size) (rowK C (X1 / 2 % 8) (X1 / 32) (X1 / 16 % 2 == 1) X2 0) from RC.out.drew)
  have HZ4 := Lib.hid (((HZ3.out.other (p := 2) (.int .i64 (X1 / 32)) (show w3.heap.size ≠ w.heap.size by omega)).other (p := 3) (.bool (X1 / 16 % 2 == 1)) (show w3.heap.size ≠ w.heap.size by omega)).drew)
  have HB4 := Lib.hid (((HB3.out.setCell (p := ⟨w3.heap.size, 2, none⟩) (show w.heap.size ≤ w3.heap.size by omega) (.int .i64 (X1 / 32))).setCell (p := ⟨w3.heap.size, 3, none⟩) (show w.heap.size ≤ w3.heap.size by omega) (.bool (X1 / 16 % 2 == 1))).drew)
  generalize ((w5.setCell ⟨w3.heap.size, 2, none⟩ (.int .i64 (X1 / 32))).setCell ⟨w3.heap.size, 3, none⟩ (.bool (X1 / 16 % 2 == 1))).drew = w6 at *
  clear RA RB RC HZ3 HB3 q1 g1 q2 g2
  generalize hV0 : (X1 / 2 % 8) = V0 at *
  generalize hV1 : (X1 / 32) = V1 at *
  generalize hV2 : (X1 / 16 % 2 == 1) = V2 at *
  have HV := Lib.hid (And.intro hV0 (And.intro hV1 hV2))
  clear hV0 hV1 hV2 e1 e2 a1 b1 y10 y11 y12
  go_wp2_with fail
  go_at_call 28
  refine (cmarks_any (w3.heap.size) _).mono ?_
  rintro e w7 ⟨rfl, hb⟩
  have RE4 := Lib.hid (RE.out.below hb)
  have HZ5 := Lib.hid (HZ4.out.below hb)
  have HB5 := Lib.hid (HB4.out.trans (hb.mono HB4.out.size))
  clear hb RE HZ4 HB4
  have hx0 := fun W => (index_ptrs (w3.heap.size) W).1
  have hx1 := fun W => (index_ptrs (w3.heap.size) W).2.1
  have hx2 := fun W => (index_ptrs (w3.heap.size) W).2.2.1
  have hx3 := fun W => (index_ptrs (w3.heap.size) W).2.2.2
  unfold ptrsR at hx0 hx1 hx2 hx3 ⊢
  go_wp2_with fail
  go_loopw [7, 8, 57] (fun t q i wx => ∃ j : Nat, j ≤ 4 ∧ i = .int .i64 j ∧ Hid (RowAt wx (w3.heap.size) (rowK C V0 V1 V2 X2 j) ∧ RowAt wx w.heap.size (rowR zeroR) ∧ Below w.heap.size w wx)) (fun _ _ i _ => 4 - (intOf i).toNat)
  case atStart => exact ⟨0, by omega, rfl, RE4.out, HZ5.out, HB5.out⟩
  case round =>
    obtain ⟨j, hj, rfl, HK⟩ := hrel
    clear RE4 HZ5 HB5
    obtain ⟨m0, m1, m2, m3⟩ := and_marks X2 hlow.1 hlow.2
    obtain rfl | rfl | rfl | rfl | rfl : j = 0 ∨ j = 1 ∨ j = 2 ∨ j = 3 ∨ j = 4 := by omega
    · have hn : (rowK C V0 V1 V2 X2 1) = (rowK C V0 V1 V2 X2 0).set 4 (.bool (markX X2 0)) := rfl
      have l0 := HK.out.1.drew.cell 4 rfl
      have l1 := (HK.out.1.drew.get 4 rfl).free
      have hwp : IntKind.u8.wrap 1 = 1 := by decide
      have hwl : IntKind.i64.wrap 2 = 2 := by decide
      have HN := Lib.hid (show RowAt (wr.setCell ⟨w3.heap.size, 4, none⟩ (.bool (markX X2 0))).drew (w3.heap.size) (rowK C V0 V1 V2 X2 1) from (HK.out.1.put 4 _ _ hn).drew)
      have HO := Lib.hid ((HK.out.2.1.other (p := 4) (.bool (markX X2 0)) (show w3.heap.size ≠ w.heap.size by omega)).drew)
      have HQ := Lib.hid ((HK.out.2.2.setCell (p := ⟨w3.heap.size, 4, none⟩) (show w.heap.size ≤ w3.heap.size by omega) (.bool (markX X2 0))).drew)
      clear HK hn
      go_upto_region 11 with (fail)
      refine wp_region_any (by kernel_rfl) ?_
      try (change wpAny _ _ _ _ _ _ _ (World.drew _))
      refine wpAny_take (i := 0) (v := ?_) rfl (by kernel_rfl) (by kernel_rfl) (by kernel_rfl) (fun _ _ _ h => h) (Or.inl ⟨by rfl, ?_⟩) ?_
      rotate_left
      · intro w; go_simp; with_reducible rfl
      refine wpAny_take (i := 1) (v := ?_) rfl (by kernel_rfl) (by kernel_rfl) (by kernel_rfl) (fun _ _ _ h => h) (Or.inl ⟨by rfl, ?_⟩) ?_
      rotate_left
      · intro w; go_simp; with_reducible rfl
      refine wpAny_take (i := 2) (v := ?_) rfl (by kernel_rfl) (by kernel_rfl) (by kernel_rfl) (fun _ _ _ h => h) (Or.inl ⟨by rfl, ?_⟩) ?_
      rotate_left
      · intro w; go_simp; with_reducible rfl
      refine wpAny_take (i := 3) (v := ?_) rfl (by kernel_rfl) (by kernel_rfl) (by kernel_rfl) (fun _ _ _ h => h) (Or.inl ⟨by rfl, ?_⟩) ?_
      rotate_left
      · intro w; go_simp; with_reducible rfl
      refine wpAny_take (i := 4) (v := ?_) rfl (by kernel_rfl) (by kernel_rfl) (by kernel_rfl) (fun _ _ _ h => h) (Or.inl ⟨by rfl, ?_⟩) ?_
      rotate_left
      · intro w; go_simp; with_reducible rfl
      refine wpAny_take (i := 5) (v := ?_) rfl (by kernel_rfl) (by kernel_rfl) (by kernel_rfl) (fun _ _ _ h => h) (Or.inl ⟨by rfl, ?_⟩) ?_
      rotate_left
      · intro w; go_simp; with_reducible rfl
      refine wpAny_take (i := 6) (v := ?_) rfl (by kernel_rfl) (by kernel_rfl) (by kernel_rfl) (fun _ _ _ h => h) (Or.inl ⟨by rfl, ?_⟩) ?_
      rotate_left
      · intro w; go_simp; with_reducible rfl
      refine wpAny_take (i := 7) (v := ?_) rfl (by kernel_rfl) (by kernel_rfl) (by kernel_rfl) (fun _ _ _ h => h) (Or.inl ⟨by rfl, ?_⟩) ?_
      rotate_left
      · intro w; go_simp; with_reducible rfl
      refine wpAny_take (i := 8) (v := ?_) rfl (by kernel_rfl) (by kernel_rfl) (by kernel_rfl) (fun _ _ _ h => h) (Or.inl ⟨by rfl, ?_⟩) ?_
      rotate_left
      · intro w; go_simp; with_reducible rfl
      refine wpAny_take (i := 9) (v := ?_) rfl (by kernel_rfl) (by kernel_rfl) (by kernel_rfl) (fun _ _ _ h => h) (Or.inl ⟨by rfl, ?_⟩) ?_
      rotate_left
      · intro w; go_simp; with_reducible rfl
      refine wpAny_take (i := 10) (v := ?_) rfl (by kernel_rfl) (by kernel_rfl) (by kernel_rfl) (fun _ _ _ h => h) (Or.inl ⟨by rfl, ?_⟩) ?_
      rotate_left
      · intro w; go_simp; with_reducible rfl
      refine wpAny_ready (rs := [11]) (by kernel_rfl) (by simp) ?_
      refine AllReady.cons rfl (fun K hK => ?_) AllReady.nil
      go_simp
      refine hK _ _ ?_
      clear hK K
      refine wpAny_done (by kernel_rfl) ?_ _
      go_wp2_with fail
      go_roundw
      case rel => exact ⟨1, by omega, by go_num, HN.out, HO.out, HQ.out⟩
      case measure => simp [intOf]
    · have hn : (rowK C V0 V1 V2 X2 2) = (rowK C V0 V1 V2 X2 1).set 5 (.bool (markX X2 1)) := rfl
      have l0 := HK.out.1.drew.cell 5 rfl
      have l1 := (HK.out.1.drew.get 5 rfl).free
      have hwp : IntKind.u8.wrap 2 = 2 := by decide
      have hwl : IntKind.i64.wrap 2 = 2 := by decide
      have HN := Lib.hid (show RowAt (wr.setCell ⟨w3.heap.size, 5, none⟩ (.bool (markX X2 1))).drew (w3.heap.size) (rowK C V0 V1 V2 X2 2) from (HK.out.1.put 5 _ _ hn).drew)
      have HO := Lib.hid ((HK.out.2.1.other (p := 5) (.bool (markX X2 1)) (show w3.heap.size ≠ w.heap.size by omega)).drew)
      have HQ := Lib.hid ((HK.out.2.2.setCell (p := ⟨w3.heap.size, 5, none⟩) (show w.heap.size ≤ w3.heap.size by omega) (.bool (markX X2 1))).drew)
      clear HK hn
      go_upto_region 11 with (fail)
      refine wp_region_any (by kernel_rfl) ?_
      try (change wpAny _ _ _ _ _ _ _ (World.drew _))
      refine wpAny_take (i := 0) (v := ?_) rfl (by kernel_rfl) (by kernel_rfl) (by kernel_rfl) (fun _ _ _ h => h) (Or.inl ⟨by rfl, ?_⟩) ?_
      rotate_left
      · intro w; go_simp; with_reducible rfl
      refine wpAny_take (i := 1) (v := ?_) rfl (by kernel_rfl) (by kernel_rfl) (by kernel_rfl) (fun _ _ _ h => h) (Or.inl ⟨by rfl, ?_⟩) ?_
      rotate_left
      · intro w; go_simp; with_reducible rfl
      refine wpAny_take (i := 2) (v := ?_) rfl (by kernel_rfl) (by kernel_rfl) (by kernel_rfl) (fun _ _ _ h => h) (Or.inl ⟨by rfl, ?_⟩) ?_
      rotate_left
      · intro w; go_simp; with_reducible rfl
      refine wpAny_take (i := 3) (v := ?_) rfl (by kernel_rfl) (by kernel_rfl) (by kernel_rfl) (fun _ _ _ h => h) (Or.inl ⟨by rfl, ?_⟩) ?_
      rotate_left
      · intro w; go_simp; with_reducible rfl
      refine wpAny_take (i := 4) (v := ?_) rfl (by kernel_rfl) (by kernel_rfl) (by kernel_rfl) (fun _ _ _ h => h) (Or.inl ⟨by rfl, ?_⟩) ?_
      rotate_left
      · intro w; go_simp; with_reducible rfl
      refine wpAny_take (i := 5) (v := ?_) rfl (by kernel_rfl) (by kernel_rfl) (by kernel_rfl) (fun _ _ _ h => h) (Or.inl ⟨by rfl, ?_⟩) ?_
      rotate_left
      · intro w; go_simp; with_reducible rfl
      refine wpAny_take (i := 6) (v := ?_) rfl (by kernel_rfl) (by kernel_rfl) (by kernel_rfl) (fun _ _ _ h => h) (Or.inl ⟨by rfl, ?_⟩) ?_
      rotate_left
      · intro w; go_simp; with_reducible rfl
      refine wpAny_take (i := 7) (v := ?_) rfl (by kernel_rfl) (by kernel_rfl) (by kernel_rfl) (fun _ _ _ h => h) (Or.inl ⟨by rfl, ?_⟩) ?_
      rotate_left
      · intro w; go_simp; with_reducible rfl
      refine wpAny_take (i := 8) (v := ?_) rfl (by kernel_rfl) (by kernel_rfl) (by kernel_rfl) (fun _ _ _ h => h) (Or.inl ⟨by rfl, ?_⟩) ?_
      rotate_left
      · intro w; go_simp; with_reducible rfl
      refine wpAny_take (i := 9) (v := ?_) rfl (by kernel_rfl) (by kernel_rfl) (by kernel_rfl) (fun _ _ _ h => h) (Or.inl ⟨by rfl, ?_⟩) ?_
      rotate_left
      · intro w; go_simp; with_reducible rfl
      refine wpAny_take (i := 10) (v := ?_) rfl (by kernel_rfl) (by kernel_rfl) (by kernel_rfl) (fun _ _ _ h => h) (Or.inl ⟨by rfl, ?_⟩) ?_
      rotate_left
      · intro w; go_simp; with_reducible rfl
      refine wpAny_ready (rs := [11]) (by kernel_rfl) (by simp) ?_
      refine AllReady.cons rfl (fun K hK => ?_) AllReady.nil
      go_simp
      refine hK _ _ ?_
      clear hK K
      refine wpAny_done (by kernel_rfl) ?_ _
      go_wp2_with fail
      go_roundw
      case rel => exact ⟨2, by omega, by go_num, HN.out, HO.out, HQ.out⟩
      case measure => simp [intOf]
    · have hn : (rowK C V0 V1 V2 X2 3) = (rowK C V0 V1 V2 X2 2).set 6 (.bool (markX X2 2)) := rfl
      have l0 := HK.out.1.drew.cell 6 rfl
      have l1 := (HK.out.1.drew.get 6 rfl).free
      have hwp : IntKind.u8.wrap 4 = 4 := by decide
      have hwl : IntKind.i64.wrap 2 = 2 := by decide
      have HN := Lib.hid (show RowAt (wr.setCell ⟨w3.heap.size, 6, none⟩ (.bool (markX X2 2))).drew (w3.heap.size) (rowK C V0 V1 V2 X2 3) from (HK.out.1.put 6 _ _ hn).drew)
      have HO := Lib.hid ((HK.out.2.1.other (p := 6) (.bool (markX X2 2)) (show w3.heap.size ≠ w.heap.size by omega)).drew)
      have HQ := Lib.hid ((HK.out.2.2.setCell (p := ⟨w3.heap.size, 6, none⟩) (show w.heap.size ≤ w3.heap.size by omega) (.bool (markX X2 2))).drew)
      clear HK hn
      go_upto_region 11 with (fail)
      refine wp_region_any (by kernel_rfl) ?_
      try (change wpAny _ _ _ _ _ _ _ (World.drew _))
      refine wpAny_take (i := 0) (v := ?_) rfl (by kernel_rfl) (by kernel_rfl) (by kernel_rfl) (fun _ _ _ h => h) (Or.inl ⟨by rfl, ?_⟩) ?_
      rotate_left
      · intro w; go_simp; with_reducible rfl
      refine wpAny_take (i := 1) (v := ?_) rfl (by kernel_rfl) (by kernel_rfl) (by kernel_rfl) (fun _ _ _ h => h) (Or.inl ⟨by rfl, ?_⟩) ?_
      rotate_left
      · intro w; go_simp; with_reducible rfl
      refine wpAny_take (i := 2) (v := ?_) rfl (by kernel_rfl) (by kernel_rfl) (by kernel_rfl) (fun _ _ _ h => h) (Or.inl ⟨by rfl, ?_⟩) ?_
      rotate_left
      · intro w; go_simp; with_reducible rfl
      refine wpAny_take (i := 3) (v := ?_) rfl (by kernel_rfl) (by kernel_rfl) (by kernel_rfl) (fun _ _ _ h => h) (Or.inl ⟨by rfl, ?_⟩) ?_
      rotate_left
      · intro w; go_simp; with_reducible rfl
      refine wpAny_take (i := 4) (v := ?_) rfl (by kernel_rfl) (by kernel_rfl) (by kernel_rfl) (fun _ _ _ h => h) (Or.inl ⟨by rfl, ?_⟩) ?_
      rotate_left
      · intro w; go_simp; with_reducible rfl
      refine wpAny_take (i := 5) (v := ?_) rfl (by kernel_rfl) (by kernel_rfl) (by kernel_rfl) (fun _ _ _ h => h) (Or.inl ⟨by rfl, ?_⟩) ?_
      rotate_left
      · intro w; go_simp; with_reducible rfl
      refine wpAny_take (i := 6) (v := ?_) rfl (by kernel_rfl) (by kernel_rfl) (by kernel_rfl) (fun _ _ _ h => h) (Or.inl ⟨by rfl, ?_⟩) ?_
      rotate_left
      · intro w; go_simp; with_reducible rfl
      refine wpAny_take (i := 7) (v := ?_) rfl (by kernel_rfl) (by kernel_rfl) (by kernel_rfl) (fun _ _ _ h => h) (Or.inl ⟨by rfl, ?_⟩) ?_
      rotate_left
      · intro w; go_simp; with_reducible rfl
      refine wpAny_take (i := 8) (v := ?_) rfl (by kernel_rfl) (by kernel_rfl) (by kernel_rfl) (fun _ _ _ h => h) (Or.inl ⟨by rfl, ?_⟩) ?_
      rotate_left
      · intro w; go_simp; with_reducible rfl
      refine wpAny_take (i := 9) (v := ?_) rfl (by kernel_rfl) (by kernel_rfl) (by kernel_rfl) (fun _ _ _ h => h) (Or.inl ⟨by rfl, ?_⟩) ?_
      rotate_left
      · intro w; go_simp; with_reducible rfl
      refine wpAny_take (i := 10) (v := ?_) rfl (by kernel_rfl) (by kernel_rfl) (by kernel_rfl) (fun _ _ _ h => h) (Or.inl ⟨by rfl, ?_⟩) ?_
      rotate_left
      · intro w; go_simp; with_reducible rfl
      refine wpAny_ready (rs := [11]) (by kernel_rfl) (by simp) ?_
      refine AllReady.cons rfl (fun K hK => ?_) AllReady.nil
      go_simp
      refine hK _ _ ?_
      clear hK K
      refine wpAny_done (by kernel_rfl) ?_ _
      go_wp2_with fail
      go_roundw
      case rel => exact ⟨3, by omega, by go_num, HN.out, HO.out, HQ.out⟩
      case measure => simp [intOf]
    · have hn : (rowK C V0 V1 V2 X2 4) = (rowK C V0 V1 V2 X2 3).set 7 (.bool (markX X2 3)) := rfl
      have l0 := HK.out.1.drew.cell 7 rfl
      have l1 := (HK.out.1.drew.get 7 rfl).free
      have hwp : IntKind.u8.wrap 8 = 8 := by decide
      have hwl : IntKind.i64.wrap 2 = 2 := by decide
      have HN := Lib.hid (show RowAt (wr.setCell ⟨w3.heap.size, 7, none⟩ (.bool (markX X2 3))).drew (w3.heap.size) (rowK C V0 V1 V2 X2 4) from (HK.out.1.put 7 _ _ hn).drew)
      have HO := Lib.hid ((HK.out.2.1.other (p := 7) (.bool (markX X2 3)) (show w3.heap.size ≠ w.heap.size by omega)).drew)
      have HQ := Lib.hid ((HK.out.2.2.setCell (p := ⟨w3.heap.size, 7, none⟩) (show w.heap.size ≤ w3.heap.size by omega) (.bool (markX X2 3))).drew)
      clear HK hn
      go_upto_region 11 with (fail)
      refine wp_region_any (by kernel_rfl) ?_
      try (change wpAny _ _ _ _ _ _ _ (World.drew _))
      refine wpAny_take (i := 0) (v := ?_) rfl (by kernel_rfl) (by kernel_rfl) (by kernel_rfl) (fun _ _ _ h => h) (Or.inl ⟨by rfl, ?_⟩) ?_
      rotate_left
      · intro w; go_simp; with_reducible rfl
      refine wpAny_take (i := 1) (v := ?_) rfl (by kernel_rfl) (by kernel_rfl) (by kernel_rfl) (fun _ _ _ h => h) (Or.inl ⟨by rfl, ?_⟩) ?_
      rotate_left
      · intro w; go_simp; with_reducible rfl
      refine wpAny_take (i := 2) (v := ?_) rfl (by kernel_rfl) (by kernel_rfl) (by kernel_rfl) (fun _ _ _ h => h) (Or.inl ⟨by rfl, ?_⟩) ?_
      rotate_left
      · intro w; go_simp; with_reducible rfl
      refine wpAny_take (i := 3) (v := ?_) rfl (by kernel_rfl) (by kernel_rfl) (by kernel_rfl) (fun _ _ _ h => h) (Or.inl ⟨by rfl, ?_⟩) ?_
      rotate_left
      · intro w; go_simp; with_reducible rfl
      refine wpAny_take (i := 4) (v := ?_) rfl (by kernel_rfl) (by kernel_rfl) (by kernel_rfl) (fun _ _ _ h => h) (Or.inl ⟨by rfl, ?_⟩) ?_
      rotate_left
      · intro w; go_simp; with_reducible rfl
      refine wpAny_take (i := 5) (v := ?_) rfl (by kernel_rfl) (by kernel_rfl) (by kernel_rfl) (fun _ _ _ h => h) (Or.inl ⟨by rfl, ?_⟩) ?_
      rotate_left
      · intro w; go_simp; with_reducible rfl
      refine wpAny_take (i := 6) (v := ?_) rfl (by kernel_rfl) (by kernel_rfl) (by kernel_rfl) (fun _ _ _ h => h) (Or.inl ⟨by rfl, ?_⟩) ?_
      rotate_left
      · intro w; go_simp; with_reducible rfl
      refine wpAny_take (i := 7) (v := ?_) rfl (by kernel_rfl) (by kernel_rfl) (by kernel_rfl) (fun _ _ _ h => h) (Or.inl ⟨by rfl, ?_⟩) ?_
      rotate_left
      · intro w; go_simp; with_reducible rfl
      refine wpAny_take (i := 8) (v := ?_) rfl (by kernel_rfl) (by kernel_rfl) (by kernel_rfl) (fun _ _ _ h => h) (Or.inl ⟨by rfl, ?_⟩) ?_
      rotate_left
      · intro w; go_simp; with_reducible rfl
      refine wpAny_take (i := 9) (v := ?_) rfl (by kernel_rfl) (by kernel_rfl) (by kernel_rfl) (fun _ _ _ h => h) (Or.inl ⟨by rfl, ?_⟩) ?_
      rotate_left
      · intro w; go_simp; with_reducible rfl
      refine wpAny_take (i := 10) (v := ?_) rfl (by kernel_rfl) (by kernel_rfl) (by kernel_rfl) (fun _ _ _ h => h) (Or.inl ⟨by rfl, ?_⟩) ?_
      rotate_left
      · intro w; go_simp; with_reducible rfl
      refine wpAny_ready (rs := [11]) (by kernel_rfl) (by simp) ?_
      refine AllReady.cons rfl (fun K hK => ?_) AllReady.nil
      go_simp
      refine hK _ _ ?_
      clear hK K
      refine wpAny_done (by kernel_rfl) ?_ _
      go_wp2_with fail
      go_roundw
      case rel => exact ⟨4, by omega, by go_num, HN.out, HO.out, HQ.out⟩
      case measure => simp [intOf]
    · have hrow := HK.out.1
      have l0 := hrow.cell 0 rfl
      have l1 := hrow.cell 1 rfl
      have l2 := hrow.cell 2 rfl
      have l3 := hrow.cell 3 rfl
      have l4 := hrow.cell 4 rfl
      have l5 := hrow.cell 5 rfl
      have l6 := hrow.cell 6 rfl
      have l7 := hrow.cell 7 rfl
      have HO := Lib.hid HK.out.2.1
      have HQ := Lib.hid HK.out.2.2
      clear HK hrow hlow m0 m1 m2 m3
      have x0 := HO.out.cell 0 rfl
      have x1 := HO.out.cell 1 rfl
      have x2 := HO.out.cell 2 rfl
      have x3 := HO.out.cell 3 rfl
      have x4 := HO.out.cell 4 rfl
      have x5 := HO.out.cell 5 rfl
      have x6 := HO.out.cell 6 rfl
      have x7 := HO.out.cell 7 rfl
      have f0 := (HO.out.get 0 rfl).free
      have f1 := (HO.out.get 1 rfl).free
      have f2 := (HO.out.get 2 rfl).free
      have f3 := (HO.out.get 3 rfl).free
      have f4 := (HO.out.get 4 rfl).free
      have f5 := (HO.out.get 5 rfl).free
      have f6 := (HO.out.get 6 rfl).free
      have f7 := (HO.out.get 7 rfl).free
      have S := Lib.hid (stored8 HO.out rfl (.string C) (.int .i64 V0) (.int .i64 V1) (.bool V2) (.bool (markX X2 0)) (.bool (markX X2 1)) (.bool (markX X2 2)) (.bool (markX X2 3)))
      have HE := Lib.hid (set8_below (m := w.heap.size) HQ.out (Nat.le_refl _) (.string C) (.int .i64 V0) (.int .i64 V1) (.bool V2) (.bool (markX X2 0)) (.bool (markX X2 1)) (.bool (markX X2 2)) (.bool (markX X2 3)))
      go_wp2_with fail
      have s0 := S.out.cell 0 rfl
      have s1 := S.out.cell 1 rfl
      have s2 := S.out.cell 2 rfl
      have s3 := S.out.cell 3 rfl
      have s4 := S.out.cell 4 rfl
      have s5 := S.out.cell 5 rfl
      have s6 := S.out.cell 6 rfl
      have s7 := S.out.cell 7 rfl
      exact bodyPost_ret (v := .agg #[.string C, .int .i64 V0, .int .i64 V1, .bool V2, .bool (markX X2 0), .bool (markX X2 1), .bool (markX X2 2), .bool (markX X2 3)]) (by simp [results, Try.results19, go_sem, s0, s1, s2, s3, s4, s5, s6, s7]) rfl ⟨by rw [HV.out.1, HV.out.2.1, HV.out.2.2], HE.out⟩
set_option maxHeartbeats 2000000 in
theorem cread_wide (b : ByteArray) (x0 x1 x2 x3 x4 : UInt8) (hb : b = ⟨#[x0, x1, x2, x3, x4]⟩) (w : World) : Calls Try.prog 19 #[.string b, .bool true] w fun e w' => e = .returned (repV (readW x0 x1 x2 x3 x4)) ∧ Below w.heap.size w w' := by
  have HB := Lib.hid ((Below.refl _ w).alloc (Nat.le_refl _) (.cells (rowR zeroR).toArray 23))
  have HR := Lib.hid (RowAt.new w w.heap.size rfl (rowR zeroR) 23)
  have hz : w.heap.size < (w.alloc (.cells (rowR zeroR).toArray 23)).heap.size := by simp
  simp only [rowR, zeroR] at HB HR hz
  have hsz : b.size = 5 := by rw [hb]; rfl
  have hi2 : ∀ W, (Instr.index 9 (.string b) (.int .i64 2)).run Try.prog W = .ok (.int .u8 (int8 x2)) W := fun W => index_text b 2 x2 (by rw [hb]; rfl) W
  have hi3 : ∀ W, (Instr.index 9 (.string b) (.int .i64 3)).run Try.prog W = .ok (.int .u8 (int8 x3)) W := fun W => index_text b 3 x3 (by rw [hb]; rfl) W
  have hi4 : ∀ W, (Instr.index 9 (.string b) (.int .i64 4)).run Try.prog W = .ok (.int .u8 (int8 x4)) W := fun W => index_text b 4 x4 (by rw [hb]; rfl) W
  have hsl : ∀ W, (Instr.slice 9 (.string b) none (some (.int .i64 2)) none).run Try.prog W = .ok (.string ⟨#[x0, x1]⟩) W := fun W => by
    have k := slice_text b 2 (by omega) W
    rw [show b.data.toList.take 2 = [x0, x1] by rw [hb]; rfl] at k
    exact k
  have ⟨a2, b2⟩ := int8_low x2
  have ⟨a3, b3⟩ := int8_low x3
  have hlow := int8_low x4
  unfold readW repV
  simp only
  have HC := Lib.hid (fun W => cclone_any ⟨#[x0, x1]⟩ W (by show 2 ≤ 1000; omega))
  clear hb
  generalize int8 x2 = X2 at *
  generalize int8 x3 = X3 at *
  generalize int8 x4 = X4 at *
  generalize (⟨#[x0, x1]⟩ : ByteArray) = C at *
  have HS := Lib.hid (show ∀ W, Calls Try.prog 15 #[.bool true] W fun e w' => e = .returned (.int .i64 2) ∧ w' = W from fun W => croom_any true W)
  go_enter Try.func19, Try.ntmps19
  go_upto_region 1 with (fail)
  generalize w.alloc (.cells #[.string ⟨#[]⟩, .int .i64 0, .int .i64 0, .bool false, .bool false, .bool false, .bool false, .bool false] 23) = w1 at *
  go_wp2_with fail
  go_at_call 15
  refine (HS.out _).mono ?_
  rintro e w2 ⟨rfl, rfl⟩
  go_wp2_with fail
  go_at_call 29
  refine (HC.out _).mono ?_
  rintro e w3 ⟨rfl, hb⟩
  replace HR := Lib.hid (HR.out.below hb)
  replace hz := Nat.lt_of_lt_of_le hz hb.size
  replace HB := Lib.hid (HB.out.trans (hb.mono HB.out.size))
  clear hb HC HS
  have HZ2 := Lib.hid (HR.out.alloc (.cells #[.string C, .int .i64 0, .int .i64 0, .bool false, .bool false, .bool false, .bool false, .bool false] 23))
  have HB2 := Lib.hid (HB.out.alloc HB.out.size (.cells #[.string C, .int .i64 0, .int .i64 0, .bool false, .bool false, .bool false, .bool false, .bool false] 23))
  have HR2 := Lib.hid (RowAt.new w3 w3.heap.size rfl [.string C, .int .i64 0, .int .i64 0, .bool false, .bool false, .bool false, .bool false, .bool false] 23)
  clear HB HR
  go_upto_region 3 with (fail)
  generalize w3.alloc (.cells #[.string C, .int .i64 0, .int .i64 0, .bool false, .bool false, .bool false, .bool false, .bool false] 23) = w4 at *
  have q0 := HR2.out.cell 1 rfl
  have g0 := (HR2.out.get 1 rfl).free
  have RA := Lib.hid (HR2.out.put 1 (.int .i64 (X2 / 2)) _ rfl)
  have HZ3 := Lib.hid (HZ2.out.other (p := 1) (.int .i64 (X2 / 2)) (show w3.heap.size ≠ w.heap.size by omega))
  have HB3 := Lib.hid (HB2.out.setCell (p := ⟨w3.heap.size, 1, none⟩) (show w.heap.size ≤ w3.heap.size by omega) (.int .i64 (X2 / 2)))
  obtain ⟨y20, y21, y22⟩ := and_nums X2 a2 b2
  obtain ⟨y30, y31, y32⟩ := and_nums X3 a3 b3
  have e1 : IntKind.i64.wrap (X2 / 2) = X2 / 2 := IntWalk.i64_in _ (by omega)
  have e2 : IntKind.i64.wrap (X3 / 2) = X3 / 2 := IntWalk.i64_in _ (by omega)
  go_upto_region 5 with (fail)
  clear HZ2 HB2 HR2 q0 g0
  generalize w4.setCell ⟨w3.heap.size, 1, none⟩ (.int .i64 (X2 / 2)) = w5 at *
  have q1 := RA.out.drew.cell 2 rfl
  have g1 := (RA.out.drew.get 2 rfl).free
  have RB := Lib.hid (RA.out.put 2 (.int .i64 (X3 / 2)) _ rfl)
  have q2 := RB.out.drew.cell 3 rfl
  have g2 := (RB.out.drew.get 3 rfl).free
  have RC := Lib.hid (RB.out.put 3 (.bool (X3 % 2 == 1)) _ rfl)
  have hw3 : IntKind.i64.wrap 3 = 3 := by decide
  refine wp_region_any (by kernel_rfl) ?_
  try (change wpAny _ _ _ _ _ _ _ (World.drew _))
  refine wpAny_take (i := 0) (v := ?_) rfl (by kernel_rfl) (by kernel_rfl) (by kernel_rfl) (fun _ _ _ h => h) (Or.inl ⟨by rfl, ?_⟩) ?_
  rotate_left
  · intro w; go_simp; with_reducible rfl
  refine wpAny_take (i := 1) (v := ?_) rfl (by kernel_rfl) (by kernel_rfl) (by kernel_rfl) (fun _ _ _ h => h) (Or.inl ⟨by rfl, ?_⟩) ?_
  rotate_left
  · intro w; go_simp; with_reducible rfl
  refine wpAny_take (i := 2) (v := ?_) rfl (by kernel_rfl) (by kernel_rfl) (by kernel_rfl) (fun _ _ _ h => h) (Or.inl ⟨by rfl, ?_⟩) ?_
  rotate_left
  · intro w; go_simp; with_reducible rfl
  refine wpAny_take (i := 3) (v := ?_) rfl (by kernel_rfl) (by kernel_rfl) (by kernel_rfl) (fun _ _ _ h => h) (Or.inl ⟨by rfl, ?_⟩) ?_
  rotate_left
  · intro w; go_simp; with_reducible rfl
  refine wpAny_take (i := 4) (v := ?_) rfl (by kernel_rfl) (by kernel_rfl) (by kernel_rfl) (fun _ _ _ h => h) (Or.inl ⟨by rfl, ?_⟩) ?_
  rotate_left
  · intro w; go_simp; with_reducible rfl
  refine wpAny_take (i := 5) (v := ?_) rfl (by kernel_rfl) (by kernel_rfl) (by kernel_rfl) (fun _ _ _ h => h) (Or.inl ⟨by rfl, ?_⟩) ?_
  rotate_left
  · intro w; go_simp; with_reducible rfl
  refine wpAny_take (i := 6) (v := ?_) rfl (by kernel_rfl) (by kernel_rfl) (by kernel_rfl) (fun _ _ _ h => h) (Or.inl ⟨by rfl, ?_⟩) ?_
  rotate_left
  · intro w; go_simp; with_reducible rfl
  refine wpAny_take (i := 7) (v := ?_) rfl (by kernel_rfl) (by kernel_rfl) (by kernel_rfl) (fun _ _ _ h => h) (Or.inl ⟨by rfl, ?_⟩) ?_
  rotate_left
  · intro w; go_simp; with_reducible rfl
  refine wpAny_take (i := 8) (v := ?_) rfl (by kernel_rfl) (by kernel_rfl) (by kernel_rfl) (fun _ _ _ h => h) (Or.inl ⟨by rfl, ?_⟩) ?_
  rotate_left
  · intro w; go_simp; with_reducible rfl
  refine wpAny_take (i := 9) (v := ?_) rfl (by kernel_rfl) (by kernel_rfl) (by kernel_rfl) (fun _ _ _ h => h) (Or.inl ⟨by rfl, ?_⟩) ?_
  rotate_left
  · intro w; go_simp; with_reducible rfl
  refine wpAny_take (i := 10) (v := ?_) rfl (by kernel_rfl) (by kernel_rfl) (by kernel_rfl) (fun _ _ _ h => h) (Or.inl ⟨by rfl, ?_⟩) ?_
  rotate_left
  · intro w; go_simp; with_reducible rfl
  refine wpAny_take (i := 11) (v := ?_) rfl (by kernel_rfl) (by kernel_rfl) (by kernel_rfl) (fun _ _ _ h => h) (Or.inl ⟨by rfl, ?_⟩) ?_
  rotate_left
  · intro w; go_simp; with_reducible rfl
  refine wpAny_take (i := 12) (v := ?_) rfl (by kernel_rfl) (by kernel_rfl) (by kernel_rfl) (fun _ _ _ h => h) (Or.inl ⟨by rfl, ?_⟩) ?_
  rotate_left
  · intro w; go_simp; with_reducible rfl
  refine wpAny_ready (rs := [13]) (by kernel_rfl) (by simp) ?_
  refine AllReady.cons rfl (fun K hK => ?_) AllReady.nil
  go_simp
  refine hK _ _ ?_
  clear hK K
  refine wpAny_take (i := 14) (v := ?_) rfl (by kernel_rfl) (by kernel_rfl) (by kernel_rfl) (fun _ _ _ h => h) (Or.inl ⟨by rfl, ?_⟩) ?_
  rotate_left
  · intro w; go_simp; with_reducible rfl
  refine wpAny_ready (rs := [15]) (by kernel_rfl) (by simp) ?_
  refine AllReady.cons rfl (fun K hK => ?_) AllReady.nil
  go_simp
  refine hK _ _ ?_
  clear hK K
  refine wpAny_done (by kernel_rfl) ?_ _
  have RE := Lib.hid (show RowAt ((w5.setCell ⟨w3.heap.size, 2, none⟩ (.int .i64 (X3 / 2))).setCell ⟨w3.heap.size, 3, none⟩ (.bool (X3 % 2 == 1))).drew (w3.heap.size) (rowK C (X2 / 2) (X3 / 2) (X3 % 2 == 1) X4 0) from RC.out.drew)
  have HZ4 := Lib.hid (((HZ3.out.other (p := 2) (.int .i64 (X3 / 2)) (show w3.heap.size ≠ w.heap.size by omega)).other (p := 3) (.bool (X3 % 2 == 1)) (show w3.heap.size ≠ w.heap.size by omega)).drew)
  have HB4 := Lib.hid (((HB3.out.setCell (p := ⟨w3.heap.size, 2, none⟩) (show w.heap.size ≤ w3.heap.size by omega) (.int .i64 (X3 / 2))).setCell (p := ⟨w3.heap.size, 3, none⟩) (show w.heap.size ≤ w3.heap.size by omega) (.bool (X3 % 2 == 1))).drew)
  generalize ((w5.setCell ⟨w3.heap.size, 2, none⟩ (.int .i64 (X3 / 2))).setCell ⟨w3.heap.size, 3, none⟩ (.bool (X3 % 2 == 1))).drew = w6 at *
  clear RA RB RC HZ3 HB3 q1 g1 q2 g2
  generalize hV0 : (X2 / 2) = V0 at *
  generalize hV1 : (X3 / 2) = V1 at *
  generalize hV2 : (X3 % 2 == 1) = V2 at *
  have HV := Lib.hid (And.intro hV0 (And.intro hV1 hV2))
  clear hV0 hV1 hV2 e1 e2 a2 b2 y20 y21 y22 a3 b3 y30 y31 y32
  go_wp2_with fail
  go_at_call 28
  refine (cmarks_any (w3.heap.size) _).mono ?_
  rintro e w7 ⟨rfl, hb⟩
  have RE4 := Lib.hid (RE.out.below hb)
  have HZ5 := Lib.hid (HZ4.out.below hb)
  have HB5 := Lib.hid (HB4.out.trans (hb.mono HB4.out.size))
  clear hb RE HZ4 HB4
  have hx0 := fun W => (index_ptrs (w3.heap.size) W).1
  have hx1 := fun W => (index_ptrs (w3.heap.size) W).2.1
  have hx2 := fun W => (index_ptrs (w3.heap.size) W).2.2.1
  have hx3 := fun W => (index_ptrs (w3.heap.size) W).2.2.2
  unfold ptrsR at hx0 hx1 hx2 hx3 ⊢
  go_wp2_with fail
  go_loopw [7, 8, 57] (fun t q i wx => ∃ j : Nat, j ≤ 4 ∧ i = .int .i64 j ∧ Hid (RowAt wx (w3.heap.size) (rowK C V0 V1 V2 X4 j) ∧ RowAt wx w.heap.size (rowR zeroR) ∧ Below w.heap.size w wx)) (fun _ _ i _ => 4 - (intOf i).toNat)
  case atStart => exact ⟨0, by omega, rfl, RE4.out, HZ5.out, HB5.out⟩
  case round =>
    obtain ⟨j, hj, rfl, HK⟩ := hrel
    clear RE4 HZ5 HB5
    obtain ⟨m0, m1, m2, m3⟩ := and_marks X4 hlow.1 hlow.2
    obtain rfl | rfl | rfl | rfl | rfl : j = 0 ∨ j = 1 ∨ j = 2 ∨ j = 3 ∨ j = 4 := by omega
    · have hn : (rowK C V0 V1 V2 X4 1) = (rowK C V0 V1 V2 X4 0).set 4 (.bool (markX X4 0)) := rfl
      have l0 := HK.out.1.drew.cell 4 rfl
      have l1 := (HK.out.1.drew.get 4 rfl).free
      have hwp : IntKind.u8.wrap 1 = 1 := by decide
      have hwl : IntKind.i64.wrap 4 = 4 := by decide
      have HN := Lib.hid (show RowAt (wr.setCell ⟨w3.heap.size, 4, none⟩ (.bool (markX X4 0))).drew (w3.heap.size) (rowK C V0 V1 V2 X4 1) from (HK.out.1.put 4 _ _ hn).drew)
      have HO := Lib.hid ((HK.out.2.1.other (p := 4) (.bool (markX X4 0)) (show w3.heap.size ≠ w.heap.size by omega)).drew)
      have HQ := Lib.hid ((HK.out.2.2.setCell (p := ⟨w3.heap.size, 4, none⟩) (show w.heap.size ≤ w3.heap.size by omega) (.bool (markX X4 0))).drew)
      clear HK hn
      go_upto_region 11 with (fail)
      refine wp_region_any (by kernel_rfl) ?_
      try (change wpAny _ _ _ _ _ _ _ (World.drew _))
      refine wpAny_take (i := 0) (v := ?_) rfl (by kernel_rfl) (by kernel_rfl) (by kernel_rfl) (fun _ _ _ h => h) (Or.inl ⟨by rfl, ?_⟩) ?_
      rotate_left
      · intro w; go_simp; with_reducible rfl
      refine wpAny_take (i := 1) (v := ?_) rfl (by kernel_rfl) (by kernel_rfl) (by kernel_rfl) (fun _ _ _ h => h) (Or.inl ⟨by rfl, ?_⟩) ?_
      rotate_left
      · intro w; go_simp; with_reducible rfl
      refine wpAny_take (i := 2) (v := ?_) rfl (by kernel_rfl) (by kernel_rfl) (by kernel_rfl) (fun _ _ _ h => h) (Or.inl ⟨by rfl, ?_⟩) ?_
      rotate_left
      · intro w; go_simp; with_reducible rfl
      refine wpAny_take (i := 3) (v := ?_) rfl (by kernel_rfl) (by kernel_rfl) (by kernel_rfl) (fun _ _ _ h => h) (Or.inl ⟨by rfl, ?_⟩) ?_
      rotate_left
      · intro w; go_simp; with_reducible rfl
      refine wpAny_take (i := 4) (v := ?_) rfl (by kernel_rfl) (by kernel_rfl) (by kernel_rfl) (fun _ _ _ h => h) (Or.inl ⟨by rfl, ?_⟩) ?_
      rotate_left
      · intro w; go_simp; with_reducible rfl
      refine wpAny_take (i := 5) (v := ?_) rfl (by kernel_rfl) (by kernel_rfl) (by kernel_rfl) (fun _ _ _ h => h) (Or.inl ⟨by rfl, ?_⟩) ?_
      rotate_left
      · intro w; go_simp; with_reducible rfl
      refine wpAny_take (i := 6) (v := ?_) rfl (by kernel_rfl) (by kernel_rfl) (by kernel_rfl) (fun _ _ _ h => h) (Or.inl ⟨by rfl, ?_⟩) ?_
      rotate_left
      · intro w; go_simp; with_reducible rfl
      refine wpAny_take (i := 7) (v := ?_) rfl (by kernel_rfl) (by kernel_rfl) (by kernel_rfl) (fun _ _ _ h => h) (Or.inl ⟨by rfl, ?_⟩) ?_
      rotate_left
      · intro w; go_simp; with_reducible rfl
      refine wpAny_take (i := 8) (v := ?_) rfl (by kernel_rfl) (by kernel_rfl) (by kernel_rfl) (fun _ _ _ h => h) (Or.inl ⟨by rfl, ?_⟩) ?_
      rotate_left
      · intro w; go_simp; with_reducible rfl
      refine wpAny_take (i := 9) (v := ?_) rfl (by kernel_rfl) (by kernel_rfl) (by kernel_rfl) (fun _ _ _ h => h) (Or.inl ⟨by rfl, ?_⟩) ?_
      rotate_left
      · intro w; go_simp; with_reducible rfl
      refine wpAny_take (i := 10) (v := ?_) rfl (by kernel_rfl) (by kernel_rfl) (by kernel_rfl) (fun _ _ _ h => h) (Or.inl ⟨by rfl, ?_⟩) ?_
      rotate_left
      · intro w; go_simp; with_reducible rfl
      refine wpAny_ready (rs := [11]) (by kernel_rfl) (by simp) ?_
      refine AllReady.cons rfl (fun K hK => ?_) AllReady.nil
      go_simp
      refine hK _ _ ?_
      clear hK K
      refine wpAny_done (by kernel_rfl) ?_ _
      go_wp2_with fail
      go_roundw
      case rel => exact ⟨1, by omega, by go_num, HN.out, HO.out, HQ.out⟩
      case measure => simp [intOf]
    · have hn : (rowK C V0 V1 V2 X4 2) = (rowK C V0 V1 V2 X4 1).set 5 (.bool (markX X4 1)) := rfl
      have l0 := HK.out.1.drew.cell 5 rfl
      have l1 := (HK.out.1.drew.get 5 rfl).free
      have hwp : IntKind.u8.wrap 2 = 2 := by decide
      have hwl : IntKind.i64.wrap 4 = 4 := by decide
      have HN := Lib.hid (show RowAt (wr.setCell ⟨w3.heap.size, 5, none⟩ (.bool (markX X4 1))).drew (w3.heap.size) (rowK C V0 V1 V2 X4 2) from (HK.out.1.put 5 _ _ hn).drew)
      have HO := Lib.hid ((HK.out.2.1.other (p := 5) (.bool (markX X4 1)) (show w3.heap.size ≠ w.heap.size by omega)).drew)
      have HQ := Lib.hid ((HK.out.2.2.setCell (p := ⟨w3.heap.size, 5, none⟩) (show w.heap.size ≤ w3.heap.size by omega) (.bool (markX X4 1))).drew)
      clear HK hn
      go_upto_region 11 with (fail)
      refine wp_region_any (by kernel_rfl) ?_
      try (change wpAny _ _ _ _ _ _ _ (World.drew _))
      refine wpAny_take (i := 0) (v := ?_) rfl (by kernel_rfl) (by kernel_rfl) (by kernel_rfl) (fun _ _ _ h => h) (Or.inl ⟨by rfl, ?_⟩) ?_
      rotate_left
      · intro w; go_simp; with_reducible rfl
      refine wpAny_take (i := 1) (v := ?_) rfl (by kernel_rfl) (by kernel_rfl) (by kernel_rfl) (fun _ _ _ h => h) (Or.inl ⟨by rfl, ?_⟩) ?_
      rotate_left
      · intro w; go_simp; with_reducible rfl
      refine wpAny_take (i := 2) (v := ?_) rfl (by kernel_rfl) (by kernel_rfl) (by kernel_rfl) (fun _ _ _ h => h) (Or.inl ⟨by rfl, ?_⟩) ?_
      rotate_left
      · intro w; go_simp; with_reducible rfl
      refine wpAny_take (i := 3) (v := ?_) rfl (by kernel_rfl) (by kernel_rfl) (by kernel_rfl) (fun _ _ _ h => h) (Or.inl ⟨by rfl, ?_⟩) ?_
      rotate_left
      · intro w; go_simp; with_reducible rfl
      refine wpAny_take (i := 4) (v := ?_) rfl (by kernel_rfl) (by kernel_rfl) (by kernel_rfl) (fun _ _ _ h => h) (Or.inl ⟨by rfl, ?_⟩) ?_
      rotate_left
      · intro w; go_simp; with_reducible rfl
      refine wpAny_take (i := 5) (v := ?_) rfl (by kernel_rfl) (by kernel_rfl) (by kernel_rfl) (fun _ _ _ h => h) (Or.inl ⟨by rfl, ?_⟩) ?_
      rotate_left
      · intro w; go_simp; with_reducible rfl
      refine wpAny_take (i := 6) (v := ?_) rfl (by kernel_rfl) (by kernel_rfl) (by kernel_rfl) (fun _ _ _ h => h) (Or.inl ⟨by rfl, ?_⟩) ?_
      rotate_left
      · intro w; go_simp; with_reducible rfl
      refine wpAny_take (i := 7) (v := ?_) rfl (by kernel_rfl) (by kernel_rfl) (by kernel_rfl) (fun _ _ _ h => h) (Or.inl ⟨by rfl, ?_⟩) ?_
      rotate_left
      · intro w; go_simp; with_reducible rfl
      refine wpAny_take (i := 8) (v := ?_) rfl (by kernel_rfl) (by kernel_rfl) (by kernel_rfl) (fun _ _ _ h => h) (Or.inl ⟨by rfl, ?_⟩) ?_
      rotate_left
      · intro w; go_simp; with_reducible rfl
      refine wpAny_take (i := 9) (v := ?_) rfl (by kernel_rfl) (by kernel_rfl) (by kernel_rfl) (fun _ _ _ h => h) (Or.inl ⟨by rfl, ?_⟩) ?_
      rotate_left
      · intro w; go_simp; with_reducible rfl
      refine wpAny_take (i := 10) (v := ?_) rfl (by kernel_rfl) (by kernel_rfl) (by kernel_rfl) (fun _ _ _ h => h) (Or.inl ⟨by rfl, ?_⟩) ?_
      rotate_left
      · intro w; go_simp; with_reducible rfl
      refine wpAny_ready (rs := [11]) (by kernel_rfl) (by simp) ?_
      refine AllReady.cons rfl (fun K hK => ?_) AllReady.nil
      go_simp
      refine hK _ _ ?_
      clear hK K
      refine wpAny_done (by kernel_rfl) ?_ _
      go_wp2_with fail
      go_roundw
      case rel => exact ⟨2, by omega, by go_num, HN.out, HO.out, HQ.out⟩
      case measure => simp [intOf]
    · have hn : (rowK C V0 V1 V2 X4 3) = (rowK C V0 V1 V2 X4 2).set 6 (.bool (markX X4 2)) := rfl
      have l0 := HK.out.1.drew.cell 6 rfl
      have l1 := (HK.out.1.drew.get 6 rfl).free
      have hwp : IntKind.u8.wrap 4 = 4 := by decide
      have hwl : IntKind.i64.wrap 4 = 4 := by decide
      have HN := Lib.hid (show RowAt (wr.setCell ⟨w3.heap.size, 6, none⟩ (.bool (markX X4 2))).drew (w3.heap.size) (rowK C V0 V1 V2 X4 3) from (HK.out.1.put 6 _ _ hn).drew)
      have HO := Lib.hid ((HK.out.2.1.other (p := 6) (.bool (markX X4 2)) (show w3.heap.size ≠ w.heap.size by omega)).drew)
      have HQ := Lib.hid ((HK.out.2.2.setCell (p := ⟨w3.heap.size, 6, none⟩) (show w.heap.size ≤ w3.heap.size by omega) (.bool (markX X4 2))).drew)
      clear HK hn
      go_upto_region 11 with (fail)
      refine wp_region_any (by kernel_rfl) ?_
      try (change wpAny _ _ _ _ _ _ _ (World.drew _))
      refine wpAny_take (i := 0) (v := ?_) rfl (by kernel_rfl) (by kernel_rfl) (by kernel_rfl) (fun _ _ _ h => h) (Or.inl ⟨by rfl, ?_⟩) ?_
      rotate_left
      · intro w; go_simp; with_reducible rfl
      refine wpAny_take (i := 1) (v := ?_) rfl (by kernel_rfl) (by kernel_rfl) (by kernel_rfl) (fun _ _ _ h => h) (Or.inl ⟨by rfl, ?_⟩) ?_
      rotate_left
      · intro w; go_simp; with_reducible rfl
      refine wpAny_take (i := 2) (v := ?_) rfl (by kernel_rfl) (by kernel_rfl) (by kernel_rfl) (fun _ _ _ h => h) (Or.inl ⟨by rfl, ?_⟩) ?_
      rotate_left
      · intro w; go_simp; with_reducible rfl
      refine wpAny_take (i := 3) (v := ?_) rfl (by kernel_rfl) (by kernel_rfl) (by kernel_rfl) (fun _ _ _ h => h) (Or.inl ⟨by rfl, ?_⟩) ?_
      rotate_left
      · intro w; go_simp; with_reducible rfl
      refine wpAny_take (i := 4) (v := ?_) rfl (by kernel_rfl) (by kernel_rfl) (by kernel_rfl) (fun _ _ _ h => h) (Or.inl ⟨by rfl, ?_⟩) ?_
      rotate_left
      · intro w; go_simp; with_reducible rfl
      refine wpAny_take (i := 5) (v := ?_) rfl (by kernel_rfl) (by kernel_rfl) (by kernel_rfl) (fun _ _ _ h => h) (Or.inl ⟨by rfl, ?_⟩) ?_
      rotate_left
      · intro w; go_simp; with_reducible rfl
      refine wpAny_take (i := 6) (v := ?_) rfl (by kernel_rfl) (by kernel_rfl) (by kernel_rfl) (fun _ _ _ h => h) (Or.inl ⟨by rfl, ?_⟩) ?_
      rotate_left
      · intro w; go_simp; with_reducible rfl
      refine wpAny_take (i := 7) (v := ?_) rfl (by kernel_rfl) (by kernel_rfl) (by kernel_rfl) (fun _ _ _ h => h) (Or.inl ⟨by rfl, ?_⟩) ?_
      rotate_left
      · intro w; go_simp; with_reducible rfl
      refine wpAny_take (i := 8) (v := ?_) rfl (by kernel_rfl) (by kernel_rfl) (by kernel_rfl) (fun _ _ _ h => h) (Or.inl ⟨by rfl, ?_⟩) ?_
      rotate_left
      · intro w; go_simp; with_reducible rfl
      refine wpAny_take (i := 9) (v := ?_) rfl (by kernel_rfl) (by kernel_rfl) (by kernel_rfl) (fun _ _ _ h => h) (Or.inl ⟨by rfl, ?_⟩) ?_
      rotate_left
      · intro w; go_simp; with_reducible rfl
      refine wpAny_take (i := 10) (v := ?_) rfl (by kernel_rfl) (by kernel_rfl) (by kernel_rfl) (fun _ _ _ h => h) (Or.inl ⟨by rfl, ?_⟩) ?_
      rotate_left
      · intro w; go_simp; with_reducible rfl
      refine wpAny_ready (rs := [11]) (by kernel_rfl) (by simp) ?_
      refine AllReady.cons rfl (fun K hK => ?_) AllReady.nil
      go_simp
      refine hK _ _ ?_
      clear hK K
      refine wpAny_done (by kernel_rfl) ?_ _
      go_wp2_with fail
      go_roundw
      case rel => exact ⟨3, by omega, by go_num, HN.out, HO.out, HQ.out⟩
      case measure => simp [intOf]
    · have hn : (rowK C V0 V1 V2 X4 4) = (rowK C V0 V1 V2 X4 3).set 7 (.bool (markX X4 3)) := rfl
      have l0 := HK.out.1.drew.cell 7 rfl
      have l1 := (HK.out.1.drew.get 7 rfl).free
      have hwp : IntKind.u8.wrap 8 = 8 := by decide
      have hwl : IntKind.i64.wrap 4 = 4 := by decide
      have HN := Lib.hid (show RowAt (wr.setCell ⟨w3.heap.size, 7, none⟩ (.bool (markX X4 3))).drew (w3.heap.size) (rowK C V0 V1 V2 X4 4) from (HK.out.1.put 7 _ _ hn).drew)
      have HO := Lib.hid ((HK.out.2.1.other (p := 7) (.bool (markX X4 3)) (show w3.heap.size ≠ w.heap.size by omega)).drew)
      have HQ := Lib.hid ((HK.out.2.2.setCell (p := ⟨w3.heap.size, 7, none⟩) (show w.heap.size ≤ w3.heap.size by omega) (.bool (markX X4 3))).drew)
      clear HK hn
      go_upto_region 11 with (fail)
      refine wp_region_any (by kernel_rfl) ?_
      try (change wpAny _ _ _ _ _ _ _ (World.drew _))
      refine wpAny_take (i := 0) (v := ?_) rfl (by kernel_rfl) (by kernel_rfl) (by kernel_rfl) (fun _ _ _ h => h) (Or.inl ⟨by rfl, ?_⟩) ?_
      rotate_left
      · intro w; go_simp; with_reducible rfl
      refine wpAny_take (i := 1) (v := ?_) rfl (by kernel_rfl) (by kernel_rfl) (by kernel_rfl) (fun _ _ _ h => h) (Or.inl ⟨by rfl, ?_⟩) ?_
      rotate_left
      · intro w; go_simp; with_reducible rfl
      refine wpAny_take (i := 2) (v := ?_) rfl (by kernel_rfl) (by kernel_rfl) (by kernel_rfl) (fun _ _ _ h => h) (Or.inl ⟨by rfl, ?_⟩) ?_
      rotate_left
      · intro w; go_simp; with_reducible rfl
      refine wpAny_take (i := 3) (v := ?_) rfl (by kernel_rfl) (by kernel_rfl) (by kernel_rfl) (fun _ _ _ h => h) (Or.inl ⟨by rfl, ?_⟩) ?_
      rotate_left
      · intro w; go_simp; with_reducible rfl
      refine wpAny_take (i := 4) (v := ?_) rfl (by kernel_rfl) (by kernel_rfl) (by kernel_rfl) (fun _ _ _ h => h) (Or.inl ⟨by rfl, ?_⟩) ?_
      rotate_left
      · intro w; go_simp; with_reducible rfl
      refine wpAny_take (i := 5) (v := ?_) rfl (by kernel_rfl) (by kernel_rfl) (by kernel_rfl) (fun _ _ _ h => h) (Or.inl ⟨by rfl, ?_⟩) ?_
      rotate_left
      · intro w; go_simp; with_reducible rfl
      refine wpAny_take (i := 6) (v := ?_) rfl (by kernel_rfl) (by kernel_rfl) (by kernel_rfl) (fun _ _ _ h => h) (Or.inl ⟨by rfl, ?_⟩) ?_
      rotate_left
      · intro w; go_simp; with_reducible rfl
      refine wpAny_take (i := 7) (v := ?_) rfl (by kernel_rfl) (by kernel_rfl) (by kernel_rfl) (fun _ _ _ h => h) (Or.inl ⟨by rfl, ?_⟩) ?_
      rotate_left
      · intro w; go_simp; with_reducible rfl
      refine wpAny_take (i := 8) (v := ?_) rfl (by kernel_rfl) (by kernel_rfl) (by kernel_rfl) (fun _ _ _ h => h) (Or.inl ⟨by rfl, ?_⟩) ?_
      rotate_left
      · intro w; go_simp; with_reducible rfl
      refine wpAny_take (i := 9) (v := ?_) rfl (by kernel_rfl) (by kernel_rfl) (by kernel_rfl) (fun _ _ _ h => h) (Or.inl ⟨by rfl, ?_⟩) ?_
      rotate_left
      · intro w; go_simp; with_reducible rfl
      refine wpAny_take (i := 10) (v := ?_) rfl (by kernel_rfl) (by kernel_rfl) (by kernel_rfl) (fun _ _ _ h => h) (Or.inl ⟨by rfl, ?_⟩) ?_
      rotate_left
      · intro w; go_simp; with_reducible rfl
      refine wpAny_ready (rs := [11]) (by kernel_rfl) (by simp) ?_
      refine AllReady.cons rfl (fun K hK => ?_) AllReady.nil
      go_simp
      refine hK _ _ ?_
      clear hK K
      refine wpAny_done (by kernel_rfl) ?_ _
      go_wp2_with fail
      go_roundw
      case rel => exact ⟨4, by omega, by go_num, HN.out, HO.out, HQ.out⟩
      case measure => simp [intOf]
    · have hrow := HK.out.1
      have l0 := hrow.cell 0 rfl
      have l1 := hrow.cell 1 rfl
      have l2 := hrow.cell 2 rfl
      have l3 := hrow.cell 3 rfl
      have l4 := hrow.cell 4 rfl
      have l5 := hrow.cell 5 rfl
      have l6 := hrow.cell 6 rfl
      have l7 := hrow.cell 7 rfl
      have HO := Lib.hid HK.out.2.1
      have HQ := Lib.hid HK.out.2.2
      clear HK hrow hlow m0 m1 m2 m3
      have x0 := HO.out.cell 0 rfl
      have x1 := HO.out.cell 1 rfl
      have x2 := HO.out.cell 2 rfl
      have x3 := HO.out.cell 3 rfl
      have x4 := HO.out.cell 4 rfl
      have x5 := HO.out.cell 5 rfl
      have x6 := HO.out.cell 6 rfl
      have x7 := HO.out.cell 7 rfl
      have f0 := (HO.out.get 0 rfl).free
      have f1 := (HO.out.get 1 rfl).free
      have f2 := (HO.out.get 2 rfl).free
      have f3 := (HO.out.get 3 rfl).free
      have f4 := (HO.out.get 4 rfl).free
      have f5 := (HO.out.get 5 rfl).free
      have f6 := (HO.out.get 6 rfl).free
      have f7 := (HO.out.get 7 rfl).free
      have S := Lib.hid (stored8 HO.out rfl (.string C) (.int .i64 V0) (.int .i64 V1) (.bool V2) (.bool (markX X4 0)) (.bool (markX X4 1)) (.bool (markX X4 2)) (.bool (markX X4 3)))
      have HE := Lib.hid (set8_below (m := w.heap.size) HQ.out (Nat.le_refl _) (.string C) (.int .i64 V0) (.int .i64 V1) (.bool V2) (.bool (markX X4 0)) (.bool (markX X4 1)) (.bool (markX X4 2)) (.bool (markX X4 3)))
      go_wp2_with fail
      have s0 := S.out.cell 0 rfl
      have s1 := S.out.cell 1 rfl
      have s2 := S.out.cell 2 rfl
      have s3 := S.out.cell 3 rfl
      have s4 := S.out.cell 4 rfl
      have s5 := S.out.cell 5 rfl
      have s6 := S.out.cell 6 rfl
      have s7 := S.out.cell 7 rfl
      exact bodyPost_ret (v := .agg #[.string C, .int .i64 V0, .int .i64 V1, .bool V2, .bool (markX X4 0), .bool (markX X4 1), .bool (markX X4 2), .bool (markX X4 3)]) (by simp [results, Try.results19, go_sem, s0, s1, s2, s3, s4, s5, s6, s7]) rfl ⟨by rw [HV.out.1, HV.out.2.1, HV.out.2.2], HE.out⟩
end Go.Proofs.Ytdaagllacmnekaa
