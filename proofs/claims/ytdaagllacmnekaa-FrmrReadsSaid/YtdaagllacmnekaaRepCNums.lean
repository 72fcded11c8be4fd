/-
The landed code's putNumbers and putMarks; strings.Repeat, of no and of one time (written by tools/gen9/gen_cput.py).
-/
import Derived.Test.YtdaagllacmnekaaRepCRight
import Derived.Test.YtdaagllacmnekaaRepRPut
namespace Go.Proofs.Ytdaagllacmnekaa
open Go.RowKit
set_option maxRecDepth 20000
/-- one mark more, by or -/
theorem sum_or (m0 m1 m2 m3 : Bool) : bits BinOp.or .u8 (sumK m0 m1 m2 m3 0) (bitR m0 1) = sumK m0 m1 m2 m3 1 ∧ bits BinOp.or .u8 (sumK m0 m1 m2 m3 1) (bitR m1 2) = sumK m0 m1 m2 m3 2 ∧
    bits BinOp.or .u8 (sumK m0 m1 m2 m3 2) (bitR m2 4) = sumK m0 m1 m2 m3 3 ∧ bits BinOp.or .u8 (sumK m0 m1 m2 m3 3) (bitR m3 8) = sumK m0 m1 m2 m3 4 := by
  revert m0 m1 m2 m3
  decide
theorem or_few : ∀ (r s : Fin 8) (b : Bool), bits BinOp.or .u8 (32 * (r.1 : Int)) (bitR b 16) = 32 * (r.1 : Int) + bitR b 16 ∧ bits BinOp.or .u8 (32 * (r.1 : Int) + bitR b 16) (2 * (s.1 : Int)) = 32 * (r.1 : Int) + bitR b 16 + 2 * (s.1 : Int) := by decide +kernel
theorem or_narrow (vr vs : Int) (b : Bool) (h0 : 0 ≤ vr) (h1 : vr < 8) (h2 : 0 ≤ vs) (h3 : vs < 8) : bits BinOp.or .u8 (32 * vr) (bitR b 16) = 32 * vr + bitR b 16 ∧ bits BinOp.or .u8 (32 * vr + bitR b 16) (2 * vs) = 32 * vr + bitR b 16 + 2 * vs := by
  have := or_few ⟨vr.toNat, by omega⟩ ⟨vs.toNat, by omega⟩ b
  simpa [Int.toNat_of_nonneg h0, Int.toNat_of_nonneg h2] using this
theorem or_most : ∀ (r : Fin 128) (b : Bool), bits BinOp.or .u8 (2 * (r.1 : Int)) (bitR b 1) = 2 * (r.1 : Int) + bitR b 1 := by decide +kernel
theorem or_wide (vr : Int) (b : Bool) (h0 : 0 ≤ vr) (h1 : vr < 128) : bits BinOp.or .u8 (2 * vr) (bitR b 1) = 2 * vr + bitR b 1 := by
  have := or_most ⟨vr.toNat, by omega⟩ b
  simpa [Int.toNat_of_nonneg h0] using this
theorem crepeat_none (s : ByteArray) (w : World) : Calls Try.prog 14 #[.string s, .int .i64 0] w fun e w' => e = .returned (.string ⟨#[]⟩) ∧ w' = w := by
  go_enter Try.func14, Try.ntmps14
  go_wp2
  go_ret
  exact ⟨rfl, rfl⟩
theorem crepeat_one (s : ByteArray) (w : World) : Calls Try.prog 14 #[.string s, .int .i64 1] w fun e w' => e = .returned (.string s) ∧ w' = w := by
  go_enter Try.func14, Try.ntmps14
  go_wp2
  go_ret
  exact ⟨rfl, rfl⟩
set_option maxHeartbeats 1000000 in
theorem cnumbers_n (c : ByteArray) (vs vr : Int) (re m0 m1 m2 m3 : Bool) (b0 : 0 ≤ vr) (b1 : vr < 8) (a0 : 0 ≤ vs) (a1 : vs < 8) (w : World) : Calls Try.prog 16 #[.agg #[.string c, .int .i64 vs, .int .i64 vr, .bool re, .bool m0, .bool m1, .bool m2, .bool m3], .bool false] w fun e w' => e = .returned (.string ⟨[byteI (32 * vr + bitR re 16 + 2 * vs)].toArray⟩) ∧ Below w.heap.size w w' := by
  have HR := Lib.hid (RowAt.new w w.heap.size rfl [.string c, .int .i64 vs, .int .i64 vr, .bool re, .bool m0, .bool m1, .bool m2, .bool m3] 23)
  have HB := Lib.hid ((Below.refl _ w).alloc (Nat.le_refl _) (.cells #[.string c, .int .i64 vs, .int .i64 vr, .bool re, .bool m0, .bool m1, .bool m2, .bool m3] 23))
  have hbit : bitR re 16 = 0 ∨ bitR re 16 = 16 := by cases re <;> simp [bitR]
  have HV : [.int .u8 (32 * vr + bitR re 16 + 2 * vs)] = bytesV [byteI (32 * vr + bitR re 16 + 2 * vs)] := by
    simp [bytesV, ← byteI_val (32 * vr + bitR re 16 + 2 * vs) (by omega) (by omega)]
  have HVH := Lib.hid HV
  clear HV
  have HBI := Lib.hid (fun W => cbit_any re 16 W)
  have z1 : IntKind.i64.wrap (vr * 32) = 32 * vr := (IntWalk.i64_in _ (by omega)).trans (by omega)
  have z2 : IntKind.i64.wrap (vs * 2) = 2 * vs := (IntWalk.i64_in _ (by omega)).trans (by omega)
  have z3 : IntKind.u8.wrap (32 * vr) = 32 * vr := (IntKind.wrap_u8 _).trans (by omega)
  have z4 : IntKind.u8.wrap (2 * vs) = 2 * vs := (IntKind.wrap_u8 _).trans (by omega)
  have ⟨z5, z6⟩ := or_narrow vr vs re b0 b1 a0 a1
  generalize bitR re 16 = B at *
  go_enter Try.func16, Try.ntmps16
  go_upto_region 3 with (fail)
  generalize w.alloc (.cells #[.string c, .int .i64 vs, .int .i64 vr, .bool re, .bool m0, .bool m1, .bool m2, .bool m3] 23) = w1 at *
  refine wp_region_facts (fun W W' => Below W.heap.size W W') (fun W => RowAt W w.heap.size [.string c, .int .i64 vs, .int .i64 vr, .bool re, .bool m0, .bool m1, .bool m2, .bool m3] ∧ Below w.heap.size w W) (factsOf [.is (.pointer (some ⟨w.heap.size, 2, none⟩)), .is (.int .i64 vr), .is (.int .i64 (32 * vr)), .is (.int .u8 (32 * vr)), .is (.pointer (some ⟨w.heap.size, 3, none⟩)), .is (.bool re), .is (.int .u8 B), .is (.int .u8 (32 * vr + B)), .is (.pointer (some ⟨w.heap.size, 1, none⟩)), .is (.int .i64 vs), .is (.int .i64 (2 * vs)), .is (.int .u8 (2 * vs)), .is (.int .u8 (32 * vr + B + 2 * vs)), .row [byteI (32 * vr + B + 2 * vs)], .is (.string ⟨[byteI (32 * vr + B + 2 * vs)].toArray⟩), .is (.string ⟨[byteI (32 * vr + B + 2 * vs)].toArray⟩)]) (by kernel_rfl) (by kernel_rfl) (facts_stay _) (fun W W' hb h => ⟨h.1.below hb, h.2.trans (hb.mono h.2.size)⟩) (fun i => if i = 15 then .string ⟨#[]⟩ else undef) (by kernel_rfl) ⟨HR.out.drew, HB.out.drew⟩ ?Fn ?hFn ?hstepn ?hendn
  case hFn =>
    intro u
    simp only [fillAct]
    go_simp
    rfl
  case hstepn =>
    refine FSteps.cons ?_ ?_
    · intro u W hS hd K hK
      clear hd
      simp only [upd, reduceIte, Nat.reduceEqDiff] at hK
      go_simp
      exact hK.out _ _ (Below.refl _ _) rfl
    refine FSteps.cons ?_ ?_
    · intro u W hS hd K hK
      have h0 : u 0 = _ := hd 0 rfl
      clear hd
      simp only [upd, h0, reduceIte, Nat.reduceEqDiff] at hK
      have c0 := hS.1.cell 2 rfl
      go_simp
      exact hK.out _ _ (Below.refl _ _) rfl
    refine FSteps.cons ?_ ?_
    · intro u W hS hd K hK
      have h1 : u 1 = _ := hd 1 rfl
      clear hd
      simp only [upd, h1, reduceIte, Nat.reduceEqDiff] at hK
      go_simp
      exact hK.out _ _ (Below.refl _ _) rfl
    refine FSteps.cons ?_ ?_
    · intro u W hS hd K hK
      have h2 : u 2 = _ := hd 2 rfl
      clear hd
      simp only [upd, h2, reduceIte, Nat.reduceEqDiff] at hK
      go_simp
      exact hK.out _ _ (Below.refl _ _) rfl
    refine FSteps.cons ?_ ?_
    · intro u W hS hd K hK
      clear hd
      simp only [upd, reduceIte, Nat.reduceEqDiff] at hK
      go_simp
      exact hK.out _ _ (Below.refl _ _) rfl
    refine FSteps.cons ?_ ?_
    · intro u W hS hd K hK
      have h4 : u 4 = _ := hd 4 rfl
      clear hd
      simp only [upd, h4, reduceIte, Nat.reduceEqDiff] at hK
      have c0 := hS.1.cell 3 rfl
      go_simp
      exact hK.out _ _ (Below.refl _ _) rfl
    refine FSteps.cons ?_ ?_
    · intro u W hS hd K hK
      have h5 : u 5 = _ := hd 5 rfl
      clear hd
      simp only [upd, h5, reduceIte, Nat.reduceEqDiff] at hK
      go_simp
      go_at_call 27
      refine (HBI.out _).mono ?_
      rintro e wc ⟨rfl, rfl⟩
      exact hK.out _ _ (Below.refl _ _) rfl
    refine FSteps.cons ?_ ?_
    · intro u W hS hd K hK
      have h3 : u 3 = _ := hd 3 rfl
      have h6 : u 6 = _ := hd 6 rfl
      clear hd
      simp only [upd, h3, h6, reduceIte, Nat.reduceEqDiff] at hK
      go_simp
      exact hK.out _ _ (Below.refl _ _) rfl
    refine FSteps.cons ?_ ?_
    · intro u W hS hd K hK
      clear hd
      simp only [upd, reduceIte, Nat.reduceEqDiff] at hK
      go_simp
      exact hK.out _ _ (Below.refl _ _) rfl
    refine FSteps.cons ?_ ?_
    · intro u W hS hd K hK
      have h8 : u 8 = _ := hd 8 rfl
      clear hd
      simp only [upd, h8, reduceIte, Nat.reduceEqDiff] at hK
      have c0 := hS.1.cell 1 rfl
      go_simp
      exact hK.out _ _ (Below.refl _ _) rfl
    refine FSteps.cons ?_ ?_
    · intro u W hS hd K hK
      have h9 : u 9 = _ := hd 9 rfl
      clear hd
      simp only [upd, h9, reduceIte, Nat.reduceEqDiff] at hK
      go_simp
      exact hK.out _ _ (Below.refl _ _) rfl
    refine FSteps.cons ?_ ?_
    · intro u W hS hd K hK
      have h10 : u 10 = _ := hd 10 rfl
      clear hd
      simp only [upd, h10, reduceIte, Nat.reduceEqDiff] at hK
      go_simp
      exact hK.out _ _ (Below.refl _ _) rfl
    refine FSteps.cons ?_ ?_
    · intro u W hS hd K hK
      have h7 : u 7 = _ := hd 7 rfl
      have h11 : u 11 = _ := hd 11 rfl
      clear hd
      simp only [upd, h7, h11, reduceIte, Nat.reduceEqDiff] at hK
      go_simp
      exact hK.out _ _ (Below.refl _ _) rfl
    refine FSteps.cons ?_ ?_
    · intro u W hS hd K hK
      have h12 : u 12 = _ := hd 12 rfl
      clear hd
      simp only [upd, h12, reduceIte, Nat.reduceEqDiff] at hK
      go_simp
      exact hK.out _ _ ((Below.refl _ _).alloc (Nat.le_refl _) _) ⟨W.heap.size, rfl, BytesAt.made W _ [byteI (32 * vr + B + 2 * vs)] [.int .u8 (32 * vr + B + 2 * vs)] _ HVH.out rfl⟩
    refine FSteps.cons ?_ ?_
    · intro u W hS hd K hK
      obtain ⟨g13, h13, b13⟩ : ∃ g, u 13 = .slice (some ⟨g, 0, none⟩) _ _ ∧ BytesAt W g _ := hd 13 rfl
      clear hd
      simp only [upd, h13, reduceIte, Nat.reduceEqDiff] at hK
      go_simp
      go_at_call 26
      refine (ctext_of _ _ _ _ b13).mono ?_
      rintro e wc ⟨rfl, rfl⟩
      exact hK.out _ _ (Below.refl _ _) rfl
    refine FSteps.cons ?_ ?_
    · intro u W hS hd K hK
      have h14 : u 14 = _ := hd 14 rfl
      clear hd
      simp only [upd, h14, reduceIte, Nat.reduceEqDiff] at hK
      go_simp
      exact hK.out _ _ (Below.refl _ _) rfl
    exact trivial
  case hendn =>
    intro u w6 hS hd
    have h15 : u 15 = _ := hd 15 rfl
    have HB6 := Lib.hid hS.2
    clear hd hS HR HB
    rw [h15]
    go_wp2_with fail
    exact bodyPost_ret (v := .string ⟨[byteI (32 * vr + B + 2 * vs)].toArray⟩) (by simp [results, Try.results16, go_sem]) rfl ⟨rfl, HB6.out⟩
set_option maxHeartbeats 1000000 in
theorem cnumbers_w (c : ByteArray) (vs vr : Int) (re m0 m1 m2 m3 : Bool) (b0 : 0 ≤ vr) (b1 : vr < 128) (a0 : 0 ≤ vs) (a1 : vs < 128) (w : World) : Calls Try.prog 16 #[.agg #[.string c, .int .i64 vs, .int .i64 vr, .bool re, .bool m0, .bool m1, .bool m2, .bool m3], .bool true] w fun e w' => e = .returned (.string ⟨[byteI (2 * vs), byteI (2 * vr + bitR re 1)].toArray⟩) ∧ Below w.heap.size w w' := by
  have HR := Lib.hid (RowAt.new w w.heap.size rfl [.string c, .int .i64 vs, .int .i64 vr, .bool re, .bool m0, .bool m1, .bool m2, .bool m3] 23)
  have HB := Lib.hid ((Below.refl _ w).alloc (Nat.le_refl _) (.cells #[.string c, .int .i64 vs, .int .i64 vr, .bool re, .bool m0, .bool m1, .bool m2, .bool m3] 23))
  have hbit : bitR re 1 = 0 ∨ bitR re 1 = 1 := by cases re <;> simp [bitR]
  have HV : [.int .u8 (2 * vs), .int .u8 (2 * vr + bitR re 1)] = bytesV [byteI (2 * vs), byteI (2 * vr + bitR re 1)] := by
    simp [bytesV, ← byteI_val (2 * vs) (by omega) (by omega), ← byteI_val (2 * vr + bitR re 1) (by omega) (by omega)]
  have HVH := Lib.hid HV
  clear HV
  have HBI := Lib.hid (fun W => cbit_any re 1 W)
  have z1 : IntKind.i64.wrap (vr * 2) = 2 * vr := (IntWalk.i64_in _ (by omega)).trans (by omega)
  have z2 : IntKind.i64.wrap (vs * 2) = 2 * vs := (IntWalk.i64_in _ (by omega)).trans (by omega)
  have z3 : IntKind.u8.wrap (2 * vr) = 2 * vr := (IntKind.wrap_u8 _).trans (by omega)
  have z4 : IntKind.u8.wrap (2 * vs) = 2 * vs := (IntKind.wrap_u8 _).trans (by omega)
  have z5 := or_wide vr re b0 b1
  generalize bitR re 1 = B at *
  go_enter Try.func16, Try.ntmps16
  go_upto_region 2 with (fail)
  generalize w.alloc (.cells #[.string c, .int .i64 vs, .int .i64 vr, .bool re, .bool m0, .bool m1, .bool m2, .bool m3] 23) = w1 at *
  refine wp_region_facts (fun W W' => Below W.heap.size W W') (fun W => RowAt W w.heap.size [.string c, .int .i64 vs, .int .i64 vr, .bool re, .bool m0, .bool m1, .bool m2, .bool m3] ∧ Below w.heap.size w W) (factsOf [.is (.pointer (some ⟨w.heap.size, 1, none⟩)), .is (.int .i64 vs), .is (.int .i64 (2 * vs)), .is (.int .u8 (2 * vs)), .is (.pointer (some ⟨w.heap.size, 2, none⟩)), .is (.int .i64 vr), .is (.int .i64 (2 * vr)), .is (.int .u8 (2 * vr)), .is (.pointer (some ⟨w.heap.size, 3, none⟩)), .is (.bool re), .is (.int .u8 B), .is (.int .u8 (2 * vr + B)), .row [byteI (2 * vs), byteI (2 * vr + B)], .is (.string ⟨[byteI (2 * vs), byteI (2 * vr + B)].toArray⟩), .is (.string ⟨[byteI (2 * vs), byteI (2 * vr + B)].toArray⟩)]) (by kernel_rfl) (by kernel_rfl) (facts_stay _) (fun W W' hb h => ⟨h.1.below hb, h.2.trans (hb.mono h.2.size)⟩) (fun i => if i = 14 then .string ⟨#[]⟩ else undef) (by kernel_rfl) ⟨HR.out.drew, HB.out.drew⟩ ?Fw ?hFw ?hstepw ?hendw
  case hFw =>
    intro u
    simp only [fillAct]
    go_simp
    rfl
  case hstepw =>
    refine FSteps.cons ?_ ?_
    · intro u W hS hd K hK
      clear hd
      simp only [upd, reduceIte, Nat.reduceEqDiff] at hK
      go_simp
      exact hK.out _ _ (Below.refl _ _) rfl
    refine FSteps.cons ?_ ?_
    · intro u W hS hd K hK
      have h0 : u 0 = _ := hd 0 rfl
      clear hd
      simp only [upd, h0, reduceIte, Nat.reduceEqDiff] at hK
      have c0 := hS.1.cell 1 rfl
      go_simp
      exact hK.out _ _ (Below.refl _ _) rfl
    refine FSteps.cons ?_ ?_
    · intro u W hS hd K hK
      have h1 : u 1 = _ := hd 1 rfl
      clear hd
      simp only [upd, h1, reduceIte, Nat.reduceEqDiff] at hK
      go_simp
      exact hK.out _ _ (Below.refl _ _) rfl
    refine FSteps.cons ?_ ?_
    · intro u W hS hd K hK
      have h2 : u 2 = _ := hd 2 rfl
      clear hd
      simp only [upd, h2, reduceIte, Nat.reduceEqDiff] at hK
      go_simp
      exact hK.out _ _ (Below.refl _ _) rfl
    refine FSteps.cons ?_ ?_
    · intro u W hS hd K hK
      clear hd
      simp only [upd, reduceIte, Nat.reduceEqDiff] at hK
      go_simp
      exact hK.out _ _ (Below.refl _ _) rfl
    refine FSteps.cons ?_ ?_
    · intro u W hS hd K hK
      have h4 : u 4 = _ := hd 4 rfl
      clear hd
      simp only [upd, h4, reduceIte, Nat.reduceEqDiff] at hK
      have c0 := hS.1.cell 2 rfl
      go_simp
      exact hK.out _ _ (Below.refl _ _) rfl
    refine FSteps.cons ?_ ?_
    · intro u W hS hd K hK
      have h5 : u 5 = _ := hd 5 rfl
      clear hd
      simp only [upd, h5, reduceIte, Nat.reduceEqDiff] at hK
      go_simp
      exact hK.out _ _ (Below.refl _ _) rfl
    refine FSteps.cons ?_ ?_
    · intro u W hS hd K hK
      have h6 : u 6 = _ := hd 6 rfl
      clear hd
      simp only [upd, h6, reduceIte, Nat.reduceEqDiff] at hK
      go_simp
      exact hK.out _ _ (Below.refl _ _) rfl
    refine FSteps.cons ?_ ?_
    · intro u W hS hd K hK
      clear hd
      simp only [upd, reduceIte, Nat.reduceEqDiff] at hK
      go_simp
      exact hK.out _ _ (Below.refl _ _) rfl
    refine FSteps.cons ?_ ?_
    · intro u W hS hd K hK
      have h8 : u 8 = _ := hd 8 rfl
      clear hd
      simp only [upd, h8, reduceIte, Nat.reduceEqDiff] at hK
      have c0 := hS.1.cell 3 rfl
      go_simp
      exact hK.out _ _ (Below.refl _ _) rfl
    refine FSteps.cons ?_ ?_
    · intro u W hS hd K hK
      have h9 : u 9 = _ := hd 9 rfl
      clear hd
      simp only [upd, h9, reduceIte, Nat.reduceEqDiff] at hK
      go_simp
      go_at_call 27
      refine (HBI.out _).mono ?_
      rintro e wc ⟨rfl, rfl⟩
      exact hK.out _ _ (Below.refl _ _) rfl
    refine FSteps.cons ?_ ?_
    · intro u W hS hd K hK
      have h7 : u 7 = _ := hd 7 rfl
      have h10 : u 10 = _ := hd 10 rfl
      clear hd
      simp only [upd, h7, h10, reduceIte, Nat.reduceEqDiff] at hK
      go_simp
      exact hK.out _ _ (Below.refl _ _) rfl
    refine FSteps.cons ?_ ?_
    · intro u W hS hd K hK
      have h3 : u 3 = _ := hd 3 rfl
      have h11 : u 11 = _ := hd 11 rfl
      clear hd
      simp only [upd, h3, h11, reduceIte, Nat.reduceEqDiff] at hK
      go_simp
      exact hK.out _ _ ((Below.refl _ _).alloc (Nat.le_refl _) _) ⟨W.heap.size, rfl, BytesAt.made W _ [byteI (2 * vs), byteI (2 * vr + B)] [.int .u8 (2 * vs), .int .u8 (2 * vr + B)] _ HVH.out rfl⟩
    refine FSteps.cons ?_ ?_
    · intro u W hS hd K hK
      obtain ⟨g12, h12, b12⟩ : ∃ g, u 12 = .slice (some ⟨g, 0, none⟩) _ _ ∧ BytesAt W g _ := hd 12 rfl
      clear hd
      simp only [upd, h12, reduceIte, Nat.reduceEqDiff] at hK
      go_simp
      go_at_call 26
      refine (ctext_of _ _ _ _ b12).mono ?_
      rintro e wc ⟨rfl, rfl⟩
      exact hK.out _ _ (Below.refl _ _) rfl
    refine FSteps.cons ?_ ?_
    · intro u W hS hd K hK
      have h13 : u 13 = _ := hd 13 rfl
      clear hd
      simp only [upd, h13, reduceIte, Nat.reduceEqDiff] at hK
      go_simp
      exact hK.out _ _ (Below.refl _ _) rfl
    exact trivial
  case hendw =>
    intro u w6 hS hd
    have h14 : u 14 = _ := hd 14 rfl
    have HB6 := Lib.hid hS.2
    clear hd hS HR HB
    rw [h14]
    go_wp2_with fail
    exact bodyPost_ret (v := .string ⟨[byteI (2 * vs), byteI (2 * vr + B)].toArray⟩) (by simp [results, Try.results16, go_sem]) rfl ⟨rfl, HB6.out⟩
set_option maxHeartbeats 1000000 in
theorem cpmarks_any (c : ByteArray) (vs vr : Int) (re m0 m1 m2 m3 : Bool) (w : World) : Calls Try.prog 17 #[.agg #[.string c, .int .i64 vs, .int .i64 vr, .bool re, .bool m0, .bool m1, .bool m2, .bool m3]] w fun e w' => e = .returned (.string ⟨[byteI (sumK m0 m1 m2 m3 4)].toArray⟩) ∧ Below w.heap.size w w' := by
  have HX0 := Lib.hid (RowAt.new w w.heap.size rfl [.string c, .int .i64 vs, .int .i64 vr, .bool re, .bool m0, .bool m1, .bool m2, .bool m3] 23)
  have HB0 := Lib.hid ((Below.refl _ w).alloc (Nat.le_refl _) (.cells #[.string c, .int .i64 vs, .int .i64 vr, .bool re, .bool m0, .bool m1, .bool m2, .bool m3] 23))
  have HM := Lib.hid (fun W => cmarks_any w.heap.size W)
  have ⟨s0, s1⟩ := sumK_low m0 m1 m2 m3 4
  have HT := Lib.hid (fun (W : World) => ctext_of W.heap.size 1 [byteI (sumK m0 m1 m2 m3 4)] (W.alloc (.cells #[.int .u8 (sumK m0 m1 m2 m3 4)] 5)) (BytesAt.made W _ [byteI (sumK m0 m1 m2 m3 4)] [.int .u8 (sumK m0 m1 m2 m3 4)] 5 (by simp [bytesV, ← byteI_val _ s0 (Int.le_trans s1 (by decide))]) rfl))
  clear s0 s1
  go_enter Try.func17, Try.ntmps17
  go_upto_region 2 with (fail)
  generalize w.alloc (.cells #[.string c, .int .i64 vs, .int .i64 vr, .bool re, .bool m0, .bool m1, .bool m2, .bool m3] 23) = w1 at *
  go_wp2_with fail
  go_at_call 28
  refine (HM.out _).mono ?_
  rintro e w3 ⟨rfl, hb⟩
  have HX3 := Lib.hid (HX0.out.below hb)
  have HB3 := Lib.hid (HB0.out.trans (hb.mono HB0.out.size))
  clear hb HX0 HB0
  have hx0 := fun W => (index_ptrs w.heap.size W).1
  have hx1 := fun W => (index_ptrs w.heap.size W).2.1
  have hx2 := fun W => (index_ptrs w.heap.size W).2.2.1
  have hx3 := fun W => (index_ptrs w.heap.size W).2.2.2
  have ⟨o0, o1, o2, o3⟩ := sum_or m0 m1 m2 m3
  unfold ptrsR at hx0 hx1 hx2 hx3 ⊢
  go_wp2_with fail
  go_loopw [3, 4, 5, 7] (fun m t p i wx => ∃ j : Nat, j ≤ 4 ∧ i = .int .i64 j ∧ m = .int .u8 (sumK m0 m1 m2 m3 j) ∧ Hid (RowAt wx w.heap.size [.string c, .int .i64 vs, .int .i64 vr, .bool re, .bool m0, .bool m1, .bool m2, .bool m3] ∧ Below w.heap.size w wx)) (fun _ _ _ i _ => 4 - (intOf i).toNat)
  case atStart => exact ⟨0, by omega, rfl, rfl, HX3.out, HB3.out⟩
  case round =>
    obtain ⟨j, hj, rfl, rfl, HK⟩ := hrel
    clear HX3 HB3
    obtain rfl | rfl | rfl | rfl | rfl : j = 0 ∨ j = 1 ∨ j = 2 ∨ j = 3 ∨ j = 4 := by omega
    · have l0 := HK.out.1.drew.cell 4 rfl
      have HC := Lib.hid (fun W => cbit_any m0 1 W)
      have hwp : IntKind.u8.wrap 1 = 1 := by decide
      have hn : bits BinOp.or .u8 (sumK m0 m1 m2 m3 0) (bitR m0 1) = sumK m0 m1 m2 m3 1 := o0
      have HN := Lib.hid HK.out.1.drew
      have HO := Lib.hid HK.out.2.drew
      go_upto_region 5 with (fail)
      refine wp_region_any (by kernel_rfl) ?_
      try (change wpAny _ _ _ _ _ _ _ (World.drew _))
      refine wpAny_take (i := 0) (v := ?_) rfl (by kernel_rfl) (by kernel_rfl) (by kernel_rfl) (fun _ _ _ h => h) (Or.inl ⟨by rfl, ?_⟩) ?_
      rotate_left
      · intro w; go_simp; with_reducible rfl
      refine wpAny_take (i := 1) (v := ?_) rfl (by kernel_rfl) (by kernel_rfl) (by kernel_rfl) (fun _ _ _ h => h) (Or.inl ⟨by rfl, ?_⟩) ?_
      rotate_left
      · intro w; go_simp; with_reducible rfl
      refine wpAny_take (i := 2) (v := ?_) rfl (by kernel_rfl) (by kernel_rfl) (by kernel_rfl) (fun _ _ _ h => h) (Or.inl ⟨by rfl, ?_⟩) ?_
      rotate_left
      · intro w; go_simp; with_reducible rfl
      refine wpAny_take (i := 4) (v := ?_) rfl (by kernel_rfl) (by kernel_rfl) (by kernel_rfl) (fun _ _ _ h => h) (Or.inl ⟨by rfl, ?_⟩) ?_
      rotate_left
      · intro w; go_simp; with_reducible rfl
      refine wpAny_take (i := 5) (v := ?_) rfl (by kernel_rfl) (by kernel_rfl) (by kernel_rfl) (fun _ _ _ h => h) (Or.inl ⟨by rfl, ?_⟩) ?_
      rotate_left
      · intro w; go_simp; with_reducible rfl
      refine wpAny_ready (rs := [3]) (by kernel_rfl) (by simp) ?_
      refine AllReady.cons rfl (fun K hK => ?_) AllReady.nil
      go_simp
      refine hK _ _ ?_
      clear hK K
      refine wpAny_ready (rs := [6]) (by kernel_rfl) (by simp) ?_
      refine AllReady.cons rfl (fun K hK => ?_) AllReady.nil
      go_simp
      go_wp2_with ((go_at_call 27; (with_reducible refine (HC.out _).mono ?_); rintro e w5 ⟨rfl, rfl⟩))
      refine wpAny_ready (rs := [7]) (by kernel_rfl) (by simp) ?_
      refine AllReady.cons rfl (fun K hK => ?_) AllReady.nil
      go_simp
      refine hK _ _ ?_
      clear hK K
      refine wpAny_ready (rs := [8]) (by kernel_rfl) (by simp) ?_
      refine AllReady.cons rfl (fun K hK => ?_) AllReady.nil
      go_simp
      refine hK _ _ ?_
      clear hK K
      refine wpAny_done (by kernel_rfl) ?_ _
      go_wp2_with fail
      go_roundw
      case rel => exact ⟨1, by omega, by go_num, rfl, HN.out, HO.out⟩
      case measure => simp [intOf]
    · have l0 := HK.out.1.drew.cell 5 rfl
      have HC := Lib.hid (fun W => cbit_any m1 2 W)
      have hwp : IntKind.u8.wrap 2 = 2 := by decide
      have hn : bits BinOp.or .u8 (sumK m0 m1 m2 m3 1) (bitR m1 2) = sumK m0 m1 m2 m3 2 := o1
      have HN := Lib.hid HK.out.1.drew
      have HO := Lib.hid HK.out.2.drew
      go_upto_region 5 with (fail)
      refine wp_region_any (by kernel_rfl) ?_
      try (change wpAny _ _ _ _ _ _ _ (World.drew _))
      refine wpAny_take (i := 0) (v := ?_) rfl (by kernel_rfl) (by kernel_rfl) (by kernel_rfl) (fun _ _ _ h => h) (Or.inl ⟨by rfl, ?_⟩) ?_
      rotate_left
      · intro w; go_simp; with_reducible rfl
      refine wpAny_take (i := 1) (v := ?_) rfl (by kernel_rfl) (by kernel_rfl) (by kernel_rfl) (fun _ _ _ h => h) (Or.inl ⟨by rfl, ?_⟩) ?_
      rotate_left
      · intro w; go_simp; with_reducible rfl
      refine wpAny_take (i := 2) (v := ?_) rfl (by kernel_rfl) (by kernel_rfl) (by kernel_rfl) (fun _ _ _ h => h) (Or.inl ⟨by rfl, ?_⟩) ?_
      rotate_left
      · intro w; go_simp; with_reducible rfl
      refine wpAny_take (i := 4) (v := ?_) rfl (by kernel_rfl) (by kernel_rfl) (by kernel_rfl) (fun _ _ _ h => h) (Or.inl ⟨by rfl, ?_⟩) ?_
      rotate_left
      · intro w; go_simp; with_reducible rfl
      refine wpAny_take (i := 5) (v := ?_) rfl (by kernel_rfl) (by kernel_rfl) (by kernel_rfl) (fun _ _ _ h => h) (Or.inl ⟨by rfl, ?_⟩) ?_
      rotate_left
      · intro w; go_simp; with_reducible rfl
      refine wpAny_ready (rs := [3]) (by kernel_rfl) (by simp) ?_
      refine AllReady.cons rfl (fun K hK => ?_) AllReady.nil
      go_simp
      refine hK _ _ ?_
      clear hK K
      refine wpAny_ready (rs := [6]) (by kernel_rfl) (by simp) ?_
      refine AllReady.cons rfl (fun K hK => ?_) AllReady.nil
      go_simp
      go_wp2_with ((go_at_call 27; (with_reducible refine (HC.out _).mono ?_); rintro e w5 ⟨rfl, rfl⟩))
      refine wpAny_ready (rs := [7]) (by kernel_rfl) (by simp) ?_
      refine AllReady.cons rfl (fun K hK => ?_) AllReady.nil
      go_simp
      refine hK _ _ ?_
      clear hK K
      refine wpAny_ready (rs := [8]) (by kernel_rfl) (by simp) ?_
      refine AllReady.cons rfl (fun K hK => ?_) AllReady.nil
      go_simp
      refine hK _ _ ?_
      clear hK K
      refine wpAny_done (by kernel_rfl) ?_ _
      go_wp2_with fail
      go_roundw
      case rel => exact ⟨2, by omega, by go_num, rfl, HN.out, HO.out⟩
      case measure => simp [intOf]
    · have l0 := HK.out.1.drew.cell 6 rfl
      have HC := Lib.hid (fun W => cbit_any m2 4 W)
      have hwp : IntKind.u8.wrap 4 = 4 := by decide
      have hn : bits BinOp.or .u8 (sumK m0 m1 m2 m3 2) (bitR m2 4) = sumK m0 m1 m2 m3 3 := o2
      have HN := Lib.hid HK.out.1.drew
      have HO := Lib.hid HK.out.2.drew
      go_upto_region 5 with (fail)
      refine wp_region_any (by kernel_rfl) ?_
      try (change wpAny _ _ _ _ _ _ _ (World.drew _))
      refine wpAny_take (i := 0) (v := ?_) rfl (by kernel_rfl) (by kernel_rfl) (by kernel_rfl) (fun _ _ _ h => h) (Or.inl ⟨by rfl, ?_⟩) ?_
      rotate_left
      · intro w; go_simp; with_reducible rfl
      refine wpAny_take (i := 1) (v := ?_) rfl (by kernel_rfl) (by kernel_rfl) (by kernel_rfl) (fun _ _ _ h => h) (Or.inl ⟨by rfl, ?_⟩) ?_
      rotate_left
      · intro w; go_simp; with_reducible rfl
      refine wpAny_take (i := 2) (v := ?_) rfl (by kernel_rfl) (by kernel_rfl) (by kernel_rfl) (fun _ _ _ h => h) (Or.inl ⟨by rfl, ?_⟩) ?_
      rotate_left
      · intro w; go_simp; with_reducible rfl
      refine wpAny_take (i := 4) (v := ?_) rfl (by kernel_rfl) (by kernel_rfl) (by kernel_rfl) (fun _ _ _ h => h) (Or.inl ⟨by rfl, ?_⟩) ?_
      rotate_left
      · intro w; go_simp; with_reducible rfl
      refine wpAny_take (i := 5) (v := ?_) rfl (by kernel_rfl) (by kernel_rfl) (by kernel_rfl) (fun _ _ _ h => h) (Or.inl ⟨by rfl, ?_⟩) ?_
      rotate_left
      · intro w; go_simp; with_reducible rfl
      refine wpAny_ready (rs := [3]) (by kernel_rfl) (by simp) ?_
      refine AllReady.cons rfl (fun K hK => ?_) AllReady.nil
      go_simp
      refine hK _ _ ?_
      clear hK K
      refine wpAny_ready (rs := [6]) (by kernel_rfl) (by simp) ?_
      refine AllReady.cons rfl (fun K hK => ?_) AllReady.nil
      go_simp
      go_wp2_with ((go_at_call 27; (with_reducible refine (HC.out _).mono ?_); rintro e w5 ⟨rfl, rfl⟩))
      refine wpAny_ready (rs := [7]) (by kernel_rfl) (by simp) ?_
      refine AllReady.cons rfl (fun K hK => ?_) AllReady.nil
      go_simp
      refine hK _ _ ?_
      clear hK K
      refine wpAny_ready (rs := [8]) (by kernel_rfl) (by simp) ?_
      refine AllReady.cons rfl (fun K hK => ?_) AllReady.nil
      go_simp
      refine hK _ _ ?_
      clear hK K
      refine wpAny_done (by kernel_rfl) ?_ _
      go_wp2_with fail
      go_roundw
      case rel => exact ⟨3, by omega, by go_num, rfl, HN.out, HO.out⟩
      case measure => simp [intOf]
    · have l0 := HK.out.1.drew.cell 7 rfl
      have HC := Lib.hid (fun W => cbit_any m3 8 W)
      have hwp : IntKind.u8.wrap 8 = 8 := by decide
      have hn : bits BinOp.or .u8 (sumK m0 m1 m2 m3 3) (bitR m3 8) = sumK m0 m1 m2 m3 4 := o3
      have HN := Lib.hid HK.out.1.drew
      have HO := Lib.hid HK.out.2.drew
      go_upto_region 5 with (fail)
      refine wp_region_any (by kernel_rfl) ?_
      try (change wpAny _ _ _ _ _ _ _ (World.drew _))
      refine wpAny_take (i := 0) (v := ?_) rfl (by kernel_rfl) (by kernel_rfl) (by kernel_rfl) (fun _ _ _ h => h) (Or.inl ⟨by rfl, ?_⟩) ?_
      rotate_left
      · intro w; go_simp; with_reducible rfl
      refine wpAny_take (i := 1) (v := ?_) rfl (by kernel_rfl) (by kernel_rfl) (by kernel_rfl) (fun _ _ _ h => h) (Or.inl ⟨by rfl, ?_⟩) ?_
      rotate_left
      · intro w; go_simp; with_reducible rfl
      refine wpAny_take (i := 2) (v := ?_) rfl (by kernel_rfl) (by kernel_rfl) (by kernel_rfl) (fun _ _ _ h => h) (Or.inl ⟨by rfl, ?_⟩) ?_
      rotate_left
      · intro w; go_simp; with_reducible rfl
      refine wpAny_take (i := 4) (v := ?_) rfl (by kernel_rfl) (by kernel_rfl) (by kernel_rfl) (fun _ _ _ h => h) (Or.inl ⟨by rfl, ?_⟩) ?_
      rotate_left
      · intro w; go_simp; with_reducible rfl
      refine wpAny_take (i := 5) (v := ?_) rfl (by kernel_rfl) (by kernel_rfl) (by kernel_rfl) (fun _ _ _ h => h) (Or.inl ⟨by rfl, ?_⟩) ?_
      rotate_left
      · intro w; go_simp; with_reducible rfl
      refine wpAny_ready (rs := [3]) (by kernel_rfl) (by simp) ?_
      refine AllReady.cons rfl (fun K hK => ?_) AllReady.nil
      go_simp
      refine hK _ _ ?_
      clear hK K
      refine wpAny_ready (rs := [6]) (by kernel_rfl) (by simp) ?_
      refine AllReady.cons rfl (fun K hK => ?_) AllReady.nil
      go_simp
      go_wp2_with ((go_at_call 27; (with_reducible refine (HC.out _).mono ?_); rintro e w5 ⟨rfl, rfl⟩))
      refine wpAny_ready (rs := [7]) (by kernel_rfl) (by simp) ?_
      refine AllReady.cons rfl (fun K hK => ?_) AllReady.nil
      go_simp
      refine hK _ _ ?_
      clear hK K
      refine wpAny_ready (rs := [8]) (by kernel_rfl) (by simp) ?_
      refine AllReady.cons rfl (fun K hK => ?_) AllReady.nil
      go_simp
      refine hK _ _ ?_
      clear hK K
      refine wpAny_done (by kernel_rfl) ?_ _
      go_wp2_with fail
      go_roundw
      case rel => exact ⟨4, by omega, by go_num, rfl, HN.out, HO.out⟩
      case measure => simp [intOf]
    · have HB5 := Lib.hid HK.out.2
      clear HK o0 o1 o2 o3 hx0 hx1 hx2 hx3
      generalize hSe : sumK m0 m1 m2 m3 4 = S at *
      have HSe := Lib.hid hSe
      clear hSe
      go_wp2_with fail
      go_at_call 26
      refine (HT.out _).mono ?_
      rintro e w5 ⟨rfl, rfl⟩
      have HB6 := Lib.hid (HB5.out.alloc HB5.out.size (.cells #[.int .u8 S] 5))
      go_wp2_with fail
      exact bodyPost_ret (v := .string ⟨[byteI S].toArray⟩) (by simp [results, Try.results17, go_sem]) rfl ⟨by rw [HSe.out], HB6.out⟩
end Go.Proofs.Ytdaagllacmnekaa
