/-
The document's own Put, of a right report.
-/
import Derived.Test.YtdaagllacmnekaaRepBase
import Derived.Deep.DeepCutAuto
namespace Go.Proofs.Ytdaagllacmnekaa
open Go.RowKit
set_option maxRecDepth 20000
/-- bytes that have just been laid -/
theorem BytesAt.made (w : World) (g : Nat) (l : List UInt8) (V : List Value) (T : TypeId) (hV : V = bytesV l) (hg : g = w.heap.size) : BytesAt (w.alloc (.cells V.toArray T)) g l := by
  subst hV hg
  refine ⟨by simp, fun i hi => ?_⟩
  refine (World.cell?_alloc_at _ _ _ _ rfl).trans ?_
  rw [List.getElem?_toArray]
  exact bytesV_get l i hi
def byteI (n : Int) : UInt8 := UInt8.ofNat n.toNat
theorem byteI_val (n : Int) (h0 : 0 ≤ n) (h1 : n ≤ 255) : n = (((byteI n).toNat : Nat) : Int) := by
  have e : (byteI n).toNat = n.toNat % 256 := rfl
  omega
/-- the marks of the first so many, and what the next one counts -/
def sumK (m0 m1 m2 m3 : Bool) : Nat → Int
  | 0 => 0
  | 1 => bitR m0 1
  | 2 => bitR m0 1 + bitR m1 2
  | 3 => bitR m0 1 + bitR m1 2 + bitR m2 4
  | _ => bitR m0 1 + bitR m1 2 + bitR m2 4 + bitR m3 8
def powK : Nat → Int
  | 0 => 1
  | 1 => 2
  | 2 => 4
  | 3 => 8
  | _ => 16
theorem sumK_low (m0 m1 m2 m3 : Bool) (j : Nat) : 0 ≤ sumK m0 m1 m2 m3 j ∧ sumK m0 m1 m2 m3 j ≤ 15 := by
  match j with
  | 0 => exact ⟨by simp [sumK], by simp [sumK]⟩
  | 1 => show 0 ≤ bitR m0 1 ∧ bitR m0 1 ≤ 15; revert m0; decide
  | 2 => show 0 ≤ bitR m0 1 + bitR m1 2 ∧ bitR m0 1 + bitR m1 2 ≤ 15; revert m0 m1; decide
  | 3 => show 0 ≤ bitR m0 1 + bitR m1 2 + bitR m2 4 ∧ bitR m0 1 + bitR m1 2 + bitR m2 4 ≤ 15; revert m0 m1 m2; decide
  | _ + 4 => show 0 ≤ bitR m0 1 + bitR m1 2 + bitR m2 4 + bitR m3 8 ∧ bitR m0 1 + bitR m1 2 + bitR m2 4 + bitR m3 8 ≤ 15; revert m0 m1 m2 m3; decide
/-- its bytes -/
def ctlR (r : Rp) (wide : Bool) : ByteArray := if wide && ((r.c.size : Int) == 1) then r.c ++ ⟨#[0]⟩ else r.c
def tailR (r : Rp) (wide : Bool) : List UInt8 := if wide then [byteI (2 * r.vs), byteI (2 * r.vr + bitR r.re 1), byteI (sumR r)] else [byteI (32 * r.vr + bitR r.re 16 + 2 * r.vs), byteI (sumR r)]
def putR (r : Rp) (wide : Bool) : ByteArray := ctlR r wide ++ ⟨(tailR r wide).toArray⟩
/-- two, three numbers as a text -/
theorem text2 (w : World) (a b : Int) (a0 : 0 ≤ a) (a1 : a ≤ 255) (b0 : 0 ≤ b) (b1 : b ≤ 255) : (convert 47 9 (.slice (some ⟨w.heap.size, 0, none⟩) 2 2)).run Try.prog (w.alloc (.cells #[.int .u8 a, .int .u8 b] 5)) = .ok (.string ⟨#[byteI a, byteI b]⟩) (w.alloc (.cells #[.int .u8 a, .int .u8 b] 5)) :=
  BytesAt.conv (cap := 2) (BytesAt.made w _ [byteI a, byteI b] [.int .u8 a, .int .u8 b] 5 (by simp [bytesV, ← byteI_val a a0 a1, ← byteI_val b b0 b1]) rfl)
theorem text3 (w : World) (a b d : Int) (a0 : 0 ≤ a) (a1 : a ≤ 255) (b0 : 0 ≤ b) (b1 : b ≤ 255) (d0 : 0 ≤ d) (d1 : d ≤ 255) : (convert 47 9 (.slice (some ⟨w.heap.size, 0, none⟩) 3 3)).run Try.prog (w.alloc (.cells #[.int .u8 a, .int .u8 b, .int .u8 d] 5)) = .ok (.string ⟨#[byteI a, byteI b, byteI d]⟩) (w.alloc (.cells #[.int .u8 a, .int .u8 b, .int .u8 d] 5)) :=
  BytesAt.conv (cap := 3) (BytesAt.made w _ [byteI a, byteI b, byteI d] [.int .u8 a, .int .u8 b, .int .u8 d] 5 (by simp [bytesV, ← byteI_val a a0 a1, ← byteI_val b b0 b1, ← byteI_val d d0 d1]) rfl)
set_option maxHeartbeats 2000000 in
theorem rput9_any (r : Rp) (wide : Bool) (w : World) (hr : rightR r wide = true) : Calls Try.prog 11 #[repV r, .bool wide] w fun e w' => e = .returned (.string (putR r wide)) ∧ Below w.heap.size w w' := by
  obtain ⟨c, vs, vr, re, m0, m1, m2, m3⟩ := r
  have HR := Lib.hid (RowAt.new w w.heap.size rfl (rowR ⟨c, vs, vr, re, m0, m1, m2, m3⟩) 27)
  have HB := Lib.hid ((Below.refl _ w).alloc (Nat.le_refl _) (.cells (rowR ⟨c, vs, vr, re, m0, m1, m2, m3⟩).toArray 27))
  have hz : w.heap.size < (w.alloc (.cells (rowR ⟨c, vs, vr, re, m0, m1, m2, m3⟩).toArray 27)).heap.size := by simp
  simp only [rightR, Bool.and_eq_true] at hr
  obtain ⟨h1, h2, h3⟩ := hr
  have h1' := numR_facts h1
  have h2' := numR_facts h2
  clear h1 h2
  obtain ⟨a0, a1, a2⟩ := h1'
  obtain ⟨b0, b1, b2⟩ := h2'
  have hcs : c.size ≤ 2 := by
    simp [sizeR] at h3
    omega
  have hP : ∃ P, P = putR ⟨c, vs, vr, re, m0, m1, m2, m3⟩ wide := ⟨_, rfl⟩
  obtain ⟨P, hP⟩ := hP
  rw [← hP]
  have HP := Lib.hid hP
  clear hP h3
  simp only [rowR] at HR HB hz
  unfold repV
  simp only
  cases re
  · go_enter Try.func11, Try.ntmps11
    go_upto_region 1 with (fail)
    generalize hw1 : w.alloc (.cells (#[.string c, .int .i64 vs, .int .i64 vr, .bool false, .bool m0, .bool m1, .bool m2, .bool m3]) 27) = w1 at *
    clear hw1
    have l3 := HR.out.cell 3 rfl
    have l4 := HR.out.cell 4 rfl
    have l5 := HR.out.cell 5 rfl
    have l6 := HR.out.cell 6 rfl
    have l7 := HR.out.cell 7 rfl
    go_wp2_with fail
    go_loopw [6, 7, 8] (fun m v i wx => ∃ j : Nat, j ≤ 4 ∧ i = .int .i64 j ∧ m = .int .i64 (sumK m0 m1 m2 m3 j) ∧ v = .int .i64 (powK j) ∧ wx = w1) (fun _ _ i _ => 4 - (intOf i).toNat)
    case atStart => exact ⟨0, by omega, rfl, rfl, rfl, rfl⟩
    case round =>
      obtain ⟨j, hj, rfl, rfl, rfl, rfl⟩ := hrel
      obtain rfl | rfl | rfl | rfl | rfl : j = 0 ∨ j = 1 ∨ j = 2 ∨ j = 3 ∨ j = 4 := by omega
      · have ⟨s0, s1⟩ := sumK_low m0 m1 m2 m3 0
        have hs : sumK m0 m1 m2 m3 1 = sumK m0 m1 m2 m3 0 + bitR m0 1 := by simp [sumK]
        generalize sumK m0 m1 m2 m3 0 = S at *
        rw [show powK 0 = 1 from rfl]
        cases m0
        · go_wp2_with fail
          go_roundw
          case rel => exact ⟨1, by omega, by go_num, by rw [hs]; simp [bitR], by go_num, trivial⟩
          case measure => simp [intOf]
        · go_wp2_with fail
          go_roundw
          case rel => exact ⟨1, by omega, by go_num, by rw [hs]; simp [bitR], by go_num, trivial⟩
          case measure => simp [intOf]
      · have ⟨s0, s1⟩ := sumK_low m0 m1 m2 m3 1
        have hs : sumK m0 m1 m2 m3 2 = sumK m0 m1 m2 m3 1 + bitR m1 2 := by rfl
        generalize sumK m0 m1 m2 m3 1 = S at *
        rw [show powK 1 = 2 from rfl]
        cases m1
        · go_wp2_with fail
          go_roundw
          case rel => exact ⟨2, by omega, by go_num, by rw [hs]; simp [bitR], by go_num, trivial⟩
          case measure => simp [intOf]
        · go_wp2_with fail
          go_roundw
          case rel => exact ⟨2, by omega, by go_num, by rw [hs]; simp [bitR], by go_num, trivial⟩
          case measure => simp [intOf]
      · have ⟨s0, s1⟩ := sumK_low m0 m1 m2 m3 2
        have hs : sumK m0 m1 m2 m3 3 = sumK m0 m1 m2 m3 2 + bitR m2 4 := by rfl
        generalize sumK m0 m1 m2 m3 2 = S at *
        rw [show powK 2 = 4 from rfl]
        cases m2
        · go_wp2_with fail
          go_roundw
          case rel => exact ⟨3, by omega, by go_num, by rw [hs]; simp [bitR], by go_num, trivial⟩
          case measure => simp [intOf]
        · go_wp2_with fail
          go_roundw
          case rel => exact ⟨3, by omega, by go_num, by rw [hs]; simp [bitR], by go_num, trivial⟩
          case measure => simp [intOf]
      · have ⟨s0, s1⟩ := sumK_low m0 m1 m2 m3 3
        have hs : sumK m0 m1 m2 m3 4 = sumK m0 m1 m2 m3 3 + bitR m3 8 := by rfl
        generalize sumK m0 m1 m2 m3 3 = S at *
        rw [show powK 3 = 8 from rfl]
        cases m3
        · go_wp2_with fail
          go_roundw
          case rel => exact ⟨4, by omega, by go_num, by rw [hs]; simp [bitR], by go_num, trivial⟩
          case measure => simp [intOf]
        · go_wp2_with fail
          go_roundw
          case rel => exact ⟨4, by omega, by go_num, by rw [hs]; simp [bitR], by go_num, trivial⟩
          case measure => simp [intOf]
      · have ⟨s0, s1⟩ := sumK_low m0 m1 m2 m3 4
        have HS := Lib.hid (show sumR ⟨c, vs, vr, false, m0, m1, m2, m3⟩ = sumK m0 m1 m2 m3 4 from rfl)
        generalize sumK m0 m1 m2 m3 4 = S at *
        have k0 := HR.out.cell 0 rfl
        have k1 := HR.out.cell 1 rfl
        have k2 := HR.out.cell 2 rfl
        clear l3 l4 l5 l6 l7
        cases wide
        · have a3 := a2 rfl
          have b3 := b2 rfl
          clear a1 a2 b1 b2
          have x0 : 0 ≤ 32 * vr + 2 * vs := by omega
          have x1 : 32 * vr + 2 * vs ≤ 255 := by omega
          have hcv := text2 wr (32 * vr + 2 * vs) S x0 x1 s0 (by omega)
          have ha := fun (W : World) => run_string_add_sum (P := Try.prog) (w := W) c ⟨#[byteI (32 * vr + 2 * vs), byteI S]⟩ (by show c.size + 2 ≤ _; omega)
          have HE : c ++ ⟨#[byteI (32 * vr + 2 * vs), byteI S]⟩ = P := by
            rw [HP.out]
            simp only [putR, ctlR, tailR, HS.out, bitR, Bool.false_and, Bool.false_eq_true, if_false, Int.add_zero]
          rw [HE] at ha
          have HBE := Lib.hid (HB.out.alloc HB.out.size (.cells #[.int .u8 (32 * vr + 2 * vs), .int .u8 S] 5))
          clear HR HB HP HS hcs
          go_wp2_with fail
          go_ret
          exact ⟨rfl, HBE.out⟩
        · have y0 : 0 ≤ 2 * vs := by omega
          have y1 : 2 * vs ≤ 255 := by omega
          have x0 : 0 ≤ 2 * vr := by omega
          have x1 : 2 * vr ≤ 255 := by omega
          clear a2 b2
          cases hz1 : ((c.size : Int) == 1)
          · have HE : c ++ ⟨#[byteI (2 * vs), byteI (2 * vr), byteI S]⟩ = P := by
              rw [HP.out]
              simp only [putR, ctlR, tailR, HS.out, bitR, hz1, Bool.and_false, Bool.false_eq_true, if_false, if_true, Int.add_zero]
            have hcv := text3 wr (2 * vs) (2 * vr) S y0 y1 x0 x1 s0 (by omega)
            have ha := fun (W : World) => run_string_add_sum (P := Try.prog) (w := W) c ⟨#[byteI (2 * vs), byteI (2 * vr), byteI S]⟩ (by show c.size + 3 ≤ _; omega)
            rw [HE] at ha
            have HBE := Lib.hid (HB.out.alloc HB.out.size (.cells #[.int .u8 (2 * vs), .int .u8 (2 * vr), .int .u8 S] 5))
            clear HR HB HP HS hcs
            go_wp2_with fail
            go_ret
            exact ⟨rfl, HBE.out⟩
          · have ha0 := fun (W : World) => run_string_add_sum (P := Try.prog) (w := W) c ⟨#[0]⟩ (by show c.size + 1 ≤ _; omega)
            have HC : ctlR ⟨c, vs, vr, false, m0, m1, m2, m3⟩ true = c ++ ⟨#[0]⟩ := by simp only [ctlR, hz1, Bool.and_true, if_true]
            have hcs' : (c ++ ⟨#[0]⟩ : ByteArray).size ≤ 3 := by rw [ByteArray.size_append]; show c.size + 1 ≤ 3; omega
            generalize c ++ (⟨#[0]⟩ : ByteArray) = D at *
            have HE : D ++ ⟨#[byteI (2 * vs), byteI (2 * vr), byteI S]⟩ = P := by
              rw [HP.out]
              simp only [putR, HC, tailR, HS.out, bitR, Bool.false_eq_true, if_false, if_true, Int.add_zero]
            have hcv := text3 wr (2 * vs) (2 * vr) S y0 y1 x0 x1 s0 (by omega)
            have ha := fun (W : World) => run_string_add_sum (P := Try.prog) (w := W) D ⟨#[byteI (2 * vs), byteI (2 * vr), byteI S]⟩ (by show D.size + 3 ≤ _; omega)
            rw [HE] at ha
            have HBE := Lib.hid (HB.out.alloc HB.out.size (.cells #[.int .u8 (2 * vs), .int .u8 (2 * vr), .int .u8 S] 5))
            clear HR HB HP HS hcs
            go_wp2_with fail
            go_ret
            exact ⟨rfl, HBE.out⟩
  · go_enter Try.func11, Try.ntmps11
    go_upto_region 1 with (fail)
    generalize hw1 : w.alloc (.cells (#[.string c, .int .i64 vs, .int .i64 vr, .bool true, .bool m0, .bool m1, .bool m2, .bool m3]) 27) = w1 at *
    clear hw1
    have l3 := HR.out.cell 3 rfl
    have l4 := HR.out.cell 4 rfl
    have l5 := HR.out.cell 5 rfl
    have l6 := HR.out.cell 6 rfl
    have l7 := HR.out.cell 7 rfl
    go_wp2_with fail
    go_loopw [6, 7, 8] (fun m v i wx => ∃ j : Nat, j ≤ 4 ∧ i = .int .i64 j ∧ m = .int .i64 (sumK m0 m1 m2 m3 j) ∧ v = .int .i64 (powK j) ∧ wx = w1) (fun _ _ i _ => 4 - (intOf i).toNat)
    case atStart => exact ⟨0, by omega, rfl, rfl, rfl, rfl⟩
    case round =>
      obtain ⟨j, hj, rfl, rfl, rfl, rfl⟩ := hrel
      obtain rfl | rfl | rfl | rfl | rfl : j = 0 ∨ j = 1 ∨ j = 2 ∨ j = 3 ∨ j = 4 := by omega
      · have ⟨s0, s1⟩ := sumK_low m0 m1 m2 m3 0
        have hs : sumK m0 m1 m2 m3 1 = sumK m0 m1 m2 m3 0 + bitR m0 1 := by simp [sumK]
        generalize sumK m0 m1 m2 m3 0 = S at *
        rw [show powK 0 = 1 from rfl]
        cases m0
        · go_wp2_with fail
          go_roundw
          case rel => exact ⟨1, by omega, by go_num, by rw [hs]; simp [bitR], by go_num, trivial⟩
          case measure => simp [intOf]
        · go_wp2_with fail
          go_roundw
          case rel => exact ⟨1, by omega, by go_num, by rw [hs]; simp [bitR], by go_num, trivial⟩
          case measure => simp [intOf]
      · have ⟨s0, s1⟩ := sumK_low m0 m1 m2 m3 1
        have hs : sumK m0 m1 m2 m3 2 = sumK m0 m1 m2 m3 1 + bitR m1 2 := by rfl
        generalize sumK m0 m1 m2 m3 1 = S at *
        rw [show powK 1 = 2 from rfl]
        cases m1
        · go_wp2_with fail
          go_roundw
          case rel => exact ⟨2, by omega, by go_num, by rw [hs]; simp [bitR], by go_num, trivial⟩
          case measure => simp [intOf]
        · go_wp2_with fail
          go_roundw
          case rel => exact ⟨2, by omega, by go_num, by rw [hs]; simp [bitR], by go_num, trivial⟩
          case measure => simp [intOf]
      · have ⟨s0, s1⟩ := sumK_low m0 m1 m2 m3 2
        have hs : sumK m0 m1 m2 m3 3 = sumK m0 m1 m2 m3 2 + bitR m2 4 := by rfl
        generalize sumK m0 m1 m2 m3 2 = S at *
        rw [show powK 2 = 4 from rfl]
        cases m2
        · go_wp2_with fail
          go_roundw
          case rel => exact ⟨3, by omega, by go_num, by rw [hs]; simp [bitR], by go_num, trivial⟩
          case measure => simp [intOf]
        · go_wp2_with fail
          go_roundw
          case rel => exact ⟨3, by omega, by go_num, by rw [hs]; simp [bitR], by go_num, trivial⟩
          case measure => simp [intOf]
      · have ⟨s0, s1⟩ := sumK_low m0 m1 m2 m3 3
        have hs : sumK m0 m1 m2 m3 4 = sumK m0 m1 m2 m3 3 + bitR m3 8 := by rfl
        generalize sumK m0 m1 m2 m3 3 = S at *
        rw [show powK 3 = 8 from rfl]
        cases m3
        · go_wp2_with fail
          go_roundw
          case rel => exact ⟨4, by omega, by go_num, by rw [hs]; simp [bitR], by go_num, trivial⟩
          case measure => simp [intOf]
        · go_wp2_with fail
          go_roundw
          case rel => exact ⟨4, by omega, by go_num, by rw [hs]; simp [bitR], by go_num, trivial⟩
          case measure => simp [intOf]
      · have ⟨s0, s1⟩ := sumK_low m0 m1 m2 m3 4
        have HS := Lib.hid (show sumR ⟨c, vs, vr, true, m0, m1, m2, m3⟩ = sumK m0 m1 m2 m3 4 from rfl)
        generalize sumK m0 m1 m2 m3 4 = S at *
        have k0 := HR.out.cell 0 rfl
        have k1 := HR.out.cell 1 rfl
        have k2 := HR.out.cell 2 rfl
        clear l3 l4 l5 l6 l7
        cases wide
        · have a3 := a2 rfl
          have b3 := b2 rfl
          clear a1 a2 b1 b2
          have x0 : 0 ≤ 32 * vr + 16 + 2 * vs := by omega
          have x1 : 32 * vr + 16 + 2 * vs ≤ 255 := by omega
          have hcv := text2 wr (32 * vr + 16 + 2 * vs) S x0 x1 s0 (by omega)
          have ha := fun (W : World) => run_string_add_sum (P := Try.prog) (w := W) c ⟨#[byteI (32 * vr + 16 + 2 * vs), byteI S]⟩ (by show c.size + 2 ≤ _; omega)
          have HE : c ++ ⟨#[byteI (32 * vr + 16 + 2 * vs), byteI S]⟩ = P := by
            rw [HP.out]
            simp only [putR, ctlR, tailR, HS.out, bitR, Bool.false_and, Bool.false_eq_true, if_false, if_true]
          rw [HE] at ha
          have HBE := Lib.hid (HB.out.alloc HB.out.size (.cells #[.int .u8 (32 * vr + 16 + 2 * vs), .int .u8 S] 5))
          clear HR HB HP HS hcs
          go_wp2_with fail
          go_ret
          exact ⟨rfl, HBE.out⟩
        · have y0 : 0 ≤ 2 * vs := by omega
          have y1 : 2 * vs ≤ 255 := by omega
          have x0 : 0 ≤ 2 * vr + 1 := by omega
          have x1 : 2 * vr + 1 ≤ 255 := by omega
          clear a2 b2
          cases hz1 : ((c.size : Int) == 1)
          · have HE : c ++ ⟨#[byteI (2 * vs), byteI (2 * vr + 1), byteI S]⟩ = P := by
              rw [HP.out]
              simp only [putR, ctlR, tailR, HS.out, bitR, hz1, Bool.and_false, Bool.false_eq_true, if_false, if_true]
            have hcv := text3 wr (2 * vs) (2 * vr + 1) S y0 y1 x0 x1 s0 (by omega)
            have ha := fun (W : World) => run_string_add_sum (P := Try.prog) (w := W) c ⟨#[byteI (2 * vs), byteI (2 * vr + 1), byteI S]⟩ (by show c.size + 3 ≤ _; omega)
            rw [HE] at ha
            have HBE := Lib.hid (HB.out.alloc HB.out.size (.cells #[.int .u8 (2 * vs), .int .u8 (2 * vr + 1), .int .u8 S] 5))
            clear HR HB HP HS hcs
            go_wp2_with fail
            go_ret
            exact ⟨rfl, HBE.out⟩
          · have ha0 := fun (W : World) => run_string_add_sum (P := Try.prog) (w := W) c ⟨#[0]⟩ (by show c.size + 1 ≤ _; omega)
            have HC : ctlR ⟨c, vs, vr, true, m0, m1, m2, m3⟩ true = c ++ ⟨#[0]⟩ := by simp only [ctlR, hz1, Bool.and_true, if_true]
            have hcs' : (c ++ ⟨#[0]⟩ : ByteArray).size ≤ 3 := by rw [ByteArray.size_append]; show c.size + 1 ≤ 3; omega
            generalize c ++ (⟨#[0]⟩ : ByteArray) = D at *
            have HE : D ++ ⟨#[byteI (2 * vs), byteI (2 * vr + 1), byteI S]⟩ = P := by
              rw [HP.out]
              simp only [putR, HC, tailR, HS.out, bitR, if_true]
            have hcv := text3 wr (2 * vs) (2 * vr + 1) S y0 y1 x0 x1 s0 (by omega)
            have ha := fun (W : World) => run_string_add_sum (P := Try.prog) (w := W) D ⟨#[byteI (2 * vs), byteI (2 * vr + 1), byteI S]⟩ (by show D.size + 3 ≤ _; omega)
            rw [HE] at ha
            have HBE := Lib.hid (HB.out.alloc HB.out.size (.cells #[.int .u8 (2 * vs), .int .u8 (2 * vr + 1), .int .u8 S] 5))
            clear HR HB HP HS hcs
            go_wp2_with fail
            go_ret
            exact ⟨rfl, HBE.out⟩
end Go.Proofs.Ytdaagllacmnekaa
