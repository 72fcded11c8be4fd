/-
A right report's bytes are read as it.
-/
import Derived.Test.YtdaagllacmnekaaRepGetP
namespace Go.Proofs.Ytdaagllacmnekaa
open Go.RowKit
theorem marks_sum (m0 m1 m2 m3 : Bool) : markX (bitR m0 1 + bitR m1 2 + bitR m2 4 + bitR m3 8) 0 = m0 ∧ markX (bitR m0 1 + bitR m1 2 + bitR m2 4 + bitR m3 8) 1 = m1 ∧ markX (bitR m0 1 + bitR m1 2 + bitR m2 4 + bitR m3 8) 2 = m2 ∧ markX (bitR m0 1 + bitR m1 2 + bitR m2 4 + bitR m3 8) 3 = m3 := by
  revert m0 m1 m2 m3
  decide
theorem sumR_low (r : Rp) : 0 ≤ sumR r ∧ sumR r ≤ 255 := by
  have h := sumK_low r.m0 r.m1 r.m2 r.m3 4
  have e : sumK r.m0 r.m1 r.m2 r.m3 4 = sumR r := rfl
  omega
theorem int8_byteI (n : Int) (h0 : 0 ≤ n) (h1 : n ≤ 255) : int8 (byteI n) = n := (byteI_val n h0 h1).symm
theorem odd_yes {n : Int} (h : n = 1) : (n == 1) = true := by simp [h]
theorem odd_no {n : Int} (h : n ≠ 1) : (n == 1) = false := by simp [h]
theorem sizeR_no {n : Nat} (h : sizeR n false = true) : n = 1 := by
  simp [sizeR] at h
  omega
theorem sizeR_yes {n : Nat} (h : sizeR n true = true) : n = 1 ∨ n = 2 := by
  simp [sizeR] at h
  omega
theorem bytes1 (b : ByteArray) (h : b.size = 1) : ∃ x0, b = ⟨#[x0]⟩ := by
  have hl : b.data.toList.length = 1 := by simpa using h
  match hb : b.data.toList, hl with
  | [x0], _ => exact ⟨x0, bytes_ext' hb⟩
theorem bytes2 (b : ByteArray) (h : b.size = 2) : ∃ x0 x1, b = ⟨#[x0, x1]⟩ := by
  have hl : b.data.toList.length = 2 := by simpa using h
  match hb : b.data.toList, hl with
  | [x0, x1], _ => exact ⟨x0, x1, bytes_ext' hb⟩
/-- what is read back: wide, its control has two bytes -/
def backR (r : Rp) (wide : Bool) : Rp := { r with c := ctlR r wide }
theorem read_narrow (x0 : UInt8) (vs vr : Int) (re m0 m1 m2 m3 : Bool) (h1 : 0 ≤ vs) (h2 : vs < 8) (h3 : 0 ≤ vr) (h4 : vr < 8) :
    readN x0 (byteI (32 * vr + bitR re 16 + 2 * vs)) (byteI (bitR m0 1 + bitR m1 2 + bitR m2 4 + bitR m3 8)) = ⟨⟨#[x0]⟩, vs, vr, re, m0, m1, m2, m3⟩ := by
  have ⟨s0, s1⟩ := sumK_low m0 m1 m2 m3 4
  have ⟨k0, k1, k2, k3⟩ := marks_sum m0 m1 m2 m3
  unfold readN
  rw [int8_byteI (bitR m0 1 + bitR m1 2 + bitR m2 4 + bitR m3 8) s0 (Int.le_trans s1 (by decide)), k0, k1, k2, k3]
  cases re
  · rw [show bitR false 16 = 0 from rfl, int8_byteI _ (by omega) (by omega), odd_no (by omega), show (32 * vr + 0 + 2 * vs) / 2 % 8 = vs by omega, show (32 * vr + 0 + 2 * vs) / 32 = vr by omega]
  · rw [show bitR true 16 = 16 from rfl, int8_byteI _ (by omega) (by omega), odd_yes (by omega), show (32 * vr + 16 + 2 * vs) / 2 % 8 = vs by omega, show (32 * vr + 16 + 2 * vs) / 32 = vr by omega]
theorem read_wide (x0 x1 : UInt8) (vs vr : Int) (re m0 m1 m2 m3 : Bool) (h1 : 0 ≤ vs) (h2 : vs < 128) (h3 : 0 ≤ vr) (h4 : vr < 128) :
    readW x0 x1 (byteI (2 * vs)) (byteI (2 * vr + bitR re 1)) (byteI (bitR m0 1 + bitR m1 2 + bitR m2 4 + bitR m3 8)) = ⟨⟨#[x0, x1]⟩, vs, vr, re, m0, m1, m2, m3⟩ := by
  have ⟨s0, s1⟩ := sumK_low m0 m1 m2 m3 4
  have ⟨k0, k1, k2, k3⟩ := marks_sum m0 m1 m2 m3
  unfold readW
  rw [int8_byteI (bitR m0 1 + bitR m1 2 + bitR m2 4 + bitR m3 8) s0 (Int.le_trans s1 (by decide)), k0, k1, k2, k3, int8_byteI (2 * vs) (by omega) (by omega), show 2 * vs / 2 = vs by omega]
  cases re
  · rw [show bitR false 1 = 0 from rfl, int8_byteI _ (by omega) (by omega), odd_no (by omega), show (2 * vr + 0) / 2 = vr by omega]
  · rw [show bitR true 1 = 1 from rfl, int8_byteI _ (by omega) (by omega), odd_yes (by omega), show (2 * vr + 1) / 2 = vr by omega]
theorem getR_narrow (x0 x1 x2 : UInt8) : getR ⟨#[x0, x1, x2]⟩ false = if putR (readN x0 x1 x2) false = ⟨#[x0, x1, x2]⟩ then (readN x0 x1 x2, 0) else (zeroR, 2) := rfl
theorem getR_wide (x0 x1 x2 x3 x4 : UInt8) : getR ⟨#[x0, x1, x2, x3, x4]⟩ true = if putR (readW x0 x1 x2 x3 x4) true = ⟨#[x0, x1, x2, x3, x4]⟩ then (readW x0 x1 x2 x3 x4, 0) else (zeroR, 2) := rfl
theorem ctlR_narrow (r : Rp) : ctlR r false = r.c := rfl
theorem rep_get_put (r : Rp) (wide : Bool) (h : rightR r wide = true) : getR (putR r wide) wide = (backR r wide, 0) := by
  obtain ⟨c, vs, vr, re, m0, m1, m2, m3⟩ := r
  simp only [rightR, Bool.and_eq_true] at h
  obtain ⟨h1, h2, h3⟩ := h
  obtain ⟨a0, a1, a2⟩ := numR_facts h1
  obtain ⟨b0, b1, b2⟩ := numR_facts h2
  cases wide
  · obtain ⟨x0, rfl⟩ := bytes1 c (sizeR_no h3)
    have e : putR ⟨⟨#[x0]⟩, vs, vr, re, m0, m1, m2, m3⟩ false = ⟨#[x0, byteI (32 * vr + bitR re 16 + 2 * vs), byteI (bitR m0 1 + bitR m1 2 + bitR m2 4 + bitR m3 8)]⟩ := rfl
    have hr := read_narrow x0 vs vr re m0 m1 m2 m3 a0 (a2 rfl) b0 (b2 rfl)
    rw [e, getR_narrow, hr, e, if_pos rfl]
    rfl
  · have hb : ∃ x0 x1, ctlR ⟨c, vs, vr, re, m0, m1, m2, m3⟩ true = ⟨#[x0, x1]⟩ := by
      rcases sizeR_yes h3 with hs | hs
      · obtain ⟨x0, rfl⟩ := bytes1 c hs
        exact ⟨x0, 0, rfl⟩
      · obtain ⟨x0, x1, rfl⟩ := bytes2 c hs
        exact ⟨x0, x1, rfl⟩
    obtain ⟨x0, x1, hb⟩ := hb
    have e : ∀ c', ctlR ⟨c', vs, vr, re, m0, m1, m2, m3⟩ true = ⟨#[x0, x1]⟩ → putR ⟨c', vs, vr, re, m0, m1, m2, m3⟩ true = ⟨#[x0, x1, byteI (2 * vs), byteI (2 * vr + bitR re 1), byteI (bitR m0 1 + bitR m1 2 + bitR m2 4 + bitR m3 8)]⟩ := by
      intro c' hc
      unfold putR
      rw [hc]
      rfl
    have hr := read_wide x0 x1 vs vr re m0 m1 m2 m3 a0 a1 b0 b1
    rw [e c hb, getR_wide, hr, e ⟨#[x0, x1]⟩ rfl, if_pos rfl]
    unfold backR
    rw [hb]
end Go.Proofs.Ytdaagllacmnekaa
