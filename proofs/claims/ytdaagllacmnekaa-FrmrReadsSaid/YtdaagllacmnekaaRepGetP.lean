/-
What the document reads bytes as, as plain facts.
-/
import Derived.Test.YtdaagllacmnekaaRepRPut
namespace Go.Proofs.Ytdaagllacmnekaa
open Go.RowKit
/-- a number halved so often; whether it is odd then -/
def mK (X : Int) : Nat → Int
  | 0 => X
  | j + 1 => mK X j / 2
def markX (X : Int) (k : Nat) : Bool := mK X k % 2 == 1
def int8 (x : UInt8) : Int := ((x.toNat : Nat) : Int)
theorem int8_low (x : UInt8) : 0 ≤ int8 x ∧ int8 x ≤ 255 := by
  have := blt' x
  unfold int8
  omega
theorem mK_low (X : Int) (h0 : 0 ≤ X) (h1 : X ≤ 255) (j : Nat) : 0 ≤ mK X j ∧ mK X j ≤ 255 := by
  induction j with
  | zero => exact ⟨h0, h1⟩
  | succ j ih =>
    show 0 ≤ mK X j / 2 ∧ mK X j / 2 ≤ 255
    omega
def readN (x0 x1 x2 : UInt8) : Rp := ⟨⟨#[x0]⟩, int8 x1 / 2 % 8, int8 x1 / 32, int8 x1 / 16 % 2 == 1, markX (int8 x2) 0, markX (int8 x2) 1, markX (int8 x2) 2, markX (int8 x2) 3⟩
def readW (x0 x1 x2 x3 x4 : UInt8) : Rp := ⟨⟨#[x0, x1]⟩, int8 x2 / 2, int8 x3 / 2, int8 x3 % 2 == 1, markX (int8 x4) 0, markX (int8 x4) 1, markX (int8 x4) 2, markX (int8 x4) 3⟩
/-- what such bytes are -/
def readB (l : List UInt8) (wide : Bool) : Rp :=
  match wide, l with
  | false, [x0, x1, x2] => readN x0 x1 x2
  | true, [x0, x1, x2, x3, x4] => readW x0 x1 x2 x3 x4
  | _, _ => zeroR
def sizeB (wide : Bool) : Nat := if wide then 5 else 3
def getR (b : ByteArray) (wide : Bool) : Rp × Int :=
  if b.size < sizeB wide then (zeroR, 4) else if sizeB wide < b.size then (zeroR, 5) else
  if putR (readB b.data.toList wide) wide = b then (readB b.data.toList wide, 0) else (zeroR, 2)
theorem numR_few {n : Int} (h0 : 0 ≤ n) (h1 : n < 8) (wide : Bool) : numR n wide = true := by
  simp [numR, h0, h1]
theorem numR_wide {n : Int} (h0 : 0 ≤ n) (h1 : n < 128) : numR n true = true := by
  simp [numR, h0, h1]
theorem readN_right (x0 x1 x2 : UInt8) : rightR (readN x0 x1 x2) false = true := by
  have ⟨a, b⟩ := int8_low x1
  have h1 : numR (int8 x1 / 2 % 8) false = true := numR_few (by omega) (by omega) _
  have h2 : numR (int8 x1 / 32) false = true := numR_few (by omega) (by omega) _
  simp only [rightR, readN, h1, h2]
  rfl
theorem readW_right (x0 x1 x2 x3 x4 : UInt8) : rightR (readW x0 x1 x2 x3 x4) true = true := by
  have ⟨a, b⟩ := int8_low x2
  have ⟨a', b'⟩ := int8_low x3
  have h1 : numR (int8 x2 / 2) true = true := numR_wide (by omega) (by omega)
  have h2 : numR (int8 x3 / 2) true = true := numR_wide (by omega) (by omega)
  simp only [rightR, readW, h1, h2]
  rfl
theorem bytes3 (b : ByteArray) (h : b.size = 3) : ∃ x0 x1 x2, b = ⟨#[x0, x1, x2]⟩ := by
  have hl : b.data.toList.length = 3 := by simpa using h
  match hb : b.data.toList, hl with
  | [x0, x1, x2], _ => exact ⟨x0, x1, x2, bytes_ext' hb⟩
theorem bytes5 (b : ByteArray) (h : b.size = 5) : ∃ x0 x1 x2 x3 x4, b = ⟨#[x0, x1, x2, x3, x4]⟩ := by
  have hl : b.data.toList.length = 5 := by simpa using h
  match hb : b.data.toList, hl with
  | [x0, x1, x2, x3, x4], _ => exact ⟨x0, x1, x2, x3, x4, bytes_ext' hb⟩
/-- a byte of a text, as an index reads it -/
theorem index_text (b : ByteArray) (i : Nat) (x : UInt8) (h : b.data.toList[i]? = some x) (W : World) : (Instr.index 9 (.string b) (.int .i64 (i : Int))).run Try.prog W = .ok (.int .u8 (int8 x)) W := by
  have hi : i < b.size := by
    have := (List.getElem?_eq_some_iff.1 h).1
    simpa using this
  have k := run_index_string (P := Try.prog) (w := W) 9 b .i64 (i : Int) Try.underlying9
  rw [dif_pos ⟨by omega, by omega⟩] at k
  rw [k]
  have e : b[(i : Int).toNat]'(by omega) = x := by
    have := list_at b i hi
    rw [List.getElem?_eq_getElem (by simpa using hi)] at h
    rw [← Option.some.inj h]
    exact this.symm
  rw [e]
  rfl
/-- the first bytes of a text -/
theorem slice_text (b : ByteArray) (n : Nat) (hn : n ≤ b.size) (W : World) : (Instr.slice 9 (.string b) none (some (.int .i64 (n : Int))) none).run Try.prog W = .ok (.string ⟨(b.data.toList.take n).toArray⟩) W := by
  rw [run_slice_string_h (P := Try.prog) (w := W) 9 b Try.underlying9 .i64 (n : Int) (by omega) (by omega)]
  congr 2
  apply bytes_ext'
  simp [ByteArray.data_extract, Array.toList_extract, List.extract_eq_take_drop]
/-- the cells of a report of which the first so many marks have been read -/
def rowK (c : ByteArray) (vs vr : Int) (re : Bool) (X : Int) : Nat → List Value
  | 0 => [.string c, .int .i64 vs, .int .i64 vr, .bool re, .bool false, .bool false, .bool false, .bool false]
  | 1 => [.string c, .int .i64 vs, .int .i64 vr, .bool re, .bool (markX X 0), .bool false, .bool false, .bool false]
  | 2 => [.string c, .int .i64 vs, .int .i64 vr, .bool re, .bool (markX X 0), .bool (markX X 1), .bool false, .bool false]
  | 3 => [.string c, .int .i64 vs, .int .i64 vr, .bool re, .bool (markX X 0), .bool (markX X 1), .bool (markX X 2), .bool false]
  | _ => [.string c, .int .i64 vs, .int .i64 vr, .bool re, .bool (markX X 0), .bool (markX X 1), .bool (markX X 2), .bool (markX X 3)]
/-- eight cells written anew -/
theorem stored8 {W : World} {m : Nat} {L : List Value} (h : RowAt W m L) (hL : L.length = 8) (u0 u1 u2 u3 u4 u5 u6 u7 : Value) :
    RowAt ((((((((W.setCell ⟨m, 0, none⟩ u0).setCell ⟨m, 1, none⟩ u1).setCell ⟨m, 2, none⟩ u2).setCell ⟨m, 3, none⟩ u3).setCell ⟨m, 4, none⟩ u4).setCell ⟨m, 5, none⟩ u5).setCell ⟨m, 6, none⟩ u6).setCell ⟨m, 7, none⟩ u7) m [u0, u1, u2, u3, u4, u5, u6, u7] := by
  match L, hL with
  | [x0, x1, x2, x3, x4, x5, x6, x7], _ =>
    exact (((((((h.put 0 u0 _ rfl).put 1 u1 _ rfl).put 2 u2 _ rfl).put 3 u3 _ rfl).put 4 u4 _ rfl).put 5 u5 _ rfl).put 6 u6 _ rfl).put 7 u7 _ rfl
theorem set8_below {B m : Nat} {a W : World} (h : Below B a W) (hm : B ≤ m) (u0 u1 u2 u3 u4 u5 u6 u7 : Value) :
    Below B a ((((((((W.setCell ⟨m, 0, none⟩ u0).setCell ⟨m, 1, none⟩ u1).setCell ⟨m, 2, none⟩ u2).setCell ⟨m, 3, none⟩ u3).setCell ⟨m, 4, none⟩ u4).setCell ⟨m, 5, none⟩ u5).setCell ⟨m, 6, none⟩ u6).setCell ⟨m, 7, none⟩ u7) :=
  (((((((h.setCell (p := ⟨m, 0, none⟩) hm u0).setCell (p := ⟨m, 1, none⟩) hm u1).setCell (p := ⟨m, 2, none⟩) hm u2).setCell (p := ⟨m, 3, none⟩) hm u3).setCell (p := ⟨m, 4, none⟩) hm u4).setCell (p := ⟨m, 5, none⟩) hm u5).setCell (p := ⟨m, 6, none⟩) hm u6).setCell (p := ⟨m, 7, none⟩) hm u7
end Go.Proofs.Ytdaagllacmnekaa
