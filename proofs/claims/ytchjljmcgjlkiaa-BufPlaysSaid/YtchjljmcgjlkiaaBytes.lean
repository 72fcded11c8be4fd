/-
Bytes as numbers; a byte of a text, its first bytes, those behind.
-/
import Derived.Test.YtchjljmcgjlkiaaMem
namespace Go.Proofs.Ytchjljmcgjlkiaa
open Go.RowKit
/-- bytes that have just been laid -/
theorem BytesAt.made (w : World) (g : Nat) (l : List UInt8) (V : List Value) (T : TypeId) (hV : V = bytesV l) (hg : g = w.heap.size) : BytesAt (w.alloc (.cells V.toArray T)) g l := by
  subst hV hg
  refine ⟨by simp, fun i hi => ?_⟩
  refine (World.cell?_alloc_at _ _ _ _ rfl).trans ?_
  rw [List.getElem?_toArray]
  exact bytesV_get l i hi
def byteI (n : Int) : UInt8 := UInt8.ofNat n.toNat
theorem byteI_val (n : Int) (h0 : 0 ≤ n) (h1 : n ≤ 255) : n = (((byteI n).toNat : Nat) : Int) := by
  have e : (byteI n).toNat = n.toNat % 256 := rfl
  omega
def int8 (x : UInt8) : Int := ((x.toNat : Nat) : Int)
theorem int8_low (x : UInt8) : 0 ≤ int8 x ∧ int8 x ≤ 255 := by
  have := blt' x
  unfold int8
  omega
theorem int8_byteI (n : Int) (h0 : 0 ≤ n) (h1 : n ≤ 255) : int8 (byteI n) = n := (byteI_val n h0 h1).symm
theorem i64_small (n : Int) (h0 : -1000000 ≤ n) (h1 : n ≤ 1000000) : IntKind.i64.wrap n = n := IntWalk.i64_in _ (by omega)
/-- a byte of a text, as an index reads it -/
theorem index_text (b : ByteArray) (i : Nat) (x : UInt8) (h : b.data.toList[i]? = some x) (W : World) : (Instr.index 9 (.string b) (.int .i64 (i : Int))).run Try.prog W = .ok (.int .u8 (int8 x)) W := by
  have hi : i < b.size := by
    have := (List.getElem?_eq_some_iff.1 h).1
    simpa using this
  have k := run_index_string (P := Try.prog) (w := W) 9 b .i64 (i : Int) Try.underlying9
  rw [dif_pos ⟨by omega, by omega⟩] at k
  rw [k]
  have e : b[(i : Int).toNat]'(by omega) = x := by
    have := list_at b i hi
    rw [List.getElem?_eq_getElem (by simpa using hi)] at h
    rw [← Option.some.inj h]
    exact this.symm
  rw [e]
  rfl
/-- the first bytes of a text -/
theorem slice_text (b : ByteArray) (n : Nat) (hn : n ≤ b.size) (W : World) : (Instr.slice 9 (.string b) none (some (.int .i64 (n : Int))) none).run Try.prog W = .ok (.string ⟨(b.data.toList.take n).toArray⟩) W := by
  rw [run_slice_string_h (P := Try.prog) (w := W) 9 b Try.underlying9 .i64 (n : Int) (by omega) (by omega)]
  congr 2
  apply bytes_ext'
  simp [ByteArray.data_extract, Array.toList_extract, List.extract_eq_take_drop]
/-- those behind the first ones -/
theorem slice_behind (b : ByteArray) (n : Nat) (hn : n ≤ b.size) (W : World) : (Instr.slice 9 (.string b) (some (.int .i64 (n : Int))) none none).run Try.prog W = .ok (.string ⟨(b.data.toList.drop n).toArray⟩) W := by
  rw [run_slice_string_l (P := Try.prog) (w := W) 9 b Try.underlying9 .i64 (n : Int) (by omega) (by omega)]
  congr 2
  apply bytes_ext'
  have hl : b.data.toList.length = b.size := by simp
  simp only [ByteArray.data_extract, Array.toList_extract, List.extract_eq_take_drop]
  rw [List.take_of_length_le (by simp), Int.toNat_natCast]
end Go.Proofs.Ytchjljmcgjlkiaa
