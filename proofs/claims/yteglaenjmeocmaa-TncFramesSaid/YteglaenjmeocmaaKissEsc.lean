/-
Plain: a frame's bytes.
-/
import Derived.Test.YteglaenjmeocmaaOwnBytes
namespace Go.Proofs.Yteglaenjmeocmaa
open Go.RowKit
/-- a byte, as it stands between two ends -/
def esc (c : UInt8) : List UInt8 := if c = 192 then [219, 220] else if c = 219 then [219, 221] else [c]
theorem esc_len (c : UInt8) : 1 ≤ (esc c).length ∧ (esc c).length ≤ 2 := by unfold esc; split <;> (try split) <;> simp
/-- what stands behind the first end, of the first k bytes -/
def escs (T : List UInt8) : List UInt8 := T.flatMap esc
theorem escs_len (T : List UInt8) : (escs T).length ≤ 2 * T.length := by
  induction T with
  | nil => simp [escs]
  | cons c T ih => have := (esc_len c).2; simp only [escs, List.flatMap_cons, List.length_append, List.length_cons] at *; omega
theorem escs_snoc (s : ByteArray) (k : Nat) (h : k < s.size) : escs (s.data.toList.take (k + 1)) = escs (s.data.toList.take k) ++ esc s[k] := by
  have e : s.data.toList.take (k + 1) = s.data.toList.take k ++ [s[k]] := by
    rw [List.take_succ_eq_append_getElem (by simpa using h)]; rfl
  rw [e, escs, List.flatMap_append]; simp [escs]
theorem convert_one (x : Int) (b : UInt8) (hx : x = ((b.toNat : Nat) : Int)) (W : World) (g : Nat) (h0 : W.cell? ⟨g, 0, none⟩ = some (.int .u8 x)) :
    (convert 58 9 (.slice (some ⟨g, 0, none⟩) 1 1)).run Try.prog W = .ok (.string ⟨#[b]⟩) W := by
  rw [run_convert_bytes_arg W 58 5 Try.underlying58 Try.underlying5 g 0 1 1 [x] rfl (fun i hi => by
    obtain rfl : i = 0 := by omega
    exact h0) 9 Try.underlying9]
  congr 2
  unfold strOfNums
  rw [hx]
  simp
/-- the text between the ends -/
def inner (P C : Nat) (s : ByteArray) : ByteArray := ⟨#[UInt8.ofNat (16 * P + C)]⟩ ++ s
theorem inner_list (P C : Nat) (s : ByteArray) : (inner P C s).data.toList = UInt8.ofNat (16 * P + C) :: s.data.toList := by
  simp [inner]
theorem inner_size (P C : Nat) (s : ByteArray) : (inner P C s).size = s.size + 1 := by
  rw [← ByteArray.size_data, ← Array.length_toList, inner_list]; simp
/-- a frame's bytes -/
def frameBytes (P C : Nat) (s : ByteArray) : List UInt8 := 192 :: escs (inner P C s).data.toList ++ [192]
theorem esc_192 : esc 192 = [219, 220] := rfl
theorem esc_219 : esc 219 = [219, 221] := rfl
theorem esc_other {c : UInt8} (h1 : c ≠ 192) (h2 : c ≠ 219) : esc c = [c] := by unfold esc; rw [if_neg h1, if_neg h2]
theorem toNat_ne {c : UInt8} {n : Nat} (h : c ≠ UInt8.ofNat n) (hn : n < 256) : c.toNat ≠ n := fun e => h (UInt8.toNat_inj.1 (by rw [e, UInt8.toNat_ofNat', Nat.mod_eq_of_lt (by omega)]))
end Go.Proofs.Yteglaenjmeocmaa
