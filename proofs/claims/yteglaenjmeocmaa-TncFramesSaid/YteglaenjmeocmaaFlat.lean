/-
Lists of texts: all their bytes.
-/
import Derived.Test.YteglaenjmeocmaaOwnBytes
namespace Go.Proofs.Yteglaenjmeocmaa
open Go.RowKit
/-- all bytes of texts, one behind the other -/
def flat (ss : List ByteArray) : List UInt8 := ss.flatMap fun s => s.data.toList
theorem flat_take (ss : List ByteArray) (k : Nat) (h : k < ss.length) : flat (ss.take (k + 1)) = flat (ss.take k) ++ (ss.getD k ByteArray.empty).data.toList := by
  have e : ss.getD k ByteArray.empty = ss[k] := by rw [List.getD_eq_getElem?_getD, List.getElem?_eq_getElem h]; rfl
  rw [List.take_succ_eq_append_getElem h, flat, List.flatMap_append, e]
  simp [flat]
def longB (ss : List ByteArray) : Bool := decide (60 < ss.length) || decide (3000 < (flat ss).length)
theorem flat_take_len (ss : List ByteArray) (k : Nat) (h : k < ss.length) : (flat (ss.take (k + 1))).length = (flat (ss.take k)).length + (ss.getD k ByteArray.empty).size := by
  rw [flat_take ss k h, List.length_append]; simp
theorem flat_take_le (ss : List ByteArray) (k : Nat) : (flat (ss.take k)).length ≤ (flat ss).length := by
  have h : flat ss = flat (ss.take k) ++ flat (ss.drop k) := by
    rw [flat, flat, flat, ← List.flatMap_append, List.take_append_drop]
  rw [h, List.length_append]; omega
theorem longB_yes1 (ss : List ByteArray) (h : 60 < ss.length) : longB ss = true := by simp [longB, h]
theorem longB_yes2 (ss : List ByteArray) (k : Nat) (h : 3000 < (flat (ss.take k)).length) : longB ss = true := by
  have := flat_take_le ss k
  simp [longB]; omega
theorem longB_no (ss : List ByteArray) (h : ¬ 60 < ss.length) (h2 : (flat ss).length ≤ 3000) : longB ss = false := by
  simp [longB]; omega
theorem val_string {a b : ByteArray} (h : a = b) : Value.string a = Value.string b := by rw [h]
end Go.Proofs.Yteglaenjmeocmaa
