/-
Walk of Sum: texts, one behind the other.
-/
import Derived.Test.YtgahmaaoieofhaaFcsNew
namespace Go.Proofs.Ytgahmaaoieofhaa
open Go.RowKit
/-- all bytes of texts, one behind the other -/
def flat (ss : List ByteArray) : List UInt8 := ss.flatMap fun s => s.data.toList
theorem step_x (x : Int) (r b : Nat) (w : World) (hx : x = (r : Nat)) (hr : r < 65536) (ht : IsTab w b) :
    Calls Try.prog 22 #[.pointer (some ⟨b, 0, none⟩), .int .u16 x] w fun e w' => e = .returned (.int .u16 (s8 r : Nat)) ∧ w = w' := by
  rw [hx]; exact step_any r b w hr ht
theorem xor16 (a b : Nat) (ha : a < 65536) (hb : b < 65536) : bits .xor .u16 (a : Int) (b : Int) = ((a ^^^ b : Nat) : Int) := u16_xor_nat a b ha hb
theorem xor16w (a b : Nat) (ha : a < 65536) (hb : b < 65536) : bits .xor .u16 (a : Int) (IntKind.u16.wrap (b : Int)) = ((a ^^^ b : Nat) : Int) := by
  rw [IntKind.wrap_u16, show ((b : Int) % 65536) = (b : Int) from by omega]; exact u16_xor_nat a b ha hb
theorem compl16 (r : Nat) (hr : r < 65536) : bits .xor .u16 IntKind.u16.max (r : Int) = ((65535 ^^^ r : Nat) : Int) := u16_xor_nat 65535 r (by omega) hr
theorem crc_snoc (r : Nat) (l : List UInt8) (c : UInt8) : crc r (l ++ [c]) = s8 (crc r l ^^^ c.toNat) := by rw [crc_append]; rfl
theorem take_snoc (s : ByteArray) (k : Nat) (h : k < s.size) : s.data.toList.take (k + 1) = s.data.toList.take k ++ [s[k]] := by
  rw [List.take_succ_eq_append_getElem (by simpa using h)]; rfl
theorem crc_take (r : Nat) (s : ByteArray) (k : Nat) (h : k < s.size) : crc r (s.data.toList.take (k + 1)) = s8 (crc r (s.data.toList.take k) ^^^ s[k].toNat) := by
  rw [take_snoc s k h, crc_snoc]
theorem flat_take (ss : List ByteArray) (k : Nat) (h : k < ss.length) : flat (ss.take (k + 1)) = flat (ss.take k) ++ (ss.getD k ByteArray.empty).data.toList := by
  have e : ss.getD k ByteArray.empty = ss[k] := by rw [List.getD_eq_getElem?_getD, List.getElem?_eq_getElem h]; rfl
  rw [List.take_succ_eq_append_getElem h, flat, List.flatMap_append, e]
  simp [flat]
set_option maxHeartbeats 400000 in
theorem sum_none (a : Value) (w : World) :
    Calls Try.prog 14 #[.pointer none, a] w fun e w' => e = .returned (.int .u16 0) ∧ w = w' := by
  go_enter Try.func14, Try.ntmps14
  go_wp2
  go_ret
  exact ⟨rfl, rfl⟩
set_option maxHeartbeats 400000 in
theorem sum_nil (b cap : Nat) (a : Option Addr) (w : World) :
    Calls Try.prog 14 #[.pointer (some ⟨b, 0, none⟩), .slice a 0 cap] w fun e w' => e = .returned (.int .u16 (0 : Nat)) ∧ w = w' := by
  go_enter Try.func14, Try.ntmps14
  go_wp2
  refine wp_loop_rounds 1 ?_
  rw [rounds_succ]
  go_wp2
  go_ret
  exact ⟨ret_u16 (compl16 65535 (by omega)), rfl⟩
set_option maxHeartbeats 400000 in
theorem sum_some (b lb off cap : Nat) (ss : List ByteArray) (w : World) (ht : IsTab w b) (hl : ss.length ≤ 9223372036854775807)
    (hm : ∀ s ∈ ss, s.size ≤ 9223372036854775807)
    (hc : ∀ j, j < ss.length → w.cell? ⟨lb, off + j, none⟩ = some (.string (ss.getD j ByteArray.empty))) :
    Calls Try.prog 14 #[.pointer (some ⟨b, 0, none⟩), .slice (some ⟨lb, off, none⟩) ss.length cap] w fun e w' => e = .returned (.int .u16 (65535 ^^^ crc 65535 (flat ss) : Nat)) ∧ w = w' := by
  go_enter Try.func14, Try.ntmps14
  go_wp2
  go_loop [5, 13] (fun r i => ∃ k : Nat, k ≤ ss.length ∧ i = .int .i64 k ∧ r = .int .u16 (crc 65535 (flat (ss.take k)) : Nat)) (fun _ i => ss.length - (intOf i).toNat)
  case atStart => exact ⟨0, Nat.zero_le _, rfl, rfl⟩
  case round =>
    obtain ⟨k, hk, rfl, rfl⟩ := hrel
    have hb := crc_lt (flat (ss.take k)) 65535 (by omega)
    obtain ⟨s, hs⟩ : ∃ s, s = ss.getD k ByteArray.empty := ⟨_, rfl⟩
    by_cases hlt : k < ss.length
    · have hcx : w.cell? ⟨lb, off + k, none⟩ = some (.string s) := by rw [hs]; exact hc k hlt
      have hsm : s.size ≤ 9223372036854775807 := by
        apply hm; rw [hs, List.getD_eq_getElem?_getD, List.getElem?_eq_getElem hlt]; exact List.getElem_mem hlt
      have HS : Hid (s = ss.getD k ByteArray.empty) := hs
      clear hs hc hm
      obtain ⟨R, hR⟩ : ∃ R, R = crc 65535 (flat (ss.take k)) := ⟨_, rfl⟩
      have HR : Hid (R = crc 65535 (flat (ss.take k))) := hR
      rw [← hR] at hb ⊢
      clear hR
      go_wp2
      go_loop [5, 19] (fun r i => ∃ j : Nat, j ≤ s.size ∧ i = .int .i64 j ∧ r = .int .u16 (crc R (s.data.toList.take j) : Nat)) (fun _ i => s.size - (intOf i).toNat)
      case atStart => exact ⟨0, Nat.zero_le _, rfl, rfl⟩
      case round =>
        obtain ⟨j, hj, rfl, rfl⟩ := hrel
        have hb2 := crc_lt (s.data.toList.take j) R hb
        by_cases hjl : j < s.size
        · have hx := xor16w (crc R (s.data.toList.take j)) s[j].toNat hb2 (by have := blt s[j]; omega)
          have HX : Hid (bits .xor .u16 (crc R (s.data.toList.take j) : Int) (IntKind.u16.wrap (s[j].toNat : Int)) = ((crc R (s.data.toList.take j) ^^^ s[j].toNat : Nat) : Int)) := hx
          have hxl : crc R (s.data.toList.take j) ^^^ s[j].toNat < 65536 := xlt hb2 (by have := blt s[j]; omega)
          have HT := crc_take R s j hjl
          have HT' : Hid (crc R (s.data.toList.take (j + 1)) = s8 (crc R (s.data.toList.take j) ^^^ s[j].toNat)) := HT
          clear hx HT
          go_wp2_with (go_at_call 22; (with_reducible refine (step_x _ _ _ _ HX.out hxl ht).mono ?_); rintro e w' ⟨rfl, rfl⟩)
          go_round
          case rel => exact ⟨j + 1, by omega, by go_num, by rw [HT'.out]⟩
          case measure => simp [intOf]; omega
        · obtain rfl : j = s.size := by omega
          go_wp2
          go_round
          case rel => exact ⟨k + 1, by omega, by go_num, by rw [flat_take ss k hlt, crc_append, ← HS.out, ← HR.out, List.take_of_length_le (by simp)]⟩
          case measure => simp [intOf]; omega
    · obtain rfl : k = ss.length := by omega
      go_wp2
      go_ret
      exact ⟨ret_u16 (compl16 _ (crc_lt _ _ (by omega))), rfl⟩
end Go.Proofs.Ytgahmaaoieofhaa
