/-
The document's own Text of numbers; the document's example.
-/
import Derived.Test.YtplandmnmdkjmaaDoorCtlCPut
import Derived.Test.YtplandmnmdkjmaaDoorCtlRefPut
namespace Go.Proofs.YtplandmnmdkjmaaDoor
open Go.RowKit
set_option maxRecDepth 20000
theorem take_next (L : List Nat) (k : Nat) (h : k < L.length) (b : ByteArray) (hb : b.data.toList = (L.take k).map UInt8.ofNat) : (b ++ (⟨#[UInt8.ofNat L[k]]⟩ : ByteArray)).data.toList = (L.take (k + 1)).map UInt8.ofNat := by
  rw [List.take_succ_eq_append_getElem h, List.map_append, ← hb]
  simp
set_option maxHeartbeats 1000000 in
theorem text6_any (g c : Nat) (L : List Nat) (w : World) (hL : ∀ x ∈ L, x < 256) (hl : L.length ≤ 1000) (hI : IntsAt w g L) :
    Calls Tryd.prog 36 #[.slice (some ⟨g, 0, none⟩) L.length c] w fun e w' => e = .returned (.string ⟨(L.map UInt8.ofNat).toArray⟩) ∧ Below w.heap.size w w' := by
  have HI := Lib.hid hI
  have HL := Lib.hid (show ∀ k (h : k < L.length), L[k] < 256 from fun k h => hL _ (List.getElem_mem h))
  have HN := Lib.hid (take_next L)
  have HE := Lib.hid (show ∀ b : ByteArray, b.data.toList = (L.take L.length).map UInt8.ofNat → b = ⟨(L.map UInt8.ofNat).toArray⟩ from fun b hb => by
    apply bytes_ext'
    rw [hb, List.take_length])
  have H0 := Lib.hid (show (⟨#[]⟩ : ByteArray).data.toList = (L.take 0).map UInt8.ofNat from rfl)
  generalize (⟨(L.map UInt8.ofNat).toArray⟩ : ByteArray) = R at *
  clear hL hI
  go_enter Tryd.func36, Tryd.ntmps36
  go_wp2
  go_loopw [3, 4] (fun s i wx => ∃ k : Nat, k ≤ L.length ∧ i = .int .i64 k ∧ ∃ b : ByteArray, s = .string b ∧ Hid (b.data.toList = (L.take k).map UInt8.ofNat) ∧ Hid (Below w.heap.size w wx)) (fun _ i _ => L.length - (intOf i).toNat)
  case atStart => exact ⟨0, by omega, rfl, _, rfl, H0, Lib.hid (Below.refl _ w)⟩
  case round =>
    obtain ⟨k, hk, rfl, b, rfl, HQ, HB⟩ := hrel
    clear H0
    by_cases hlt : k < L.length
    · have dk : decide ((k : Int) < (L.length : Int)) = true := decide_eq_true (by omega)
      have hb := HL.out k hlt
      have hc := (HI.out.below HB.out).2 k hlt
      have HM := Lib.hid (HN.out k hlt b HQ.out)
      have hbs : b.size ≤ 1000 := by
        have e := congrArg List.length HQ.out
        rw [List.length_map, List.length_take] at e
        have : b.size = b.data.toList.length := rfl
        omega
      generalize L[k] = x at *
      have hcv := OwnB.conv1 wr wr.heap.size (x : Int) x rfl hb rfl
      go_wp2
      go_roundw
      case rel => exact ⟨k + 1, by omega, by go_num, _, rfl, HM, Lib.hid (HB.out.alloc HB.out.size _)⟩
      case measure => simp [intOf]; omega
    · obtain rfl : k = L.length := by omega
      have dk : decide ((L.length : Int) < (L.length : Int)) = false := decide_eq_false (by omega)
      have hR := HE.out b HQ.out
      go_wp2
      go_ret
      exact ⟨by rw [hR]; rfl, HB.out⟩
/-- the example's bytes -/
theorem ex_put (w : World) (hC : CodesOk w) : Calls Tryd.prog 30 #[.agg #[.int .i64 1, .int .i64 3, .int .i64 5, .bool true], .bool false] w fun e w' => e = .returned (.tuple #[.string ⟨#[122]⟩, .int .i64 0]) ∧ Below w.heap.size w w' := by
  have k := ctlput_any 1 3 5 true false w hC
  rw [show cputE 1 3 5 true false = .tuple #[.string ⟨#[122]⟩, .int .i64 0] from by
    unfold cputE
    rw [if_pos (by decide), show (putB (Int.toNat 1) (Int.toNat 3) (Int.toNat 5) true false) = [122] from by decide +kernel]] at k
  exact k
theorem ex_putw (w : World) (hC : CodesOk w) : Calls Tryd.prog 30 #[.agg #[.int .i64 1, .int .i64 3, .int .i64 5, .bool true], .bool true] w fun e w' => e = .returned (.tuple #[.string ⟨#[10, 7]⟩, .int .i64 0]) ∧ Below w.heap.size w w' := by
  have k := ctlput_any 1 3 5 true true w hC
  rw [show cputE 1 3 5 true true = .tuple #[.string ⟨#[10, 7]⟩, .int .i64 0] from by
    unfold cputE
    rw [if_pos (by decide), show (putB (Int.toNat 1) (Int.toNat 3) (Int.toNat 5) true true) = [10, 7] from by decide +kernel]] at k
  exact k
end Go.Proofs.YtplandmnmdkjmaaDoor
