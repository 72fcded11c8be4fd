/-
The landed code's find: the kind whose control begins with a byte.
-/
import Derived.Test.YtfmcngchcalcmaaDoorCtlCRight
import Derived.BigQuiet
import Derived.Deep.QuietTactic
namespace Go.Proofs.YtfmcngchcalcmaaDoor
open Go.RowKit
def findG (b : Int) (w : Bool) : Nat → Nat → Nat
  | 0, _ => 0
  | f + 1, k => if bits BinOp.and .u8 b (maskD k w) == codeD k then k else findG b w f (k + 1)
def findD (b : Int) (w : Bool) : Nat := findG b w 14 1
theorem findG_hit (b : Int) (w : Bool) (k : Nat) (h : k ≤ 14) (e : (bits BinOp.and .u8 b (maskD k w) == codeD k) = true) : findG b w (15 - k) k = k := by
  obtain ⟨f, hf⟩ : ∃ f, 15 - k = f + 1 := ⟨14 - k, by omega⟩
  rw [hf, findG, if_pos e]
theorem findG_miss (b : Int) (w : Bool) (k : Nat) (h : k ≤ 14) (e : (bits BinOp.and .u8 b (maskD k w) == codeD k) = false) : findG b w (15 - k) k = findG b w (15 - (k + 1)) (k + 1) := by
  obtain ⟨f, hf⟩ : ∃ f, 15 - k = f + 1 := ⟨14 - k, by omega⟩
  rw [hf, findG, if_neg (by simp [e]), show 15 - (k + 1) = f from by omega]
set_option maxHeartbeats 1000000 in
theorem find_any (b : Int) (wide : Bool) (w : World) (hC : CodesOk w) : Calls Tryd.prog 73 #[.int .u8 b, .bool wide] w fun e w' => e = .returned (.int .i64 (findD b wide : Nat)) ∧ ∃ n, w' = w.drewN n := by
  have HM := Lib.hid (fun (k : Nat) W => mask_any k wide W)
  have HC := Lib.hid hC
  have HH := Lib.hid (findG_hit b wide)
  have HF := Lib.hid (findG_miss b wide)
  have h0 : findD b wide = findG b wide (15 - 1) 1 := rfl
  generalize findD b wide = R at *
  have HR := Lib.hid h0
  clear hC h0
  go_enter Tryd.func73, Tryd.ntmps73
  go_wp2
  go_loopw [5] (fun i wx => ∃ k : Nat, 1 ≤ k ∧ k ≤ 15 ∧ i = .int .i64 k ∧ Hid (R = findG b wide (15 - k) k) ∧ ∃ n, wx = w.drewN n) (fun i _ => 15 - (intOf i).toNat)
  case atStart => exact ⟨1, by omega, by omega, rfl, HR, 0, rfl⟩
  case round =>
    obtain ⟨k, hk1, hk, rfl, HQ, n, hwx⟩ := hrel
    clear HR
    by_cases hlt : k < 15
    · have dk : decide ((k : Int) ≤ 14) = true := decide_eq_true (by omega)
      have hcc : wr.cell? ⟨0, k, none⟩ = some (.int .u8 (codeD k)) := by rw [hwx]; exact HC.out.at_ k hlt
      have HW := Lib.hid hwx
      have HMK := Lib.hid (fun W => HM.out k W)
      have hh := HH.out k (by omega)
      have hf := HF.out k (by omega)
      generalize maskD k wide = M at *
      generalize codeD k = C at *
      have hi : (k : Int) < 15 := by omega
      clear hwx HM HH HF HC
      cases hb : (bits BinOp.and .u8 b M == C)
      · have HN := Lib.hid (hf hb)
        clear hh hf
        go_wp2
        go_quiet ((go_at_call 85; exact Calls.quiet_of_same (HMK.out _)))
        go_wp2
        go_roundw
        case rel => exact ⟨k + 1, by omega, by omega, by go_num, Lib.hid (HQ.out.trans HN.out), n + nq, by rw [HW.out]; simp⟩
        case measure => simp [intOf]; omega
      · have HN := Lib.hid (hh hb)
        clear hh hf
        go_wp2
        go_quiet ((go_at_call 85; exact Calls.quiet_of_same (HMK.out _)))
        go_wp2
        go_ret
        exact ⟨by rw [HQ.out, HN.out]; rfl, n + nq, by rw [HW.out]; simp⟩
    · obtain rfl : k = 15 := by omega
      have dk : decide ((15 : Int) ≤ 14) = false := by decide
      go_wp2
      go_ret
      exact ⟨by rw [HQ.out]; rfl, n, rfl⟩
end Go.Proofs.YtfmcngchcalcmaaDoor
