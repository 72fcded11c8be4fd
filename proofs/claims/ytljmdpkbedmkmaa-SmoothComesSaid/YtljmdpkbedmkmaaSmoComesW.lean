/-
The walk of SmoothComes.
-/
import Derived.Test.YtljmdpkbedmkmaaSmoAt
namespace Go.Proofs.Ytljmdpkbedmkmaa
open Go.RowKit
set_option maxRecDepth 20000
set_option maxHeartbeats 1000000 in
theorem smcomes_any (n : Int) (t m : Nat) (ht : t < 256) (hm : m < 256) (w : World) : Calls Try.prog 4 #[.int .i64 n, .int .u8 (t : Int), .int .u8 (m : Int)] w fun e w' => e = .returned (.bool true) ∧ Below w.heap.size w w' := by
  have HAW := Lib.hid (fun W => smawake_any W)
  have HN := Lib.hid (fun W h => sm_new n w W h)
  obtain ⟨wt, hwt⟩ : ∃ wt, min (max (2 * (t : Int)) 4) 255 = wt := ⟨_, rfl⟩
  have HNR := Lib.hid (fun k hk => near n (t : Int) (by omega) k hk)
  rw [hwt] at HNR
  have hwb : 0 ≤ wt ∧ wt ≤ 255 := by omega
  have z1 : IntKind.i64.wrap (60 + (m : Int)) = 60 + (m : Int) := i64_near _ (by omega) (by omega)
  have z2 : IntKind.i64.wrap (2 * (t : Int)) = 2 * (t : Int) := i64_near _ (by omega) (by omega)
  have z3 : IntKind.i64.wrap (wt + 3) = wt + 3 := i64_near _ (by omega) (by omega)
  have z4 : IntKind.i64.wrap (wt - 3) = wt - 3 := i64_near _ (by omega) (by omega)
  have z5 : IntKind.i64.wrap (t : Int) = (t : Int) := i64_near _ (by omega) (by omega)
  have z6 : IntKind.i64.wrap (m : Int) = (m : Int) := i64_near _ (by omega) (by omega)
  have HM := Lib.hid hm
  rw [IntWalk.i64_left] at z1 z2 z3 z4 z5 z6
  generalize Sm.new n = s0 at *
  clear hwb
  go_enter Try.func4, Try.ntmps4
  go_wp2_with (first
    | (go_at_call 7; (with_reducible refine (HAW.out _).mono ?_); rintro e w1 ⟨rfl, hb⟩; have HB := Lib.hid hb; clear hb)
    | (go_at_call 8; (with_reducible refine (HN.out _ HB.out).mono ?_); rintro e w2 ⟨p, rfl, hs, -, -⟩; have HS := Lib.hid hs; clear hs))
  go_loopw [8] (fun i wx => ∃ k : Nat, k ≤ 60 + m ∧ i = .int .i64 k ∧ Hid (SmAt w p (rep (t : Int) s0 k) wx)) (fun i _ => 60 + m - (intOf i).toNat)
  case atStart => exact ⟨0, by omega, rfl, HS⟩
  case round =>
    obtain ⟨k, hk, rfl, HK⟩ := hrel
    clear HS
    have HT := Lib.hid (HK.out.took (t : Int))
    rw [show Sm.took (rep (t : Int) s0 k) (t : Int) = rep (t : Int) s0 (k + 1) from rfl] at HT
    by_cases hlt : k < 60 + m
    · have dlt : decide ((k : Int) < 60 + (m : Int)) = true := decide_eq_true (by omega)
      by_cases h60 : 60 ≤ k
      · have d60 : decide (60 ≤ (k : Int)) = true := decide_eq_true (by omega)
        have hn := HNR.out k h60
        generalize hv : (rep (t : Int) s0 (k + 1)).t1 = v at *
        have da : decide (wt + 3 < v) = false := decide_eq_false (by omega)
        have db : decide (v < wt - 3) = false := decide_eq_false (by omega)
        clear hn h60
        go_wp2_with (go_at_call 14; (with_reducible refine HT.out.mono ?_); rintro e w3 ⟨rfl, hs, -⟩; have HS := Lib.hid hs; clear hs)
        go_roundw
        case rel => exact ⟨k + 1, by omega, by go_num, HS⟩
        case measure => simp [intOf]; omega
      · have d60 : decide (60 ≤ (k : Int)) = false := decide_eq_false (by omega)
        clear h60
        generalize hv : (rep (t : Int) s0 (k + 1)).t1 = v at *
        go_wp2_with (go_at_call 14; (with_reducible refine HT.out.mono ?_); rintro e w3 ⟨rfl, hs, -⟩; have HS := Lib.hid hs; clear hs)
        go_roundw
        case rel => exact ⟨k + 1, by omega, by go_num, HS⟩
        case measure => simp [intOf]; omega
    · have dlt : decide ((k : Int) < 60 + (m : Int)) = false := decide_eq_false (by omega)
      go_wp2_with fail
      exact bodyPost_ret (v := .bool true) (by simp [results, Try.results4, go_sem]) rfl ⟨rfl, HK.out.bel⟩
end Go.Proofs.Ytljmdpkbedmkmaa
