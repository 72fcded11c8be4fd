/-
The landed code's sum of one byte, of two; HasPrefix; open of bytes that begin as they are to, and are as many as they tell.
-/
import Derived.Test.YtmbjhhpnckfppaaXidPut
import Derived.Deep.DeepCutAuto
namespace Go.Proofs.Ytmbjhhpnckfppaa
open Go.RowKit
set_option maxRecDepth 20000
theorem i64_join (x y : Nat) (hx : x < 256) (hy : y < 256) : bits BinOp.or .i64 ((x : Int) * 256) (y : Int) = (x : Int) * 256 + y :=
  bits_join .i64 62 (by decide) (fun n h0 h1 => IntWalk.i64_in n (by omega)) 8 _ _ (by omega) (by omega) (by omega) (by omega) (by omega) (by omega)
theorem i64_zero (y : Nat) (hy : y < 256) : bits BinOp.or .i64 0 (y : Int) = y := by
  have h := bits_join .i64 62 (by decide) (fun n h0 h1 => IntWalk.i64_in n (by omega)) 8 0 (y : Int) (by omega) (by omega) (by omega) (by omega) (by omega) (by omega)
  rw [h]
  omega
theorem sum_two (s : ByteArray) (w : World) (h : s.size = 2) : Calls Try.prog 22 #[.string s] w fun e w' => e = .returned (.int .i64 (((s[0].toNat : Nat) : Int) * 256 + ((s[1].toNat : Nat) : Int))) ∧ w' = w := by
  have x0 := s[0].toNat_lt
  have x1 := s[1].toNat_lt
  have e0 := i64_zero _ x0
  have e1 := i64_join _ _ x0 x1
  go_enter Try.func22, Try.ntmps22
  go_wp2
  refine wp_loop_rounds 3 ?_
  rw [rounds_succ]
  go_wp2
  rw [rounds_succ]
  go_wp2
  rw [rounds_succ]
  go_wp2
  go_ret
  exact ⟨rfl, rfl⟩
theorem sum_one (s : ByteArray) (w : World) (h : s.size = 1) : Calls Try.prog 22 #[.string s] w fun e w' => e = .returned (.int .i64 ((s[0].toNat : Nat) : Int)) ∧ w' = w := by
  have x0 := s[0].toNat_lt
  have e0 := i64_zero _ x0
  go_enter Try.func22, Try.ntmps22
  go_wp2
  refine wp_loop_rounds 2 ?_
  rw [rounds_succ]
  go_wp2
  rw [rounds_succ]
  go_wp2
  go_ret
  exact ⟨rfl, rfl⟩
theorem prefix_yes (s : ByteArray) (w : World) (h : 4 ≤ s.size) (hm : s.size ≤ 1000000) (he : s.extract 0 2 = ⟨#[130, 128]⟩) : Calls Try.prog 25 #[.string s, .string ⟨#[130, 128]⟩] w fun e w' => e = .returned (.bool true) ∧ w' = w := by
  go_enter Try.func25, Try.ntmps25
  go_wp2
  go_ret
  exact ⟨rfl, rfl⟩
theorem prefix_out (s : ByteArray) (w : World) (h : 4 ≤ s.size) (hm : s.size ≤ 1000000) (he : s.extract 0 2 = ⟨#[130, 128]⟩) : Calls Try.prog 21 #[.string s, .string ⟨#[130, 128]⟩] w fun e w' => e = .returned (.bool true) ∧ w' = w := by
  have HP := Lib.hid (fun W => prefix_yes s W h hm he)
  clear he h hm
  go_enter Try.func21, Try.ntmps21
  go_wp2_with fail
  go_at_call 25
  refine (HP.out _).mono ?_
  rintro e w1 ⟨rfl, rfl⟩
  go_wp2_with fail
  go_ret
  exact ⟨rfl, rfl⟩
theorem open_ok (s B N : ByteArray) (w : World) (h : s.size = 4 + B.size) (hm : s.size ≤ 1000000) (he : s.extract 0 2 = ⟨#[130, 128]⟩) (hb : s.extract 4 s.size = B) (hn : s.extract 2 4 = N) (hns : N.size = 2) (hv : ((N[0].toNat : Nat) : Int) * 256 + ((N[1].toNat : Nat) : Int) = B.size) :
    Calls Try.prog 19 #[.string s] w fun e w' => e = .returned (.tuple #[.string B, .int .i64 0]) ∧ Below w.heap.size w w' := by
  have HP := Lib.hid (fun W => prefix_out s W (by omega) hm he)
  have hS := fun W => sum_two N W hns
  rw [hv] at hS
  have HS := Lib.hid hS
  clear hS hv he
  have d4 : decide ((4 : Int) + (B.size : Int) < 4) = false := decide_eq_false (by omega)
  have db : decide ((B.size : Int) < (B.size : Int)) = false := decide_eq_false (by omega)
  go_enter Try.func19, Try.ntmps19
  go_wp2_with fail
  go_at_call 21
  refine (HP.out _).mono ?_
  rintro e w1 ⟨rfl, rfl⟩
  go_wp2_with fail
  have hb' : s.extract 4 (4 + B.size) = B := by rw [← h]; exact hb
  go_quiet ((go_at_call 22; with_reducible exact Calls.quiet_of_same (HS.out _)))
  have HBW := Lib.hid (below_drewX (Below.refl w1.heap.size w1) nq)
  generalize w1.drewN nq = w2 at *
  clear d4
  go_wp2_with fail
  go_ret2
  exact ⟨rfl, HBW.out⟩
end Go.Proofs.Ytmbjhhpnckfppaa
