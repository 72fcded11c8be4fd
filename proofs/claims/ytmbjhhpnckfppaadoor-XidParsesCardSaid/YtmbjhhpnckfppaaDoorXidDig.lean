/-
Small numbers as digits: the document's own digits; strconv.Itoa; a name and its number, by the landed code.
-/
import Derived.Test.YtmbjhhpnckfppaaDoorVars
import Derived.Test.YtmbjhhpnckfppaaDoorAtoi
import Derived.Test.YtmbjhhpnckfppaaDoorText
import Derived.Deep.DeepCutAuto
namespace Go.Proofs.YtmbjhhpnckfppaaDoor
open Go.RowKit Go.Sort
set_option maxRecDepth 20000
/-- a digit's letter -/
def digL (k : Int) : UInt8 := UInt8.ofNat (48 + k.toNat)
/-- the digits of a number below a thousand -/
theorem itoa_one (n : Int) (h : 0 ≤ n ∧ n < 10) : Lib.itoa n = [digL (n % 10)] := by
  unfold Lib.itoa digL
  rw [if_neg (by omega), Lib.decDigits, dif_pos (by omega), show (n % 10).toNat = n.toNat by omega]
theorem itoa_two (n : Int) (h : 10 ≤ n ∧ n < 100) : Lib.itoa n = [digL (n / 10 % 10), digL (n % 10)] := by
  unfold Lib.itoa digL
  rw [if_neg (by omega), Lib.decDigits, dif_neg (by omega), Lib.decDigits, dif_pos (by omega), show (n / 10 % 10).toNat = n.toNat / 10 by omega, show (n % 10).toNat = n.toNat % 10 by omega]
  rfl
theorem itoa_three (n : Int) (h : 100 ≤ n ∧ n < 1000) : Lib.itoa n = [digL (n / 100), digL (n / 10 % 10), digL (n % 10)] := by
  unfold Lib.itoa digL
  rw [if_neg (by omega), Lib.decDigits, dif_neg (by omega), Lib.decDigits, dif_neg (by omega), Lib.decDigits, dif_pos (by omega), show (n / 100).toNat = n.toNat / 10 / 10 by omega, show (n / 10 % 10).toNat = n.toNat / 10 % 10 by omega, show (n % 10).toNat = n.toNat % 10 by omega]
  rfl
/-- one digit out of ten -/
theorem dig_at (k : Int) (h : 0 ≤ k ∧ k < 10) (W : World) : (Instr.slice 9 (.string ⟨#[48, 49, 50, 51, 52, 53, 54, 55, 56, 57]⟩) (some (.int .i64 k)) (some (.int .i64 (k + 1))) none).run Tryd.prog W = .ok (.string ⟨#[digL k]⟩) W := by
  have e := run_slice_string (P := Tryd.prog) W 9 ⟨#[48, 49, 50, 51, 52, 53, 54, 55, 56, 57]⟩ .i64 .i64 k (k + 1) Tryd.underlying9 (by omega) (by omega) (by show _ ≤ (10 : Int); omega)
  rw [e]
  obtain rfl | rfl | rfl | rfl | rfl | rfl | rfl | rfl | rfl | rfl : k = 0 ∨ k = 1 ∨ k = 2 ∨ k = 3 ∨ k = 4 ∨ k = 5 ∨ k = 6 ∨ k = 7 ∨ k = 8 ∨ k = 9 := by omega
  all_goals rfl
set_option maxHeartbeats 1000000 in
theorem digits_any (n : Int) (w : World) (h : 0 ≤ n ∧ n ≤ 999) : Calls Tryd.prog 16 #[.int .i64 n] w fun e w' => e = .returned (.string ⟨(Lib.itoa n).toArray⟩) ∧ w' = w := by
  obtain ⟨h0, h9⟩ := h
  have s1 := dig_at (n % 10) (by omega)
  have s2 := dig_at (n / 10 % 10) (by omega)
  by_cases h10 : n < 10
  · rw [itoa_one n (by omega)]
    generalize digL (n % 10) = A at *
    have d1 : decide (10 ≤ n) = false := decide_eq_false (by omega)
    have d2 : decide (100 ≤ n) = false := decide_eq_false (by omega)
    go_enter Tryd.func16, Tryd.ntmps16
    go_wp2_with fail
    go_ret
    exact ⟨rfl, rfl⟩
  · by_cases h100 : n < 100
    · rw [itoa_two n (by omega)]
      generalize digL (n % 10) = A at *
      generalize digL (n / 10 % 10) = B at *
      have d1 : decide (10 ≤ n) = true := decide_eq_true (by omega)
      have d2 : decide (100 ≤ n) = false := decide_eq_false (by omega)
      go_enter Tryd.func16, Tryd.ntmps16
      go_wp2_with fail
      go_ret
      exact ⟨rfl, rfl⟩
    · have s3 := dig_at (n / 100) (by omega)
      rw [itoa_three n (by omega)]
      generalize digL (n % 10) = A at *
      generalize digL (n / 10 % 10) = B at *
      generalize digL (n / 100) = C at *
      have d1 : decide (10 ≤ n) = true := decide_eq_true (by omega)
      have d2 : decide (100 ≤ n) = true := decide_eq_true (by omega)
      go_enter Tryd.func16, Tryd.ntmps16
      go_wp2_with fail
      go_ret
      exact ⟨rfl, rfl⟩
theorem itoa_any (n : Int) (w : World) (hV : VarsOk w) (h : 0 ≤ n ∧ n ≤ 999) : Calls Tryd.prog 21 #[.int .i64 n] w fun e w' => e = .returned (.string ⟨(Lib.itoa n).toArray⟩) ∧ Below w.heap.size w w' :=
  (Tryd.strconv_Itoa n (by omega) (by omega) w hV.pow).mono fun e w' ⟨he, k, os, hw⟩ => ⟨he, by rw [hw]; exact below_grow' w k os⟩
theorem itoa_len (n : Int) (h : 0 ≤ n ∧ n ≤ 999) : (Lib.itoa n).length ≤ 3 := by
  by_cases h10 : n < 10
  · rw [itoa_one n (by omega)]; simp
  · by_cases h100 : n < 100
    · rw [itoa_two n (by omega)]; simp
    · rw [itoa_three n (by omega)]; simp
/-- a name and its number -/
def wordT (nm : List UInt8) (n : Int) : List UInt8 := nm ++ 61 :: Lib.itoa n
theorem word_any (nm : ByteArray) (n : Int) (w : World) (hV : VarsOk w) (h : 0 ≤ n ∧ n ≤ 999) (hm : nm.size ≤ 10) : Calls Tryd.prog 13 #[.string nm, .int .i64 n] w fun e w' => e = .returned (.string ⟨(wordT nm.data.toList n).toArray⟩) ∧ Below w.heap.size w w' := by
  have HI := Lib.hid (itoa_any n w hV h)
  have hl := itoa_len n h
  have HT := Lib.hid (show nm ++ ⟨#[61]⟩ ++ ⟨(Lib.itoa n).toArray⟩ = ⟨(wordT nm.data.toList n).toArray⟩ from bytes_ext' (by simp [ByteArray.data_append, wordT]))
  have hsz : (⟨(Lib.itoa n).toArray⟩ : ByteArray).size ≤ 3 := by show (List.toArray _).size ≤ 3; simpa using hl
  generalize (⟨(Lib.itoa n).toArray⟩ : ByteArray) = G at *
  generalize (⟨(wordT nm.data.toList n).toArray⟩ : ByteArray) = T at *
  have ha1 := fun (W : World) => run_string_add_sum (P := Tryd.prog) (w := W) nm ⟨#[61]⟩ (by show nm.size + 1 ≤ _; omega)
  have ha2 := fun (W : World) => run_string_add_sum (P := Tryd.prog) (w := W) (nm ++ ⟨#[61]⟩) G (by rw [ByteArray.size_append]; show nm.size + 1 + _ ≤ _; omega)
  rw [HT.out] at ha2
  clear hV hl hsz hm
  go_enter Tryd.func13, Tryd.ntmps13
  go_wp2_with fail
  go_at_call 21
  refine HI.out.mono ?_
  rintro e w1 ⟨rfl, hb⟩
  have HB := Lib.hid hb
  clear hb
  go_wp2_with fail
  go_ret
  exact ⟨rfl, HB.out⟩
end Go.Proofs.YtmbjhhpnckfppaaDoor
