/-
The landed code's Name, and the walk of the statement CtlKinds.
-/
import Derived.Test.YtfmcngchcalcmaaDoorCtlLawA
namespace Go.Proofs.YtfmcngchcalcmaaDoor
open Go.RowKit
set_option maxRecDepth 20000
def nameL : List (List UInt8) := [[], [73], [82, 82], [82, 78, 82], [82, 69, 74], [83, 82, 69, 74], [83, 65, 66, 77], [83, 65, 66, 77, 69], [68, 73, 83, 67], [68, 77], [85, 65], [70, 82, 77, 82], [85, 73], [88, 73, 68], [84, 69, 83, 84]]
def nameD (k : Nat) : List UInt8 := nameL.getD k []
/-- the table of the kinds' names -/
structure NamesOk (w : World) : Prop where
  at_ : ∀ k, k < 15 → w.cell? ⟨1, k, none⟩ = some (.string ⟨(nameD k).toArray⟩)
theorem NamesOk.below {w W : World} (h : NamesOk w) (hb : Below w.heap.size w W) : NamesOk W :=
  ⟨fun k hk => (hb.cell (p := ⟨1, k, none⟩) (World.block_lt_of_cell? w ⟨1, k, none⟩ (h.at_ k hk))).trans (h.at_ k hk)⟩
def nameC (k : Int) : List UInt8 := if kindD k then nameD k.toNat else []
theorem name_any (k : Int) (w : World) (hN : NamesOk w) : Calls Tryd.prog 43 #[.int .i64 k] w fun e w' => e = .returned (.string ⟨(nameC k).toArray⟩) ∧ w' = w := by
  have hK := fun W => isKind_any k W
  unfold nameC
  cases h : kindD k
  · rw [h] at hK
    have HK := Lib.hid hK
    clear hK
    go_enter Tryd.func43, Tryd.ntmps43
    go_wp2_with (go_at_call 70; (with_reducible refine (HK.out _).mono ?_); rintro e w1 ⟨rfl, rfl⟩)
    go_ret
    exact ⟨rfl, rfl⟩
  · rw [h] at hK
    have HK := Lib.hid hK
    simp only [kindD, Bool.and_eq_true, decide_eq_true_eq] at h
    obtain ⟨K, rfl⟩ : ∃ K : Nat, k = K := ⟨k.toNat, by omega⟩
    have hc := hN.at_ K (by omega)
    have hi : (K : Int) < 15 := by omega
    rw [if_pos rfl, Int.toNat_natCast]
    generalize (⟨(nameD K).toArray⟩ : ByteArray) = S at *
    clear hK
    go_enter Tryd.func43, Tryd.ntmps43
    go_wp2_with (go_at_call 70; (with_reducible refine (HK.out _).mono ?_); rintro e w1 ⟨rfl, rfl⟩)
    go_ret
    exact ⟨rfl, rfl⟩
theorem names_apart : ∀ k j : Fin 15, 1 ≤ k.1 → k.1 ≠ j.1 → nameD k.1 ≠ nameD j.1 := by decide +kernel
theorem nameC_apart (k j : Int) (h : 1 ≤ k) (h2 : k ≤ 14) (hne : k ≠ j) : nameC k ≠ nameC j := by
  have hk : kindD k = true := by simp [kindD]; omega
  unfold nameC
  rw [if_pos hk]
  split
  · rename_i hj
    simp only [kindD, Bool.and_eq_true, decide_eq_true_eq] at hj
    exact names_apart ⟨k.toNat, by omega⟩ ⟨j.toNat, by omega⟩ (by show 1 ≤ k.toNat; omega) (by show k.toNat ≠ j.toNat; omega)
  · have := names_apart ⟨k.toNat, by omega⟩ ⟨0, by omega⟩ (by show 1 ≤ k.toNat; omega) (by show k.toNat ≠ 0; omega)
    exact this
set_option maxHeartbeats 1000000 in
theorem ckinds_out (a b : Int) (w : World) (hC : CodesOk w) (hN : NamesOk w) (ho : a < 1 ∨ 14 < a) : Calls Tryd.prog 10 #[.int .i64 a, .int .i64 b] w fun e w' => e = .returned (.bool true) ∧ Below w.heap.size w w' := by
  have HAW := Lib.hid (cawake_any w hC)
  have HNN := Lib.hid hN
  have hA := fun W hW => name_any a W hW
  have hS := fun W => sup_any a W
  have hI := fun W => info_any a W
  have hP := fun W => pid_any a W
  rw [show nameC a = [] from if_neg (by simp [kindD]; omega)] at hA
  rw [show supD a = false from by simp [supD]; omega] at hS
  rw [show infoD a = false from by simp [infoD]; omega] at hI
  rw [show pidD a = false from by simp [pidD]; omega] at hP
  have HA := Lib.hid hA
  have HC := HA
  have HS := Lib.hid hS
  have HI := Lib.hid hI
  have HP := Lib.hid hP
  have e1 : (a == 1) = false := by simp; omega
  have e2 : (a == 12) = false := by simp; omega
  clear hA hS hI hP hC hN
  rcases ho with ho | ho
  · have d1 : decide (1 ≤ a) = false := decide_eq_false (by omega)
    have d2 : decide (2 ≤ a) = false := decide_eq_false (by omega)
    have d3 : decide (11 ≤ a) = false := decide_eq_false (by omega)
    go_enter Tryd.func10, Tryd.ntmps10
    go_wp2_with (first
      | (go_at_call 36; (with_reducible refine (HAW.out).mono ?_); rintro e w1 ⟨rfl, hb⟩; have HB := Lib.hid hb; have HNA := Lib.hid (HNN.out.below hb); clear hb)
      | (go_at_call 43; (with_reducible refine (HA.out _ HNA.out).mono ?_); rintro e w2 ⟨rfl, rfl⟩)
      | (go_at_call 43; (with_reducible refine (HC.out _ HNA.out).mono ?_); rintro e w2 ⟨rfl, rfl⟩)
      | (go_at_call 44; (with_reducible refine (HS.out _).mono ?_); rintro e w2 ⟨rfl, rfl⟩)
      | (go_at_call 45; (with_reducible refine (HI.out _).mono ?_); rintro e w2 ⟨rfl, rfl⟩)
      | (go_at_call 46; (with_reducible refine (HP.out _).mono ?_); rintro e w2 ⟨rfl, rfl⟩))
    go_ret
    exact ⟨rfl, HB.out⟩
  · have d1 : decide (1 ≤ a) = true := decide_eq_true (by omega)
    have d2 : decide (2 ≤ a) = true := decide_eq_true (by omega)
    have d3 : decide (11 ≤ a) = true := decide_eq_true (by omega)
    have d4 : decide (a ≤ 14) = false := decide_eq_false (by omega)
    have d5 : decide (a ≤ 5) = false := decide_eq_false (by omega)
    go_enter Tryd.func10, Tryd.ntmps10
    go_wp2_with (first
      | (go_at_call 36; (with_reducible refine (HAW.out).mono ?_); rintro e w1 ⟨rfl, hb⟩; have HB := Lib.hid hb; have HNA := Lib.hid (HNN.out.below hb); clear hb)
      | (go_at_call 43; (with_reducible refine (HA.out _ HNA.out).mono ?_); rintro e w2 ⟨rfl, rfl⟩)
      | (go_at_call 43; (with_reducible refine (HC.out _ HNA.out).mono ?_); rintro e w2 ⟨rfl, rfl⟩)
      | (go_at_call 44; (with_reducible refine (HS.out _).mono ?_); rintro e w2 ⟨rfl, rfl⟩)
      | (go_at_call 45; (with_reducible refine (HI.out _).mono ?_); rintro e w2 ⟨rfl, rfl⟩)
      | (go_at_call 46; (with_reducible refine (HP.out _).mono ?_); rintro e w2 ⟨rfl, rfl⟩))
    go_ret
    exact ⟨rfl, HB.out⟩
set_option maxHeartbeats 1000000 in
theorem ckinds_in (a b : Int) (w : World) (hC : CodesOk w) (hN : NamesOk w) (h1 : 1 ≤ a) (h2 : a ≤ 14) : Calls Tryd.prog 10 #[.int .i64 a, .int .i64 b] w fun e w' => e = .returned (.bool true) ∧ Below w.heap.size w w' := by
  have HAW := Lib.hid (cawake_any w hC)
  have HNN := Lib.hid hN
  have HA := Lib.hid (fun W hW => name_any a W hW)
  have HC := Lib.hid (fun W hW => name_any b W hW)
  have hS := fun W => sup_any a W
  have hI := fun W => info_any a W
  have hP := fun W => pid_any a W
  have hne : ((⟨(nameC a).toArray⟩ : ByteArray).toList == (⟨#[]⟩ : ByteArray).toList) = false := seq_bytes _ [] _ (decide_eq_false (fun e => nameC_apart a 0 h1 h2 (by omega) (e.trans rfl))).symm
  have hne2 : (⟨(nameC a).toArray⟩ : ByteArray).toList.isEmpty = false := by
    rw [ByteArray.toList_eq]
    show (nameC a).isEmpty = false
    cases h : nameC a with
    | nil => exact absurd (h.trans rfl) (nameC_apart a 0 h1 h2 (by omega))
    | cons x l => rfl
  have hap : (a != b) = true → ((⟨(nameC a).toArray⟩ : ByteArray).toList == (⟨(nameC b).toArray⟩ : ByteArray).toList) = false := fun h => seq_bytes _ _ _ (decide_eq_false (nameC_apart a b h1 h2 (by simpa using h))).symm
  generalize (⟨(nameC a).toArray⟩ : ByteArray) = S at *
  generalize (⟨(nameC b).toArray⟩ : ByteArray) = T at *
  clear hC hN
  obtain rfl | rfl | rfl | rfl | rfl | rfl | rfl | rfl | rfl | rfl | rfl | rfl | rfl | rfl : a = 1 ∨ a = 2 ∨ a = 3 ∨ a = 4 ∨ a = 5 ∨ a = 6 ∨ a = 7 ∨ a = 8 ∨ a = 9 ∨ a = 10 ∨ a = 11 ∨ a = 12 ∨ a = 13 ∨ a = 14 := by omega
  · have HS := Lib.hid (show ∀ W, Calls Tryd.prog 44 #[.int .i64 1] W fun e w' => e = .returned (.bool false) ∧ w' = W from hS)
    have HI := Lib.hid (show ∀ W, Calls Tryd.prog 45 #[.int .i64 1] W fun e w' => e = .returned (.bool true) ∧ w' = W from hI)
    have HP := Lib.hid (show ∀ W, Calls Tryd.prog 46 #[.int .i64 1] W fun e w' => e = .returned (.bool true) ∧ w' = W from hP)
    cases hb : ((1 : Int) != b)
    · clear hS hI hP hap h1 h2
      go_enter Tryd.func10, Tryd.ntmps10
      go_wp2_with (first
        | (go_at_call 36; (with_reducible refine (HAW.out).mono ?_); rintro e w1 ⟨rfl, hb⟩; have HB := Lib.hid hb; have HNA := Lib.hid (HNN.out.below hb); clear hb)
        | (go_at_call 43; (with_reducible refine (HA.out _ HNA.out).mono ?_); rintro e w2 ⟨rfl, rfl⟩)
        | (go_at_call 43; (with_reducible refine (HC.out _ HNA.out).mono ?_); rintro e w2 ⟨rfl, rfl⟩)
        | (go_at_call 44; (with_reducible refine (HS.out _).mono ?_); rintro e w2 ⟨rfl, rfl⟩)
        | (go_at_call 45; (with_reducible refine (HI.out _).mono ?_); rintro e w2 ⟨rfl, rfl⟩)
        | (go_at_call 46; (with_reducible refine (HP.out _).mono ?_); rintro e w2 ⟨rfl, rfl⟩))
      go_ret
      exact ⟨rfl, HB.out⟩
    · have hq := hap hb
      clear hS hI hP hap h1 h2
      go_enter Tryd.func10, Tryd.ntmps10
      go_wp2_with (first
        | (go_at_call 36; (with_reducible refine (HAW.out).mono ?_); rintro e w1 ⟨rfl, hb⟩; have HB := Lib.hid hb; have HNA := Lib.hid (HNN.out.below hb); clear hb)
        | (go_at_call 43; (with_reducible refine (HA.out _ HNA.out).mono ?_); rintro e w2 ⟨rfl, rfl⟩)
        | (go_at_call 43; (with_reducible refine (HC.out _ HNA.out).mono ?_); rintro e w2 ⟨rfl, rfl⟩)
        | (go_at_call 44; (with_reducible refine (HS.out _).mono ?_); rintro e w2 ⟨rfl, rfl⟩)
        | (go_at_call 45; (with_reducible refine (HI.out _).mono ?_); rintro e w2 ⟨rfl, rfl⟩)
        | (go_at_call 46; (with_reducible refine (HP.out _).mono ?_); rintro e w2 ⟨rfl, rfl⟩))
      go_ret
      exact ⟨rfl, HB.out⟩
  · have HS := Lib.hid (show ∀ W, Calls Tryd.prog 44 #[.int .i64 2] W fun e w' => e = .returned (.bool true) ∧ w' = W from hS)
    have HI := Lib.hid (show ∀ W, Calls Tryd.prog 45 #[.int .i64 2] W fun e w' => e = .returned (.bool false) ∧ w' = W from hI)
    have HP := Lib.hid (show ∀ W, Calls Tryd.prog 46 #[.int .i64 2] W fun e w' => e = .returned (.bool false) ∧ w' = W from hP)
    cases hb : ((2 : Int) != b)
    · clear hS hI hP hap h1 h2
      go_enter Tryd.func10, Tryd.ntmps10
      go_wp2_with (first
        | (go_at_call 36; (with_reducible refine (HAW.out).mono ?_); rintro e w1 ⟨rfl, hb⟩; have HB := Lib.hid hb; have HNA := Lib.hid (HNN.out.below hb); clear hb)
        | (go_at_call 43; (with_reducible refine (HA.out _ HNA.out).mono ?_); rintro e w2 ⟨rfl, rfl⟩)
        | (go_at_call 43; (with_reducible refine (HC.out _ HNA.out).mono ?_); rintro e w2 ⟨rfl, rfl⟩)
        | (go_at_call 44; (with_reducible refine (HS.out _).mono ?_); rintro e w2 ⟨rfl, rfl⟩)
        | (go_at_call 45; (with_reducible refine (HI.out _).mono ?_); rintro e w2 ⟨rfl, rfl⟩)
        | (go_at_call 46; (with_reducible refine (HP.out _).mono ?_); rintro e w2 ⟨rfl, rfl⟩))
      go_ret
      exact ⟨rfl, HB.out⟩
    · have hq := hap hb
      clear hS hI hP hap h1 h2
      go_enter Tryd.func10, Tryd.ntmps10
      go_wp2_with (first
        | (go_at_call 36; (with_reducible refine (HAW.out).mono ?_); rintro e w1 ⟨rfl, hb⟩; have HB := Lib.hid hb; have HNA := Lib.hid (HNN.out.below hb); clear hb)
        | (go_at_call 43; (with_reducible refine (HA.out _ HNA.out).mono ?_); rintro e w2 ⟨rfl, rfl⟩)
        | (go_at_call 43; (with_reducible refine (HC.out _ HNA.out).mono ?_); rintro e w2 ⟨rfl, rfl⟩)
        | (go_at_call 44; (with_reducible refine (HS.out _).mono ?_); rintro e w2 ⟨rfl, rfl⟩)
        | (go_at_call 45; (with_reducible refine (HI.out _).mono ?_); rintro e w2 ⟨rfl, rfl⟩)
        | (go_at_call 46; (with_reducible refine (HP.out _).mono ?_); rintro e w2 ⟨rfl, rfl⟩))
      go_ret
      exact ⟨rfl, HB.out⟩
  · have HS := Lib.hid (show ∀ W, Calls Tryd.prog 44 #[.int .i64 3] W fun e w' => e = .returned (.bool true) ∧ w' = W from hS)
    have HI := Lib.hid (show ∀ W, Calls Tryd.prog 45 #[.int .i64 3] W fun e w' => e = .returned (.bool false) ∧ w' = W from hI)
    have HP := Lib.hid (show ∀ W, Calls Tryd.prog 46 #[.int .i64 3] W fun e w' => e = .returned (.bool false) ∧ w' = W from hP)
    cases hb : ((3 : Int) != b)
    · clear hS hI hP hap h1 h2
      go_enter Tryd.func10, Tryd.ntmps10
      go_wp2_with (first
        | (go_at_call 36; (with_reducible refine (HAW.out).mono ?_); rintro e w1 ⟨rfl, hb⟩; have HB := Lib.hid hb; have HNA := Lib.hid (HNN.out.below hb); clear hb)
        | (go_at_call 43; (with_reducible refine (HA.out _ HNA.out).mono ?_); rintro e w2 ⟨rfl, rfl⟩)
        | (go_at_call 43; (with_reducible refine (HC.out _ HNA.out).mono ?_); rintro e w2 ⟨rfl, rfl⟩)
        | (go_at_call 44; (with_reducible refine (HS.out _).mono ?_); rintro e w2 ⟨rfl, rfl⟩)
        | (go_at_call 45; (with_reducible refine (HI.out _).mono ?_); rintro e w2 ⟨rfl, rfl⟩)
        | (go_at_call 46; (with_reducible refine (HP.out _).mono ?_); rintro e w2 ⟨rfl, rfl⟩))
      go_ret
      exact ⟨rfl, HB.out⟩
    · have hq := hap hb
      clear hS hI hP hap h1 h2
      go_enter Tryd.func10, Tryd.ntmps10
      go_wp2_with (first
        | (go_at_call 36; (with_reducible refine (HAW.out).mono ?_); rintro e w1 ⟨rfl, hb⟩; have HB := Lib.hid hb; have HNA := Lib.hid (HNN.out.below hb); clear hb)
        | (go_at_call 43; (with_reducible refine (HA.out _ HNA.out).mono ?_); rintro e w2 ⟨rfl, rfl⟩)
        | (go_at_call 43; (with_reducible refine (HC.out _ HNA.out).mono ?_); rintro e w2 ⟨rfl, rfl⟩)
        | (go_at_call 44; (with_reducible refine (HS.out _).mono ?_); rintro e w2 ⟨rfl, rfl⟩)
        | (go_at_call 45; (with_reducible refine (HI.out _).mono ?_); rintro e w2 ⟨rfl, rfl⟩)
        | (go_at_call 46; (with_reducible refine (HP.out _).mono ?_); rintro e w2 ⟨rfl, rfl⟩))
      go_ret
      exact ⟨rfl, HB.out⟩
  · have HS := Lib.hid (show ∀ W, Calls Tryd.prog 44 #[.int .i64 4] W fun e w' => e = .returned (.bool true) ∧ w' = W from hS)
    have HI := Lib.hid (show ∀ W, Calls Tryd.prog 45 #[.int .i64 4] W fun e w' => e = .returned (.bool false) ∧ w' = W from hI)
    have HP := Lib.hid (show ∀ W, Calls Tryd.prog 46 #[.int .i64 4] W fun e w' => e = .returned (.bool false) ∧ w' = W from hP)
    cases hb : ((4 : Int) != b)
    · clear hS hI hP hap h1 h2
      go_enter Tryd.func10, Tryd.ntmps10
      go_wp2_with (first
        | (go_at_call 36; (with_reducible refine (HAW.out).mono ?_); rintro e w1 ⟨rfl, hb⟩; have HB := Lib.hid hb; have HNA := Lib.hid (HNN.out.below hb); clear hb)
        | (go_at_call 43; (with_reducible refine (HA.out _ HNA.out).mono ?_); rintro e w2 ⟨rfl, rfl⟩)
        | (go_at_call 43; (with_reducible refine (HC.out _ HNA.out).mono ?_); rintro e w2 ⟨rfl, rfl⟩)
        | (go_at_call 44; (with_reducible refine (HS.out _).mono ?_); rintro e w2 ⟨rfl, rfl⟩)
        | (go_at_call 45; (with_reducible refine (HI.out _).mono ?_); rintro e w2 ⟨rfl, rfl⟩)
        | (go_at_call 46; (with_reducible refine (HP.out _).mono ?_); rintro e w2 ⟨rfl, rfl⟩))
      go_ret
      exact ⟨rfl, HB.out⟩
    · have hq := hap hb
      clear hS hI hP hap h1 h2
      go_enter Tryd.func10, Tryd.ntmps10
      go_wp2_with (first
        | (go_at_call 36; (with_reducible refine (HAW.out).mono ?_); rintro e w1 ⟨rfl, hb⟩; have HB := Lib.hid hb; have HNA := Lib.hid (HNN.out.below hb); clear hb)
        | (go_at_call 43; (with_reducible refine (HA.out _ HNA.out).mono ?_); rintro e w2 ⟨rfl, rfl⟩)
        | (go_at_call 43; (with_reducible refine (HC.out _ HNA.out).mono ?_); rintro e w2 ⟨rfl, rfl⟩)
        | (go_at_call 44; (with_reducible refine (HS.out _).mono ?_); rintro e w2 ⟨rfl, rfl⟩)
        | (go_at_call 45; (with_reducible refine (HI.out _).mono ?_); rintro e w2 ⟨rfl, rfl⟩)
        | (go_at_call 46; (with_reducible refine (HP.out _).mono ?_); rintro e w2 ⟨rfl, rfl⟩))
      go_ret
      exact ⟨rfl, HB.out⟩
  · have HS := Lib.hid (show ∀ W, Calls Tryd.prog 44 #[.int .i64 5] W fun e w' => e = .returned (.bool true) ∧ w' = W from hS)
    have HI := Lib.hid (show ∀ W, Calls Tryd.prog 45 #[.int .i64 5] W fun e w' => e = .returned (.bool false) ∧ w' = W from hI)
    have HP := Lib.hid (show ∀ W, Calls Tryd.prog 46 #[.int .i64 5] W fun e w' => e = .returned (.bool false) ∧ w' = W from hP)
    cases hb : ((5 : Int) != b)
    · clear hS hI hP hap h1 h2
      go_enter Tryd.func10, Tryd.ntmps10
      go_wp2_with (first
        | (go_at_call 36; (with_reducible refine (HAW.out).mono ?_); rintro e w1 ⟨rfl, hb⟩; have HB := Lib.hid hb; have HNA := Lib.hid (HNN.out.below hb); clear hb)
        | (go_at_call 43; (with_reducible refine (HA.out _ HNA.out).mono ?_); rintro e w2 ⟨rfl, rfl⟩)
        | (go_at_call 43; (with_reducible refine (HC.out _ HNA.out).mono ?_); rintro e w2 ⟨rfl, rfl⟩)
        | (go_at_call 44; (with_reducible refine (HS.out _).mono ?_); rintro e w2 ⟨rfl, rfl⟩)
        | (go_at_call 45; (with_reducible refine (HI.out _).mono ?_); rintro e w2 ⟨rfl, rfl⟩)
        | (go_at_call 46; (with_reducible refine (HP.out _).mono ?_); rintro e w2 ⟨rfl, rfl⟩))
      go_ret
      exact ⟨rfl, HB.out⟩
    · have hq := hap hb
      clear hS hI hP hap h1 h2
      go_enter Tryd.func10, Tryd.ntmps10
      go_wp2_with (first
        | (go_at_call 36; (with_reducible refine (HAW.out).mono ?_); rintro e w1 ⟨rfl, hb⟩; have HB := Lib.hid hb; have HNA := Lib.hid (HNN.out.below hb); clear hb)
        | (go_at_call 43; (with_reducible refine (HA.out _ HNA.out).mono ?_); rintro e w2 ⟨rfl, rfl⟩)
        | (go_at_call 43; (with_reducible refine (HC.out _ HNA.out).mono ?_); rintro e w2 ⟨rfl, rfl⟩)
        | (go_at_call 44; (with_reducible refine (HS.out _).mono ?_); rintro e w2 ⟨rfl, rfl⟩)
        | (go_at_call 45; (with_reducible refine (HI.out _).mono ?_); rintro e w2 ⟨rfl, rfl⟩)
        | (go_at_call 46; (with_reducible refine (HP.out _).mono ?_); rintro e w2 ⟨rfl, rfl⟩))
      go_ret
      exact ⟨rfl, HB.out⟩
  · have HS := Lib.hid (show ∀ W, Calls Tryd.prog 44 #[.int .i64 6] W fun e w' => e = .returned (.bool false) ∧ w' = W from hS)
    have HI := Lib.hid (show ∀ W, Calls Tryd.prog 45 #[.int .i64 6] W fun e w' => e = .returned (.bool false) ∧ w' = W from hI)
    have HP := Lib.hid (show ∀ W, Calls Tryd.prog 46 #[.int .i64 6] W fun e w' => e = .returned (.bool false) ∧ w' = W from hP)
    cases hb : ((6 : Int) != b)
    · clear hS hI hP hap h1 h2
      go_enter Tryd.func10, Tryd.ntmps10
      go_wp2_with (first
        | (go_at_call 36; (with_reducible refine (HAW.out).mono ?_); rintro e w1 ⟨rfl, hb⟩; have HB := Lib.hid hb; have HNA := Lib.hid (HNN.out.below hb); clear hb)
        | (go_at_call 43; (with_reducible refine (HA.out _ HNA.out).mono ?_); rintro e w2 ⟨rfl, rfl⟩)
        | (go_at_call 43; (with_reducible refine (HC.out _ HNA.out).mono ?_); rintro e w2 ⟨rfl, rfl⟩)
        | (go_at_call 44; (with_reducible refine (HS.out _).mono ?_); rintro e w2 ⟨rfl, rfl⟩)
        | (go_at_call 45; (with_reducible refine (HI.out _).mono ?_); rintro e w2 ⟨rfl, rfl⟩)
        | (go_at_call 46; (with_reducible refine (HP.out _).mono ?_); rintro e w2 ⟨rfl, rfl⟩))
      go_ret
      exact ⟨rfl, HB.out⟩
    · have hq := hap hb
      clear hS hI hP hap h1 h2
      go_enter Tryd.func10, Tryd.ntmps10
      go_wp2_with (first
        | (go_at_call 36; (with_reducible refine (HAW.out).mono ?_); rintro e w1 ⟨rfl, hb⟩; have HB := Lib.hid hb; have HNA := Lib.hid (HNN.out.below hb); clear hb)
        | (go_at_call 43; (with_reducible refine (HA.out _ HNA.out).mono ?_); rintro e w2 ⟨rfl, rfl⟩)
        | (go_at_call 43; (with_reducible refine (HC.out _ HNA.out).mono ?_); rintro e w2 ⟨rfl, rfl⟩)
        | (go_at_call 44; (with_reducible refine (HS.out _).mono ?_); rintro e w2 ⟨rfl, rfl⟩)
        | (go_at_call 45; (with_reducible refine (HI.out _).mono ?_); rintro e w2 ⟨rfl, rfl⟩)
        | (go_at_call 46; (with_reducible refine (HP.out _).mono ?_); rintro e w2 ⟨rfl, rfl⟩))
      go_ret
      exact ⟨rfl, HB.out⟩
  · have HS := Lib.hid (show ∀ W, Calls Tryd.prog 44 #[.int .i64 7] W fun e w' => e = .returned (.bool false) ∧ w' = W from hS)
    have HI := Lib.hid (show ∀ W, Calls Tryd.prog 45 #[.int .i64 7] W fun e w' => e = .returned (.bool false) ∧ w' = W from hI)
    have HP := Lib.hid (show ∀ W, Calls Tryd.prog 46 #[.int .i64 7] W fun e w' => e = .returned (.bool false) ∧ w' = W from hP)
    cases hb : ((7 : Int) != b)
    · clear hS hI hP hap h1 h2
      go_enter Tryd.func10, Tryd.ntmps10
      go_wp2_with (first
        | (go_at_call 36; (with_reducible refine (HAW.out).mono ?_); rintro e w1 ⟨rfl, hb⟩; have HB := Lib.hid hb; have HNA := Lib.hid (HNN.out.below hb); clear hb)
        | (go_at_call 43; (with_reducible refine (HA.out _ HNA.out).mono ?_); rintro e w2 ⟨rfl, rfl⟩)
        | (go_at_call 43; (with_reducible refine (HC.out _ HNA.out).mono ?_); rintro e w2 ⟨rfl, rfl⟩)
        | (go_at_call 44; (with_reducible refine (HS.out _).mono ?_); rintro e w2 ⟨rfl, rfl⟩)
        | (go_at_call 45; (with_reducible refine (HI.out _).mono ?_); rintro e w2 ⟨rfl, rfl⟩)
        | (go_at_call 46; (with_reducible refine (HP.out _).mono ?_); rintro e w2 ⟨rfl, rfl⟩))
      go_ret
      exact ⟨rfl, HB.out⟩
    · have hq := hap hb
      clear hS hI hP hap h1 h2
      go_enter Tryd.func10, Tryd.ntmps10
      go_wp2_with (first
        | (go_at_call 36; (with_reducible refine (HAW.out).mono ?_); rintro e w1 ⟨rfl, hb⟩; have HB := Lib.hid hb; have HNA := Lib.hid (HNN.out.below hb); clear hb)
        | (go_at_call 43; (with_reducible refine (HA.out _ HNA.out).mono ?_); rintro e w2 ⟨rfl, rfl⟩)
        | (go_at_call 43; (with_reducible refine (HC.out _ HNA.out).mono ?_); rintro e w2 ⟨rfl, rfl⟩)
        | (go_at_call 44; (with_reducible refine (HS.out _).mono ?_); rintro e w2 ⟨rfl, rfl⟩)
        | (go_at_call 45; (with_reducible refine (HI.out _).mono ?_); rintro e w2 ⟨rfl, rfl⟩)
        | (go_at_call 46; (with_reducible refine (HP.out _).mono ?_); rintro e w2 ⟨rfl, rfl⟩))
      go_ret
      exact ⟨rfl, HB.out⟩
  · have HS := Lib.hid (show ∀ W, Calls Tryd.prog 44 #[.int .i64 8] W fun e w' => e = .returned (.bool false) ∧ w' = W from hS)
    have HI := Lib.hid (show ∀ W, Calls Tryd.prog 45 #[.int .i64 8] W fun e w' => e = .returned (.bool false) ∧ w' = W from hI)
    have HP := Lib.hid (show ∀ W, Calls Tryd.prog 46 #[.int .i64 8] W fun e w' => e = .returned (.bool false) ∧ w' = W from hP)
    cases hb : ((8 : Int) != b)
    · clear hS hI hP hap h1 h2
      go_enter Tryd.func10, Tryd.ntmps10
      go_wp2_with (first
        | (go_at_call 36; (with_reducible refine (HAW.out).mono ?_); rintro e w1 ⟨rfl, hb⟩; have HB := Lib.hid hb; have HNA := Lib.hid (HNN.out.below hb); clear hb)
        | (go_at_call 43; (with_reducible refine (HA.out _ HNA.out).mono ?_); rintro e w2 ⟨rfl, rfl⟩)
        | (go_at_call 43; (with_reducible refine (HC.out _ HNA.out).mono ?_); rintro e w2 ⟨rfl, rfl⟩)
        | (go_at_call 44; (with_reducible refine (HS.out _).mono ?_); rintro e w2 ⟨rfl, rfl⟩)
        | (go_at_call 45; (with_reducible refine (HI.out _).mono ?_); rintro e w2 ⟨rfl, rfl⟩)
        | (go_at_call 46; (with_reducible refine (HP.out _).mono ?_); rintro e w2 ⟨rfl, rfl⟩))
      go_ret
      exact ⟨rfl, HB.out⟩
    · have hq := hap hb
      clear hS hI hP hap h1 h2
      go_enter Tryd.func10, Tryd.ntmps10
      go_wp2_with (first
        | (go_at_call 36; (with_reducible refine (HAW.out).mono ?_); rintro e w1 ⟨rfl, hb⟩; have HB := Lib.hid hb; have HNA := Lib.hid (HNN.out.below hb); clear hb)
        | (go_at_call 43; (with_reducible refine (HA.out _ HNA.out).mono ?_); rintro e w2 ⟨rfl, rfl⟩)
        | (go_at_call 43; (with_reducible refine (HC.out _ HNA.out).mono ?_); rintro e w2 ⟨rfl, rfl⟩)
        | (go_at_call 44; (with_reducible refine (HS.out _).mono ?_); rintro e w2 ⟨rfl, rfl⟩)
        | (go_at_call 45; (with_reducible refine (HI.out _).mono ?_); rintro e w2 ⟨rfl, rfl⟩)
        | (go_at_call 46; (with_reducible refine (HP.out _).mono ?_); rintro e w2 ⟨rfl, rfl⟩))
      go_ret
      exact ⟨rfl, HB.out⟩
  · have HS := Lib.hid (show ∀ W, Calls Tryd.prog 44 #[.int .i64 9] W fun e w' => e = .returned (.bool false) ∧ w' = W from hS)
    have HI := Lib.hid (show ∀ W, Calls Tryd.prog 45 #[.int .i64 9] W fun e w' => e = .returned (.bool false) ∧ w' = W from hI)
    have HP := Lib.hid (show ∀ W, Calls Tryd.prog 46 #[.int .i64 9] W fun e w' => e = .returned (.bool false) ∧ w' = W from hP)
    cases hb : ((9 : Int) != b)
    · clear hS hI hP hap h1 h2
      go_enter Tryd.func10, Tryd.ntmps10
      go_wp2_with (first
        | (go_at_call 36; (with_reducible refine (HAW.out).mono ?_); rintro e w1 ⟨rfl, hb⟩; have HB := Lib.hid hb; have HNA := Lib.hid (HNN.out.below hb); clear hb)
        | (go_at_call 43; (with_reducible refine (HA.out _ HNA.out).mono ?_); rintro e w2 ⟨rfl, rfl⟩)
        | (go_at_call 43; (with_reducible refine (HC.out _ HNA.out).mono ?_); rintro e w2 ⟨rfl, rfl⟩)
        | (go_at_call 44; (with_reducible refine (HS.out _).mono ?_); rintro e w2 ⟨rfl, rfl⟩)
        | (go_at_call 45; (with_reducible refine (HI.out _).mono ?_); rintro e w2 ⟨rfl, rfl⟩)
        | (go_at_call 46; (with_reducible refine (HP.out _).mono ?_); rintro e w2 ⟨rfl, rfl⟩))
      go_ret
      exact ⟨rfl, HB.out⟩
    · have hq := hap hb
      clear hS hI hP hap h1 h2
      go_enter Tryd.func10, Tryd.ntmps10
      go_wp2_with (first
        | (go_at_call 36; (with_reducible refine (HAW.out).mono ?_); rintro e w1 ⟨rfl, hb⟩; have HB := Lib.hid hb; have HNA := Lib.hid (HNN.out.below hb); clear hb)
        | (go_at_call 43; (with_reducible refine (HA.out _ HNA.out).mono ?_); rintro e w2 ⟨rfl, rfl⟩)
        | (go_at_call 43; (with_reducible refine (HC.out _ HNA.out).mono ?_); rintro e w2 ⟨rfl, rfl⟩)
        | (go_at_call 44; (with_reducible refine (HS.out _).mono ?_); rintro e w2 ⟨rfl, rfl⟩)
        | (go_at_call 45; (with_reducible refine (HI.out _).mono ?_); rintro e w2 ⟨rfl, rfl⟩)
        | (go_at_call 46; (with_reducible refine (HP.out _).mono ?_); rintro e w2 ⟨rfl, rfl⟩))
      go_ret
      exact ⟨rfl, HB.out⟩
  · have HS := Lib.hid (show ∀ W, Calls Tryd.prog 44 #[.int .i64 10] W fun e w' => e = .returned (.bool false) ∧ w' = W from hS)
    have HI := Lib.hid (show ∀ W, Calls Tryd.prog 45 #[.int .i64 10] W fun e w' => e = .returned (.bool false) ∧ w' = W from hI)
    have HP := Lib.hid (show ∀ W, Calls Tryd.prog 46 #[.int .i64 10] W fun e w' => e = .returned (.bool false) ∧ w' = W from hP)
    cases hb : ((10 : Int) != b)
    · clear hS hI hP hap h1 h2
      go_enter Tryd.func10, Tryd.ntmps10
      go_wp2_with (first
        | (go_at_call 36; (with_reducible refine (HAW.out).mono ?_); rintro e w1 ⟨rfl, hb⟩; have HB := Lib.hid hb; have HNA := Lib.hid (HNN.out.below hb); clear hb)
        | (go_at_call 43; (with_reducible refine (HA.out _ HNA.out).mono ?_); rintro e w2 ⟨rfl, rfl⟩)
        | (go_at_call 43; (with_reducible refine (HC.out _ HNA.out).mono ?_); rintro e w2 ⟨rfl, rfl⟩)
        | (go_at_call 44; (with_reducible refine (HS.out _).mono ?_); rintro e w2 ⟨rfl, rfl⟩)
        | (go_at_call 45; (with_reducible refine (HI.out _).mono ?_); rintro e w2 ⟨rfl, rfl⟩)
        | (go_at_call 46; (with_reducible refine (HP.out _).mono ?_); rintro e w2 ⟨rfl, rfl⟩))
      go_ret
      exact ⟨rfl, HB.out⟩
    · have hq := hap hb
      clear hS hI hP hap h1 h2
      go_enter Tryd.func10, Tryd.ntmps10
      go_wp2_with (first
        | (go_at_call 36; (with_reducible refine (HAW.out).mono ?_); rintro e w1 ⟨rfl, hb⟩; have HB := Lib.hid hb; have HNA := Lib.hid (HNN.out.below hb); clear hb)
        | (go_at_call 43; (with_reducible refine (HA.out _ HNA.out).mono ?_); rintro e w2 ⟨rfl, rfl⟩)
        | (go_at_call 43; (with_reducible refine (HC.out _ HNA.out).mono ?_); rintro e w2 ⟨rfl, rfl⟩)
        | (go_at_call 44; (with_reducible refine (HS.out _).mono ?_); rintro e w2 ⟨rfl, rfl⟩)
        | (go_at_call 45; (with_reducible refine (HI.out _).mono ?_); rintro e w2 ⟨rfl, rfl⟩)
        | (go_at_call 46; (with_reducible refine (HP.out _).mono ?_); rintro e w2 ⟨rfl, rfl⟩))
      go_ret
      exact ⟨rfl, HB.out⟩
  · have HS := Lib.hid (show ∀ W, Calls Tryd.prog 44 #[.int .i64 11] W fun e w' => e = .returned (.bool false) ∧ w' = W from hS)
    have HI := Lib.hid (show ∀ W, Calls Tryd.prog 45 #[.int .i64 11] W fun e w' => e = .returned (.bool true) ∧ w' = W from hI)
    have HP := Lib.hid (show ∀ W, Calls Tryd.prog 46 #[.int .i64 11] W fun e w' => e = .returned (.bool false) ∧ w' = W from hP)
    cases hb : ((11 : Int) != b)
    · clear hS hI hP hap h1 h2
      go_enter Tryd.func10, Tryd.ntmps10
      go_wp2_with (first
        | (go_at_call 36; (with_reducible refine (HAW.out).mono ?_); rintro e w1 ⟨rfl, hb⟩; have HB := Lib.hid hb; have HNA := Lib.hid (HNN.out.below hb); clear hb)
        | (go_at_call 43; (with_reducible refine (HA.out _ HNA.out).mono ?_); rintro e w2 ⟨rfl, rfl⟩)
        | (go_at_call 43; (with_reducible refine (HC.out _ HNA.out).mono ?_); rintro e w2 ⟨rfl, rfl⟩)
        | (go_at_call 44; (with_reducible refine (HS.out _).mono ?_); rintro e w2 ⟨rfl, rfl⟩)
        | (go_at_call 45; (with_reducible refine (HI.out _).mono ?_); rintro e w2 ⟨rfl, rfl⟩)
        | (go_at_call 46; (with_reducible refine (HP.out _).mono ?_); rintro e w2 ⟨rfl, rfl⟩))
      go_ret
      exact ⟨rfl, HB.out⟩
    · have hq := hap hb
      clear hS hI hP hap h1 h2
      go_enter Tryd.func10, Tryd.ntmps10
      go_wp2_with (first
        | (go_at_call 36; (with_reducible refine (HAW.out).mono ?_); rintro e w1 ⟨rfl, hb⟩; have HB := Lib.hid hb; have HNA := Lib.hid (HNN.out.below hb); clear hb)
        | (go_at_call 43; (with_reducible refine (HA.out _ HNA.out).mono ?_); rintro e w2 ⟨rfl, rfl⟩)
        | (go_at_call 43; (with_reducible refine (HC.out _ HNA.out).mono ?_); rintro e w2 ⟨rfl, rfl⟩)
        | (go_at_call 44; (with_reducible refine (HS.out _).mono ?_); rintro e w2 ⟨rfl, rfl⟩)
        | (go_at_call 45; (with_reducible refine (HI.out _).mono ?_); rintro e w2 ⟨rfl, rfl⟩)
        | (go_at_call 46; (with_reducible refine (HP.out _).mono ?_); rintro e w2 ⟨rfl, rfl⟩))
      go_ret
      exact ⟨rfl, HB.out⟩
  · have HS := Lib.hid (show ∀ W, Calls Tryd.prog 44 #[.int .i64 12] W fun e w' => e = .returned (.bool false) ∧ w' = W from hS)
    have HI := Lib.hid (show ∀ W, Calls Tryd.prog 45 #[.int .i64 12] W fun e w' => e = .returned (.bool true) ∧ w' = W from hI)
    have HP := Lib.hid (show ∀ W, Calls Tryd.prog 46 #[.int .i64 12] W fun e w' => e = .returned (.bool true) ∧ w' = W from hP)
    cases hb : ((12 : Int) != b)
    · clear hS hI hP hap h1 h2
      go_enter Tryd.func10, Tryd.ntmps10
      go_wp2_with (first
        | (go_at_call 36; (with_reducible refine (HAW.out).mono ?_); rintro e w1 ⟨rfl, hb⟩; have HB := Lib.hid hb; have HNA := Lib.hid (HNN.out.below hb); clear hb)
        | (go_at_call 43; (with_reducible refine (HA.out _ HNA.out).mono ?_); rintro e w2 ⟨rfl, rfl⟩)
        | (go_at_call 43; (with_reducible refine (HC.out _ HNA.out).mono ?_); rintro e w2 ⟨rfl, rfl⟩)
        | (go_at_call 44; (with_reducible refine (HS.out _).mono ?_); rintro e w2 ⟨rfl, rfl⟩)
        | (go_at_call 45; (with_reducible refine (HI.out _).mono ?_); rintro e w2 ⟨rfl, rfl⟩)
        | (go_at_call 46; (with_reducible refine (HP.out _).mono ?_); rintro e w2 ⟨rfl, rfl⟩))
      go_ret
      exact ⟨rfl, HB.out⟩
    · have hq := hap hb
      clear hS hI hP hap h1 h2
      go_enter Tryd.func10, Tryd.ntmps10
      go_wp2_with (first
        | (go_at_call 36; (with_reducible refine (HAW.out).mono ?_); rintro e w1 ⟨rfl, hb⟩; have HB := Lib.hid hb; have HNA := Lib.hid (HNN.out.below hb); clear hb)
        | (go_at_call 43; (with_reducible refine (HA.out _ HNA.out).mono ?_); rintro e w2 ⟨rfl, rfl⟩)
        | (go_at_call 43; (with_reducible refine (HC.out _ HNA.out).mono ?_); rintro e w2 ⟨rfl, rfl⟩)
        | (go_at_call 44; (with_reducible refine (HS.out _).mono ?_); rintro e w2 ⟨rfl, rfl⟩)
        | (go_at_call 45; (with_reducible refine (HI.out _).mono ?_); rintro e w2 ⟨rfl, rfl⟩)
        | (go_at_call 46; (with_reducible refine (HP.out _).mono ?_); rintro e w2 ⟨rfl, rfl⟩))
      go_ret
      exact ⟨rfl, HB.out⟩
  · have HS := Lib.hid (show ∀ W, Calls Tryd.prog 44 #[.int .i64 13] W fun e w' => e = .returned (.bool false) ∧ w' = W from hS)
    have HI := Lib.hid (show ∀ W, Calls Tryd.prog 45 #[.int .i64 13] W fun e w' => e = .returned (.bool true) ∧ w' = W from hI)
    have HP := Lib.hid (show ∀ W, Calls Tryd.prog 46 #[.int .i64 13] W fun e w' => e = .returned (.bool false) ∧ w' = W from hP)
    cases hb : ((13 : Int) != b)
    · clear hS hI hP hap h1 h2
      go_enter Tryd.func10, Tryd.ntmps10
      go_wp2_with (first
        | (go_at_call 36; (with_reducible refine (HAW.out).mono ?_); rintro e w1 ⟨rfl, hb⟩; have HB := Lib.hid hb; have HNA := Lib.hid (HNN.out.below hb); clear hb)
        | (go_at_call 43; (with_reducible refine (HA.out _ HNA.out).mono ?_); rintro e w2 ⟨rfl, rfl⟩)
        | (go_at_call 43; (with_reducible refine (HC.out _ HNA.out).mono ?_); rintro e w2 ⟨rfl, rfl⟩)
        | (go_at_call 44; (with_reducible refine (HS.out _).mono ?_); rintro e w2 ⟨rfl, rfl⟩)
        | (go_at_call 45; (with_reducible refine (HI.out _).mono ?_); rintro e w2 ⟨rfl, rfl⟩)
        | (go_at_call 46; (with_reducible refine (HP.out _).mono ?_); rintro e w2 ⟨rfl, rfl⟩))
      go_ret
      exact ⟨rfl, HB.out⟩
    · have hq := hap hb
      clear hS hI hP hap h1 h2
      go_enter Tryd.func10, Tryd.ntmps10
      go_wp2_with (first
        | (go_at_call 36; (with_reducible refine (HAW.out).mono ?_); rintro e w1 ⟨rfl, hb⟩; have HB := Lib.hid hb; have HNA := Lib.hid (HNN.out.below hb); clear hb)
        | (go_at_call 43; (with_reducible refine (HA.out _ HNA.out).mono ?_); rintro e w2 ⟨rfl, rfl⟩)
        | (go_at_call 43; (with_reducible refine (HC.out _ HNA.out).mono ?_); rintro e w2 ⟨rfl, rfl⟩)
        | (go_at_call 44; (with_reducible refine (HS.out _).mono ?_); rintro e w2 ⟨rfl, rfl⟩)
        | (go_at_call 45; (with_reducible refine (HI.out _).mono ?_); rintro e w2 ⟨rfl, rfl⟩)
        | (go_at_call 46; (with_reducible refine (HP.out _).mono ?_); rintro e w2 ⟨rfl, rfl⟩))
      go_ret
      exact ⟨rfl, HB.out⟩
  · have HS := Lib.hid (show ∀ W, Calls Tryd.prog 44 #[.int .i64 14] W fun e w' => e = .returned (.bool false) ∧ w' = W from hS)
    have HI := Lib.hid (show ∀ W, Calls Tryd.prog 45 #[.int .i64 14] W fun e w' => e = .returned (.bool true) ∧ w' = W from hI)
    have HP := Lib.hid (show ∀ W, Calls Tryd.prog 46 #[.int .i64 14] W fun e w' => e = .returned (.bool false) ∧ w' = W from hP)
    cases hb : ((14 : Int) != b)
    · clear hS hI hP hap h1 h2
      go_enter Tryd.func10, Tryd.ntmps10
      go_wp2_with (first
        | (go_at_call 36; (with_reducible refine (HAW.out).mono ?_); rintro e w1 ⟨rfl, hb⟩; have HB := Lib.hid hb; have HNA := Lib.hid (HNN.out.below hb); clear hb)
        | (go_at_call 43; (with_reducible refine (HA.out _ HNA.out).mono ?_); rintro e w2 ⟨rfl, rfl⟩)
        | (go_at_call 43; (with_reducible refine (HC.out _ HNA.out).mono ?_); rintro e w2 ⟨rfl, rfl⟩)
        | (go_at_call 44; (with_reducible refine (HS.out _).mono ?_); rintro e w2 ⟨rfl, rfl⟩)
        | (go_at_call 45; (with_reducible refine (HI.out _).mono ?_); rintro e w2 ⟨rfl, rfl⟩)
        | (go_at_call 46; (with_reducible refine (HP.out _).mono ?_); rintro e w2 ⟨rfl, rfl⟩))
      go_ret
      exact ⟨rfl, HB.out⟩
    · have hq := hap hb
      clear hS hI hP hap h1 h2
      go_enter Tryd.func10, Tryd.ntmps10
      go_wp2_with (first
        | (go_at_call 36; (with_reducible refine (HAW.out).mono ?_); rintro e w1 ⟨rfl, hb⟩; have HB := Lib.hid hb; have HNA := Lib.hid (HNN.out.below hb); clear hb)
        | (go_at_call 43; (with_reducible refine (HA.out _ HNA.out).mono ?_); rintro e w2 ⟨rfl, rfl⟩)
        | (go_at_call 43; (with_reducible refine (HC.out _ HNA.out).mono ?_); rintro e w2 ⟨rfl, rfl⟩)
        | (go_at_call 44; (with_reducible refine (HS.out _).mono ?_); rintro e w2 ⟨rfl, rfl⟩)
        | (go_at_call 45; (with_reducible refine (HI.out _).mono ?_); rintro e w2 ⟨rfl, rfl⟩)
        | (go_at_call 46; (with_reducible refine (HP.out _).mono ?_); rintro e w2 ⟨rfl, rfl⟩))
      go_ret
      exact ⟨rfl, HB.out⟩
theorem ckinds_any (a b : Int) (w : World) (hC : CodesOk w) (hN : NamesOk w) : Calls Tryd.prog 10 #[.int .i64 a, .int .i64 b] w fun e w' => e = .returned (.bool true) ∧ Below w.heap.size w w' := by
  by_cases h : a < 1 ∨ 14 < a
  · exact ckinds_out a b w hC hN h
  · exact ckinds_in a b w hC hN (by omega) (by omega)
end Go.Proofs.YtfmcngchcalcmaaDoor
