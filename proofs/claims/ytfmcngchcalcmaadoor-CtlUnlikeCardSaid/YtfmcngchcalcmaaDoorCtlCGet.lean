/-
The landed code's Get of controls.
-/
import Derived.Test.YtfmcngchcalcmaaDoorCtlCRead
namespace Go.Proofs.YtfmcngchcalcmaaDoor
open Go.RowKit
set_option maxRecDepth 20000
/-- the zero control with a number and an error -/
def noneV (e : Int) : Value := .tuple #[.agg #[.int .i64 0, .int .i64 0, .int .i64 0, .bool false], .int .i64 0, .int .i64 e]
theorem lenD_two (b : Int) (w : Bool) : lenD b w = 1 ∨ lenD b w = 2 := by
  unfold lenD
  split
  · exact Or.inr rfl
  · exact Or.inl rfl
theorem cget_nil (wide : Bool) (w : World) : Calls Tryd.prog 40 #[.string ⟨#[]⟩, .bool wide] w fun e w' => e = .returned (noneV 4) ∧ Below w.heap.size w w' := by
  go_enter Tryd.func40, Tryd.ntmps40
  go_wp2
  exact bodyPost_ret (v := noneV 4) (by simp [results, Tryd.results40, go_sem, noneV]) rfl ⟨rfl, (Below.refl _ w).alloc (Nat.le_refl _) _⟩
set_option maxHeartbeats 1000000 in
theorem cget_at (s : ByteArray) (wide : Bool) (w : World) (hC : CodesOk w) (n0 : 0 < s.size) (L K : Nat) (hL : lenD ((s[0]'n0).toNat : Int) wide = (L : Int)) (hK : findD ((s[0]'n0).toNat : Int) wide = K) (hl : 1 ≤ L) (rv : Value) (t : ByteArray) (r0 r1 r2 : Int) (rb : Bool) (hx : rv = .agg #[.int .i64 r0, .int .i64 r1, .int .i64 r2, .bool rb])
    (ht : L ≤ s.size → s.extract 0 L = t) (hrd : ∀ W, Calls Tryd.prog 74 #[.int .i64 (K : Int), .string t] W fun e w' => e = .returned rv ∧ Below W.heap.size W w') :
    Calls Tryd.prog 40 #[.string s, .bool wide] w fun e w' => e = .returned (if s.size < L then noneV 4 else if K = 0 then noneV 2 else .tuple #[rv, .int .i64 (L : Int), .int .i64 0]) ∧ Below w.heap.size w w' := by
  subst hx
  have b0 : (0 : Int) < (s.size : Int) := by omega
  have de : (s.toList == []) = false := by
    rw [ByteArray.toList_eq]
    cases h : s.data.toList with
    | nil => have : s.data.size = 0 := by simpa using congrArg List.length h
             have : s.size = s.data.size := rfl
             omega
    | cons a l => rfl
  have de2 : s.toList.isEmpty = false := by
    cases h : s.toList with
    | nil => rw [h] at de; cases de
    | cons a l => rfl
  have hLE := fun W => length_any ((s[0]'n0).toNat : Int) wide W
  have hFI := fun W hW => find_any ((s[0]'n0).toNat : Int) wide W hW
  rw [hL] at hLE
  rw [hK] at hFI
  have HLE := Lib.hid hLE
  have HFI := Lib.hid hFI
  have HRD := Lib.hid hrd
  have HC := Lib.hid hC
  have HA := Lib.hid (C4.new w w.heap.size rfl (.int .i64 0) (.int .i64 0) (.int .i64 0) (.bool false) 65)
  have HB := Lib.hid ((Below.refl _ w).alloc (Nat.le_refl _) (.cells #[.int .i64 0, .int .i64 0, .int .i64 0, .bool false] 65))
  clear hLE hFI hC hrd
  by_cases h1 : s.size < L
  · rw [if_pos h1]
    have d1 : decide ((s.size : Int) < (L : Int)) = true := decide_eq_true (by omega)
    go_enter Tryd.func40, Tryd.ntmps40
    go_wp2_with (go_at_call 72; (with_reducible refine (HLE.out _).mono ?_); rintro e w1 ⟨rfl, rfl⟩)
    exact bodyPost_ret (v := noneV 4) (by simp [results, Tryd.results40, go_sem, noneV]) rfl ⟨rfl, HB.out⟩
  · rw [if_neg h1]
    have d1 : decide ((s.size : Int) < (L : Int)) = false := decide_eq_false (by omega)
    have he := ht (by omega)
    by_cases h2 : K = 0
    · rw [if_pos h2]
      have d2 : ((K : Int) == 0) = true := by simp [h2]
      clear h2 hK
      go_enter Tryd.func40, Tryd.ntmps40
      go_wp2_with (first | (go_at_call 72; (with_reducible refine (HLE.out _).mono ?_); rintro e w1 ⟨rfl, rfl⟩) | (go_at_call 73; (with_reducible refine (HFI.out _ (HC.out.below HB.out)).mono ?_); rintro e w2 ⟨rfl, n, rfl⟩))
      have S4 := stored4 (.int .i64 0) (.int .i64 0) (.int .i64 0) (.bool false) (HA.out.drewN n)
      exact bodyPost_ret (v := noneV 2) (by simp [results, Tryd.results40, go_sem, noneV, S4.c0, S4.c1, S4.c2, S4.c3]) rfl ⟨rfl, set4_below (below_drewC HB.out n) (Nat.le_refl _) _ _ _ _⟩
    · rw [if_neg h2]
      have d2 : ((K : Int) == 0) = false := by simp [h2]
      clear h2 hK
      go_enter Tryd.func40, Tryd.ntmps40
      go_wp2_with (first | (go_at_call 72; (with_reducible refine (HLE.out _).mono ?_); rintro e w1 ⟨rfl, rfl⟩) | (go_at_call 73; (with_reducible refine (HFI.out _ (HC.out.below HB.out)).mono ?_); rintro e w2 ⟨rfl, n, rfl⟩) | (go_at_call 74; (with_reducible refine (HRD.out _).mono ?_); rintro e w3 ⟨rfl, hb⟩; have HA3 := Lib.hid ((HA.out.drewN n).below hb); have HB3 := Lib.hid ((below_drewC HB.out n).trans (hb.mono HB.out.size)); clear hb; obtain ⟨c0, c1, c2, c3, f0, f1, f2, f3, fl⟩ := HA3.out))
      have S4 := stored4 (.int .i64 r0) (.int .i64 r1) (.int .i64 r2) (.bool rb) HA3.out
      exact bodyPost_ret (v := .tuple #[.agg #[.int .i64 r0, .int .i64 r1, .int .i64 r2, .bool rb], .int .i64 (L : Int), .int .i64 0]) (by simp [results, Tryd.results40, go_sem, S4.c0, S4.c1, S4.c2, S4.c3]) rfl ⟨rfl, set4_below HB3.out (Nat.le_refl _) _ _ _ _⟩
/-- what Get answers -/
def cgetE (s : List UInt8) (wide : Bool) : Value := match s with
  | [] => noneV 4
  | x :: t => if lenD (x.toNat : Int) wide = 2 then (match t with
      | [] => noneV 4
      | y :: _ => if findD (x.toNat : Int) wide = 0 then noneV 2 else .tuple #[read2V (findD (x.toNat : Int) wide : Nat) x y, .int .i64 2, .int .i64 0])
    else if findD (x.toNat : Int) wide = 0 then noneV 2 else .tuple #[read1V (findD (x.toNat : Int) wide : Nat) x, .int .i64 1, .int .i64 0]
theorem extract_one (x : UInt8) (t : List UInt8) : ByteArray.extract ⟨(x :: t).toArray⟩ 0 1 = ⟨#[x]⟩ := by
  apply bytes_ext'
  simp
theorem extract_two (x y : UInt8) (t : List UInt8) : ByteArray.extract ⟨(x :: y :: t).toArray⟩ 0 2 = ⟨#[x, y]⟩ := by
  apply bytes_ext'
  simp
theorem ctlget_any (s : List UInt8) (wide : Bool) (w : World) (hC : CodesOk w) :
    Calls Tryd.prog 40 #[.string ⟨s.toArray⟩, .bool wide] w fun e w' => e = .returned (cgetE s wide) ∧ Below w.heap.size w w' := by
  cases s with
  | nil => exact cget_nil wide w
  | cons x t =>
    dsimp only [cgetE]
    have n0 : 0 < (⟨(x :: t).toArray⟩ : ByteArray).size := by show 0 < (x :: t).toArray.size; simp
    by_cases h2 : lenD (x.toNat : Int) wide = 2
    · rw [if_pos h2]
      cases t with
      | nil =>
        have k := cget_at ⟨[x].toArray⟩ wide w hC n0 2 _ h2 rfl (by omega) _ ⟨#[x, x]⟩ _ _ _ _ rfl (fun h => absurd h (by show ¬ 2 ≤ 1; omega)) (fun W => read2_any _ x x W)
        exact k.mono fun e w' hq => ⟨hq.1.trans (congrArg Ending.returned (if_pos (show 1 < 2 by omega))), hq.2⟩
      | cons y t =>
        have k := cget_at ⟨(x :: y :: t).toArray⟩ wide w hC n0 2 _ h2 rfl (by omega) _ ⟨#[x, y]⟩ _ _ _ _ rfl (fun h => extract_two x y t) (fun W => read2_any _ x y W)
        exact k.mono fun e w' hq => ⟨hq.1.trans (congrArg Ending.returned (if_neg (show ¬ (x :: y :: t).toArray.size < 2 by simp))), hq.2⟩
    · have h1 : lenD (x.toNat : Int) wide = 1 := (lenD_two _ _).resolve_right h2
      rw [if_neg h2]
      have k := cget_at ⟨(x :: t).toArray⟩ wide w hC n0 1 _ h1 rfl (by omega) _ ⟨#[x]⟩ _ _ _ _ rfl (fun h => extract_one x t) (fun W => read1_any _ x W)
      exact k.mono fun e w' hq => ⟨hq.1.trans (congrArg Ending.returned (if_neg (show ¬ (x :: t).toArray.size < 1 by simp))), hq.2⟩
end Go.Proofs.YtfmcngchcalcmaaDoor
