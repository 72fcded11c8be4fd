/-
The landed queue: all that wait (slices.Grow, slices.Concat), which class there is.
-/
import Derived.Test.YtliamhphpnifaaaTxqMem
import Derived.Lib.MinMax
namespace Go.Proofs.Ytliamhphpnifaaa
open Go.RowKit
set_option maxRecDepth 20000
theorem ccls16 (n : Int) (w : World) : Calls Try.prog 23 #[.int .i64 n] w fun e w' => e = .returned (.bool (decide (0 ≤ n) && decide (n ≤ 2))) ∧ w' = w := by
  by_cases h0 : 0 ≤ n
  · by_cases h1 : n ≤ 2
    · go_enter Try.func23, Try.ntmps23
      go_wp2
      go_ret
      exact ⟨by simp [h0, h1], rfl⟩
    · go_enter Try.func23, Try.ntmps23
      go_wp2
      go_ret
      exact ⟨by simp [h1], rfl⟩
  · go_enter Try.func23, Try.ntmps23
    go_wp2
    go_ret
    exact ⟨by simp; omega, rfl⟩
/-- the first classes, joined -/
def joinU (M : Nat → List Ent) (i : Nat) : List Ent := (List.range i).flatMap M
theorem joinU_next (M : Nat → List Ent) (i : Nat) : joinU M (i + 1) = joinU M i ++ M i := by
  unfold joinU
  rw [List.range_succ, List.flatMap_append, List.flatMap_singleton]
theorem joinU_three (M : Nat → List Ent) : joinU M 3 = M 0 ++ (M 1 ++ M 2) := by
  rw [joinU_next, joinU_next, joinU_next]
  show (([] ++ M 0) ++ M 1) ++ M 2 = _
  rw [List.nil_append, List.append_assoc]
theorem joinU_le (M : Nat → List Ent) (hl : ∀ i, i < 3 → (M i).length ≤ 100) (i : Nat) (hi : i ≤ 3) : (joinU M i).length ≤ 300 := by
  obtain rfl | rfl | rfl | rfl : i = 0 ∨ i = 1 ∨ i = 2 ∨ i = 3 := by omega
  · exact Nat.zero_le _
  · rw [joinU_next, List.length_append]
    have := hl 0 (by omega)
    show 0 + _ ≤ _
    omega
  · rw [joinU_next, joinU_next, List.length_append, List.length_append]
    have := hl 0 (by omega)
    have := hl 1 (by omega)
    show 0 + _ + _ ≤ _
    omega
  · rw [joinU_next, joinU_next, joinU_next, List.length_append, List.length_append, List.length_append]
    have := hl 0 (by omega)
    have := hl 1 (by omega)
    have := hl 2 (by omega)
    show 0 + _ + _ + _ ≤ _
    omega
set_option maxHeartbeats 1000000 in
theorem cgrow16 (n : Nat) (w : World) (hn : n ≤ 1000) : Calls Try.prog 31 #[.slice none 0 0, .int .i64 n] w fun e w' => ∃ v, e = .returned v ∧ OwnW w' w.heap.size v [] ∧ Below w.heap.size w w' := by
  have h1 : ¬ ((n : Int) < 0) := by omega
  have h3 : wrap64 (n : Int) = (n : Int) := by unfold wrap64; omega
  by_cases h0 : n = 0
  · subst h0
    clear h1 h3
    go_enter Try.func31, Try.ntmps31
    go_wp2_with fail
    exact bodyPost_ret (v := .slice none 0 0) (by simp [results, Try.results31, go_sem]) rfl ⟨_, rfl, OwnL.nil _ _ _ _, Below.refl _ _⟩
  · have h4 : (n : Int) > 0 := by omega
    obtain ⟨c, W, hc1, hc2, hr, ho, hb⟩ := append_zeros16 w 51 n (by omega) hn
    have hc3 : c ≤ 9223372036854775807 := by unfold maxLen at hc2; omega
    have HE := Lib.hid (And.intro ho hb)
    clear ho hb hc2 h0
    go_enter Try.func31, Try.ntmps31
    go_wp2_with (at_builtin; refine Lib.wpList_append_run _ rfl _ _ _ _ rfl _ _ rfl rfl _ _ hr ?_)
    all_goals exact bodyPost_ret (v := .slice (some ⟨w.heap.size, 0, none⟩) 0 c) (by simp [results, Try.results31, go_sem]) rfl ⟨_, rfl, HE.out⟩
set_option maxHeartbeats 1000000 in
theorem cconcat16 (q : Nat) (u : Nat → Value) (M : Nat → List Ent) (w : World) (h : QuAt w q u M) (hl : ∀ i, i < 3 → (M i).length ≤ 100) : Calls Try.prog 30 #[.slice (some ⟨q, 0, none⟩) 3 3] w fun e w' =>
    ∃ v, e = .returned v ∧ OwnW w' w.heap.size v (joinU M 3) ∧ Below w.heap.size w w' := by
  have HQ := Lib.hid h
  have HL := Lib.hid hl
  have HG := Lib.hid (fun n W hn => cgrow16 n W hn)
  clear h hl
  go_enter Try.func30, Try.ntmps30
  go_wp2_with fail
  go_loopw [3, 11] (fun sv iv wx => ∃ i : Nat, i ≤ 3 ∧ iv = .int .i64 i ∧ sv = .int .i64 ((joinU M i).length : Nat) ∧ w = wx) (fun _ iv _ => 3 - (intOf iv).toNat)
  case atStart => exact ⟨0, Nat.zero_le _, rfl, rfl, by first | rfl | trivial⟩
  case round =>
    obtain ⟨i, hi, rfl, rfl, rfl⟩ := hrel
    by_cases hlt : i < 3
    · have c0 := HQ.out.cell i hlt
      obtain ⟨a, c, hv⟩ := (HQ.out.own i hlt).form16
      have hle := joinU_le M HL.out i hi
      have hle2 := HL.out i hlt
      have HJ := Lib.hid (show (joinU M (i + 1)).length = (joinU M i).length + (M i).length from by rw [joinU_next, List.length_append])
      rw [hv] at c0
      clear hv
      generalize (joinU M i).length = n1 at *
      generalize (M i).length = n2 at *
      obtain ⟨n3, hn3⟩ : ∃ n3, n3 = n1 + n2 := ⟨_, rfl⟩
      have hz : wrap64 ((n1 : Int) + (n2 : Int)) = (n3 : Int) := by unfold wrap64; omega
      have hneg : ¬ ((n3 : Int) < 0) := by omega
      have HN3 := Lib.hid hn3
      clear hn3 hle hle2
      go_wp2_with fail
      go_roundw
      case rel => exact ⟨i + 1, by omega, rfl, by rw [HJ.out, ← HN3.out, hz], by first | rfl | trivial⟩
      case measure => simp [intOf]; omega
    · have e : i = 3 := by omega
      subst e
      have hle := joinU_le M HL.out 3 (by omega)
      obtain ⟨n, hn⟩ : ∃ n, n = (joinU M 3).length := ⟨_, rfl⟩
      rw [← hn] at hle ⊢
      clear hn
      go_wp2_with (go_at_call 31; (with_reducible refine (HG.out n _ (by omega)).mono ?_); rintro e w1 ⟨v0, rfl, ho, hb⟩; have HK0 := Lib.hid (And.intro ho hb); clear ho hb)
      go_loopw [6, 27] (fun sv iv wx => ∃ (i : Nat) (tv : Value), i ≤ 3 ∧ iv = .int .i64 i ∧ tv = sv ∧ Hid (OwnW wx w.heap.size tv (joinU M i) ∧ Below w.heap.size w wx)) (fun _ iv _ => 3 - (intOf iv).toNat)
      case atStart => exact ⟨0, _, Nat.zero_le _, rfl, rfl, HK0⟩
      case round =>
        obtain ⟨i, tv, hi, rfl, rfl, HK⟩ := hrel
        clear HK0
        by_cases hlt : i < 3
        · have c0 := (HQ.out.below HK.out.2).cell i hlt
          have hle1 := joinU_le M HL.out i hi
          have hle2 := HL.out i hlt
          obtain ⟨v2, w2, hr, h2, h3, h4⟩ := append_own16 wr 51 tv (u i) w.heap.size 0 (joinU M i) (M i) HK.out.1 ((HQ.out.below HK.out.2).own i hlt) (by omega) HK.out.2.size
          have HK2 := Lib.hid (And.intro h2 (HK.out.1.appended HK.out.2 (Nat.le_refl _) HK.out.2.size h3))
          clear h2 h3 h4 hle1 hle2 hle
          generalize u i = uv at *
          go_wp2_with (at_builtin; refine Lib.wpList_append_run _ rfl _ _ _ _ rfl _ _ rfl rfl _ _ hr ?_)
          go_roundw
          case rel => exact ⟨i + 1, v2, by omega, rfl, rfl, Lib.hid ⟨by rw [joinU_next]; exact HK2.out.1, HK2.out.2⟩⟩
          case measure => simp [intOf]; omega
        · have e : i = 3 := by omega
          subst e
          go_wp2_with fail
          exact bodyPost_ret (v := tv) (by simp [results, Try.results30, go_sem]) rfl ⟨tv, rfl, HK.out.1, HK.out.2⟩
set_option maxHeartbeats 1000000 in
theorem call16_nil (w : World) : Calls Try.prog 28 #[.pointer none] w fun e w' => e = .returned (.slice none 0 0) ∧ w' = w := by
  go_enter Try.func28, Try.ntmps28
  go_wp2_with fail
  exact bodyPost_ret (v := .slice none 0 0) (by simp [results, Try.results28, go_sem]) rfl ⟨rfl, rfl⟩
set_option maxHeartbeats 1000000 in
theorem call16_at (q : Nat) (u : Nat → Value) (M : Nat → List Ent) (w : World) (h : QuAt w q u M) (hl : ∀ i, i < 3 → (M i).length ≤ 100) : Calls Try.prog 28 #[ptrQ q] w fun e w' =>
    ∃ v, e = .returned v ∧ OwnW w' w.heap.size v (joinU M 3) ∧ Below w.heap.size w w' := by
  have HC := Lib.hid (cconcat16 q u M w h hl)
  have hc := h.cell 0 (by omega)
  clear h hl
  go_enter Try.func28, Try.ntmps28
  go_wp2_with (go_at_call 30; (with_reducible refine HC.out.mono ?_); rintro e w1 ⟨v, rfl, hd⟩; have HD := Lib.hid hd; clear hd)
  exact bodyPost_ret (v := v) (by simp [results, Try.results28, go_sem]) rfl ⟨v, rfl, HD.out⟩
/-- all, of any queue -/
theorem call16_any (q : Nat) (S : List Ent) (F : Nat → Prop) (w : World) (h : QuL w q S F) : Calls Try.prog 28 #[ptrQ q] w fun e w' => ∃ v, e = .returned v ∧ OwnW w' w.heap.size v S ∧ Below w.heap.size w w' := by
  obtain ⟨u, h1, h2, -⟩ := h
  have e : joinU (fun i => ofC (i : Int) S) 3 = S := by rw [joinU_three]; exact h2.parts.symm
  have := call16_at q u _ w h1 (fun i _ => Nat.le_trans (List.length_filter_le _ _) (Nat.le_trans h2.many (by omega)))
  rw [e] at this
  exact this
end Go.Proofs.Ytliamhphpnifaaa
