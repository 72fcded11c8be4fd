/-
The landed code's bit, text, controlSize, areNumbers and Right.
-/
import Derived.Test.YtdaagllacmnekaaRepCMarks
import Derived.Test.YtdaagllacmnekaaFacts
namespace Go.Proofs.Ytdaagllacmnekaa
open Go.RowKit
set_option maxRecDepth 20000
theorem cbit_any (on : Bool) (b : Int) (w : World) : Calls Try.prog 27 #[.bool on, .int .u8 b] w fun e w' => e = .returned (.int .u8 (bitR on b)) ∧ w' = w := by
  cases on
  all_goals
    go_enter Try.func27, Try.ntmps27
    go_wp2
    go_ret
    exact ⟨rfl, rfl⟩
/-- bytes as a text: a function whose last parameter is any number of them -/
theorem ctext_of (g cap : Nat) (l : List UInt8) (w : World) (h : BytesAt w g l) : Calls Try.prog 26 #[.slice (some ⟨g, 0, none⟩) l.length cap] w fun e w' => e = .returned (.string ⟨l.toArray⟩) ∧ w' = w := by
  have hc := BytesAt.conv (cap := cap) h
  generalize l.length = n at *
  go_enter Try.func26, Try.ntmps26
  go_wp2_with fail
  go_ret
  exact ⟨rfl, rfl⟩
/-- how many bytes of a control there is room for -/
def roomR (wide : Bool) : Int := if wide then 2 else 1
theorem croom_any (wide : Bool) (w : World) : Calls Try.prog 15 #[.bool wide] w fun e w' => e = .returned (.int .i64 (roomR wide)) ∧ w' = w := by
  cases wide
  all_goals
    go_enter Try.func15, Try.ntmps15
    go_wp2
    go_ret
    exact ⟨rfl, rfl⟩
theorem numR_no {n : Int} {wide : Bool} (h : numR n wide = false) : n < 0 ∨ (if wide then 127 else 7) < n := by
  simp [numR] at h
  cases wide <;> simp at h ⊢ <;> omega
theorem numR_yes {n : Int} {wide : Bool} (h : numR n wide = true) : ¬ n < 0 ∧ ¬ (if wide then 127 else 7) < n := by
  have ⟨a, b, c⟩ := numR_facts h
  cases wide
  · have := c rfl
    simp
    omega
  · simp
    omega
set_option maxHeartbeats 1000000 in
/-- two numbers, handed over as a slice -/
theorem cnums_any (wide : Bool) (g : Nat) (vs vr : Int) (w : World) (h : RowAt w g [.int .i64 vs, .int .i64 vr]) : Calls Try.prog 18 #[.bool wide, .slice (some ⟨g, 0, none⟩) 2 2] w fun e w' => e = .returned (.bool (numR vs wide && numR vr wide)) ∧ w' = w := by
  have c0 := h.cell 0 rfl
  have c1 := h.cell 1 rfl
  clear h
  generalize hA : numR vs wide = A at *
  generalize hB : numR vr wide = B at *
  cases wide
  · go_enter Try.func18, Try.ntmps18
    go_wp2
    go_loop [7, 11] (fun n i => ∃ j : Nat, j ≤ 2 ∧ i = .int .i64 j ∧ (1 ≤ j → A = true) ∧ (2 ≤ j → B = true)) (fun _ i => 2 - (intOf i).toNat)
    case atStart => exact ⟨0, by omega, rfl, by omega, by omega⟩
    case round =>
      obtain ⟨j, hj, rfl, k1, k2⟩ := hrel
      obtain rfl | rfl | rfl : j = 0 ∨ j = 1 ∨ j = 2 := by omega
      · cases A
        · rcases numR_no hA with n1 | n2
          · go_wp2
            go_ret
            exact ⟨rfl, rfl⟩
          · simp at n2
            have n1 : ¬ vs < 0 := by omega
            go_wp2
            go_ret
            exact ⟨rfl, rfl⟩
        · obtain ⟨n1, n2⟩ := numR_yes hA
          simp at n2
          go_wp2
          go_round
          case rel => exact ⟨1, by omega, by go_num, fun _ => trivial, by omega⟩
          case measure => simp [intOf]
      · obtain rfl : A = true := k1 (by omega)
        cases B
        · rcases numR_no hB with n1 | n2
          · go_wp2
            go_ret
            exact ⟨rfl, rfl⟩
          · simp at n2
            have n1 : ¬ vr < 0 := by omega
            go_wp2
            go_ret
            exact ⟨rfl, rfl⟩
        · obtain ⟨n1, n2⟩ := numR_yes hB
          simp at n2
          go_wp2
          go_round
          case rel => exact ⟨2, by omega, by go_num, fun _ => trivial, fun _ => trivial⟩
          case measure => simp [intOf]
      · obtain rfl : A = true := k1 (by omega)
        obtain rfl : B = true := k2 (by omega)
        go_wp2
        go_ret
        exact ⟨rfl, rfl⟩
  · go_enter Try.func18, Try.ntmps18
    go_wp2
    go_loop [7, 11] (fun n i => ∃ j : Nat, j ≤ 2 ∧ i = .int .i64 j ∧ (1 ≤ j → A = true) ∧ (2 ≤ j → B = true)) (fun _ i => 2 - (intOf i).toNat)
    case atStart => exact ⟨0, by omega, rfl, by omega, by omega⟩
    case round =>
      obtain ⟨j, hj, rfl, k1, k2⟩ := hrel
      obtain rfl | rfl | rfl : j = 0 ∨ j = 1 ∨ j = 2 := by omega
      · cases A
        · rcases numR_no hA with n1 | n2
          · go_wp2
            go_ret
            exact ⟨rfl, rfl⟩
          · simp at n2
            have n1 : ¬ vs < 0 := by omega
            go_wp2
            go_ret
            exact ⟨rfl, rfl⟩
        · obtain ⟨n1, n2⟩ := numR_yes hA
          simp at n2
          go_wp2
          go_round
          case rel => exact ⟨1, by omega, by go_num, fun _ => trivial, by omega⟩
          case measure => simp [intOf]
      · obtain rfl : A = true := k1 (by omega)
        cases B
        · rcases numR_no hB with n1 | n2
          · go_wp2
            go_ret
            exact ⟨rfl, rfl⟩
          · simp at n2
            have n1 : ¬ vr < 0 := by omega
            go_wp2
            go_ret
            exact ⟨rfl, rfl⟩
        · obtain ⟨n1, n2⟩ := numR_yes hB
          simp at n2
          go_wp2
          go_round
          case rel => exact ⟨2, by omega, by go_num, fun _ => trivial, fun _ => trivial⟩
          case measure => simp [intOf]
      · obtain rfl : A = true := k1 (by omega)
        obtain rfl : B = true := k2 (by omega)
        go_wp2
        go_ret
        exact ⟨rfl, rfl⟩
theorem toList_nil {c : ByteArray} (h : c.size = 0) : c.toList = [] := by
  rw [ByteArray.toList_eq]
  exact List.length_eq_zero_iff.1 (by simpa using h)
theorem toList_some {c : ByteArray} (h : c.size ≠ 0) : c.toList ≠ [] := by
  rw [ByteArray.toList_eq]
  intro he
  exact h (by simpa using congrArg List.length he)
set_option maxHeartbeats 1000000 in
theorem cright9_any (r : Rp) (wide : Bool) (w : World) : Calls Try.prog 9 #[repV r, .bool wide] w fun e w' => e = .returned (.bool (rightR r wide)) ∧ Below w.heap.size w w' := by
  obtain ⟨c, vs, vr, re, m0, m1, m2, m3⟩ := r
  have HR := Lib.hid (RowAt.new w w.heap.size rfl (rowR ⟨c, vs, vr, re, m0, m1, m2, m3⟩) 23)
  have HB := Lib.hid ((Below.refl _ w).alloc (Nat.le_refl _) (.cells (rowR ⟨c, vs, vr, re, m0, m1, m2, m3⟩).toArray 23))
  simp only [rowR] at HR HB
  have HS := Lib.hid (fun W => croom_any wide W)
  have HN := Lib.hid (fun g W (h : RowAt W g [.int .i64 vs, .int .i64 vr]) => cnums_any wide g vs vr W h)
  unfold rightR repV
  simp only
  generalize numR vs wide = A at *
  generalize numR vr wide = B at *
  go_enter Try.func9, Try.ntmps9
  go_upto_region 1 with (fail)
  by_cases h0 : c.size = 0
  · have q1 : (c.toList == []) = true := by simpa using toList_nil h0
    have e0 : sizeR c.size wide = false := by simp [sizeR, h0]
    refine wp_region_facts (fun W W' => Below W.heap.size W W') (fun W => RowAt W w.heap.size [.string c, .int .i64 vs, .int .i64 vr, .bool re, .bool m0, .bool m1, .bool m2, .bool m3] ∧ Below w.heap.size w W) (factsOf [.is (.pointer (some ⟨w.heap.size, 0, none⟩)), .is (.string c), .is (.bool false), .is (.bool false), .any, .any, .any, .any, .any, .any, .is (.bool false), .is (.bool false), .any, .any, .any, .any, .any, .any, .any, .is (.bool false), .is (.bool false)]) (by kernel_rfl) (by kernel_rfl) (facts_stay _) (fun W W' hb h => ⟨h.1.below hb, h.2.trans (hb.mono h.2.size)⟩) (fun i => if i = 20 then .bool false else undef) (by kernel_rfl) ⟨HR.out.drew, HB.out.drew⟩ ?Fa ?hFa ?hstepa ?henda
    case hFa =>
      intro u
      simp only [fillAct]
      go_simp
      rfl
    case hstepa =>
      refine FSteps.cons ?_ ?_
      · intro u W hS hd K hK
        clear hd
        simp only [upd, reduceIte, Nat.reduceEqDiff] at hK
        go_simp
        exact hK.out _ _ (Below.refl _ _) rfl
      refine FSteps.cons ?_ ?_
      · intro u W hS hd K hK
        have h0 : u 0 = _ := hd 0 rfl
        clear hd
        simp only [upd, h0, reduceIte, Nat.reduceEqDiff] at hK
        have c0 := hS.1.cell 0 rfl
        go_simp
        exact hK.out _ _ (Below.refl _ _) rfl
      refine FSteps.cons ?_ ?_
      · intro u W hS hd K hK
        have h1 : u 1 = _ := hd 1 rfl
        clear hd
        simp only [upd, h1, reduceIte, Nat.reduceEqDiff] at hK
        go_simp
        exact hK.out _ _ (Below.refl _ _) rfl
      refine FSteps.cons ?_ ?_
      · intro u W hS hd K hK
        have h2 : u 2 = _ := hd 2 rfl
        clear hd
        simp only [upd, h2, reduceIte, Nat.reduceEqDiff] at hK
        go_simp
        exact hK.out _ _ (Below.refl _ _) rfl
      refine FSteps.cons ?_ ?_
      · intro u W hS hd K hK
        have h3 : u 3 = _ := hd 3 rfl
        clear hd
        simp only [upd, h3, reduceIte, Nat.reduceEqDiff] at hK
        go_simp
        exact hK.out undef _ (Below.refl _ _) trivial
      refine FSteps.cons ?_ ?_
      · intro u W hS hd K hK
        have h3 : u 3 = _ := hd 3 rfl
        clear hd
        simp only [upd, h3, reduceIte, Nat.reduceEqDiff] at hK
        go_simp
        exact hK.out undef _ (Below.refl _ _) trivial
      refine FSteps.cons ?_ ?_
      · intro u W hS hd K hK
        have h3 : u 3 = _ := hd 3 rfl
        clear hd
        simp only [upd, h3, reduceIte, Nat.reduceEqDiff] at hK
        go_simp
        exact hK.out undef _ (Below.refl _ _) trivial
      refine FSteps.cons ?_ ?_
      · intro u W hS hd K hK
        have h3 : u 3 = _ := hd 3 rfl
        clear hd
        simp only [upd, h3, reduceIte, Nat.reduceEqDiff] at hK
        go_simp
        exact hK.out undef _ (Below.refl _ _) trivial
      refine FSteps.cons ?_ ?_
      · intro u W hS hd K hK
        have h3 : u 3 = _ := hd 3 rfl
        clear hd
        simp only [upd, h3, reduceIte, Nat.reduceEqDiff] at hK
        go_simp
        exact hK.out undef _ (Below.refl _ _) trivial
      refine FSteps.cons ?_ ?_
      · intro u W hS hd K hK
        have h3 : u 3 = _ := hd 3 rfl
        clear hd
        simp only [upd, h3, reduceIte, Nat.reduceEqDiff] at hK
        go_simp
        exact hK.out undef _ (Below.refl _ _) trivial
      refine FSteps.cons ?_ ?_
      · intro u W hS hd K hK
        have h3 : u 3 = _ := hd 3 rfl
        clear hd
        simp only [upd, h3, reduceIte, Nat.reduceEqDiff] at hK
        go_simp
        exact hK.out _ _ (Below.refl _ _) rfl
      refine FSteps.cons ?_ ?_
      · intro u W hS hd K hK
        have h10 : u 10 = _ := hd 10 rfl
        clear hd
        simp only [upd, h10, reduceIte, Nat.reduceEqDiff] at hK
        go_simp
        exact hK.out _ _ (Below.refl _ _) rfl
      refine FSteps.cons ?_ ?_
      · intro u W hS hd K hK
        have h11 : u 11 = _ := hd 11 rfl
        clear hd
        simp only [upd, h11, reduceIte, Nat.reduceEqDiff] at hK
        go_simp
        exact hK.out undef _ (Below.refl _ _) trivial
      refine FSteps.cons ?_ ?_
      · intro u W hS hd K hK
        have h11 : u 11 = _ := hd 11 rfl
        clear hd
        simp only [upd, h11, reduceIte, Nat.reduceEqDiff] at hK
        go_simp
        exact hK.out undef _ (Below.refl _ _) trivial
      refine FSteps.cons ?_ ?_
      · intro u W hS hd K hK
        have h11 : u 11 = _ := hd 11 rfl
        clear hd
        simp only [upd, h11, reduceIte, Nat.reduceEqDiff] at hK
        go_simp
        exact hK.out undef _ (Below.refl _ _) trivial
      refine FSteps.cons ?_ ?_
      · intro u W hS hd K hK
        have h11 : u 11 = _ := hd 11 rfl
        clear hd
        simp only [upd, h11, reduceIte, Nat.reduceEqDiff] at hK
        go_simp
        exact hK.out undef _ (Below.refl _ _) trivial
      refine FSteps.cons ?_ ?_
      · intro u W hS hd K hK
        have h11 : u 11 = _ := hd 11 rfl
        clear hd
        simp only [upd, h11, reduceIte, Nat.reduceEqDiff] at hK
        go_simp
        exact hK.out undef _ (Below.refl _ _) trivial
      refine FSteps.cons ?_ ?_
      · intro u W hS hd K hK
        have h11 : u 11 = _ := hd 11 rfl
        clear hd
        simp only [upd, h11, reduceIte, Nat.reduceEqDiff] at hK
        go_simp
        exact hK.out undef _ (Below.refl _ _) trivial
      refine FSteps.cons ?_ ?_
      · intro u W hS hd K hK
        have h11 : u 11 = _ := hd 11 rfl
        clear hd
        simp only [upd, h11, reduceIte, Nat.reduceEqDiff] at hK
        go_simp
        exact hK.out undef _ (Below.refl _ _) trivial
      refine FSteps.cons ?_ ?_
      · intro u W hS hd K hK
        have h11 : u 11 = _ := hd 11 rfl
        clear hd
        simp only [upd, h11, reduceIte, Nat.reduceEqDiff] at hK
        go_simp
        exact hK.out _ _ (Below.refl _ _) rfl
      refine FSteps.cons ?_ ?_
      · intro u W hS hd K hK
        have h19 : u 19 = _ := hd 19 rfl
        clear hd
        simp only [upd, h19, reduceIte, Nat.reduceEqDiff] at hK
        go_simp
        exact hK.out _ _ (Below.refl _ _) rfl
      exact trivial
    case henda =>
      intro u w6 hS hd
      have h20 : u 20 = _ := hd 20 rfl
      have HB6 := Lib.hid hS.2
      clear hd hS HR HB
      rw [h20]
      go_wp2_with fail
      exact bodyPost_ret (v := .bool false) (by simp [results, Try.results9, go_sem]) rfl ⟨by first | rfl | (rw [e0]; cases A <;> cases B <;> rfl), HB6.out⟩
  · have q1 : (c.toList == []) = false := by simpa using toList_some h0
    by_cases h1 : (c.size : Int) ≤ roomR wide
    · have e0 : sizeR c.size wide = true := by cases wide <;> simp [sizeR, roomR] at h1 ⊢ <;> omega
      refine wp_region_facts (fun W W' => Below W.heap.size W W') (fun W => RowAt W w.heap.size [.string c, .int .i64 vs, .int .i64 vr, .bool re, .bool m0, .bool m1, .bool m2, .bool m3] ∧ Below w.heap.size w W) (factsOf [.is (.pointer (some ⟨w.heap.size, 0, none⟩)), .is (.string c), .is (.bool true), .is (.bool true), .is (.pointer (some ⟨w.heap.size, 0, none⟩)), .is (.string c), .is (.int .i64 (c.size : Int)), .is (.bool wide), .is (.int .i64 (roomR wide)), .is (.bool true), .is (.bool true), .is (.bool true), .is (.bool wide), .is (.pointer (some ⟨w.heap.size, 1, none⟩)), .is (.int .i64 vs), .is (.pointer (some ⟨w.heap.size, 2, none⟩)), .is (.int .i64 vr), .vals [.int .i64 vs, .int .i64 vr], .is (.bool (A && B)), .is (.bool (A && B)), .is (.bool (A && B))]) (by kernel_rfl) (by kernel_rfl) (facts_stay _) (fun W W' hb h => ⟨h.1.below hb, h.2.trans (hb.mono h.2.size)⟩) (fun i => if i = 20 then .bool false else undef) (by kernel_rfl) ⟨HR.out.drew, HB.out.drew⟩ ?Fc ?hFc ?hstepc ?hendc
      case hFc =>
        intro u
        simp only [fillAct]
        go_simp
        rfl
      case hstepc =>
        refine FSteps.cons ?_ ?_
        · intro u W hS hd K hK
          clear hd
          simp only [upd, reduceIte, Nat.reduceEqDiff] at hK
          go_simp
          exact hK.out _ _ (Below.refl _ _) rfl
        refine FSteps.cons ?_ ?_
        · intro u W hS hd K hK
          have h0 : u 0 = _ := hd 0 rfl
          clear hd
          simp only [upd, h0, reduceIte, Nat.reduceEqDiff] at hK
          have c0 := hS.1.cell 0 rfl
          go_simp
          exact hK.out _ _ (Below.refl _ _) rfl
        refine FSteps.cons ?_ ?_
        · intro u W hS hd K hK
          have h1 : u 1 = _ := hd 1 rfl
          clear hd
          simp only [upd, h1, reduceIte, Nat.reduceEqDiff] at hK
          go_simp
          exact hK.out _ _ (Below.refl _ _) rfl
        refine FSteps.cons ?_ ?_
        · intro u W hS hd K hK
          have h2 : u 2 = _ := hd 2 rfl
          clear hd
          simp only [upd, h2, reduceIte, Nat.reduceEqDiff] at hK
          go_simp
          exact hK.out _ _ (Below.refl _ _) rfl
        refine FSteps.cons ?_ ?_
        · intro u W hS hd K hK
          have h3 : u 3 = _ := hd 3 rfl
          clear hd
          simp only [upd, h3, reduceIte, Nat.reduceEqDiff] at hK
          go_simp
          exact hK.out _ _ (Below.refl _ _) rfl
        refine FSteps.cons ?_ ?_
        · intro u W hS hd K hK
          have h3 : u 3 = _ := hd 3 rfl
          have h4 : u 4 = _ := hd 4 rfl
          clear hd
          simp only [upd, h3, h4, reduceIte, Nat.reduceEqDiff] at hK
          have c0 := hS.1.cell 0 rfl
          go_simp
          exact hK.out _ _ (Below.refl _ _) rfl
        refine FSteps.cons ?_ ?_
        · intro u W hS hd K hK
          have h3 : u 3 = _ := hd 3 rfl
          have h5 : u 5 = _ := hd 5 rfl
          clear hd
          simp only [upd, h3, h5, reduceIte, Nat.reduceEqDiff] at hK
          go_simp
          exact hK.out _ _ (Below.refl _ _) rfl
        refine FSteps.cons ?_ ?_
        · intro u W hS hd K hK
          have h3 : u 3 = _ := hd 3 rfl
          clear hd
          simp only [upd, h3, reduceIte, Nat.reduceEqDiff] at hK
          go_simp
          exact hK.out _ _ (Below.refl _ _) rfl
        refine FSteps.cons ?_ ?_
        · intro u W hS hd K hK
          have h3 : u 3 = _ := hd 3 rfl
          have h7 : u 7 = _ := hd 7 rfl
          clear hd
          simp only [upd, h3, h7, reduceIte, Nat.reduceEqDiff] at hK
          go_simp
          go_at_call 15
          refine (HS.out _).mono ?_
          rintro e wc ⟨rfl, rfl⟩
          exact hK.out _ _ (Below.refl _ _) rfl
        refine FSteps.cons ?_ ?_
        · intro u W hS hd K hK
          have h3 : u 3 = _ := hd 3 rfl
          have h6 : u 6 = _ := hd 6 rfl
          have h8 : u 8 = _ := hd 8 rfl
          clear hd
          simp only [upd, h3, h6, h8, reduceIte, Nat.reduceEqDiff] at hK
          go_simp
          exact hK.out _ _ (Below.refl _ _) rfl
        refine FSteps.cons ?_ ?_
        · intro u W hS hd K hK
          have h3 : u 3 = _ := hd 3 rfl
          have h9 : u 9 = _ := hd 9 rfl
          clear hd
          simp only [upd, h3, h9, reduceIte, Nat.reduceEqDiff] at hK
          go_simp
          exact hK.out _ _ (Below.refl _ _) rfl
        refine FSteps.cons ?_ ?_
        · intro u W hS hd K hK
          have h10 : u 10 = _ := hd 10 rfl
          clear hd
          simp only [upd, h10, reduceIte, Nat.reduceEqDiff] at hK
          go_simp
          exact hK.out _ _ (Below.refl _ _) rfl
        refine FSteps.cons ?_ ?_
        · intro u W hS hd K hK
          have h11 : u 11 = _ := hd 11 rfl
          clear hd
          simp only [upd, h11, reduceIte, Nat.reduceEqDiff] at hK
          go_simp
          exact hK.out _ _ (Below.refl _ _) rfl
        refine FSteps.cons ?_ ?_
        · intro u W hS hd K hK
          have h11 : u 11 = _ := hd 11 rfl
          clear hd
          simp only [upd, h11, reduceIte, Nat.reduceEqDiff] at hK
          go_simp
          exact hK.out _ _ (Below.refl _ _) rfl
        refine FSteps.cons ?_ ?_
        · intro u W hS hd K hK
          have h11 : u 11 = _ := hd 11 rfl
          have h13 : u 13 = _ := hd 13 rfl
          clear hd
          simp only [upd, h11, h13, reduceIte, Nat.reduceEqDiff] at hK
          have c0 := hS.1.cell 1 rfl
          go_simp
          exact hK.out _ _ (Below.refl _ _) rfl
        refine FSteps.cons ?_ ?_
        · intro u W hS hd K hK
          have h11 : u 11 = _ := hd 11 rfl
          clear hd
          simp only [upd, h11, reduceIte, Nat.reduceEqDiff] at hK
          go_simp
          exact hK.out _ _ (Below.refl _ _) rfl
        refine FSteps.cons ?_ ?_
        · intro u W hS hd K hK
          have h11 : u 11 = _ := hd 11 rfl
          have h15 : u 15 = _ := hd 15 rfl
          clear hd
          simp only [upd, h11, h15, reduceIte, Nat.reduceEqDiff] at hK
          have c0 := hS.1.cell 2 rfl
          go_simp
          exact hK.out _ _ (Below.refl _ _) rfl
        refine FSteps.cons ?_ ?_
        · intro u W hS hd K hK
          have h11 : u 11 = _ := hd 11 rfl
          have h14 : u 14 = _ := hd 14 rfl
          have h16 : u 16 = _ := hd 16 rfl
          clear hd
          simp only [upd, h11, h14, h16, reduceIte, Nat.reduceEqDiff] at hK
          go_simp
          exact hK.out _ _ ((Below.refl _ _).alloc (Nat.le_refl _) _) ⟨W.heap.size, rfl, RowAt.new W _ rfl [.int .i64 vs, .int .i64 vr] _⟩
        refine FSteps.cons ?_ ?_
        · intro u W hS hd K hK
          have h11 : u 11 = _ := hd 11 rfl
          have h12 : u 12 = _ := hd 12 rfl
          obtain ⟨g17, h17, b17⟩ : ∃ g, u 17 = .slice (some ⟨g, 0, none⟩) _ _ ∧ RowAt W g _ := hd 17 rfl
          clear hd
          simp only [upd, h11, h12, h17, reduceIte, Nat.reduceEqDiff] at hK
          go_simp
          go_at_call 18
          refine (HN.out _ _ b17).mono ?_
          rintro e wc ⟨rfl, rfl⟩
          exact hK.out _ _ (Below.refl _ _) rfl
        refine FSteps.cons ?_ ?_
        · intro u W hS hd K hK
          have h11 : u 11 = _ := hd 11 rfl
          have h18 : u 18 = _ := hd 18 rfl
          clear hd
          simp only [upd, h11, h18, reduceIte, Nat.reduceEqDiff] at hK
          go_simp
          exact hK.out _ _ (Below.refl _ _) rfl
        refine FSteps.cons ?_ ?_
        · intro u W hS hd K hK
          have h19 : u 19 = _ := hd 19 rfl
          clear hd
          simp only [upd, h19, reduceIte, Nat.reduceEqDiff] at hK
          go_simp
          exact hK.out _ _ (Below.refl _ _) rfl
        exact trivial
      case hendc =>
        intro u w6 hS hd
        have h20 : u 20 = _ := hd 20 rfl
        have HB6 := Lib.hid hS.2
        clear hd hS HR HB
        rw [h20]
        go_wp2_with fail
        exact bodyPost_ret (v := .bool (A && B)) (by simp [results, Try.results9, go_sem]) rfl ⟨by first | rfl | (rw [e0]; cases A <;> cases B <;> rfl), HB6.out⟩
    · have e0 : sizeR c.size wide = false := by cases wide <;> simp [sizeR, roomR] at h1 ⊢ <;> omega
      refine wp_region_facts (fun W W' => Below W.heap.size W W') (fun W => RowAt W w.heap.size [.string c, .int .i64 vs, .int .i64 vr, .bool re, .bool m0, .bool m1, .bool m2, .bool m3] ∧ Below w.heap.size w W) (factsOf [.is (.pointer (some ⟨w.heap.size, 0, none⟩)), .is (.string c), .is (.bool true), .is (.bool true), .is (.pointer (some ⟨w.heap.size, 0, none⟩)), .is (.string c), .is (.int .i64 (c.size : Int)), .is (.bool wide), .is (.int .i64 (roomR wide)), .is (.bool false), .is (.bool false), .is (.bool false), .any, .any, .any, .any, .any, .any, .any, .is (.bool false), .is (.bool false)]) (by kernel_rfl) (by kernel_rfl) (facts_stay _) (fun W W' hb h => ⟨h.1.below hb, h.2.trans (hb.mono h.2.size)⟩) (fun i => if i = 20 then .bool false else undef) (by kernel_rfl) ⟨HR.out.drew, HB.out.drew⟩ ?Fb ?hFb ?hstepb ?hendb
      case hFb =>
        intro u
        simp only [fillAct]
        go_simp
        rfl
      case hstepb =>
        refine FSteps.cons ?_ ?_
        · intro u W hS hd K hK
          clear hd
          simp only [upd, reduceIte, Nat.reduceEqDiff] at hK
          go_simp
          exact hK.out _ _ (Below.refl _ _) rfl
        refine FSteps.cons ?_ ?_
        · intro u W hS hd K hK
          have h0 : u 0 = _ := hd 0 rfl
          clear hd
          simp only [upd, h0, reduceIte, Nat.reduceEqDiff] at hK
          have c0 := hS.1.cell 0 rfl
          go_simp
          exact hK.out _ _ (Below.refl _ _) rfl
        refine FSteps.cons ?_ ?_
        · intro u W hS hd K hK
          have h1 : u 1 = _ := hd 1 rfl
          clear hd
          simp only [upd, h1, reduceIte, Nat.reduceEqDiff] at hK
          go_simp
          exact hK.out _ _ (Below.refl _ _) rfl
        refine FSteps.cons ?_ ?_
        · intro u W hS hd K hK
          have h2 : u 2 = _ := hd 2 rfl
          clear hd
          simp only [upd, h2, reduceIte, Nat.reduceEqDiff] at hK
          go_simp
          exact hK.out _ _ (Below.refl _ _) rfl
        refine FSteps.cons ?_ ?_
        · intro u W hS hd K hK
          have h3 : u 3 = _ := hd 3 rfl
          clear hd
          simp only [upd, h3, reduceIte, Nat.reduceEqDiff] at hK
          go_simp
          exact hK.out _ _ (Below.refl _ _) rfl
        refine FSteps.cons ?_ ?_
        · intro u W hS hd K hK
          have h3 : u 3 = _ := hd 3 rfl
          have h4 : u 4 = _ := hd 4 rfl
          clear hd
          simp only [upd, h3, h4, reduceIte, Nat.reduceEqDiff] at hK
          have c0 := hS.1.cell 0 rfl
          go_simp
          exact hK.out _ _ (Below.refl _ _) rfl
        refine FSteps.cons ?_ ?_
        · intro u W hS hd K hK
          have h3 : u 3 = _ := hd 3 rfl
          have h5 : u 5 = _ := hd 5 rfl
          clear hd
          simp only [upd, h3, h5, reduceIte, Nat.reduceEqDiff] at hK
          go_simp
          exact hK.out _ _ (Below.refl _ _) rfl
        refine FSteps.cons ?_ ?_
        · intro u W hS hd K hK
          have h3 : u 3 = _ := hd 3 rfl
          clear hd
          simp only [upd, h3, reduceIte, Nat.reduceEqDiff] at hK
          go_simp
          exact hK.out _ _ (Below.refl _ _) rfl
        refine FSteps.cons ?_ ?_
        · intro u W hS hd K hK
          have h3 : u 3 = _ := hd 3 rfl
          have h7 : u 7 = _ := hd 7 rfl
          clear hd
          simp only [upd, h3, h7, reduceIte, Nat.reduceEqDiff] at hK
          go_simp
          go_at_call 15
          refine (HS.out _).mono ?_
          rintro e wc ⟨rfl, rfl⟩
          exact hK.out _ _ (Below.refl _ _) rfl
        refine FSteps.cons ?_ ?_
        · intro u W hS hd K hK
          have h3 : u 3 = _ := hd 3 rfl
          have h6 : u 6 = _ := hd 6 rfl
          have h8 : u 8 = _ := hd 8 rfl
          clear hd
          simp only [upd, h3, h6, h8, reduceIte, Nat.reduceEqDiff] at hK
          go_simp
          exact hK.out _ _ (Below.refl _ _) rfl
        refine FSteps.cons ?_ ?_
        · intro u W hS hd K hK
          have h3 : u 3 = _ := hd 3 rfl
          have h9 : u 9 = _ := hd 9 rfl
          clear hd
          simp only [upd, h3, h9, reduceIte, Nat.reduceEqDiff] at hK
          go_simp
          exact hK.out _ _ (Below.refl _ _) rfl
        refine FSteps.cons ?_ ?_
        · intro u W hS hd K hK
          have h10 : u 10 = _ := hd 10 rfl
          clear hd
          simp only [upd, h10, reduceIte, Nat.reduceEqDiff] at hK
          go_simp
          exact hK.out _ _ (Below.refl _ _) rfl
        refine FSteps.cons ?_ ?_
        · intro u W hS hd K hK
          have h11 : u 11 = _ := hd 11 rfl
          clear hd
          simp only [upd, h11, reduceIte, Nat.reduceEqDiff] at hK
          go_simp
          exact hK.out undef _ (Below.refl _ _) trivial
        refine FSteps.cons ?_ ?_
        · intro u W hS hd K hK
          have h11 : u 11 = _ := hd 11 rfl
          clear hd
          simp only [upd, h11, reduceIte, Nat.reduceEqDiff] at hK
          go_simp
          exact hK.out undef _ (Below.refl _ _) trivial
        refine FSteps.cons ?_ ?_
        · intro u W hS hd K hK
          have h11 : u 11 = _ := hd 11 rfl
          clear hd
          simp only [upd, h11, reduceIte, Nat.reduceEqDiff] at hK
          go_simp
          exact hK.out undef _ (Below.refl _ _) trivial
        refine FSteps.cons ?_ ?_
        · intro u W hS hd K hK
          have h11 : u 11 = _ := hd 11 rfl
          clear hd
          simp only [upd, h11, reduceIte, Nat.reduceEqDiff] at hK
          go_simp
          exact hK.out undef _ (Below.refl _ _) trivial
        refine FSteps.cons ?_ ?_
        · intro u W hS hd K hK
          have h11 : u 11 = _ := hd 11 rfl
          clear hd
          simp only [upd, h11, reduceIte, Nat.reduceEqDiff] at hK
          go_simp
          exact hK.out undef _ (Below.refl _ _) trivial
        refine FSteps.cons ?_ ?_
        · intro u W hS hd K hK
          have h11 : u 11 = _ := hd 11 rfl
          clear hd
          simp only [upd, h11, reduceIte, Nat.reduceEqDiff] at hK
          go_simp
          exact hK.out undef _ (Below.refl _ _) trivial
        refine FSteps.cons ?_ ?_
        · intro u W hS hd K hK
          have h11 : u 11 = _ := hd 11 rfl
          clear hd
          simp only [upd, h11, reduceIte, Nat.reduceEqDiff] at hK
          go_simp
          exact hK.out undef _ (Below.refl _ _) trivial
        refine FSteps.cons ?_ ?_
        · intro u W hS hd K hK
          have h11 : u 11 = _ := hd 11 rfl
          clear hd
          simp only [upd, h11, reduceIte, Nat.reduceEqDiff] at hK
          go_simp
          exact hK.out _ _ (Below.refl _ _) rfl
        refine FSteps.cons ?_ ?_
        · intro u W hS hd K hK
          have h19 : u 19 = _ := hd 19 rfl
          clear hd
          simp only [upd, h19, reduceIte, Nat.reduceEqDiff] at hK
          go_simp
          exact hK.out _ _ (Below.refl _ _) rfl
        exact trivial
      case hendb =>
        intro u w6 hS hd
        have h20 : u 20 = _ := hd 20 rfl
        have HB6 := Lib.hid hS.2
        clear hd hS HR HB
        rw [h20]
        go_wp2_with fail
        exact bodyPost_ret (v := .bool false) (by simp [results, Try.results9, go_sem]) rfl ⟨by first | rfl | (rw [e0]; cases A <;> cases B <;> rfl), HB6.out⟩
end Go.Proofs.Ytdaagllacmnekaa
