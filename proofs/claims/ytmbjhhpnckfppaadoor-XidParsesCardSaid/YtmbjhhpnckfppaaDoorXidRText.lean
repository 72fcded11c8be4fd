/-
The document's own Text.
-/
import Derived.Test.YtmbjhhpnckfppaaDoorXidText
namespace Go.Proofs.YtmbjhhpnckfppaaDoor
open Go.RowKit Go.Sort
set_option maxRecDepth 20000
theorem size_c1 : (⟨#[78, 49, 61]⟩ : ByteArray).size = 3 := rfl
theorem size_c2 : (⟨#[32, 75, 61]⟩ : ByteArray).size = 3 := rfl
theorem size_c3 : (⟨#[32, 84, 49, 61]⟩ : ByteArray).size = 4 := rfl
theorem size_c4 : (⟨#[32, 78, 50, 61]⟩ : ByteArray).size = 4 := rfl
theorem dig_len (n : Int) (h : 0 ≤ n ∧ n ≤ 999) : (⟨(Lib.itoa n).toArray⟩ : ByteArray).size ≤ 3 := by
  have := itoa_len n h
  show (List.toArray _).size ≤ 3
  simpa using this
set_option maxHeartbeats 2000000 in
theorem rtext8_any (a b : Bool) (n k t r : Int) (w : World) (hr : rightX a b n k t r = true) : Calls Tryd.prog 9 #[.agg #[.bool a, .bool b, .int .i64 n, .int .i64 k, .int .i64 t, .int .i64 r]] w fun e w' => e = .returned (.string ⟨(textX a b n k t r).toArray⟩) ∧ Below w.heap.size w w' := by
  obtain ⟨n0, n1, k0, k1, t0, t1, r0, r1⟩ := rightX_facts hr
  have HA := Lib.hid (C6.new w w.heap.size rfl (.bool a) (.bool b) (.int .i64 n) (.int .i64 k) (.int .i64 t) (.int .i64 r) 27)
  have HB := Lib.hid ((Below.refl _ w).alloc (Nat.le_refl _) (.cells #[.bool a, .bool b, .int .i64 n, .int .i64 k, .int .i64 t, .int .i64 r] 27))
  have HD1 := Lib.hid (fun W => digits_any n W (by omega))
  have HD2 := Lib.hid (fun W => digits_any k W (by omega))
  have HD3 := Lib.hid (fun W => digits_any t W (by omega))
  have HD4 := Lib.hid (fun W => digits_any r W (by omega))
  have HSZ := Lib.hid (show (⟨(Lib.itoa n).toArray⟩ : ByteArray).size ≤ 3 ∧ (⟨(Lib.itoa k).toArray⟩ : ByteArray).size ≤ 3 ∧ (⟨(Lib.itoa t).toArray⟩ : ByteArray).size ≤ 3 ∧ (⟨(Lib.itoa r).toArray⟩ : ByteArray).size ≤ 3 from
    ⟨dig_len _ (by omega), dig_len _ (by omega), dig_len _ (by omega), dig_len _ (by omega)⟩)
  have HT := Lib.hid (show ∀ P : ByteArray, P.data.toList = preT a b → P ++ ⟨#[78, 49, 61]⟩ ++ ⟨(Lib.itoa n).toArray⟩ ++ ⟨#[32, 75, 61]⟩ ++ ⟨(Lib.itoa k).toArray⟩ ++ ⟨#[32, 84, 49, 61]⟩ ++ ⟨(Lib.itoa t).toArray⟩ ++ ⟨#[32, 78, 50, 61]⟩ ++ ⟨(Lib.itoa r).toArray⟩ = ⟨(textX a b n k t r).toArray⟩ from fun P hP => bytes_ext' (by simp [ByteArray.data_append, textX, wordT, hP]))
  generalize (⟨(textX a b n k t r).toArray⟩ : ByteArray) = R at *
  generalize (⟨(Lib.itoa n).toArray⟩ : ByteArray) = D1 at *
  generalize (⟨(Lib.itoa k).toArray⟩ : ByteArray) = D2 at *
  generalize (⟨(Lib.itoa t).toArray⟩ : ByteArray) = D3 at *
  generalize (⟨(Lib.itoa r).toArray⟩ : ByteArray) = D4 at *
  clear hr n0 n1 k0 k1 t0 t1 r0 r1
  rcases a with _ | _ <;> rcases b with _ | _
  · go_enter Tryd.func9, Tryd.ntmps9
    go_wp2_with fail
    generalize w.alloc (.cells #[.bool false, .bool false, .int .i64 n, .int .i64 k, .int .i64 t, .int .i64 r] 27) = w1 at *
    refine wp_region_facts (fun W W' => Below W.heap.size W W') (fun W => C6 W w.heap.size (.bool false) (.bool false) (.int .i64 n) (.int .i64 k) (.int .i64 t) (.int .i64 r) ∧ Below w.heap.size w W) (factsOf [.is (.string ⟨#[]⟩), .is (.string ((⟨#[]⟩ : ByteArray) ++ ⟨#[78, 49, 61]⟩)), .is (.pointer (some ⟨w.heap.size, 2, none⟩)), .is (.int .i64 n), .is (.string D1), .is (.string ((⟨#[]⟩ : ByteArray) ++ ⟨#[78, 49, 61]⟩ ++ D1)), .is (.string ((⟨#[]⟩ : ByteArray) ++ ⟨#[78, 49, 61]⟩ ++ D1 ++ ⟨#[32, 75, 61]⟩)), .is (.pointer (some ⟨w.heap.size, 3, none⟩)), .is (.int .i64 k), .is (.string D2), .is (.string ((⟨#[]⟩ : ByteArray) ++ ⟨#[78, 49, 61]⟩ ++ D1 ++ ⟨#[32, 75, 61]⟩ ++ D2)), .is (.string ((⟨#[]⟩ : ByteArray) ++ ⟨#[78, 49, 61]⟩ ++ D1 ++ ⟨#[32, 75, 61]⟩ ++ D2 ++ ⟨#[32, 84, 49, 61]⟩)), .is (.pointer (some ⟨w.heap.size, 4, none⟩)), .is (.int .i64 t), .is (.string D3), .is (.string ((⟨#[]⟩ : ByteArray) ++ ⟨#[78, 49, 61]⟩ ++ D1 ++ ⟨#[32, 75, 61]⟩ ++ D2 ++ ⟨#[32, 84, 49, 61]⟩ ++ D3)), .is (.string ((⟨#[]⟩ : ByteArray) ++ ⟨#[78, 49, 61]⟩ ++ D1 ++ ⟨#[32, 75, 61]⟩ ++ D2 ++ ⟨#[32, 84, 49, 61]⟩ ++ D3 ++ ⟨#[32, 78, 50, 61]⟩)), .is (.pointer (some ⟨w.heap.size, 5, none⟩)), .is (.int .i64 r), .is (.string D4), .is (.string ((⟨#[]⟩ : ByteArray) ++ ⟨#[78, 49, 61]⟩ ++ D1 ++ ⟨#[32, 75, 61]⟩ ++ D2 ++ ⟨#[32, 84, 49, 61]⟩ ++ D3 ++ ⟨#[32, 78, 50, 61]⟩ ++ D4)), .is (.string ((⟨#[]⟩ : ByteArray) ++ ⟨#[78, 49, 61]⟩ ++ D1 ++ ⟨#[32, 75, 61]⟩ ++ D2 ++ ⟨#[32, 84, 49, 61]⟩ ++ D3 ++ ⟨#[32, 78, 50, 61]⟩ ++ D4))]) (by kernel_rfl) (by kernel_rfl) (facts_stay _) (fun W W' hb h => ⟨h.1.below hb, h.2.trans (hb.mono h.2.size)⟩) (fun i => if i = 21 then .string ⟨#[]⟩ else undef) (by kernel_rfl) ⟨HA.out.drew, HB.out.drew⟩ ?F1 ?hF1 ?hstep1 ?hend1
    case hF1 =>
      intro u
      simp only [fillAct]
      go_simp
      rfl
    case hstep1 =>
      refine FSteps.cons ?_ ?_
      · intro u W hS hd K hK
        clear hd
        simp only [upd, reduceIte, Nat.reduceEqDiff] at hK
        go_simp
        exact hK.out _ _ (Below.refl _ _) rfl
      refine FSteps.cons ?_ ?_
      · intro u W hS hd K hK
        have h0 : u 0 = _ := hd 0 rfl
        clear hd
        simp only [upd, h0, reduceIte, Nat.reduceEqDiff] at hK
        have ha := fun W' => run_string_add_sum (P := Tryd.prog) (w := W') ((⟨#[]⟩ : ByteArray)) ⟨#[78, 49, 61]⟩ (by obtain ⟨s1, s2, s3, s4⟩ := HSZ.out; have e1 := size_c1; have e2 := size_c2; have e3 := size_c3; have e4 := size_c4; have e5 := size_e; have e6 := size_w; have e7 := size_s; have e8 := size_ws; (repeat rw [ByteArray.size_append]); omega)
        go_simp
        exact hK.out _ _ (Below.refl _ _) rfl
      refine FSteps.cons ?_ ?_
      · intro u W hS hd K hK
        clear hd
        simp only [upd, reduceIte, Nat.reduceEqDiff] at hK
        go_simp
        exact hK.out _ _ (Below.refl _ _) rfl
      refine FSteps.cons ?_ ?_
      · intro u W hS hd K hK
        have h2 : u 2 = _ := hd 2 rfl
        clear hd
        simp only [upd, h2, reduceIte, Nat.reduceEqDiff] at hK
        have c0 := hS.1.k2.cell
        go_simp
        exact hK.out _ _ (Below.refl _ _) rfl
      refine FSteps.cons ?_ ?_
      · intro u W hS hd K hK
        have h3 : u 3 = _ := hd 3 rfl
        clear hd
        simp only [upd, h3, reduceIte, Nat.reduceEqDiff] at hK
        go_simp
        go_at_call 16
        refine (HD1.out _).mono ?_
        rintro e wc ⟨rfl, rfl⟩
        exact hK.out _ _ (Below.refl _ _) rfl
      refine FSteps.cons ?_ ?_
      · intro u W hS hd K hK
        have h1 : u 1 = _ := hd 1 rfl
        have h4 : u 4 = _ := hd 4 rfl
        clear hd
        simp only [upd, h1, h4, reduceIte, Nat.reduceEqDiff] at hK
        have ha := fun W' => run_string_add_sum (P := Tryd.prog) (w := W') ((⟨#[]⟩ : ByteArray) ++ ⟨#[78, 49, 61]⟩) D1 (by obtain ⟨s1, s2, s3, s4⟩ := HSZ.out; have e1 := size_c1; have e2 := size_c2; have e3 := size_c3; have e4 := size_c4; have e5 := size_e; have e6 := size_w; have e7 := size_s; have e8 := size_ws; (repeat rw [ByteArray.size_append]); omega)
        go_simp
        exact hK.out _ _ (Below.refl _ _) rfl
      refine FSteps.cons ?_ ?_
      · intro u W hS hd K hK
        have h5 : u 5 = _ := hd 5 rfl
        clear hd
        simp only [upd, h5, reduceIte, Nat.reduceEqDiff] at hK
        have ha := fun W' => run_string_add_sum (P := Tryd.prog) (w := W') ((⟨#[]⟩ : ByteArray) ++ ⟨#[78, 49, 61]⟩ ++ D1) ⟨#[32, 75, 61]⟩ (by obtain ⟨s1, s2, s3, s4⟩ := HSZ.out; have e1 := size_c1; have e2 := size_c2; have e3 := size_c3; have e4 := size_c4; have e5 := size_e; have e6 := size_w; have e7 := size_s; have e8 := size_ws; (repeat rw [ByteArray.size_append]); omega)
        go_simp
        exact hK.out _ _ (Below.refl _ _) rfl
      refine FSteps.cons ?_ ?_
      · intro u W hS hd K hK
        clear hd
        simp only [upd, reduceIte, Nat.reduceEqDiff] at hK
        go_simp
        exact hK.out _ _ (Below.refl _ _) rfl
      refine FSteps.cons ?_ ?_
      · intro u W hS hd K hK
        have h7 : u 7 = _ := hd 7 rfl
        clear hd
        simp only [upd, h7, reduceIte, Nat.reduceEqDiff] at hK
        have c0 := hS.1.k3.cell
        go_simp
        exact hK.out _ _ (Below.refl _ _) rfl
      refine FSteps.cons ?_ ?_
      · intro u W hS hd K hK
        have h8 : u 8 = _ := hd 8 rfl
        clear hd
        simp only [upd, h8, reduceIte, Nat.reduceEqDiff] at hK
        go_simp
        go_at_call 16
        refine (HD2.out _).mono ?_
        rintro e wc ⟨rfl, rfl⟩
        exact hK.out _ _ (Below.refl _ _) rfl
      refine FSteps.cons ?_ ?_
      · intro u W hS hd K hK
        have h6 : u 6 = _ := hd 6 rfl
        have h9 : u 9 = _ := hd 9 rfl
        clear hd
        simp only [upd, h6, h9, reduceIte, Nat.reduceEqDiff] at hK
        have ha := fun W' => run_string_add_sum (P := Tryd.prog) (w := W') ((⟨#[]⟩ : ByteArray) ++ ⟨#[78, 49, 61]⟩ ++ D1 ++ ⟨#[32, 75, 61]⟩) D2 (by obtain ⟨s1, s2, s3, s4⟩ := HSZ.out; have e1 := size_c1; have e2 := size_c2; have e3 := size_c3; have e4 := size_c4; have e5 := size_e; have e6 := size_w; have e7 := size_s; have e8 := size_ws; (repeat rw [ByteArray.size_append]); omega)
        go_simp
        exact hK.out _ _ (Below.refl _ _) rfl
      refine FSteps.cons ?_ ?_
      · intro u W hS hd K hK
        have h10 : u 10 = _ := hd 10 rfl
        clear hd
        simp only [upd, h10, reduceIte, Nat.reduceEqDiff] at hK
        have ha := fun W' => run_string_add_sum (P := Tryd.prog) (w := W') ((⟨#[]⟩ : ByteArray) ++ ⟨#[78, 49, 61]⟩ ++ D1 ++ ⟨#[32, 75, 61]⟩ ++ D2) ⟨#[32, 84, 49, 61]⟩ (by obtain ⟨s1, s2, s3, s4⟩ := HSZ.out; have e1 := size_c1; have e2 := size_c2; have e3 := size_c3; have e4 := size_c4; have e5 := size_e; have e6 := size_w; have e7 := size_s; have e8 := size_ws; (repeat rw [ByteArray.size_append]); omega)
        go_simp
        exact hK.out _ _ (Below.refl _ _) rfl
      refine FSteps.cons ?_ ?_
      · intro u W hS hd K hK
        clear hd
        simp only [upd, reduceIte, Nat.reduceEqDiff] at hK
        go_simp
        exact hK.out _ _ (Below.refl _ _) rfl
      refine FSteps.cons ?_ ?_
      · intro u W hS hd K hK
        have h12 : u 12 = _ := hd 12 rfl
        clear hd
        simp only [upd, h12, reduceIte, Nat.reduceEqDiff] at hK
        have c0 := hS.1.k4.cell
        go_simp
        exact hK.out _ _ (Below.refl _ _) rfl
      refine FSteps.cons ?_ ?_
      · intro u W hS hd K hK
        have h13 : u 13 = _ := hd 13 rfl
        clear hd
        simp only [upd, h13, reduceIte, Nat.reduceEqDiff] at hK
        go_simp
        go_at_call 16
        refine (HD3.out _).mono ?_
        rintro e wc ⟨rfl, rfl⟩
        exact hK.out _ _ (Below.refl _ _) rfl
      refine FSteps.cons ?_ ?_
      · intro u W hS hd K hK
        have h11 : u 11 = _ := hd 11 rfl
        have h14 : u 14 = _ := hd 14 rfl
        clear hd
        simp only [upd, h11, h14, reduceIte, Nat.reduceEqDiff] at hK
        have ha := fun W' => run_string_add_sum (P := Tryd.prog) (w := W') ((⟨#[]⟩ : ByteArray) ++ ⟨#[78, 49, 61]⟩ ++ D1 ++ ⟨#[32, 75, 61]⟩ ++ D2 ++ ⟨#[32, 84, 49, 61]⟩) D3 (by obtain ⟨s1, s2, s3, s4⟩ := HSZ.out; have e1 := size_c1; have e2 := size_c2; have e3 := size_c3; have e4 := size_c4; have e5 := size_e; have e6 := size_w; have e7 := size_s; have e8 := size_ws; (repeat rw [ByteArray.size_append]); omega)
        go_simp
        exact hK.out _ _ (Below.refl _ _) rfl
      refine FSteps.cons ?_ ?_
      · intro u W hS hd K hK
        have h15 : u 15 = _ := hd 15 rfl
        clear hd
        simp only [upd, h15, reduceIte, Nat.reduceEqDiff] at hK
        have ha := fun W' => run_string_add_sum (P := Tryd.prog) (w := W') ((⟨#[]⟩ : ByteArray) ++ ⟨#[78, 49, 61]⟩ ++ D1 ++ ⟨#[32, 75, 61]⟩ ++ D2 ++ ⟨#[32, 84, 49, 61]⟩ ++ D3) ⟨#[32, 78, 50, 61]⟩ (by obtain ⟨s1, s2, s3, s4⟩ := HSZ.out; have e1 := size_c1; have e2 := size_c2; have e3 := size_c3; have e4 := size_c4; have e5 := size_e; have e6 := size_w; have e7 := size_s; have e8 := size_ws; (repeat rw [ByteArray.size_append]); omega)
        go_simp
        exact hK.out _ _ (Below.refl _ _) rfl
      refine FSteps.cons ?_ ?_
      · intro u W hS hd K hK
        clear hd
        simp only [upd, reduceIte, Nat.reduceEqDiff] at hK
        go_simp
        exact hK.out _ _ (Below.refl _ _) rfl
      refine FSteps.cons ?_ ?_
      · intro u W hS hd K hK
        have h17 : u 17 = _ := hd 17 rfl
        clear hd
        simp only [upd, h17, reduceIte, Nat.reduceEqDiff] at hK
        have c0 := hS.1.k5.cell
        go_simp
        exact hK.out _ _ (Below.refl _ _) rfl
      refine FSteps.cons ?_ ?_
      · intro u W hS hd K hK
        have h18 : u 18 = _ := hd 18 rfl
        clear hd
        simp only [upd, h18, reduceIte, Nat.reduceEqDiff] at hK
        go_simp
        go_at_call 16
        refine (HD4.out _).mono ?_
        rintro e wc ⟨rfl, rfl⟩
        exact hK.out _ _ (Below.refl _ _) rfl
      refine FSteps.cons ?_ ?_
      · intro u W hS hd K hK
        have h16 : u 16 = _ := hd 16 rfl
        have h19 : u 19 = _ := hd 19 rfl
        clear hd
        simp only [upd, h16, h19, reduceIte, Nat.reduceEqDiff] at hK
        have ha := fun W' => run_string_add_sum (P := Tryd.prog) (w := W') ((⟨#[]⟩ : ByteArray) ++ ⟨#[78, 49, 61]⟩ ++ D1 ++ ⟨#[32, 75, 61]⟩ ++ D2 ++ ⟨#[32, 84, 49, 61]⟩ ++ D3 ++ ⟨#[32, 78, 50, 61]⟩) D4 (by obtain ⟨s1, s2, s3, s4⟩ := HSZ.out; have e1 := size_c1; have e2 := size_c2; have e3 := size_c3; have e4 := size_c4; have e5 := size_e; have e6 := size_w; have e7 := size_s; have e8 := size_ws; (repeat rw [ByteArray.size_append]); omega)
        go_simp
        exact hK.out _ _ (Below.refl _ _) rfl
      refine FSteps.cons ?_ ?_
      · intro u W hS hd K hK
        have h20 : u 20 = _ := hd 20 rfl
        clear hd
        simp only [upd, h20, reduceIte, Nat.reduceEqDiff] at hK
        go_simp
        exact hK.out _ _ (Below.refl _ _) rfl
      exact trivial
    case hend1 =>
      intro u w2 hS hd
      have h21 : u 21 = _ := hd 21 rfl
      have HB2 := Lib.hid hS.2
      clear hd hS
      rw [HT.out ⟨#[]⟩ rfl] at h21
      go_wp2
      go_ret
      exact ⟨congrArg Ending.returned h21, HB2.out⟩
  · go_enter Tryd.func9, Tryd.ntmps9
    go_wp2_with fail
    generalize w.alloc (.cells #[.bool false, .bool true, .int .i64 n, .int .i64 k, .int .i64 t, .int .i64 r] 27) = w1 at *
    refine wp_region_facts (fun W W' => Below W.heap.size W W') (fun W => C6 W w.heap.size (.bool false) (.bool true) (.int .i64 n) (.int .i64 k) (.int .i64 t) (.int .i64 r) ∧ Below w.heap.size w W) (factsOf [.is (.string ⟨#[83, 82, 69, 74, 32]⟩), .is (.string ((⟨#[83, 82, 69, 74, 32]⟩ : ByteArray) ++ ⟨#[78, 49, 61]⟩)), .is (.pointer (some ⟨w.heap.size, 2, none⟩)), .is (.int .i64 n), .is (.string D1), .is (.string ((⟨#[83, 82, 69, 74, 32]⟩ : ByteArray) ++ ⟨#[78, 49, 61]⟩ ++ D1)), .is (.string ((⟨#[83, 82, 69, 74, 32]⟩ : ByteArray) ++ ⟨#[78, 49, 61]⟩ ++ D1 ++ ⟨#[32, 75, 61]⟩)), .is (.pointer (some ⟨w.heap.size, 3, none⟩)), .is (.int .i64 k), .is (.string D2), .is (.string ((⟨#[83, 82, 69, 74, 32]⟩ : ByteArray) ++ ⟨#[78, 49, 61]⟩ ++ D1 ++ ⟨#[32, 75, 61]⟩ ++ D2)), .is (.string ((⟨#[83, 82, 69, 74, 32]⟩ : ByteArray) ++ ⟨#[78, 49, 61]⟩ ++ D1 ++ ⟨#[32, 75, 61]⟩ ++ D2 ++ ⟨#[32, 84, 49, 61]⟩)), .is (.pointer (some ⟨w.heap.size, 4, none⟩)), .is (.int .i64 t), .is (.string D3), .is (.string ((⟨#[83, 82, 69, 74, 32]⟩ : ByteArray) ++ ⟨#[78, 49, 61]⟩ ++ D1 ++ ⟨#[32, 75, 61]⟩ ++ D2 ++ ⟨#[32, 84, 49, 61]⟩ ++ D3)), .is (.string ((⟨#[83, 82, 69, 74, 32]⟩ : ByteArray) ++ ⟨#[78, 49, 61]⟩ ++ D1 ++ ⟨#[32, 75, 61]⟩ ++ D2 ++ ⟨#[32, 84, 49, 61]⟩ ++ D3 ++ ⟨#[32, 78, 50, 61]⟩)), .is (.pointer (some ⟨w.heap.size, 5, none⟩)), .is (.int .i64 r), .is (.string D4), .is (.string ((⟨#[83, 82, 69, 74, 32]⟩ : ByteArray) ++ ⟨#[78, 49, 61]⟩ ++ D1 ++ ⟨#[32, 75, 61]⟩ ++ D2 ++ ⟨#[32, 84, 49, 61]⟩ ++ D3 ++ ⟨#[32, 78, 50, 61]⟩ ++ D4)), .is (.string ((⟨#[83, 82, 69, 74, 32]⟩ : ByteArray) ++ ⟨#[78, 49, 61]⟩ ++ D1 ++ ⟨#[32, 75, 61]⟩ ++ D2 ++ ⟨#[32, 84, 49, 61]⟩ ++ D3 ++ ⟨#[32, 78, 50, 61]⟩ ++ D4))]) (by kernel_rfl) (by kernel_rfl) (facts_stay _) (fun W W' hb h => ⟨h.1.below hb, h.2.trans (hb.mono h.2.size)⟩) (fun i => if i = 21 then .string ⟨#[]⟩ else undef) (by kernel_rfl) ⟨HA.out.drew, HB.out.drew⟩ ?F2 ?hF2 ?hstep2 ?hend2
    case hF2 =>
      intro u
      simp only [fillAct]
      go_simp
      rfl
    case hstep2 =>
      refine FSteps.cons ?_ ?_
      · intro u W hS hd K hK
        clear hd
        simp only [upd, reduceIte, Nat.reduceEqDiff] at hK
        go_simp
        exact hK.out _ _ (Below.refl _ _) rfl
      refine FSteps.cons ?_ ?_
      · intro u W hS hd K hK
        have h0 : u 0 = _ := hd 0 rfl
        clear hd
        simp only [upd, h0, reduceIte, Nat.reduceEqDiff] at hK
        have ha := fun W' => run_string_add_sum (P := Tryd.prog) (w := W') ((⟨#[83, 82, 69, 74, 32]⟩ : ByteArray)) ⟨#[78, 49, 61]⟩ (by obtain ⟨s1, s2, s3, s4⟩ := HSZ.out; have e1 := size_c1; have e2 := size_c2; have e3 := size_c3; have e4 := size_c4; have e5 := size_e; have e6 := size_w; have e7 := size_s; have e8 := size_ws; (repeat rw [ByteArray.size_append]); omega)
        go_simp
        exact hK.out _ _ (Below.refl _ _) rfl
      refine FSteps.cons ?_ ?_
      · intro u W hS hd K hK
        clear hd
        simp only [upd, reduceIte, Nat.reduceEqDiff] at hK
        go_simp
        exact hK.out _ _ (Below.refl _ _) rfl
      refine FSteps.cons ?_ ?_
      · intro u W hS hd K hK
        have h2 : u 2 = _ := hd 2 rfl
        clear hd
        simp only [upd, h2, reduceIte, Nat.reduceEqDiff] at hK
        have c0 := hS.1.k2.cell
        go_simp
        exact hK.out _ _ (Below.refl _ _) rfl
      refine FSteps.cons ?_ ?_
      · intro u W hS hd K hK
        have h3 : u 3 = _ := hd 3 rfl
        clear hd
        simp only [upd, h3, reduceIte, Nat.reduceEqDiff] at hK
        go_simp
        go_at_call 16
        refine (HD1.out _).mono ?_
        rintro e wc ⟨rfl, rfl⟩
        exact hK.out _ _ (Below.refl _ _) rfl
      refine FSteps.cons ?_ ?_
      · intro u W hS hd K hK
        have h1 : u 1 = _ := hd 1 rfl
        have h4 : u 4 = _ := hd 4 rfl
        clear hd
        simp only [upd, h1, h4, reduceIte, Nat.reduceEqDiff] at hK
        have ha := fun W' => run_string_add_sum (P := Tryd.prog) (w := W') ((⟨#[83, 82, 69, 74, 32]⟩ : ByteArray) ++ ⟨#[78, 49, 61]⟩) D1 (by obtain ⟨s1, s2, s3, s4⟩ := HSZ.out; have e1 := size_c1; have e2 := size_c2; have e3 := size_c3; have e4 := size_c4; have e5 := size_e; have e6 := size_w; have e7 := size_s; have e8 := size_ws; (repeat rw [ByteArray.size_append]); omega)
        go_simp
        exact hK.out _ _ (Below.refl _ _) rfl
      refine FSteps.cons ?_ ?_
      · intro u W hS hd K hK
        have h5 : u 5 = _ := hd 5 rfl
        clear hd
        simp only [upd, h5, reduceIte, Nat.reduceEqDiff] at hK
        have ha := fun W' => run_string_add_sum (P := Tryd.prog) (w := W') ((⟨#[83, 82, 69, 74, 32]⟩ : ByteArray) ++ ⟨#[78, 49, 61]⟩ ++ D1) ⟨#[32, 75, 61]⟩ (by obtain ⟨s1, s2, s3, s4⟩ := HSZ.out; have e1 := size_c1; have e2 := size_c2; have e3 := size_c3; have e4 := size_c4; have e5 := size_e; have e6 := size_w; have e7 := size_s; have e8 := size_ws; (repeat rw [ByteArray.size_append]); omega)
        go_simp
        exact hK.out _ _ (Below.refl _ _) rfl
      refine FSteps.cons ?_ ?_
      · intro u W hS hd K hK
        clear hd
        simp only [upd, reduceIte, Nat.reduceEqDiff] at hK
        go_simp
        exact hK.out _ _ (Below.refl _ _) rfl
      refine FSteps.cons ?_ ?_
      · intro u W hS hd K hK
        have h7 : u 7 = _ := hd 7 rfl
        clear hd
        simp only [upd, h7, reduceIte, Nat.reduceEqDiff] at hK
        have c0 := hS.1.k3.cell
        go_simp
        exact hK.out _ _ (Below.refl _ _) rfl
      refine FSteps.cons ?_ ?_
      · intro u W hS hd K hK
        have h8 : u 8 = _ := hd 8 rfl
        clear hd
        simp only [upd, h8, reduceIte, Nat.reduceEqDiff] at hK
        go_simp
        go_at_call 16
        refine (HD2.out _).mono ?_
        rintro e wc ⟨rfl, rfl⟩
        exact hK.out _ _ (Below.refl _ _) rfl
      refine FSteps.cons ?_ ?_
      · intro u W hS hd K hK
        have h6 : u 6 = _ := hd 6 rfl
        have h9 : u 9 = _ := hd 9 rfl
        clear hd
        simp only [upd, h6, h9, reduceIte, Nat.reduceEqDiff] at hK
        have ha := fun W' => run_string_add_sum (P := Tryd.prog) (w := W') ((⟨#[83, 82, 69, 74, 32]⟩ : ByteArray) ++ ⟨#[78, 49, 61]⟩ ++ D1 ++ ⟨#[32, 75, 61]⟩) D2 (by obtain ⟨s1, s2, s3, s4⟩ := HSZ.out; have e1 := size_c1; have e2 := size_c2; have e3 := size_c3; have e4 := size_c4; have e5 := size_e; have e6 := size_w; have e7 := size_s; have e8 := size_ws; (repeat rw [ByteArray.size_append]); omega)
        go_simp
        exact hK.out _ _ (Below.refl _ _) rfl
      refine FSteps.cons ?_ ?_
      · intro u W hS hd K hK
        have h10 : u 10 = _ := hd 10 rfl
        clear hd
        simp only [upd, h10, reduceIte, Nat.reduceEqDiff] at hK
        have ha := fun W' => run_string_add_sum (P := Tryd.prog) (w := W') ((⟨#[83, 82, 69, 74, 32]⟩ : ByteArray) ++ ⟨#[78, 49, 61]⟩ ++ D1 ++ ⟨#[32, 75, 61]⟩ ++ D2) ⟨#[32, 84, 49, 61]⟩ (by obtain ⟨s1, s2, s3, s4⟩ := HSZ.out; have e1 := size_c1; have e2 := size_c2; have e3 := size_c3; have e4 := size_c4; have e5 := size_e; have e6 := size_w; have e7 := size_s; have e8 := size_ws; (repeat rw [ByteArray.size_append]); omega)
        go_simp
        exact hK.out _ _ (Below.refl _ _) rfl
      refine FSteps.cons ?_ ?_
      · intro u W hS hd K hK
        clear hd
        simp only [upd, reduceIte, Nat.reduceEqDiff] at hK
        go_simp
        exact hK.out _ _ (Below.refl _ _) rfl
      refine FSteps.cons ?_ ?_
      · intro u W hS hd K hK
        have h12 : u 12 = _ := hd 12 rfl
        clear hd
        simp only [upd, h12, reduceIte, Nat.reduceEqDiff] at hK
        have c0 := hS.1.k4.cell
        go_simp
        exact hK.out _ _ (Below.refl _ _) rfl
      refine FSteps.cons ?_ ?_
      · intro u W hS hd K hK
        have h13 : u 13 = _ := hd 13 rfl
        clear hd
        simp only [upd, h13, reduceIte, Nat.reduceEqDiff] at hK
        go_simp
        go_at_call 16
        refine (HD3.out _).mono ?_
        rintro e wc ⟨rfl, rfl⟩
        exact hK.out _ _ (Below.refl _ _) rfl
      refine FSteps.cons ?_ ?_
      · intro u W hS hd K hK
        have h11 : u 11 = _ := hd 11 rfl
        have h14 : u 14 = _ := hd 14 rfl
        clear hd
        simp only [upd, h11, h14, reduceIte, Nat.reduceEqDiff] at hK
        have ha := fun W' => run_string_add_sum (P := Tryd.prog) (w := W') ((⟨#[83, 82, 69, 74, 32]⟩ : ByteArray) ++ ⟨#[78, 49, 61]⟩ ++ D1 ++ ⟨#[32, 75, 61]⟩ ++ D2 ++ ⟨#[32, 84, 49, 61]⟩) D3 (by obtain ⟨s1, s2, s3, s4⟩ := HSZ.out; have e1 := size_c1; have e2 := size_c2; have e3 := size_c3; have e4 := size_c4; have e5 := size_e; have e6 := size_w; have e7 := size_s; have e8 := size_ws; (repeat rw [ByteArray.size_append]); omega)
        go_simp
        exact hK.out _ _ (Below.refl _ _) rfl
      refine FSteps.cons ?_ ?_
      · intro u W hS hd K hK
        have h15 : u 15 = _ := hd 15 rfl
        clear hd
        simp only [upd, h15, reduceIte, Nat.reduceEqDiff] at hK
        have ha := fun W' => run_string_add_sum (P := Tryd.prog) (w := W') ((⟨#[83, 82, 69, 74, 32]⟩ : ByteArray) ++ ⟨#[78, 49, 61]⟩ ++ D1 ++ ⟨#[32, 75, 61]⟩ ++ D2 ++ ⟨#[32, 84, 49, 61]⟩ ++ D3) ⟨#[32, 78, 50, 61]⟩ (by obtain ⟨s1, s2, s3, s4⟩ := HSZ.out; have e1 := size_c1; have e2 := size_c2; have e3 := size_c3; have e4 := size_c4; have e5 := size_e; have e6 := size_w; have e7 := size_s; have e8 := size_ws; (repeat rw [ByteArray.size_append]); omega)
        go_simp
        exact hK.out _ _ (Below.refl _ _) rfl
      refine FSteps.cons ?_ ?_
      · intro u W hS hd K hK
        clear hd
        simp only [upd, reduceIte, Nat.reduceEqDiff] at hK
        go_simp
        exact hK.out _ _ (Below.refl _ _) rfl
      refine FSteps.cons ?_ ?_
      · intro u W hS hd K hK
        have h17 : u 17 = _ := hd 17 rfl
        clear hd
        simp only [upd, h17, reduceIte, Nat.reduceEqDiff] at hK
        have c0 := hS.1.k5.cell
        go_simp
        exact hK.out _ _ (Below.refl _ _) rfl
      refine FSteps.cons ?_ ?_
      · intro u W hS hd K hK
        have h18 : u 18 = _ := hd 18 rfl
        clear hd
        simp only [upd, h18, reduceIte, Nat.reduceEqDiff] at hK
        go_simp
        go_at_call 16
        refine (HD4.out _).mono ?_
        rintro e wc ⟨rfl, rfl⟩
        exact hK.out _ _ (Below.refl _ _) rfl
      refine FSteps.cons ?_ ?_
      · intro u W hS hd K hK
        have h16 : u 16 = _ := hd 16 rfl
        have h19 : u 19 = _ := hd 19 rfl
        clear hd
        simp only [upd, h16, h19, reduceIte, Nat.reduceEqDiff] at hK
        have ha := fun W' => run_string_add_sum (P := Tryd.prog) (w := W') ((⟨#[83, 82, 69, 74, 32]⟩ : ByteArray) ++ ⟨#[78, 49, 61]⟩ ++ D1 ++ ⟨#[32, 75, 61]⟩ ++ D2 ++ ⟨#[32, 84, 49, 61]⟩ ++ D3 ++ ⟨#[32, 78, 50, 61]⟩) D4 (by obtain ⟨s1, s2, s3, s4⟩ := HSZ.out; have e1 := size_c1; have e2 := size_c2; have e3 := size_c3; have e4 := size_c4; have e5 := size_e; have e6 := size_w; have e7 := size_s; have e8 := size_ws; (repeat rw [ByteArray.size_append]); omega)
        go_simp
        exact hK.out _ _ (Below.refl _ _) rfl
      refine FSteps.cons ?_ ?_
      · intro u W hS hd K hK
        have h20 : u 20 = _ := hd 20 rfl
        clear hd
        simp only [upd, h20, reduceIte, Nat.reduceEqDiff] at hK
        go_simp
        exact hK.out _ _ (Below.refl _ _) rfl
      exact trivial
    case hend2 =>
      intro u w2 hS hd
      have h21 : u 21 = _ := hd 21 rfl
      have HB2 := Lib.hid hS.2
      clear hd hS
      rw [HT.out ⟨#[83, 82, 69, 74, 32]⟩ rfl] at h21
      go_wp2
      go_ret
      exact ⟨congrArg Ending.returned h21, HB2.out⟩
  · go_enter Tryd.func9, Tryd.ntmps9
    go_wp2_with fail
    generalize w.alloc (.cells #[.bool true, .bool false, .int .i64 n, .int .i64 k, .int .i64 t, .int .i64 r] 27) = w1 at *
    refine wp_region_facts (fun W W' => Below W.heap.size W W') (fun W => C6 W w.heap.size (.bool true) (.bool false) (.int .i64 n) (.int .i64 k) (.int .i64 t) (.int .i64 r) ∧ Below w.heap.size w W) (factsOf [.is (.string ⟨#[87, 73, 68, 69, 32]⟩), .is (.string ((⟨#[87, 73, 68, 69, 32]⟩ : ByteArray) ++ ⟨#[78, 49, 61]⟩)), .is (.pointer (some ⟨w.heap.size, 2, none⟩)), .is (.int .i64 n), .is (.string D1), .is (.string ((⟨#[87, 73, 68, 69, 32]⟩ : ByteArray) ++ ⟨#[78, 49, 61]⟩ ++ D1)), .is (.string ((⟨#[87, 73, 68, 69, 32]⟩ : ByteArray) ++ ⟨#[78, 49, 61]⟩ ++ D1 ++ ⟨#[32, 75, 61]⟩)), .is (.pointer (some ⟨w.heap.size, 3, none⟩)), .is (.int .i64 k), .is (.string D2), .is (.string ((⟨#[87, 73, 68, 69, 32]⟩ : ByteArray) ++ ⟨#[78, 49, 61]⟩ ++ D1 ++ ⟨#[32, 75, 61]⟩ ++ D2)), .is (.string ((⟨#[87, 73, 68, 69, 32]⟩ : ByteArray) ++ ⟨#[78, 49, 61]⟩ ++ D1 ++ ⟨#[32, 75, 61]⟩ ++ D2 ++ ⟨#[32, 84, 49, 61]⟩)), .is (.pointer (some ⟨w.heap.size, 4, none⟩)), .is (.int .i64 t), .is (.string D3), .is (.string ((⟨#[87, 73, 68, 69, 32]⟩ : ByteArray) ++ ⟨#[78, 49, 61]⟩ ++ D1 ++ ⟨#[32, 75, 61]⟩ ++ D2 ++ ⟨#[32, 84, 49, 61]⟩ ++ D3)), .is (.string ((⟨#[87, 73, 68, 69, 32]⟩ : ByteArray) ++ ⟨#[78, 49, 61]⟩ ++ D1 ++ ⟨#[32, 75, 61]⟩ ++ D2 ++ ⟨#[32, 84, 49, 61]⟩ ++ D3 ++ ⟨#[32, 78, 50, 61]⟩)), .is (.pointer (some ⟨w.heap.size, 5, none⟩)), .is (.int .i64 r), .is (.string D4), .is (.string ((⟨#[87, 73, 68, 69, 32]⟩ : ByteArray) ++ ⟨#[78, 49, 61]⟩ ++ D1 ++ ⟨#[32, 75, 61]⟩ ++ D2 ++ ⟨#[32, 84, 49, 61]⟩ ++ D3 ++ ⟨#[32, 78, 50, 61]⟩ ++ D4)), .is (.string ((⟨#[87, 73, 68, 69, 32]⟩ : ByteArray) ++ ⟨#[78, 49, 61]⟩ ++ D1 ++ ⟨#[32, 75, 61]⟩ ++ D2 ++ ⟨#[32, 84, 49, 61]⟩ ++ D3 ++ ⟨#[32, 78, 50, 61]⟩ ++ D4))]) (by kernel_rfl) (by kernel_rfl) (facts_stay _) (fun W W' hb h => ⟨h.1.below hb, h.2.trans (hb.mono h.2.size)⟩) (fun i => if i = 21 then .string ⟨#[]⟩ else undef) (by kernel_rfl) ⟨HA.out.drew, HB.out.drew⟩ ?F3 ?hF3 ?hstep3 ?hend3
    case hF3 =>
      intro u
      simp only [fillAct]
      go_simp
      rfl
    case hstep3 =>
      refine FSteps.cons ?_ ?_
      · intro u W hS hd K hK
        clear hd
        simp only [upd, reduceIte, Nat.reduceEqDiff] at hK
        go_simp
        exact hK.out _ _ (Below.refl _ _) rfl
      refine FSteps.cons ?_ ?_
      · intro u W hS hd K hK
        have h0 : u 0 = _ := hd 0 rfl
        clear hd
        simp only [upd, h0, reduceIte, Nat.reduceEqDiff] at hK
        have ha := fun W' => run_string_add_sum (P := Tryd.prog) (w := W') ((⟨#[87, 73, 68, 69, 32]⟩ : ByteArray)) ⟨#[78, 49, 61]⟩ (by obtain ⟨s1, s2, s3, s4⟩ := HSZ.out; have e1 := size_c1; have e2 := size_c2; have e3 := size_c3; have e4 := size_c4; have e5 := size_e; have e6 := size_w; have e7 := size_s; have e8 := size_ws; (repeat rw [ByteArray.size_append]); omega)
        go_simp
        exact hK.out _ _ (Below.refl _ _) rfl
      refine FSteps.cons ?_ ?_
      · intro u W hS hd K hK
        clear hd
        simp only [upd, reduceIte, Nat.reduceEqDiff] at hK
        go_simp
        exact hK.out _ _ (Below.refl _ _) rfl
      refine FSteps.cons ?_ ?_
      · intro u W hS hd K hK
        have h2 : u 2 = _ := hd 2 rfl
        clear hd
        simp only [upd, h2, reduceIte, Nat.reduceEqDiff] at hK
        have c0 := hS.1.k2.cell
        go_simp
        exact hK.out _ _ (Below.refl _ _) rfl
      refine FSteps.cons ?_ ?_
      · intro u W hS hd K hK
        have h3 : u 3 = _ := hd 3 rfl
        clear hd
        simp only [upd, h3, reduceIte, Nat.reduceEqDiff] at hK
        go_simp
        go_at_call 16
        refine (HD1.out _).mono ?_
        rintro e wc ⟨rfl, rfl⟩
        exact hK.out _ _ (Below.refl _ _) rfl
      refine FSteps.cons ?_ ?_
      · intro u W hS hd K hK
        have h1 : u 1 = _ := hd 1 rfl
        have h4 : u 4 = _ := hd 4 rfl
        clear hd
        simp only [upd, h1, h4, reduceIte, Nat.reduceEqDiff] at hK
        have ha := fun W' => run_string_add_sum (P := Tryd.prog) (w := W') ((⟨#[87, 73, 68, 69, 32]⟩ : ByteArray) ++ ⟨#[78, 49, 61]⟩) D1 (by obtain ⟨s1, s2, s3, s4⟩ := HSZ.out; have e1 := size_c1; have e2 := size_c2; have e3 := size_c3; have e4 := size_c4; have e5 := size_e; have e6 := size_w; have e7 := size_s; have e8 := size_ws; (repeat rw [ByteArray.size_append]); omega)
        go_simp
        exact hK.out _ _ (Below.refl _ _) rfl
      refine FSteps.cons ?_ ?_
      · intro u W hS hd K hK
        have h5 : u 5 = _ := hd 5 rfl
        clear hd
        simp only [upd, h5, reduceIte, Nat.reduceEqDiff] at hK
        have ha := fun W' => run_string_add_sum (P := Tryd.prog) (w := W') ((⟨#[87, 73, 68, 69, 32]⟩ : ByteArray) ++ ⟨#[78, 49, 61]⟩ ++ D1) ⟨#[32, 75, 61]⟩ (by obtain ⟨s1, s2, s3, s4⟩ := HSZ.out; have e1 := size_c1; have e2 := size_c2; have e3 := size_c3; have e4 := size_c4; have e5 := size_e; have e6 := size_w; have e7 := size_s; have e8 := size_ws; (repeat rw [ByteArray.size_append]); omega)
        go_simp
        exact hK.out _ _ (Below.refl _ _) rfl
      refine FSteps.cons ?_ ?_
      · intro u W hS hd K hK
        clear hd
        simp only [upd, reduceIte, Nat.reduceEqDiff] at hK
        go_simp
        exact hK.out _ _ (Below.refl _ _) rfl
      refine FSteps.cons ?_ ?_
      · intro u W hS hd K hK
        have h7 : u 7 = _ := hd 7 rfl
        clear hd
        simp only [upd, h7, reduceIte, Nat.reduceEqDiff] at hK
        have c0 := hS.1.k3.cell
        go_simp
        exact hK.out _ _ (Below.refl _ _) rfl
      refine FSteps.cons ?_ ?_
      · intro u W hS hd K hK
        have h8 : u 8 = _ := hd 8 rfl
        clear hd
        simp only [upd, h8, reduceIte, Nat.reduceEqDiff] at hK
        go_simp
        go_at_call 16
        refine (HD2.out _).mono ?_
        rintro e wc ⟨rfl, rfl⟩
        exact hK.out _ _ (Below.refl _ _) rfl
      refine FSteps.cons ?_ ?_
      · intro u W hS hd K hK
        have h6 : u 6 = _ := hd 6 rfl
        have h9 : u 9 = _ := hd 9 rfl
        clear hd
        simp only [upd, h6, h9, reduceIte, Nat.reduceEqDiff] at hK
        have ha := fun W' => run_string_add_sum (P := Tryd.prog) (w := W') ((⟨#[87, 73, 68, 69, 32]⟩ : ByteArray) ++ ⟨#[78, 49, 61]⟩ ++ D1 ++ ⟨#[32, 75, 61]⟩) D2 (by obtain ⟨s1, s2, s3, s4⟩ := HSZ.out; have e1 := size_c1; have e2 := size_c2; have e3 := size_c3; have e4 := size_c4; have e5 := size_e; have e6 := size_w; have e7 := size_s; have e8 := size_ws; (repeat rw [ByteArray.size_append]); omega)
        go_simp
        exact hK.out _ _ (Below.refl _ _) rfl
      refine FSteps.cons ?_ ?_
      · intro u W hS hd K hK
        have h10 : u 10 = _ := hd 10 rfl
        clear hd
        simp only [upd, h10, reduceIte, Nat.reduceEqDiff] at hK
        have ha := fun W' => run_string_add_sum (P := Tryd.prog) (w := W') ((⟨#[87, 73, 68, 69, 32]⟩ : ByteArray) ++ ⟨#[78, 49, 61]⟩ ++ D1 ++ ⟨#[32, 75, 61]⟩ ++ D2) ⟨#[32, 84, 49, 61]⟩ (by obtain ⟨s1, s2, s3, s4⟩ := HSZ.out; have e1 := size_c1; have e2 := size_c2; have e3 := size_c3; have e4 := size_c4; have e5 := size_e; have e6 := size_w; have e7 := size_s; have e8 := size_ws; (repeat rw [ByteArray.size_append]); omega)
        go_simp
        exact hK.out _ _ (Below.refl _ _) rfl
      refine FSteps.cons ?_ ?_
      · intro u W hS hd K hK
        clear hd
        simp only [upd, reduceIte, Nat.reduceEqDiff] at hK
        go_simp
        exact hK.out _ _ (Below.refl _ _) rfl
      refine FSteps.cons ?_ ?_
      · intro u W hS hd K hK
        have h12 : u 12 = _ := hd 12 rfl
        clear hd
        simp only [upd, h12, reduceIte, Nat.reduceEqDiff] at hK
        have c0 := hS.1.k4.cell
        go_simp
        exact hK.out _ _ (Below.refl _ _) rfl
      refine FSteps.cons ?_ ?_
      · intro u W hS hd K hK
        have h13 : u 13 = _ := hd 13 rfl
        clear hd
        simp only [upd, h13, reduceIte, Nat.reduceEqDiff] at hK
        go_simp
        go_at_call 16
        refine (HD3.out _).mono ?_
        rintro e wc ⟨rfl, rfl⟩
        exact hK.out _ _ (Below.refl _ _) rfl
      refine FSteps.cons ?_ ?_
      · intro u W hS hd K hK
        have h11 : u 11 = _ := hd 11 rfl
        have h14 : u 14 = _ := hd 14 rfl
        clear hd
        simp only [upd, h11, h14, reduceIte, Nat.reduceEqDiff] at hK
        have ha := fun W' => run_string_add_sum (P := Tryd.prog) (w := W') ((⟨#[87, 73, 68, 69, 32]⟩ : ByteArray) ++ ⟨#[78, 49, 61]⟩ ++ D1 ++ ⟨#[32, 75, 61]⟩ ++ D2 ++ ⟨#[32, 84, 49, 61]⟩) D3 (by obtain ⟨s1, s2, s3, s4⟩ := HSZ.out; have e1 := size_c1; have e2 := size_c2; have e3 := size_c3; have e4 := size_c4; have e5 := size_e; have e6 := size_w; have e7 := size_s; have e8 := size_ws; (repeat rw [ByteArray.size_append]); omega)
        go_simp
        exact hK.out _ _ (Below.refl _ _) rfl
      refine FSteps.cons ?_ ?_
      · intro u W hS hd K hK
        have h15 : u 15 = _ := hd 15 rfl
        clear hd
        simp only [upd, h15, reduceIte, Nat.reduceEqDiff] at hK
        have ha := fun W' => run_string_add_sum (P := Tryd.prog) (w := W') ((⟨#[87, 73, 68, 69, 32]⟩ : ByteArray) ++ ⟨#[78, 49, 61]⟩ ++ D1 ++ ⟨#[32, 75, 61]⟩ ++ D2 ++ ⟨#[32, 84, 49, 61]⟩ ++ D3) ⟨#[32, 78, 50, 61]⟩ (by obtain ⟨s1, s2, s3, s4⟩ := HSZ.out; have e1 := size_c1; have e2 := size_c2; have e3 := size_c3; have e4 := size_c4; have e5 := size_e; have e6 := size_w; have e7 := size_s; have e8 := size_ws; (repeat rw [ByteArray.size_append]); omega)
        go_simp
        exact hK.out _ _ (Below.refl _ _) rfl
      refine FSteps.cons ?_ ?_
      · intro u W hS hd K hK
        clear hd
        simp only [upd, reduceIte, Nat.reduceEqDiff] at hK
        go_simp
        exact hK.out _ _ (Below.refl _ _) rfl
      refine FSteps.cons ?_ ?_
      · intro u W hS hd K hK
        have h17 : u 17 = _ := hd 17 rfl
        clear hd
        simp only [upd, h17, reduceIte, Nat.reduceEqDiff] at hK
        have c0 := hS.1.k5.cell
        go_simp
        exact hK.out _ _ (Below.refl _ _) rfl
      refine FSteps.cons ?_ ?_
      · intro u W hS hd K hK
        have h18 : u 18 = _ := hd 18 rfl
        clear hd
        simp only [upd, h18, reduceIte, Nat.reduceEqDiff] at hK
        go_simp
        go_at_call 16
        refine (HD4.out _).mono ?_
        rintro e wc ⟨rfl, rfl⟩
        exact hK.out _ _ (Below.refl _ _) rfl
      refine FSteps.cons ?_ ?_
      · intro u W hS hd K hK
        have h16 : u 16 = _ := hd 16 rfl
        have h19 : u 19 = _ := hd 19 rfl
        clear hd
        simp only [upd, h16, h19, reduceIte, Nat.reduceEqDiff] at hK
        have ha := fun W' => run_string_add_sum (P := Tryd.prog) (w := W') ((⟨#[87, 73, 68, 69, 32]⟩ : ByteArray) ++ ⟨#[78, 49, 61]⟩ ++ D1 ++ ⟨#[32, 75, 61]⟩ ++ D2 ++ ⟨#[32, 84, 49, 61]⟩ ++ D3 ++ ⟨#[32, 78, 50, 61]⟩) D4 (by obtain ⟨s1, s2, s3, s4⟩ := HSZ.out; have e1 := size_c1; have e2 := size_c2; have e3 := size_c3; have e4 := size_c4; have e5 := size_e; have e6 := size_w; have e7 := size_s; have e8 := size_ws; (repeat rw [ByteArray.size_append]); omega)
        go_simp
        exact hK.out _ _ (Below.refl _ _) rfl
      refine FSteps.cons ?_ ?_
      · intro u W hS hd K hK
        have h20 : u 20 = _ := hd 20 rfl
        clear hd
        simp only [upd, h20, reduceIte, Nat.reduceEqDiff] at hK
        go_simp
        exact hK.out _ _ (Below.refl _ _) rfl
      exact trivial
    case hend3 =>
      intro u w2 hS hd
      have h21 : u 21 = _ := hd 21 rfl
      have HB2 := Lib.hid hS.2
      clear hd hS
      rw [HT.out ⟨#[87, 73, 68, 69, 32]⟩ rfl] at h21
      go_wp2
      go_ret
      exact ⟨congrArg Ending.returned h21, HB2.out⟩
  · go_enter Tryd.func9, Tryd.ntmps9
    go_wp2_with fail
    generalize w.alloc (.cells #[.bool true, .bool true, .int .i64 n, .int .i64 k, .int .i64 t, .int .i64 r] 27) = w1 at *
    refine wp_region_facts (fun W W' => Below W.heap.size W W') (fun W => C6 W w.heap.size (.bool true) (.bool true) (.int .i64 n) (.int .i64 k) (.int .i64 t) (.int .i64 r) ∧ Below w.heap.size w W) (factsOf [.is (.string ⟨#[87, 73, 68, 69, 32, 83, 82, 69, 74, 32]⟩), .is (.string ((⟨#[87, 73, 68, 69, 32, 83, 82, 69, 74, 32]⟩ : ByteArray) ++ ⟨#[78, 49, 61]⟩)), .is (.pointer (some ⟨w.heap.size, 2, none⟩)), .is (.int .i64 n), .is (.string D1), .is (.string ((⟨#[87, 73, 68, 69, 32, 83, 82, 69, 74, 32]⟩ : ByteArray) ++ ⟨#[78, 49, 61]⟩ ++ D1)), .is (.string ((⟨#[87, 73, 68, 69, 32, 83, 82, 69, 74, 32]⟩ : ByteArray) ++ ⟨#[78, 49, 61]⟩ ++ D1 ++ ⟨#[32, 75, 61]⟩)), .is (.pointer (some ⟨w.heap.size, 3, none⟩)), .is (.int .i64 k), .is (.string D2), .is (.string ((⟨#[87, 73, 68, 69, 32, 83, 82, 69, 74, 32]⟩ : ByteArray) ++ ⟨#[78, 49, 61]⟩ ++ D1 ++ ⟨#[32, 75, 61]⟩ ++ D2)), .is (.string ((⟨#[87, 73, 68, 69, 32, 83, 82, 69, 74, 32]⟩ : ByteArray) ++ ⟨#[78, 49, 61]⟩ ++ D1 ++ ⟨#[32, 75, 61]⟩ ++ D2 ++ ⟨#[32, 84, 49, 61]⟩)), .is (.pointer (some ⟨w.heap.size, 4, none⟩)), .is (.int .i64 t), .is (.string D3), .is (.string ((⟨#[87, 73, 68, 69, 32, 83, 82, 69, 74, 32]⟩ : ByteArray) ++ ⟨#[78, 49, 61]⟩ ++ D1 ++ ⟨#[32, 75, 61]⟩ ++ D2 ++ ⟨#[32, 84, 49, 61]⟩ ++ D3)), .is (.string ((⟨#[87, 73, 68, 69, 32, 83, 82, 69, 74, 32]⟩ : ByteArray) ++ ⟨#[78, 49, 61]⟩ ++ D1 ++ ⟨#[32, 75, 61]⟩ ++ D2 ++ ⟨#[32, 84, 49, 61]⟩ ++ D3 ++ ⟨#[32, 78, 50, 61]⟩)), .is (.pointer (some ⟨w.heap.size, 5, none⟩)), .is (.int .i64 r), .is (.string D4), .is (.string ((⟨#[87, 73, 68, 69, 32, 83, 82, 69, 74, 32]⟩ : ByteArray) ++ ⟨#[78, 49, 61]⟩ ++ D1 ++ ⟨#[32, 75, 61]⟩ ++ D2 ++ ⟨#[32, 84, 49, 61]⟩ ++ D3 ++ ⟨#[32, 78, 50, 61]⟩ ++ D4)), .is (.string ((⟨#[87, 73, 68, 69, 32, 83, 82, 69, 74, 32]⟩ : ByteArray) ++ ⟨#[78, 49, 61]⟩ ++ D1 ++ ⟨#[32, 75, 61]⟩ ++ D2 ++ ⟨#[32, 84, 49, 61]⟩ ++ D3 ++ ⟨#[32, 78, 50, 61]⟩ ++ D4))]) (by kernel_rfl) (by kernel_rfl) (facts_stay _) (fun W W' hb h => ⟨h.1.below hb, h.2.trans (hb.mono h.2.size)⟩) (fun i => if i = 21 then .string ⟨#[]⟩ else undef) (by kernel_rfl) ⟨HA.out.drew, HB.out.drew⟩ ?F4 ?hF4 ?hstep4 ?hend4
    case hF4 =>
      intro u
      simp only [fillAct]
      go_simp
      rfl
    case hstep4 =>
      refine FSteps.cons ?_ ?_
      · intro u W hS hd K hK
        clear hd
        simp only [upd, reduceIte, Nat.reduceEqDiff] at hK
        go_simp
        exact hK.out _ _ (Below.refl _ _) rfl
      refine FSteps.cons ?_ ?_
      · intro u W hS hd K hK
        have h0 : u 0 = _ := hd 0 rfl
        clear hd
        simp only [upd, h0, reduceIte, Nat.reduceEqDiff] at hK
        have ha := fun W' => run_string_add_sum (P := Tryd.prog) (w := W') ((⟨#[87, 73, 68, 69, 32, 83, 82, 69, 74, 32]⟩ : ByteArray)) ⟨#[78, 49, 61]⟩ (by obtain ⟨s1, s2, s3, s4⟩ := HSZ.out; have e1 := size_c1; have e2 := size_c2; have e3 := size_c3; have e4 := size_c4; have e5 := size_e; have e6 := size_w; have e7 := size_s; have e8 := size_ws; (repeat rw [ByteArray.size_append]); omega)
        go_simp
        exact hK.out _ _ (Below.refl _ _) rfl
      refine FSteps.cons ?_ ?_
      · intro u W hS hd K hK
        clear hd
        simp only [upd, reduceIte, Nat.reduceEqDiff] at hK
        go_simp
        exact hK.out _ _ (Below.refl _ _) rfl
      refine FSteps.cons ?_ ?_
      · intro u W hS hd K hK
        have h2 : u 2 = _ := hd 2 rfl
        clear hd
        simp only [upd, h2, reduceIte, Nat.reduceEqDiff] at hK
        have c0 := hS.1.k2.cell
        go_simp
        exact hK.out _ _ (Below.refl _ _) rfl
      refine FSteps.cons ?_ ?_
      · intro u W hS hd K hK
        have h3 : u 3 = _ := hd 3 rfl
        clear hd
        simp only [upd, h3, reduceIte, Nat.reduceEqDiff] at hK
        go_simp
        go_at_call 16
        refine (HD1.out _).mono ?_
        rintro e wc ⟨rfl, rfl⟩
        exact hK.out _ _ (Below.refl _ _) rfl
      refine FSteps.cons ?_ ?_
      · intro u W hS hd K hK
        have h1 : u 1 = _ := hd 1 rfl
        have h4 : u 4 = _ := hd 4 rfl
        clear hd
        simp only [upd, h1, h4, reduceIte, Nat.reduceEqDiff] at hK
        have ha := fun W' => run_string_add_sum (P := Tryd.prog) (w := W') ((⟨#[87, 73, 68, 69, 32, 83, 82, 69, 74, 32]⟩ : ByteArray) ++ ⟨#[78, 49, 61]⟩) D1 (by obtain ⟨s1, s2, s3, s4⟩ := HSZ.out; have e1 := size_c1; have e2 := size_c2; have e3 := size_c3; have e4 := size_c4; have e5 := size_e; have e6 := size_w; have e7 := size_s; have e8 := size_ws; (repeat rw [ByteArray.size_append]); omega)
        go_simp
        exact hK.out _ _ (Below.refl _ _) rfl
      refine FSteps.cons ?_ ?_
      · intro u W hS hd K hK
        have h5 : u 5 = _ := hd 5 rfl
        clear hd
        simp only [upd, h5, reduceIte, Nat.reduceEqDiff] at hK
        have ha := fun W' => run_string_add_sum (P := Tryd.prog) (w := W') ((⟨#[87, 73, 68, 69, 32, 83, 82, 69, 74, 32]⟩ : ByteArray) ++ ⟨#[78, 49, 61]⟩ ++ D1) ⟨#[32, 75, 61]⟩ (by obtain ⟨s1, s2, s3, s4⟩ := HSZ.out; have e1 := size_c1; have e2 := size_c2; have e3 := size_c3; have e4 := size_c4; have e5 := size_e; have e6 := size_w; have e7 := size_s; have e8 := size_ws; (repeat rw [ByteArray.size_append]); omega)
        go_simp
        exact hK.out _ _ (Below.refl _ _) rfl
      refine FSteps.cons ?_ ?_
      · intro u W hS hd K hK
        clear hd
        simp only [upd, reduceIte, Nat.reduceEqDiff] at hK
        go_simp
        exact hK.out _ _ (Below.refl _ _) rfl
      refine FSteps.cons ?_ ?_
      · intro u W hS hd K hK
        have h7 : u 7 = _ := hd 7 rfl
        clear hd
        simp only [upd, h7, reduceIte, Nat.reduceEqDiff] at hK
        have c0 := hS.1.k3.cell
        go_simp
        exact hK.out _ _ (Below.refl _ _) rfl
      refine FSteps.cons ?_ ?_
      · intro u W hS hd K hK
        have h8 : u 8 = _ := hd 8 rfl
        clear hd
        simp only [upd, h8, reduceIte, Nat.reduceEqDiff] at hK
        go_simp
        go_at_call 16
        refine (HD2.out _).mono ?_
        rintro e wc ⟨rfl, rfl⟩
        exact hK.out _ _ (Below.refl _ _) rfl
      refine FSteps.cons ?_ ?_
      · intro u W hS hd K hK
        have h6 : u 6 = _ := hd 6 rfl
        have h9 : u 9 = _ := hd 9 rfl
        clear hd
        simp only [upd, h6, h9, reduceIte, Nat.reduceEqDiff] at hK
        have ha := fun W' => run_string_add_sum (P := Tryd.prog) (w := W') ((⟨#[87, 73, 68, 69, 32, 83, 82, 69, 74, 32]⟩ : ByteArray) ++ ⟨#[78, 49, 61]⟩ ++ D1 ++ ⟨#[32, 75, 61]⟩) D2 (by obtain ⟨s1, s2, s3, s4⟩ := HSZ.out; have e1 := size_c1; have e2 := size_c2; have e3 := size_c3; have e4 := size_c4; have e5 := size_e; have e6 := size_w; have e7 := size_s; have e8 := size_ws; (repeat rw [ByteArray.size_append]); omega)
        go_simp
        exact hK.out _ _ (Below.refl _ _) rfl
      refine FSteps.cons ?_ ?_
      · intro u W hS hd K hK
        have h10 : u 10 = _ := hd 10 rfl
        clear hd
        simp only [upd, h10, reduceIte, Nat.reduceEqDiff] at hK
        have ha := fun W' => run_string_add_sum (P := Tryd.prog) (w := W') ((⟨#[87, 73, 68, 69, 32, 83, 82, 69, 74, 32]⟩ : ByteArray) ++ ⟨#[78, 49, 61]⟩ ++ D1 ++ ⟨#[32, 75, 61]⟩ ++ D2) ⟨#[32, 84, 49, 61]⟩ (by obtain ⟨s1, s2, s3, s4⟩ := HSZ.out; have e1 := size_c1; have e2 := size_c2; have e3 := size_c3; have e4 := size_c4; have e5 := size_e; have e6 := size_w; have e7 := size_s; have e8 := size_ws; (repeat rw [ByteArray.size_append]); omega)
        go_simp
        exact hK.out _ _ (Below.refl _ _) rfl
      refine FSteps.cons ?_ ?_
      · intro u W hS hd K hK
        clear hd
        simp only [upd, reduceIte, Nat.reduceEqDiff] at hK
        go_simp
        exact hK.out _ _ (Below.refl _ _) rfl
      refine FSteps.cons ?_ ?_
      · intro u W hS hd K hK
        have h12 : u 12 = _ := hd 12 rfl
        clear hd
        simp only [upd, h12, reduceIte, Nat.reduceEqDiff] at hK
        have c0 := hS.1.k4.cell
        go_simp
        exact hK.out _ _ (Below.refl _ _) rfl
      refine FSteps.cons ?_ ?_
      · intro u W hS hd K hK
        have h13 : u 13 = _ := hd 13 rfl
        clear hd
        simp only [upd, h13, reduceIte, Nat.reduceEqDiff] at hK
        go_simp
        go_at_call 16
        refine (HD3.out _).mono ?_
        rintro e wc ⟨rfl, rfl⟩
        exact hK.out _ _ (Below.refl _ _) rfl
      refine FSteps.cons ?_ ?_
      · intro u W hS hd K hK
        have h11 : u 11 = _ := hd 11 rfl
        have h14 : u 14 = _ := hd 14 rfl
        clear hd
        simp only [upd, h11, h14, reduceIte, Nat.reduceEqDiff] at hK
        have ha := fun W' => run_string_add_sum (P := Tryd.prog) (w := W') ((⟨#[87, 73, 68, 69, 32, 83, 82, 69, 74, 32]⟩ : ByteArray) ++ ⟨#[78, 49, 61]⟩ ++ D1 ++ ⟨#[32, 75, 61]⟩ ++ D2 ++ ⟨#[32, 84, 49, 61]⟩) D3 (by obtain ⟨s1, s2, s3, s4⟩ := HSZ.out; have e1 := size_c1; have e2 := size_c2; have e3 := size_c3; have e4 := size_c4; have e5 := size_e; have e6 := size_w; have e7 := size_s; have e8 := size_ws; (repeat rw [ByteArray.size_append]); omega)
        go_simp
        exact hK.out _ _ (Below.refl _ _) rfl
      refine FSteps.cons ?_ ?_
      · intro u W hS hd K hK
        have h15 : u 15 = _ := hd 15 rfl
        clear hd
        simp only [upd, h15, reduceIte, Nat.reduceEqDiff] at hK
        have ha := fun W' => run_string_add_sum (P := Tryd.prog) (w := W') ((⟨#[87, 73, 68, 69, 32, 83, 82, 69, 74, 32]⟩ : ByteArray) ++ ⟨#[78, 49, 61]⟩ ++ D1 ++ ⟨#[32, 75, 61]⟩ ++ D2 ++ ⟨#[32, 84, 49, 61]⟩ ++ D3) ⟨#[32, 78, 50, 61]⟩ (by obtain ⟨s1, s2, s3, s4⟩ := HSZ.out; have e1 := size_c1; have e2 := size_c2; have e3 := size_c3; have e4 := size_c4; have e5 := size_e; have e6 := size_w; have e7 := size_s; have e8 := size_ws; (repeat rw [ByteArray.size_append]); omega)
        go_simp
        exact hK.out _ _ (Below.refl _ _) rfl
      refine FSteps.cons ?_ ?_
      · intro u W hS hd K hK
        clear hd
        simp only [upd, reduceIte, Nat.reduceEqDiff] at hK
        go_simp
        exact hK.out _ _ (Below.refl _ _) rfl
      refine FSteps.cons ?_ ?_
      · intro u W hS hd K hK
        have h17 : u 17 = _ := hd 17 rfl
        clear hd
        simp only [upd, h17, reduceIte, Nat.reduceEqDiff] at hK
        have c0 := hS.1.k5.cell
        go_simp
        exact hK.out _ _ (Below.refl _ _) rfl
      refine FSteps.cons ?_ ?_
      · intro u W hS hd K hK
        have h18 : u 18 = _ := hd 18 rfl
        clear hd
        simp only [upd, h18, reduceIte, Nat.reduceEqDiff] at hK
        go_simp
        go_at_call 16
        refine (HD4.out _).mono ?_
        rintro e wc ⟨rfl, rfl⟩
        exact hK.out _ _ (Below.refl _ _) rfl
      refine FSteps.cons ?_ ?_
      · intro u W hS hd K hK
        have h16 : u 16 = _ := hd 16 rfl
        have h19 : u 19 = _ := hd 19 rfl
        clear hd
        simp only [upd, h16, h19, reduceIte, Nat.reduceEqDiff] at hK
        have ha := fun W' => run_string_add_sum (P := Tryd.prog) (w := W') ((⟨#[87, 73, 68, 69, 32, 83, 82, 69, 74, 32]⟩ : ByteArray) ++ ⟨#[78, 49, 61]⟩ ++ D1 ++ ⟨#[32, 75, 61]⟩ ++ D2 ++ ⟨#[32, 84, 49, 61]⟩ ++ D3 ++ ⟨#[32, 78, 50, 61]⟩) D4 (by obtain ⟨s1, s2, s3, s4⟩ := HSZ.out; have e1 := size_c1; have e2 := size_c2; have e3 := size_c3; have e4 := size_c4; have e5 := size_e; have e6 := size_w; have e7 := size_s; have e8 := size_ws; (repeat rw [ByteArray.size_append]); omega)
        go_simp
        exact hK.out _ _ (Below.refl _ _) rfl
      refine FSteps.cons ?_ ?_
      · intro u W hS hd K hK
        have h20 : u 20 = _ := hd 20 rfl
        clear hd
        simp only [upd, h20, reduceIte, Nat.reduceEqDiff] at hK
        go_simp
        exact hK.out _ _ (Below.refl _ _) rfl
      exact trivial
    case hend4 =>
      intro u w2 hS hd
      have h21 : u 21 = _ := hd 21 rfl
      have HB2 := Lib.hid hS.2
      clear hd hS
      rw [HT.out ⟨#[87, 73, 68, 69, 32, 83, 82, 69, 74, 32]⟩ rfl] at h21
      go_wp2
      go_ret
      exact ⟨congrArg Ending.returned h21, HB2.out⟩
end Go.Proofs.YtmbjhhpnckfppaaDoor
