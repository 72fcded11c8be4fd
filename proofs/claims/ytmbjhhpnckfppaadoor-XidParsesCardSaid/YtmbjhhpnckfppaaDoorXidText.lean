/-
The landed code's Text.
-/
import Derived.Test.YtmbjhhpnckfppaaDoorXidDig
import Derived.Test.YtmbjhhpnckfppaaDoorXidBase
import Derived.Test.YtmbjhhpnckfppaaDoorFacts
namespace Go.Proofs.YtmbjhhpnckfppaaDoor
open Go.RowKit Go.Sort
set_option maxRecDepth 20000
/-- what stands ahead of the numbers -/
def preT (a b : Bool) : List UInt8 := (if a then [87, 73, 68, 69, 32] else []) ++ if b then [83, 82, 69, 74, 32] else []
/-- right parameters in words -/
def textX (a b : Bool) (n k t r : Int) : List UInt8 := preT a b ++ (wordT [78, 49] n ++ 32 :: (wordT [75] k ++ 32 :: (wordT [84, 49] t ++ 32 :: wordT [78, 50] r)))
theorem size_sp : (⟨#[32]⟩ : ByteArray).size = 1 := rfl
theorem size_e : (⟨#[]⟩ : ByteArray).size = 0 := rfl
theorem size_w : (⟨#[87, 73, 68, 69, 32]⟩ : ByteArray).size = 5 := rfl
theorem size_s : (⟨#[83, 82, 69, 74, 32]⟩ : ByteArray).size = 5 := rfl
theorem size_ws : (⟨#[87, 73, 68, 69, 32, 83, 82, 69, 74, 32]⟩ : ByteArray).size = 10 := rfl
theorem word_len (nm : List UInt8) (n : Int) (h : 0 ≤ n ∧ n ≤ 999) (hm : nm.length ≤ 4) : (⟨(wordT nm n).toArray⟩ : ByteArray).size ≤ 8 := by
  have := itoa_len n h
  show (List.toArray _).size ≤ 8
  simp [wordT]
  omega
theorem xtext_no (a b : Bool) (n k t r : Int) (w : World) (hr : rightX a b n k t r = false) : Calls Tryd.prog 6 #[.agg #[.bool a, .bool b, .int .i64 n, .int .i64 k, .int .i64 t, .int .i64 r]] w fun e w' => e = .returned (.string ⟨#[]⟩) ∧ Below w.heap.size w w' := by
  have HA := C6.new w w.heap.size rfl (.bool a) (.bool b) (.int .i64 n) (.int .i64 k) (.int .i64 t) (.int .i64 r) 23
  have HB := Lib.hid ((Below.refl _ w).alloc (Nat.le_refl _) (.cells #[.bool a, .bool b, .int .i64 n, .int .i64 k, .int .i64 t, .int .i64 r] 23))
  have hR := fun W => xright_any a b n k t r W
  rw [hr] at hR
  have HR := Lib.hid hR
  obtain ⟨⟨c0, -, -⟩, ⟨c1, -, -⟩, ⟨c2, -, -⟩, ⟨c3, -, -⟩, ⟨c4, -, -⟩, ⟨c5, -, -⟩⟩ := HA
  clear hR hr
  go_enter Tryd.func6, Tryd.ntmps6
  go_wp2_with (go_at_call 10; (with_reducible refine (HR.out _).mono ?_); rintro e w1 ⟨rfl, hb⟩; have HB1 := Lib.hid (HB.out.trans (hb.mono HB.out.size)); clear hb c0 c1 c2 c3 c4 c5)
  go_ret
  exact ⟨rfl, HB1.out⟩
set_option maxHeartbeats 2000000 in
theorem xtext_yes (a b : Bool) (n k t r : Int) (w : World) (hV : VarsOk w) (hr : rightX a b n k t r = true) : Calls Tryd.prog 6 #[.agg #[.bool a, .bool b, .int .i64 n, .int .i64 k, .int .i64 t, .int .i64 r]] w fun e w' => e = .returned (.string ⟨(textX a b n k t r).toArray⟩) ∧ Below w.heap.size w w' := by
  obtain ⟨n0, n1, k0, k1, t0, t1, r0, r1⟩ := rightX_facts hr
  have HA := Lib.hid (C6.new w w.heap.size rfl (.bool a) (.bool b) (.int .i64 n) (.int .i64 k) (.int .i64 t) (.int .i64 r) 23)
  have HB := Lib.hid ((Below.refl _ w).alloc (Nat.le_refl _) (.cells #[.bool a, .bool b, .int .i64 n, .int .i64 k, .int .i64 t, .int .i64 r] 23))
  have hR := fun W => xright_any a b n k t r W
  rw [hr] at hR
  have HR := Lib.hid hR
  have HW1 := Lib.hid (fun W (h : Below w.heap.size w W) => word_any ⟨#[78, 49]⟩ n W (hV.below h) (by omega) (by decide))
  have HW2 := Lib.hid (fun W (h : Below w.heap.size w W) => word_any ⟨#[75]⟩ k W (hV.below h) (by omega) (by decide))
  have HW3 := Lib.hid (fun W (h : Below w.heap.size w W) => word_any ⟨#[84, 49]⟩ t W (hV.below h) (by omega) (by decide))
  have HW4 := Lib.hid (fun W (h : Below w.heap.size w W) => word_any ⟨#[78, 50]⟩ r W (hV.below h) (by omega) (by decide))
  obtain ⟨W1, hW1⟩ : ∃ W1 : ByteArray, W1 = ⟨(wordT [78, 49] n).toArray⟩ := ⟨_, rfl⟩
  obtain ⟨W2, hW2⟩ : ∃ W2 : ByteArray, W2 = ⟨(wordT [75] k).toArray⟩ := ⟨_, rfl⟩
  obtain ⟨W3, hW3⟩ : ∃ W3 : ByteArray, W3 = ⟨(wordT [84, 49] t).toArray⟩ := ⟨_, rfl⟩
  obtain ⟨W4, hW4⟩ : ∃ W4 : ByteArray, W4 = ⟨(wordT [78, 50] r).toArray⟩ := ⟨_, rfl⟩
  have HSZ := Lib.hid (show W1.size ≤ 8 ∧ W2.size ≤ 8 ∧ W3.size ≤ 8 ∧ W4.size ≤ 8 from by
    rw [hW1, hW2, hW3, hW4]
    exact ⟨word_len _ _ (by omega) (by decide), word_len _ _ (by omega) (by decide), word_len _ _ (by omega) (by decide), word_len _ _ (by omega) (by decide)⟩)
  have HT := Lib.hid (show ∀ P : ByteArray, P.data.toList = preT a b → P ++ W1 ++ ⟨#[32]⟩ ++ W2 ++ ⟨#[32]⟩ ++ W3 ++ ⟨#[32]⟩ ++ W4 = ⟨(textX a b n k t r).toArray⟩ from fun P hP => bytes_ext' (by rw [hW1, hW2, hW3, hW4]; simp [ByteArray.data_append, textX, hP]))
  change Hid (∀ W (h : Below w.heap.size w W), Calls Tryd.prog 13 #[.string ⟨#[78, 49]⟩, .int .i64 n] W fun e w' => e = .returned (.string ⟨(wordT [78, 49] n).toArray⟩) ∧ Below W.heap.size W w') at HW1
  change Hid (∀ W (h : Below w.heap.size w W), Calls Tryd.prog 13 #[.string ⟨#[75]⟩, .int .i64 k] W fun e w' => e = .returned (.string ⟨(wordT [75] k).toArray⟩) ∧ Below W.heap.size W w') at HW2
  change Hid (∀ W (h : Below w.heap.size w W), Calls Tryd.prog 13 #[.string ⟨#[84, 49]⟩, .int .i64 t] W fun e w' => e = .returned (.string ⟨(wordT [84, 49] t).toArray⟩) ∧ Below W.heap.size W w') at HW3
  change Hid (∀ W (h : Below w.heap.size w W), Calls Tryd.prog 13 #[.string ⟨#[78, 50]⟩, .int .i64 r] W fun e w' => e = .returned (.string ⟨(wordT [78, 50] r).toArray⟩) ∧ Below W.heap.size W w') at HW4
  rw [← hW1] at HW1
  rw [← hW2] at HW2
  rw [← hW3] at HW3
  rw [← hW4] at HW4
  generalize (⟨(textX a b n k t r).toArray⟩ : ByteArray) = R at *
  clear hR hr hW1 hW2 hW3 hW4 hV n0 n1 k0 k1 t0 t1 r0 r1
  obtain ⟨⟨c0, -, -⟩, ⟨c1, -, -⟩, ⟨c2, -, -⟩, ⟨c3, -, -⟩, ⟨c4, -, -⟩, ⟨c5, -, -⟩⟩ := HA.out
  rcases a with _ | _ <;> rcases b with _ | _
  · go_enter Tryd.func6, Tryd.ntmps6
    go_wp2_with (go_at_call 10; (with_reducible refine (HR.out _).mono ?_); rintro e w1 ⟨rfl, hb⟩; have HB1 := Lib.hid (HB.out.trans (hb.mono HB.out.size)); have HA1 := Lib.hid (HA.out.below hb); clear hb c0 c1 c2 c3 c4 c5; obtain ⟨⟨c0, -, -⟩, ⟨c1, -, -⟩, ⟨c2, -, -⟩, ⟨c3, -, -⟩, ⟨c4, -, -⟩, ⟨c5, -, -⟩⟩ := HA1.out)
    clear c0 c1 c2 c3 c4 c5
    refine wp_region_facts (fun W W' => Below W.heap.size W W') (fun W => C6 W w.heap.size (.bool false) (.bool false) (.int .i64 n) (.int .i64 k) (.int .i64 t) (.int .i64 r) ∧ Below w.heap.size w W) (factsOf [.is (.string ⟨#[]⟩), .is (.pointer (some ⟨w.heap.size, 2, none⟩)), .is (.int .i64 n), .is (.string W1), .is (.string ((⟨#[]⟩ : ByteArray) ++ W1)), .is (.string ((⟨#[]⟩ : ByteArray) ++ W1 ++ ⟨#[32]⟩)), .is (.pointer (some ⟨w.heap.size, 3, none⟩)), .is (.int .i64 k), .is (.string W2), .is (.string ((⟨#[]⟩ : ByteArray) ++ W1 ++ ⟨#[32]⟩ ++ W2)), .is (.string ((⟨#[]⟩ : ByteArray) ++ W1 ++ ⟨#[32]⟩ ++ W2 ++ ⟨#[32]⟩)), .is (.pointer (some ⟨w.heap.size, 4, none⟩)), .is (.int .i64 t), .is (.string W3), .is (.string ((⟨#[]⟩ : ByteArray) ++ W1 ++ ⟨#[32]⟩ ++ W2 ++ ⟨#[32]⟩ ++ W3)), .is (.string ((⟨#[]⟩ : ByteArray) ++ W1 ++ ⟨#[32]⟩ ++ W2 ++ ⟨#[32]⟩ ++ W3 ++ ⟨#[32]⟩)), .is (.pointer (some ⟨w.heap.size, 5, none⟩)), .is (.int .i64 r), .is (.string W4), .is (.string ((⟨#[]⟩ : ByteArray) ++ W1 ++ ⟨#[32]⟩ ++ W2 ++ ⟨#[32]⟩ ++ W3 ++ ⟨#[32]⟩ ++ W4)), .is (.string ((⟨#[]⟩ : ByteArray) ++ W1 ++ ⟨#[32]⟩ ++ W2 ++ ⟨#[32]⟩ ++ W3 ++ ⟨#[32]⟩ ++ W4))]) (by kernel_rfl) (by kernel_rfl) (facts_stay _) (fun W W' hb h => ⟨h.1.below hb, h.2.trans (hb.mono h.2.size)⟩) (fun i => if i = 20 then .string ⟨#[]⟩ else undef) (by kernel_rfl) ⟨HA1.out.drew, HB1.out.drew⟩ ?F1 ?hF1 ?hstep1 ?hend1
    case hF1 =>
      intro u
      simp only [fillAct]
      go_simp
      rfl
    case hstep1 =>
      refine FSteps.cons ?_ ?_
      · intro u W hS hd K hK
        clear hd
        simp only [upd, reduceIte, Nat.reduceEqDiff] at hK
        go_simp
        exact hK.out _ _ (Below.refl _ _) rfl
      refine FSteps.cons ?_ ?_
      · intro u W hS hd K hK
        clear hd
        simp only [upd, reduceIte, Nat.reduceEqDiff] at hK
        go_simp
        exact hK.out _ _ (Below.refl _ _) rfl
      refine FSteps.cons ?_ ?_
      · intro u W hS hd K hK
        have h1 : u 1 = _ := hd 1 rfl
        clear hd
        simp only [upd, h1, reduceIte, Nat.reduceEqDiff] at hK
        have c0 := hS.1.k2.cell
        go_simp
        exact hK.out _ _ (Below.refl _ _) rfl
      refine FSteps.cons ?_ ?_
      · intro u W hS hd K hK
        have h2 : u 2 = _ := hd 2 rfl
        clear hd
        simp only [upd, h2, reduceIte, Nat.reduceEqDiff] at hK
        go_simp
        go_at_call 13
        refine (HW1.out _ hS.2).mono ?_
        rintro e wc ⟨rfl, hb⟩
        exact hK.out _ _ hb rfl
      refine FSteps.cons ?_ ?_
      · intro u W hS hd K hK
        have h0 : u 0 = _ := hd 0 rfl
        have h3 : u 3 = _ := hd 3 rfl
        clear hd
        simp only [upd, h0, h3, reduceIte, Nat.reduceEqDiff] at hK
        have ha := fun W' => run_string_add_sum (P := Tryd.prog) (w := W') ((⟨#[]⟩ : ByteArray)) W1 (by obtain ⟨s1, s2, s3, s4⟩ := HSZ.out; have e1 := size_sp; have e2 := size_e; have e3 := size_w; have e4 := size_s; have e5 := size_ws; (repeat rw [ByteArray.size_append]); omega)
        go_simp
        exact hK.out _ _ (Below.refl _ _) rfl
      refine FSteps.cons ?_ ?_
      · intro u W hS hd K hK
        have h4 : u 4 = _ := hd 4 rfl
        clear hd
        simp only [upd, h4, reduceIte, Nat.reduceEqDiff] at hK
        have ha := fun W' => run_string_add_sum (P := Tryd.prog) (w := W') ((⟨#[]⟩ : ByteArray) ++ W1) ⟨#[32]⟩ (by obtain ⟨s1, s2, s3, s4⟩ := HSZ.out; have e1 := size_sp; have e2 := size_e; have e3 := size_w; have e4 := size_s; have e5 := size_ws; (repeat rw [ByteArray.size_append]); omega)
        go_simp
        exact hK.out _ _ (Below.refl _ _) rfl
      refine FSteps.cons ?_ ?_
      · intro u W hS hd K hK
        clear hd
        simp only [upd, reduceIte, Nat.reduceEqDiff] at hK
        go_simp
        exact hK.out _ _ (Below.refl _ _) rfl
      refine FSteps.cons ?_ ?_
      · intro u W hS hd K hK
        have h6 : u 6 = _ := hd 6 rfl
        clear hd
        simp only [upd, h6, reduceIte, Nat.reduceEqDiff] at hK
        have c0 := hS.1.k3.cell
        go_simp
        exact hK.out _ _ (Below.refl _ _) rfl
      refine FSteps.cons ?_ ?_
      · intro u W hS hd K hK
        have h7 : u 7 = _ := hd 7 rfl
        clear hd
        simp only [upd, h7, reduceIte, Nat.reduceEqDiff] at hK
        go_simp
        go_at_call 13
        refine (HW2.out _ hS.2).mono ?_
        rintro e wc ⟨rfl, hb⟩
        exact hK.out _ _ hb rfl
      refine FSteps.cons ?_ ?_
      · intro u W hS hd K hK
        have h5 : u 5 = _ := hd 5 rfl
        have h8 : u 8 = _ := hd 8 rfl
        clear hd
        simp only [upd, h5, h8, reduceIte, Nat.reduceEqDiff] at hK
        have ha := fun W' => run_string_add_sum (P := Tryd.prog) (w := W') ((⟨#[]⟩ : ByteArray) ++ W1 ++ ⟨#[32]⟩) W2 (by obtain ⟨s1, s2, s3, s4⟩ := HSZ.out; have e1 := size_sp; have e2 := size_e; have e3 := size_w; have e4 := size_s; have e5 := size_ws; (repeat rw [ByteArray.size_append]); omega)
        go_simp
        exact hK.out _ _ (Below.refl _ _) rfl
      refine FSteps.cons ?_ ?_
      · intro u W hS hd K hK
        have h9 : u 9 = _ := hd 9 rfl
        clear hd
        simp only [upd, h9, reduceIte, Nat.reduceEqDiff] at hK
        have ha := fun W' => run_string_add_sum (P := Tryd.prog) (w := W') ((⟨#[]⟩ : ByteArray) ++ W1 ++ ⟨#[32]⟩ ++ W2) ⟨#[32]⟩ (by obtain ⟨s1, s2, s3, s4⟩ := HSZ.out; have e1 := size_sp; have e2 := size_e; have e3 := size_w; have e4 := size_s; have e5 := size_ws; (repeat rw [ByteArray.size_append]); omega)
        go_simp
        exact hK.out _ _ (Below.refl _ _) rfl
      refine FSteps.cons ?_ ?_
      · intro u W hS hd K hK
        clear hd
        simp only [upd, reduceIte, Nat.reduceEqDiff] at hK
        go_simp
        exact hK.out _ _ (Below.refl _ _) rfl
      refine FSteps.cons ?_ ?_
      · intro u W hS hd K hK
        have h11 : u 11 = _ := hd 11 rfl
        clear hd
        simp only [upd, h11, reduceIte, Nat.reduceEqDiff] at hK
        have c0 := hS.1.k4.cell
        go_simp
        exact hK.out _ _ (Below.refl _ _) rfl
      refine FSteps.cons ?_ ?_
      · intro u W hS hd K hK
        have h12 : u 12 = _ := hd 12 rfl
        clear hd
        simp only [upd, h12, reduceIte, Nat.reduceEqDiff] at hK
        go_simp
        go_at_call 13
        refine (HW3.out _ hS.2).mono ?_
        rintro e wc ⟨rfl, hb⟩
        exact hK.out _ _ hb rfl
      refine FSteps.cons ?_ ?_
      · intro u W hS hd K hK
        have h10 : u 10 = _ := hd 10 rfl
        have h13 : u 13 = _ := hd 13 rfl
        clear hd
        simp only [upd, h10, h13, reduceIte, Nat.reduceEqDiff] at hK
        have ha := fun W' => run_string_add_sum (P := Tryd.prog) (w := W') ((⟨#[]⟩ : ByteArray) ++ W1 ++ ⟨#[32]⟩ ++ W2 ++ ⟨#[32]⟩) W3 (by obtain ⟨s1, s2, s3, s4⟩ := HSZ.out; have e1 := size_sp; have e2 := size_e; have e3 := size_w; have e4 := size_s; have e5 := size_ws; (repeat rw [ByteArray.size_append]); omega)
        go_simp
        exact hK.out _ _ (Below.refl _ _) rfl
      refine FSteps.cons ?_ ?_
      · intro u W hS hd K hK
        have h14 : u 14 = _ := hd 14 rfl
        clear hd
        simp only [upd, h14, reduceIte, Nat.reduceEqDiff] at hK
        have ha := fun W' => run_string_add_sum (P := Tryd.prog) (w := W') ((⟨#[]⟩ : ByteArray) ++ W1 ++ ⟨#[32]⟩ ++ W2 ++ ⟨#[32]⟩ ++ W3) ⟨#[32]⟩ (by obtain ⟨s1, s2, s3, s4⟩ := HSZ.out; have e1 := size_sp; have e2 := size_e; have e3 := size_w; have e4 := size_s; have e5 := size_ws; (repeat rw [ByteArray.size_append]); omega)
        go_simp
        exact hK.out _ _ (Below.refl _ _) rfl
      refine FSteps.cons ?_ ?_
      · intro u W hS hd K hK
        clear hd
        simp only [upd, reduceIte, Nat.reduceEqDiff] at hK
        go_simp
        exact hK.out _ _ (Below.refl _ _) rfl
      refine FSteps.cons ?_ ?_
      · intro u W hS hd K hK
        have h16 : u 16 = _ := hd 16 rfl
        clear hd
        simp only [upd, h16, reduceIte, Nat.reduceEqDiff] at hK
        have c0 := hS.1.k5.cell
        go_simp
        exact hK.out _ _ (Below.refl _ _) rfl
      refine FSteps.cons ?_ ?_
      · intro u W hS hd K hK
        have h17 : u 17 = _ := hd 17 rfl
        clear hd
        simp only [upd, h17, reduceIte, Nat.reduceEqDiff] at hK
        go_simp
        go_at_call 13
        refine (HW4.out _ hS.2).mono ?_
        rintro e wc ⟨rfl, hb⟩
        exact hK.out _ _ hb rfl
      refine FSteps.cons ?_ ?_
      · intro u W hS hd K hK
        have h15 : u 15 = _ := hd 15 rfl
        have h18 : u 18 = _ := hd 18 rfl
        clear hd
        simp only [upd, h15, h18, reduceIte, Nat.reduceEqDiff] at hK
        have ha := fun W' => run_string_add_sum (P := Tryd.prog) (w := W') ((⟨#[]⟩ : ByteArray) ++ W1 ++ ⟨#[32]⟩ ++ W2 ++ ⟨#[32]⟩ ++ W3 ++ ⟨#[32]⟩) W4 (by obtain ⟨s1, s2, s3, s4⟩ := HSZ.out; have e1 := size_sp; have e2 := size_e; have e3 := size_w; have e4 := size_s; have e5 := size_ws; (repeat rw [ByteArray.size_append]); omega)
        go_simp
        exact hK.out _ _ (Below.refl _ _) rfl
      refine FSteps.cons ?_ ?_
      · intro u W hS hd K hK
        have h19 : u 19 = _ := hd 19 rfl
        clear hd
        simp only [upd, h19, reduceIte, Nat.reduceEqDiff] at hK
        go_simp
        exact hK.out _ _ (Below.refl _ _) rfl
      exact trivial
    case hend1 =>
      intro u w2 hS hd
      have h20 : u 20 = _ := hd 20 rfl
      have HB2 := Lib.hid hS.2
      clear hd hS
      rw [HT.out ⟨#[]⟩ rfl] at h20
      go_wp2
      go_ret
      exact ⟨congrArg Ending.returned h20, HB2.out⟩
  · go_enter Tryd.func6, Tryd.ntmps6
    go_wp2_with (go_at_call 10; (with_reducible refine (HR.out _).mono ?_); rintro e w1 ⟨rfl, hb⟩; have HB1 := Lib.hid (HB.out.trans (hb.mono HB.out.size)); have HA1 := Lib.hid (HA.out.below hb); clear hb c0 c1 c2 c3 c4 c5; obtain ⟨⟨c0, -, -⟩, ⟨c1, -, -⟩, ⟨c2, -, -⟩, ⟨c3, -, -⟩, ⟨c4, -, -⟩, ⟨c5, -, -⟩⟩ := HA1.out)
    clear c0 c1 c2 c3 c4 c5
    refine wp_region_facts (fun W W' => Below W.heap.size W W') (fun W => C6 W w.heap.size (.bool false) (.bool true) (.int .i64 n) (.int .i64 k) (.int .i64 t) (.int .i64 r) ∧ Below w.heap.size w W) (factsOf [.is (.string ⟨#[83, 82, 69, 74, 32]⟩), .is (.pointer (some ⟨w.heap.size, 2, none⟩)), .is (.int .i64 n), .is (.string W1), .is (.string ((⟨#[83, 82, 69, 74, 32]⟩ : ByteArray) ++ W1)), .is (.string ((⟨#[83, 82, 69, 74, 32]⟩ : ByteArray) ++ W1 ++ ⟨#[32]⟩)), .is (.pointer (some ⟨w.heap.size, 3, none⟩)), .is (.int .i64 k), .is (.string W2), .is (.string ((⟨#[83, 82, 69, 74, 32]⟩ : ByteArray) ++ W1 ++ ⟨#[32]⟩ ++ W2)), .is (.string ((⟨#[83, 82, 69, 74, 32]⟩ : ByteArray) ++ W1 ++ ⟨#[32]⟩ ++ W2 ++ ⟨#[32]⟩)), .is (.pointer (some ⟨w.heap.size, 4, none⟩)), .is (.int .i64 t), .is (.string W3), .is (.string ((⟨#[83, 82, 69, 74, 32]⟩ : ByteArray) ++ W1 ++ ⟨#[32]⟩ ++ W2 ++ ⟨#[32]⟩ ++ W3)), .is (.string ((⟨#[83, 82, 69, 74, 32]⟩ : ByteArray) ++ W1 ++ ⟨#[32]⟩ ++ W2 ++ ⟨#[32]⟩ ++ W3 ++ ⟨#[32]⟩)), .is (.pointer (some ⟨w.heap.size, 5, none⟩)), .is (.int .i64 r), .is (.string W4), .is (.string ((⟨#[83, 82, 69, 74, 32]⟩ : ByteArray) ++ W1 ++ ⟨#[32]⟩ ++ W2 ++ ⟨#[32]⟩ ++ W3 ++ ⟨#[32]⟩ ++ W4)), .is (.string ((⟨#[83, 82, 69, 74, 32]⟩ : ByteArray) ++ W1 ++ ⟨#[32]⟩ ++ W2 ++ ⟨#[32]⟩ ++ W3 ++ ⟨#[32]⟩ ++ W4))]) (by kernel_rfl) (by kernel_rfl) (facts_stay _) (fun W W' hb h => ⟨h.1.below hb, h.2.trans (hb.mono h.2.size)⟩) (fun i => if i = 20 then .string ⟨#[]⟩ else undef) (by kernel_rfl) ⟨HA1.out.drew, HB1.out.drew⟩ ?F2 ?hF2 ?hstep2 ?hend2
    case hF2 =>
      intro u
      simp only [fillAct]
      go_simp
      rfl
    case hstep2 =>
      refine FSteps.cons ?_ ?_
      · intro u W hS hd K hK
        clear hd
        simp only [upd, reduceIte, Nat.reduceEqDiff] at hK
        go_simp
        exact hK.out _ _ (Below.refl _ _) rfl
      refine FSteps.cons ?_ ?_
      · intro u W hS hd K hK
        clear hd
        simp only [upd, reduceIte, Nat.reduceEqDiff] at hK
        go_simp
        exact hK.out _ _ (Below.refl _ _) rfl
      refine FSteps.cons ?_ ?_
      · intro u W hS hd K hK
        have h1 : u 1 = _ := hd 1 rfl
        clear hd
        simp only [upd, h1, reduceIte, Nat.reduceEqDiff] at hK
        have c0 := hS.1.k2.cell
        go_simp
        exact hK.out _ _ (Below.refl _ _) rfl
      refine FSteps.cons ?_ ?_
      · intro u W hS hd K hK
        have h2 : u 2 = _ := hd 2 rfl
        clear hd
        simp only [upd, h2, reduceIte, Nat.reduceEqDiff] at hK
        go_simp
        go_at_call 13
        refine (HW1.out _ hS.2).mono ?_
        rintro e wc ⟨rfl, hb⟩
        exact hK.out _ _ hb rfl
      refine FSteps.cons ?_ ?_
      · intro u W hS hd K hK
        have h0 : u 0 = _ := hd 0 rfl
        have h3 : u 3 = _ := hd 3 rfl
        clear hd
        simp only [upd, h0, h3, reduceIte, Nat.reduceEqDiff] at hK
        have ha := fun W' => run_string_add_sum (P := Tryd.prog) (w := W') ((⟨#[83, 82, 69, 74, 32]⟩ : ByteArray)) W1 (by obtain ⟨s1, s2, s3, s4⟩ := HSZ.out; have e1 := size_sp; have e2 := size_e; have e3 := size_w; have e4 := size_s; have e5 := size_ws; (repeat rw [ByteArray.size_append]); omega)
        go_simp
        exact hK.out _ _ (Below.refl _ _) rfl
      refine FSteps.cons ?_ ?_
      · intro u W hS hd K hK
        have h4 : u 4 = _ := hd 4 rfl
        clear hd
        simp only [upd, h4, reduceIte, Nat.reduceEqDiff] at hK
        have ha := fun W' => run_string_add_sum (P := Tryd.prog) (w := W') ((⟨#[83, 82, 69, 74, 32]⟩ : ByteArray) ++ W1) ⟨#[32]⟩ (by obtain ⟨s1, s2, s3, s4⟩ := HSZ.out; have e1 := size_sp; have e2 := size_e; have e3 := size_w; have e4 := size_s; have e5 := size_ws; (repeat rw [ByteArray.size_append]); omega)
        go_simp
        exact hK.out _ _ (Below.refl _ _) rfl
      refine FSteps.cons ?_ ?_
      · intro u W hS hd K hK
        clear hd
        simp only [upd, reduceIte, Nat.reduceEqDiff] at hK
        go_simp
        exact hK.out _ _ (Below.refl _ _) rfl
      refine FSteps.cons ?_ ?_
      · intro u W hS hd K hK
        have h6 : u 6 = _ := hd 6 rfl
        clear hd
        simp only [upd, h6, reduceIte, Nat.reduceEqDiff] at hK
        have c0 := hS.1.k3.cell
        go_simp
        exact hK.out _ _ (Below.refl _ _) rfl
      refine FSteps.cons ?_ ?_
      · intro u W hS hd K hK
        have h7 : u 7 = _ := hd 7 rfl
        clear hd
        simp only [upd, h7, reduceIte, Nat.reduceEqDiff] at hK
        go_simp
        go_at_call 13
        refine (HW2.out _ hS.2).mono ?_
        rintro e wc ⟨rfl, hb⟩
        exact hK.out _ _ hb rfl
      refine FSteps.cons ?_ ?_
      · intro u W hS hd K hK
        have h5 : u 5 = _ := hd 5 rfl
        have h8 : u 8 = _ := hd 8 rfl
        clear hd
        simp only [upd, h5, h8, reduceIte, Nat.reduceEqDiff] at hK
        have ha := fun W' => run_string_add_sum (P := Tryd.prog) (w := W') ((⟨#[83, 82, 69, 74, 32]⟩ : ByteArray) ++ W1 ++ ⟨#[32]⟩) W2 (by obtain ⟨s1, s2, s3, s4⟩ := HSZ.out; have e1 := size_sp; have e2 := size_e; have e3 := size_w; have e4 := size_s; have e5 := size_ws; (repeat rw [ByteArray.size_append]); omega)
        go_simp
        exact hK.out _ _ (Below.refl _ _) rfl
      refine FSteps.cons ?_ ?_
      · intro u W hS hd K hK
        have h9 : u 9 = _ := hd 9 rfl
        clear hd
        simp only [upd, h9, reduceIte, Nat.reduceEqDiff] at hK
        have ha := fun W' => run_string_add_sum (P := Tryd.prog) (w := W') ((⟨#[83, 82, 69, 74, 32]⟩ : ByteArray) ++ W1 ++ ⟨#[32]⟩ ++ W2) ⟨#[32]⟩ (by obtain ⟨s1, s2, s3, s4⟩ := HSZ.out; have e1 := size_sp; have e2 := size_e; have e3 := size_w; have e4 := size_s; have e5 := size_ws; (repeat rw [ByteArray.size_append]); omega)
        go_simp
        exact hK.out _ _ (Below.refl _ _) rfl
      refine FSteps.cons ?_ ?_
      · intro u W hS hd K hK
        clear hd
        simp only [upd, reduceIte, Nat.reduceEqDiff] at hK
        go_simp
        exact hK.out _ _ (Below.refl _ _) rfl
      refine FSteps.cons ?_ ?_
      · intro u W hS hd K hK
        have h11 : u 11 = _ := hd 11 rfl
        clear hd
        simp only [upd, h11, reduceIte, Nat.reduceEqDiff] at hK
        have c0 := hS.1.k4.cell
        go_simp
        exact hK.out _ _ (Below.refl _ _) rfl
      refine FSteps.cons ?_ ?_
      · intro u W hS hd K hK
        have h12 : u 12 = _ := hd 12 rfl
        clear hd
        simp only [upd, h12, reduceIte, Nat.reduceEqDiff] at hK
        go_simp
        go_at_call 13
        refine (HW3.out _ hS.2).mono ?_
        rintro e wc ⟨rfl, hb⟩
        exact hK.out _ _ hb rfl
      refine FSteps.cons ?_ ?_
      · intro u W hS hd K hK
        have h10 : u 10 = _ := hd 10 rfl
        have h13 : u 13 = _ := hd 13 rfl
        clear hd
        simp only [upd, h10, h13, reduceIte, Nat.reduceEqDiff] at hK
        have ha := fun W' => run_string_add_sum (P := Tryd.prog) (w := W') ((⟨#[83, 82, 69, 74, 32]⟩ : ByteArray) ++ W1 ++ ⟨#[32]⟩ ++ W2 ++ ⟨#[32]⟩) W3 (by obtain ⟨s1, s2, s3, s4⟩ := HSZ.out; have e1 := size_sp; have e2 := size_e; have e3 := size_w; have e4 := size_s; have e5 := size_ws; (repeat rw [ByteArray.size_append]); omega)
        go_simp
        exact hK.out _ _ (Below.refl _ _) rfl
      refine FSteps.cons ?_ ?_
      · intro u W hS hd K hK
        have h14 : u 14 = _ := hd 14 rfl
        clear hd
        simp only [upd, h14, reduceIte, Nat.reduceEqDiff] at hK
        have ha := fun W' => run_string_add_sum (P := Tryd.prog) (w := W') ((⟨#[83, 82, 69, 74, 32]⟩ : ByteArray) ++ W1 ++ ⟨#[32]⟩ ++ W2 ++ ⟨#[32]⟩ ++ W3) ⟨#[32]⟩ (by obtain ⟨s1, s2, s3, s4⟩ := HSZ.out; have e1 := size_sp; have e2 := size_e; have e3 := size_w; have e4 := size_s; have e5 := size_ws; (repeat rw [ByteArray.size_append]); omega)
        go_simp
        exact hK.out _ _ (Below.refl _ _) rfl
      refine FSteps.cons ?_ ?_
      · intro u W hS hd K hK
        clear hd
        simp only [upd, reduceIte, Nat.reduceEqDiff] at hK
        go_simp
        exact hK.out _ _ (Below.refl _ _) rfl
      refine FSteps.cons ?_ ?_
      · intro u W hS hd K hK
        have h16 : u 16 = _ := hd 16 rfl
        clear hd
        simp only [upd, h16, reduceIte, Nat.reduceEqDiff] at hK
        have c0 := hS.1.k5.cell
        go_simp
        exact hK.out _ _ (Below.refl _ _) rfl
      refine FSteps.cons ?_ ?_
      · intro u W hS hd K hK
        have h17 : u 17 = _ := hd 17 rfl
        clear hd
        simp only [upd, h17, reduceIte, Nat.reduceEqDiff] at hK
        go_simp
        go_at_call 13
        refine (HW4.out _ hS.2).mono ?_
        rintro e wc ⟨rfl, hb⟩
        exact hK.out _ _ hb rfl
      refine FSteps.cons ?_ ?_
      · intro u W hS hd K hK
        have h15 : u 15 = _ := hd 15 rfl
        have h18 : u 18 = _ := hd 18 rfl
        clear hd
        simp only [upd, h15, h18, reduceIte, Nat.reduceEqDiff] at hK
        have ha := fun W' => run_string_add_sum (P := Tryd.prog) (w := W') ((⟨#[83, 82, 69, 74, 32]⟩ : ByteArray) ++ W1 ++ ⟨#[32]⟩ ++ W2 ++ ⟨#[32]⟩ ++ W3 ++ ⟨#[32]⟩) W4 (by obtain ⟨s1, s2, s3, s4⟩ := HSZ.out; have e1 := size_sp; have e2 := size_e; have e3 := size_w; have e4 := size_s; have e5 := size_ws; (repeat rw [ByteArray.size_append]); omega)
        go_simp
        exact hK.out _ _ (Below.refl _ _) rfl
      refine FSteps.cons ?_ ?_
      · intro u W hS hd K hK
        have h19 : u 19 = _ := hd 19 rfl
        clear hd
        simp only [upd, h19, reduceIte, Nat.reduceEqDiff] at hK
        go_simp
        exact hK.out _ _ (Below.refl _ _) rfl
      exact trivial
    case hend2 =>
      intro u w2 hS hd
      have h20 : u 20 = _ := hd 20 rfl
      have HB2 := Lib.hid hS.2
      clear hd hS
      rw [HT.out ⟨#[83, 82, 69, 74, 32]⟩ rfl] at h20
      go_wp2
      go_ret
      exact ⟨congrArg Ending.returned h20, HB2.out⟩
  · go_enter Tryd.func6, Tryd.ntmps6
    go_wp2_with (go_at_call 10; (with_reducible refine (HR.out _).mono ?_); rintro e w1 ⟨rfl, hb⟩; have HB1 := Lib.hid (HB.out.trans (hb.mono HB.out.size)); have HA1 := Lib.hid (HA.out.below hb); clear hb c0 c1 c2 c3 c4 c5; obtain ⟨⟨c0, -, -⟩, ⟨c1, -, -⟩, ⟨c2, -, -⟩, ⟨c3, -, -⟩, ⟨c4, -, -⟩, ⟨c5, -, -⟩⟩ := HA1.out)
    clear c0 c1 c2 c3 c4 c5
    refine wp_region_facts (fun W W' => Below W.heap.size W W') (fun W => C6 W w.heap.size (.bool true) (.bool false) (.int .i64 n) (.int .i64 k) (.int .i64 t) (.int .i64 r) ∧ Below w.heap.size w W) (factsOf [.is (.string ⟨#[87, 73, 68, 69, 32]⟩), .is (.pointer (some ⟨w.heap.size, 2, none⟩)), .is (.int .i64 n), .is (.string W1), .is (.string ((⟨#[87, 73, 68, 69, 32]⟩ : ByteArray) ++ W1)), .is (.string ((⟨#[87, 73, 68, 69, 32]⟩ : ByteArray) ++ W1 ++ ⟨#[32]⟩)), .is (.pointer (some ⟨w.heap.size, 3, none⟩)), .is (.int .i64 k), .is (.string W2), .is (.string ((⟨#[87, 73, 68, 69, 32]⟩ : ByteArray) ++ W1 ++ ⟨#[32]⟩ ++ W2)), .is (.string ((⟨#[87, 73, 68, 69, 32]⟩ : ByteArray) ++ W1 ++ ⟨#[32]⟩ ++ W2 ++ ⟨#[32]⟩)), .is (.pointer (some ⟨w.heap.size, 4, none⟩)), .is (.int .i64 t), .is (.string W3), .is (.string ((⟨#[87, 73, 68, 69, 32]⟩ : ByteArray) ++ W1 ++ ⟨#[32]⟩ ++ W2 ++ ⟨#[32]⟩ ++ W3)), .is (.string ((⟨#[87, 73, 68, 69, 32]⟩ : ByteArray) ++ W1 ++ ⟨#[32]⟩ ++ W2 ++ ⟨#[32]⟩ ++ W3 ++ ⟨#[32]⟩)), .is (.pointer (some ⟨w.heap.size, 5, none⟩)), .is (.int .i64 r), .is (.string W4), .is (.string ((⟨#[87, 73, 68, 69, 32]⟩ : ByteArray) ++ W1 ++ ⟨#[32]⟩ ++ W2 ++ ⟨#[32]⟩ ++ W3 ++ ⟨#[32]⟩ ++ W4)), .is (.string ((⟨#[87, 73, 68, 69, 32]⟩ : ByteArray) ++ W1 ++ ⟨#[32]⟩ ++ W2 ++ ⟨#[32]⟩ ++ W3 ++ ⟨#[32]⟩ ++ W4))]) (by kernel_rfl) (by kernel_rfl) (facts_stay _) (fun W W' hb h => ⟨h.1.below hb, h.2.trans (hb.mono h.2.size)⟩) (fun i => if i = 20 then .string ⟨#[]⟩ else undef) (by kernel_rfl) ⟨HA1.out.drew, HB1.out.drew⟩ ?F3 ?hF3 ?hstep3 ?hend3
    case hF3 =>
      intro u
      simp only [fillAct]
      go_simp
      rfl
    case hstep3 =>
      refine FSteps.cons ?_ ?_
      · intro u W hS hd K hK
        clear hd
        simp only [upd, reduceIte, Nat.reduceEqDiff] at hK
        go_simp
        exact hK.out _ _ (Below.refl _ _) rfl
      refine FSteps.cons ?_ ?_
      · intro u W hS hd K hK
        clear hd
        simp only [upd, reduceIte, Nat.reduceEqDiff] at hK
        go_simp
        exact hK.out _ _ (Below.refl _ _) rfl
      refine FSteps.cons ?_ ?_
      · intro u W hS hd K hK
        have h1 : u 1 = _ := hd 1 rfl
        clear hd
        simp only [upd, h1, reduceIte, Nat.reduceEqDiff] at hK
        have c0 := hS.1.k2.cell
        go_simp
        exact hK.out _ _ (Below.refl _ _) rfl
      refine FSteps.cons ?_ ?_
      · intro u W hS hd K hK
        have h2 : u 2 = _ := hd 2 rfl
        clear hd
        simp only [upd, h2, reduceIte, Nat.reduceEqDiff] at hK
        go_simp
        go_at_call 13
        refine (HW1.out _ hS.2).mono ?_
        rintro e wc ⟨rfl, hb⟩
        exact hK.out _ _ hb rfl
      refine FSteps.cons ?_ ?_
      · intro u W hS hd K hK
        have h0 : u 0 = _ := hd 0 rfl
        have h3 : u 3 = _ := hd 3 rfl
        clear hd
        simp only [upd, h0, h3, reduceIte, Nat.reduceEqDiff] at hK
        have ha := fun W' => run_string_add_sum (P := Tryd.prog) (w := W') ((⟨#[87, 73, 68, 69, 32]⟩ : ByteArray)) W1 (by obtain ⟨s1, s2, s3, s4⟩ := HSZ.out; have e1 := size_sp; have e2 := size_e; have e3 := size_w; have e4 := size_s; have e5 := size_ws; (repeat rw [ByteArray.size_append]); omega)
        go_simp
        exact hK.out _ _ (Below.refl _ _) rfl
      refine FSteps.cons ?_ ?_
      · intro u W hS hd K hK
        have h4 : u 4 = _ := hd 4 rfl
        clear hd
        simp only [upd, h4, reduceIte, Nat.reduceEqDiff] at hK
        have ha := fun W' => run_string_add_sum (P := Tryd.prog) (w := W') ((⟨#[87, 73, 68, 69, 32]⟩ : ByteArray) ++ W1) ⟨#[32]⟩ (by obtain ⟨s1, s2, s3, s4⟩ := HSZ.out; have e1 := size_sp; have e2 := size_e; have e3 := size_w; have e4 := size_s; have e5 := size_ws; (repeat rw [ByteArray.size_append]); omega)
        go_simp
        exact hK.out _ _ (Below.refl _ _) rfl
      refine FSteps.cons ?_ ?_
      · intro u W hS hd K hK
        clear hd
        simp only [upd, reduceIte, Nat.reduceEqDiff] at hK
        go_simp
        exact hK.out _ _ (Below.refl _ _) rfl
      refine FSteps.cons ?_ ?_
      · intro u W hS hd K hK
        have h6 : u 6 = _ := hd 6 rfl
        clear hd
        simp only [upd, h6, reduceIte, Nat.reduceEqDiff] at hK
        have c0 := hS.1.k3.cell
        go_simp
        exact hK.out _ _ (Below.refl _ _) rfl
      refine FSteps.cons ?_ ?_
      · intro u W hS hd K hK
        have h7 : u 7 = _ := hd 7 rfl
        clear hd
        simp only [upd, h7, reduceIte, Nat.reduceEqDiff] at hK
        go_simp
        go_at_call 13
        refine (HW2.out _ hS.2).mono ?_
        rintro e wc ⟨rfl, hb⟩
        exact hK.out _ _ hb rfl
      refine FSteps.cons ?_ ?_
      · intro u W hS hd K hK
        have h5 : u 5 = _ := hd 5 rfl
        have h8 : u 8 = _ := hd 8 rfl
        clear hd
        simp only [upd, h5, h8, reduceIte, Nat.reduceEqDiff] at hK
        have ha := fun W' => run_string_add_sum (P := Tryd.prog) (w := W') ((⟨#[87, 73, 68, 69, 32]⟩ : ByteArray) ++ W1 ++ ⟨#[32]⟩) W2 (by obtain ⟨s1, s2, s3, s4⟩ := HSZ.out; have e1 := size_sp; have e2 := size_e; have e3 := size_w; have e4 := size_s; have e5 := size_ws; (repeat rw [ByteArray.size_append]); omega)
        go_simp
        exact hK.out _ _ (Below.refl _ _) rfl
      refine FSteps.cons ?_ ?_
      · intro u W hS hd K hK
        have h9 : u 9 = _ := hd 9 rfl
        clear hd
        simp only [upd, h9, reduceIte, Nat.reduceEqDiff] at hK
        have ha := fun W' => run_string_add_sum (P := Tryd.prog) (w := W') ((⟨#[87, 73, 68, 69, 32]⟩ : ByteArray) ++ W1 ++ ⟨#[32]⟩ ++ W2) ⟨#[32]⟩ (by obtain ⟨s1, s2, s3, s4⟩ := HSZ.out; have e1 := size_sp; have e2 := size_e; have e3 := size_w; have e4 := size_s; have e5 := size_ws; (repeat rw [ByteArray.size_append]); omega)
        go_simp
        exact hK.out _ _ (Below.refl _ _) rfl
      refine FSteps.cons ?_ ?_
      · intro u W hS hd K hK
        clear hd
        simp only [upd, reduceIte, Nat.reduceEqDiff] at hK
        go_simp
        exact hK.out _ _ (Below.refl _ _) rfl
      refine FSteps.cons ?_ ?_
      · intro u W hS hd K hK
        have h11 : u 11 = _ := hd 11 rfl
        clear hd
        simp only [upd, h11, reduceIte, Nat.reduceEqDiff] at hK
        have c0 := hS.1.k4.cell
        go_simp
        exact hK.out _ _ (Below.refl _ _) rfl
      refine FSteps.cons ?_ ?_
      · intro u W hS hd K hK
        have h12 : u 12 = _ := hd 12 rfl
        clear hd
        simp only [upd, h12, reduceIte, Nat.reduceEqDiff] at hK
        go_simp
        go_at_call 13
        refine (HW3.out _ hS.2).mono ?_
        rintro e wc ⟨rfl, hb⟩
        exact hK.out _ _ hb rfl
      refine FSteps.cons ?_ ?_
      · intro u W hS hd K hK
        have h10 : u 10 = _ := hd 10 rfl
        have h13 : u 13 = _ := hd 13 rfl
        clear hd
        simp only [upd, h10, h13, reduceIte, Nat.reduceEqDiff] at hK
        have ha := fun W' => run_string_add_sum (P := Tryd.prog) (w := W') ((⟨#[87, 73, 68, 69, 32]⟩ : ByteArray) ++ W1 ++ ⟨#[32]⟩ ++ W2 ++ ⟨#[32]⟩) W3 (by obtain ⟨s1, s2, s3, s4⟩ := HSZ.out; have e1 := size_sp; have e2 := size_e; have e3 := size_w; have e4 := size_s; have e5 := size_ws; (repeat rw [ByteArray.size_append]); omega)
        go_simp
        exact hK.out _ _ (Below.refl _ _) rfl
      refine FSteps.cons ?_ ?_
      · intro u W hS hd K hK
        have h14 : u 14 = _ := hd 14 rfl
        clear hd
        simp only [upd, h14, reduceIte, Nat.reduceEqDiff] at hK
        have ha := fun W' => run_string_add_sum (P := Tryd.prog) (w := W') ((⟨#[87, 73, 68, 69, 32]⟩ : ByteArray) ++ W1 ++ ⟨#[32]⟩ ++ W2 ++ ⟨#[32]⟩ ++ W3) ⟨#[32]⟩ (by obtain ⟨s1, s2, s3, s4⟩ := HSZ.out; have e1 := size_sp; have e2 := size_e; have e3 := size_w; have e4 := size_s; have e5 := size_ws; (repeat rw [ByteArray.size_append]); omega)
        go_simp
        exact hK.out _ _ (Below.refl _ _) rfl
      refine FSteps.cons ?_ ?_
      · intro u W hS hd K hK
        clear hd
        simp only [upd, reduceIte, Nat.reduceEqDiff] at hK
        go_simp
        exact hK.out _ _ (Below.refl _ _) rfl
      refine FSteps.cons ?_ ?_
      · intro u W hS hd K hK
        have h16 : u 16 = _ := hd 16 rfl
        clear hd
        simp only [upd, h16, reduceIte, Nat.reduceEqDiff] at hK
        have c0 := hS.1.k5.cell
        go_simp
        exact hK.out _ _ (Below.refl _ _) rfl
      refine FSteps.cons ?_ ?_
      · intro u W hS hd K hK
        have h17 : u 17 = _ := hd 17 rfl
        clear hd
        simp only [upd, h17, reduceIte, Nat.reduceEqDiff] at hK
        go_simp
        go_at_call 13
        refine (HW4.out _ hS.2).mono ?_
        rintro e wc ⟨rfl, hb⟩
        exact hK.out _ _ hb rfl
      refine FSteps.cons ?_ ?_
      · intro u W hS hd K hK
        have h15 : u 15 = _ := hd 15 rfl
        have h18 : u 18 = _ := hd 18 rfl
        clear hd
        simp only [upd, h15, h18, reduceIte, Nat.reduceEqDiff] at hK
        have ha := fun W' => run_string_add_sum (P := Tryd.prog) (w := W') ((⟨#[87, 73, 68, 69, 32]⟩ : ByteArray) ++ W1 ++ ⟨#[32]⟩ ++ W2 ++ ⟨#[32]⟩ ++ W3 ++ ⟨#[32]⟩) W4 (by obtain ⟨s1, s2, s3, s4⟩ := HSZ.out; have e1 := size_sp; have e2 := size_e; have e3 := size_w; have e4 := size_s; have e5 := size_ws; (repeat rw [ByteArray.size_append]); omega)
        go_simp
        exact hK.out _ _ (Below.refl _ _) rfl
      refine FSteps.cons ?_ ?_
      · intro u W hS hd K hK
        have h19 : u 19 = _ := hd 19 rfl
        clear hd
        simp only [upd, h19, reduceIte, Nat.reduceEqDiff] at hK
        go_simp
        exact hK.out _ _ (Below.refl _ _) rfl
      exact trivial
    case hend3 =>
      intro u w2 hS hd
      have h20 : u 20 = _ := hd 20 rfl
      have HB2 := Lib.hid hS.2
      clear hd hS
      rw [HT.out ⟨#[87, 73, 68, 69, 32]⟩ rfl] at h20
      go_wp2
      go_ret
      exact ⟨congrArg Ending.returned h20, HB2.out⟩
  · go_enter Tryd.func6, Tryd.ntmps6
    go_wp2_with (go_at_call 10; (with_reducible refine (HR.out _).mono ?_); rintro e w1 ⟨rfl, hb⟩; have HB1 := Lib.hid (HB.out.trans (hb.mono HB.out.size)); have HA1 := Lib.hid (HA.out.below hb); clear hb c0 c1 c2 c3 c4 c5; obtain ⟨⟨c0, -, -⟩, ⟨c1, -, -⟩, ⟨c2, -, -⟩, ⟨c3, -, -⟩, ⟨c4, -, -⟩, ⟨c5, -, -⟩⟩ := HA1.out)
    clear c0 c1 c2 c3 c4 c5
    refine wp_region_facts (fun W W' => Below W.heap.size W W') (fun W => C6 W w.heap.size (.bool true) (.bool true) (.int .i64 n) (.int .i64 k) (.int .i64 t) (.int .i64 r) ∧ Below w.heap.size w W) (factsOf [.is (.string ⟨#[87, 73, 68, 69, 32, 83, 82, 69, 74, 32]⟩), .is (.pointer (some ⟨w.heap.size, 2, none⟩)), .is (.int .i64 n), .is (.string W1), .is (.string ((⟨#[87, 73, 68, 69, 32, 83, 82, 69, 74, 32]⟩ : ByteArray) ++ W1)), .is (.string ((⟨#[87, 73, 68, 69, 32, 83, 82, 69, 74, 32]⟩ : ByteArray) ++ W1 ++ ⟨#[32]⟩)), .is (.pointer (some ⟨w.heap.size, 3, none⟩)), .is (.int .i64 k), .is (.string W2), .is (.string ((⟨#[87, 73, 68, 69, 32, 83, 82, 69, 74, 32]⟩ : ByteArray) ++ W1 ++ ⟨#[32]⟩ ++ W2)), .is (.string ((⟨#[87, 73, 68, 69, 32, 83, 82, 69, 74, 32]⟩ : ByteArray) ++ W1 ++ ⟨#[32]⟩ ++ W2 ++ ⟨#[32]⟩)), .is (.pointer (some ⟨w.heap.size, 4, none⟩)), .is (.int .i64 t), .is (.string W3), .is (.string ((⟨#[87, 73, 68, 69, 32, 83, 82, 69, 74, 32]⟩ : ByteArray) ++ W1 ++ ⟨#[32]⟩ ++ W2 ++ ⟨#[32]⟩ ++ W3)), .is (.string ((⟨#[87, 73, 68, 69, 32, 83, 82, 69, 74, 32]⟩ : ByteArray) ++ W1 ++ ⟨#[32]⟩ ++ W2 ++ ⟨#[32]⟩ ++ W3 ++ ⟨#[32]⟩)), .is (.pointer (some ⟨w.heap.size, 5, none⟩)), .is (.int .i64 r), .is (.string W4), .is (.string ((⟨#[87, 73, 68, 69, 32, 83, 82, 69, 74, 32]⟩ : ByteArray) ++ W1 ++ ⟨#[32]⟩ ++ W2 ++ ⟨#[32]⟩ ++ W3 ++ ⟨#[32]⟩ ++ W4)), .is (.string ((⟨#[87, 73, 68, 69, 32, 83, 82, 69, 74, 32]⟩ : ByteArray) ++ W1 ++ ⟨#[32]⟩ ++ W2 ++ ⟨#[32]⟩ ++ W3 ++ ⟨#[32]⟩ ++ W4))]) (by kernel_rfl) (by kernel_rfl) (facts_stay _) (fun W W' hb h => ⟨h.1.below hb, h.2.trans (hb.mono h.2.size)⟩) (fun i => if i = 20 then .string ⟨#[]⟩ else undef) (by kernel_rfl) ⟨HA1.out.drew, HB1.out.drew⟩ ?F4 ?hF4 ?hstep4 ?hend4
    case hF4 =>
      intro u
      simp only [fillAct]
      go_simp
      rfl
    case hstep4 =>
      refine FSteps.cons ?_ ?_
      · intro u W hS hd K hK
        clear hd
        simp only [upd, reduceIte, Nat.reduceEqDiff] at hK
        go_simp
        exact hK.out _ _ (Below.refl _ _) rfl
      refine FSteps.cons ?_ ?_
      · intro u W hS hd K hK
        clear hd
        simp only [upd, reduceIte, Nat.reduceEqDiff] at hK
        go_simp
        exact hK.out _ _ (Below.refl _ _) rfl
      refine FSteps.cons ?_ ?_
      · intro u W hS hd K hK
        have h1 : u 1 = _ := hd 1 rfl
        clear hd
        simp only [upd, h1, reduceIte, Nat.reduceEqDiff] at hK
        have c0 := hS.1.k2.cell
        go_simp
        exact hK.out _ _ (Below.refl _ _) rfl
      refine FSteps.cons ?_ ?_
      · intro u W hS hd K hK
        have h2 : u 2 = _ := hd 2 rfl
        clear hd
        simp only [upd, h2, reduceIte, Nat.reduceEqDiff] at hK
        go_simp
        go_at_call 13
        refine (HW1.out _ hS.2).mono ?_
        rintro e wc ⟨rfl, hb⟩
        exact hK.out _ _ hb rfl
      refine FSteps.cons ?_ ?_
      · intro u W hS hd K hK
        have h0 : u 0 = _ := hd 0 rfl
        have h3 : u 3 = _ := hd 3 rfl
        clear hd
        simp only [upd, h0, h3, reduceIte, Nat.reduceEqDiff] at hK
        have ha := fun W' => run_string_add_sum (P := Tryd.prog) (w := W') ((⟨#[87, 73, 68, 69, 32, 83, 82, 69, 74, 32]⟩ : ByteArray)) W1 (by obtain ⟨s1, s2, s3, s4⟩ := HSZ.out; have e1 := size_sp; have e2 := size_e; have e3 := size_w; have e4 := size_s; have e5 := size_ws; (repeat rw [ByteArray.size_append]); omega)
        go_simp
        exact hK.out _ _ (Below.refl _ _) rfl
      refine FSteps.cons ?_ ?_
      · intro u W hS hd K hK
        have h4 : u 4 = _ := hd 4 rfl
        clear hd
        simp only [upd, h4, reduceIte, Nat.reduceEqDiff] at hK
        have ha := fun W' => run_string_add_sum (P := Tryd.prog) (w := W') ((⟨#[87, 73, 68, 69, 32, 83, 82, 69, 74, 32]⟩ : ByteArray) ++ W1) ⟨#[32]⟩ (by obtain ⟨s1, s2, s3, s4⟩ := HSZ.out; have e1 := size_sp; have e2 := size_e; have e3 := size_w; have e4 := size_s; have e5 := size_ws; (repeat rw [ByteArray.size_append]); omega)
        go_simp
        exact hK.out _ _ (Below.refl _ _) rfl
      refine FSteps.cons ?_ ?_
      · intro u W hS hd K hK
        clear hd
        simp only [upd, reduceIte, Nat.reduceEqDiff] at hK
        go_simp
        exact hK.out _ _ (Below.refl _ _) rfl
      refine FSteps.cons ?_ ?_
      · intro u W hS hd K hK
        have h6 : u 6 = _ := hd 6 rfl
        clear hd
        simp only [upd, h6, reduceIte, Nat.reduceEqDiff] at hK
        have c0 := hS.1.k3.cell
        go_simp
        exact hK.out _ _ (Below.refl _ _) rfl
      refine FSteps.cons ?_ ?_
      · intro u W hS hd K hK
        have h7 : u 7 = _ := hd 7 rfl
        clear hd
        simp only [upd, h7, reduceIte, Nat.reduceEqDiff] at hK
        go_simp
        go_at_call 13
        refine (HW2.out _ hS.2).mono ?_
        rintro e wc ⟨rfl, hb⟩
        exact hK.out _ _ hb rfl
      refine FSteps.cons ?_ ?_
      · intro u W hS hd K hK
        have h5 : u 5 = _ := hd 5 rfl
        have h8 : u 8 = _ := hd 8 rfl
        clear hd
        simp only [upd, h5, h8, reduceIte, Nat.reduceEqDiff] at hK
        have ha := fun W' => run_string_add_sum (P := Tryd.prog) (w := W') ((⟨#[87, 73, 68, 69, 32, 83, 82, 69, 74, 32]⟩ : ByteArray) ++ W1 ++ ⟨#[32]⟩) W2 (by obtain ⟨s1, s2, s3, s4⟩ := HSZ.out; have e1 := size_sp; have e2 := size_e; have e3 := size_w; have e4 := size_s; have e5 := size_ws; (repeat rw [ByteArray.size_append]); omega)
        go_simp
        exact hK.out _ _ (Below.refl _ _) rfl
      refine FSteps.cons ?_ ?_
      · intro u W hS hd K hK
        have h9 : u 9 = _ := hd 9 rfl
        clear hd
        simp only [upd, h9, reduceIte, Nat.reduceEqDiff] at hK
        have ha := fun W' => run_string_add_sum (P := Tryd.prog) (w := W') ((⟨#[87, 73, 68, 69, 32, 83, 82, 69, 74, 32]⟩ : ByteArray) ++ W1 ++ ⟨#[32]⟩ ++ W2) ⟨#[32]⟩ (by obtain ⟨s1, s2, s3, s4⟩ := HSZ.out; have e1 := size_sp; have e2 := size_e; have e3 := size_w; have e4 := size_s; have e5 := size_ws; (repeat rw [ByteArray.size_append]); omega)
        go_simp
        exact hK.out _ _ (Below.refl _ _) rfl
      refine FSteps.cons ?_ ?_
      · intro u W hS hd K hK
        clear hd
        simp only [upd, reduceIte, Nat.reduceEqDiff] at hK
        go_simp
        exact hK.out _ _ (Below.refl _ _) rfl
      refine FSteps.cons ?_ ?_
      · intro u W hS hd K hK
        have h11 : u 11 = _ := hd 11 rfl
        clear hd
        simp only [upd, h11, reduceIte, Nat.reduceEqDiff] at hK
        have c0 := hS.1.k4.cell
        go_simp
        exact hK.out _ _ (Below.refl _ _) rfl
      refine FSteps.cons ?_ ?_
      · intro u W hS hd K hK
        have h12 : u 12 = _ := hd 12 rfl
        clear hd
        simp only [upd, h12, reduceIte, Nat.reduceEqDiff] at hK
        go_simp
        go_at_call 13
        refine (HW3.out _ hS.2).mono ?_
        rintro e wc ⟨rfl, hb⟩
        exact hK.out _ _ hb rfl
      refine FSteps.cons ?_ ?_
      · intro u W hS hd K hK
        have h10 : u 10 = _ := hd 10 rfl
        have h13 : u 13 = _ := hd 13 rfl
        clear hd
        simp only [upd, h10, h13, reduceIte, Nat.reduceEqDiff] at hK
        have ha := fun W' => run_string_add_sum (P := Tryd.prog) (w := W') ((⟨#[87, 73, 68, 69, 32, 83, 82, 69, 74, 32]⟩ : ByteArray) ++ W1 ++ ⟨#[32]⟩ ++ W2 ++ ⟨#[32]⟩) W3 (by obtain ⟨s1, s2, s3, s4⟩ := HSZ.out; have e1 := size_sp; have e2 := size_e; have e3 := size_w; have e4 := size_s; have e5 := size_ws; (repeat rw [ByteArray.size_append]); omega)
        go_simp
        exact hK.out _ _ (Below.refl _ _) rfl
      refine FSteps.cons ?_ ?_
      · intro u W hS hd K hK
        have h14 : u 14 = _ := hd 14 rfl
        clear hd
        simp only [upd, h14, reduceIte, Nat.reduceEqDiff] at hK
        have ha := fun W' => run_string_add_sum (P := Tryd.prog) (w := W') ((⟨#[87, 73, 68, 69, 32, 83, 82, 69, 74, 32]⟩ : ByteArray) ++ W1 ++ ⟨#[32]⟩ ++ W2 ++ ⟨#[32]⟩ ++ W3) ⟨#[32]⟩ (by obtain ⟨s1, s2, s3, s4⟩ := HSZ.out; have e1 := size_sp; have e2 := size_e; have e3 := size_w; have e4 := size_s; have e5 := size_ws; (repeat rw [ByteArray.size_append]); omega)
        go_simp
        exact hK.out _ _ (Below.refl _ _) rfl
      refine FSteps.cons ?_ ?_
      · intro u W hS hd K hK
        clear hd
        simp only [upd, reduceIte, Nat.reduceEqDiff] at hK
        go_simp
        exact hK.out _ _ (Below.refl _ _) rfl
      refine FSteps.cons ?_ ?_
      · intro u W hS hd K hK
        have h16 : u 16 = _ := hd 16 rfl
        clear hd
        simp only [upd, h16, reduceIte, Nat.reduceEqDiff] at hK
        have c0 := hS.1.k5.cell
        go_simp
        exact hK.out _ _ (Below.refl _ _) rfl
      refine FSteps.cons ?_ ?_
      · intro u W hS hd K hK
        have h17 : u 17 = _ := hd 17 rfl
        clear hd
        simp only [upd, h17, reduceIte, Nat.reduceEqDiff] at hK
        go_simp
        go_at_call 13
        refine (HW4.out _ hS.2).mono ?_
        rintro e wc ⟨rfl, hb⟩
        exact hK.out _ _ hb rfl
      refine FSteps.cons ?_ ?_
      · intro u W hS hd K hK
        have h15 : u 15 = _ := hd 15 rfl
        have h18 : u 18 = _ := hd 18 rfl
        clear hd
        simp only [upd, h15, h18, reduceIte, Nat.reduceEqDiff] at hK
        have ha := fun W' => run_string_add_sum (P := Tryd.prog) (w := W') ((⟨#[87, 73, 68, 69, 32, 83, 82, 69, 74, 32]⟩ : ByteArray) ++ W1 ++ ⟨#[32]⟩ ++ W2 ++ ⟨#[32]⟩ ++ W3 ++ ⟨#[32]⟩) W4 (by obtain ⟨s1, s2, s3, s4⟩ := HSZ.out; have e1 := size_sp; have e2 := size_e; have e3 := size_w; have e4 := size_s; have e5 := size_ws; (repeat rw [ByteArray.size_append]); omega)
        go_simp
        exact hK.out _ _ (Below.refl _ _) rfl
      refine FSteps.cons ?_ ?_
      · intro u W hS hd K hK
        have h19 : u 19 = _ := hd 19 rfl
        clear hd
        simp only [upd, h19, reduceIte, Nat.reduceEqDiff] at hK
        go_simp
        exact hK.out _ _ (Below.refl _ _) rfl
      exact trivial
    case hend4 =>
      intro u w2 hS hd
      have h20 : u 20 = _ := hd 20 rfl
      have HB2 := Lib.hid hS.2
      clear hd hS
      rw [HT.out ⟨#[87, 73, 68, 69, 32, 83, 82, 69, 74, 32]⟩ rfl] at h20
      go_wp2
      go_ret
      exact ⟨congrArg Ending.returned h20, HB2.out⟩
end Go.Proofs.YtmbjhhpnckfppaaDoor
