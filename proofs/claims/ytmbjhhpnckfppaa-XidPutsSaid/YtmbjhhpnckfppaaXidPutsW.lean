/-
Walk of the statement XidPuts.
-/
import Derived.Test.YtmbjhhpnckfppaaXidGet
import Derived.Test.YtmbjhhpnckfppaaXidRPut
import Derived.Test.YtmbjhhpnckfppaaXidRef
import Derived.Test.YtmbjhhpnckfppaaXidSame
namespace Go.Proofs.Ytmbjhhpnckfppaa
open Go.RowKit
set_option maxRecDepth 20000
set_option maxHeartbeats 2000000 in
theorem xputs_no (a b : Bool) (n k t r : Int) (w : World) (hr : rightX a b n k t r = false) : Calls Try.prog 3 #[.agg #[.bool a, .bool b, .int .i64 n, .int .i64 k, .int .i64 t, .int .i64 r]] w fun e w' => e = .returned (.bool true) ∧ Below w.heap.size w w' := by
  have HP := Lib.hid (fun W => xput_no a b n k t r W hr)
  have HAW := Lib.hid (fun W => xawake_any W)
  have HM := Lib.hid (fun W => most_any a b W)
  have HRM := Lib.hid (fun W => rmost_any a b W)
  have g1 := fun W => xright_any a b n k t r W
  have g2 := fun W => rright8_any a b n k t r W
  rw [hr] at g1 g2
  have HXR := Lib.hid g1
  have HRR := Lib.hid g2
  clear g1 g2
  generalize mostD a b = M at *
  have HB0 := Lib.hid ((Below.refl _ w).alloc (Nat.le_refl _) (.cells #[.bool a, .bool b, .int .i64 n, .int .i64 k, .int .i64 t, .int .i64 r] 23))
  have HX0 := Lib.hid (C6.new w w.heap.size rfl (.bool a) (.bool b) (.int .i64 n) (.int .i64 k) (.int .i64 t) (.int .i64 r) 23)
  go_enter Try.func3, Try.ntmps3
  go_wp2_with fail
  go_at_call 5
  refine (HAW.out _).mono ?_
  rintro e w1 ⟨rfl, hb⟩
  have HB1 := Lib.hid (HB0.out.trans (hb.mono HB0.out.size))
  have HX1 := Lib.hid (HX0.out.below hb)
  clear hb HB0 HX0
  obtain ⟨⟨a0, -, al⟩, ⟨a1, -, -⟩, ⟨a2, -, -⟩, ⟨a3, -, -⟩, ⟨a4, -, -⟩, ⟨a5, -, -⟩⟩ := HX1.out
  go_upto_region 4 with (fail)
  have HB2 := Lib.hid (HB1.out.alloc HB1.out.size (.cells #[.bool a, .bool b, .int .i64 n, .int .i64 k, .int .i64 t, .int .i64 r] 25))
  have HX2 := Lib.hid (HX1.out.alloc (.cells #[.bool a, .bool b, .int .i64 n, .int .i64 k, .int .i64 t, .int .i64 r] 25))
  have HY2 := Lib.hid (C6.new w1 w1.heap.size rfl (.bool a) (.bool b) (.int .i64 n) (.int .i64 k) (.int .i64 t) (.int .i64 r) 25)
  generalize w1.alloc (.cells #[.bool a, .bool b, .int .i64 n, .int .i64 k, .int .i64 t, .int .i64 r] 25) = w2 at *
  generalize w1.heap.size = g at *
  clear HB1 HX1 a0 al a1 a2 a3 a4 a5
  obtain ⟨⟨a0, -, al⟩, ⟨a1, -, -⟩, ⟨a2, -, -⟩, ⟨a3, -, -⟩, ⟨a4, -, -⟩, ⟨a5, -, -⟩⟩ := HX2.out
  obtain ⟨⟨b0, -, bl⟩, ⟨b1, -, -⟩, ⟨b2, -, -⟩, ⟨b3, -, -⟩, ⟨b4, -, -⟩, ⟨b5, -, -⟩⟩ := HY2.out
  go_wp2_with fail
  go_at_call 6
  refine (HRR.out _).mono ?_
  rintro e w3 ⟨rfl, hb⟩
  have HB3 := Lib.hid (HB2.out.trans (hb.mono HB2.out.size))
  have HX3 := Lib.hid (HX2.out.below hb)
  have HY3 := Lib.hid (HY2.out.below hb)
  clear hb HB2 HX2 HY2 a0 al a1 a2 a3 a4 a5 b0 bl b1 b2 b3 b4 b5
  obtain ⟨⟨a0, -, al⟩, ⟨a1, -, -⟩, ⟨a2, -, -⟩, ⟨a3, -, -⟩, ⟨a4, -, -⟩, ⟨a5, -, -⟩⟩ := HX3.out
  go_wp2_with fail
  go_at_call 7
  refine (HP.out _).mono ?_
  rintro e w4 ⟨rfl, hb⟩
  have HB4 := Lib.hid (HB3.out.trans (hb.mono HB3.out.size))
  have HX4 := Lib.hid (HX3.out.below hb)
  have HY4 := Lib.hid (HY3.out.below hb)
  clear hb HB3 HX3 HY3 a0 al a1 a2 a3 a4 a5
  go_wp2_with fail
  refine wp_region_facts (fun W W' => Below W.heap.size W W') (fun W => C6 W w.heap.size (.bool a) (.bool b) (.int .i64 n) (.int .i64 k) (.int .i64 t) (.int .i64 r) ∧ C6 W g (.bool a) (.bool b) (.int .i64 n) (.int .i64 k) (.int .i64 t) (.int .i64 r) ∧ Below w.heap.size w W) (factsOf [.is (.agg #[.bool a, .bool b, .int .i64 n, .int .i64 k, .int .i64 t, .int .i64 r]), .is (.bool false), .is (.bool false), .is (.bool false), .is (.bool false), .is (.pointer (some ⟨w.heap.size, 0, none⟩)), .is (.bool a), .is (.pointer (some ⟨w.heap.size, 1, none⟩)), .is (.bool b), .is (.int .i64 M), .is (.pointer (some ⟨w.heap.size, 0, none⟩)), .is (.bool a), .is (.pointer (some ⟨w.heap.size, 1, none⟩)), .is (.bool b), .is (.int .i64 M), .is (.bool false), .is (.bool false)]) (by kernel_rfl) (by kernel_rfl) (facts_stay _) (fun W W' hb h => ⟨h.1.below hb, h.2.1.below hb, h.2.2.trans (hb.mono h.2.2.size)⟩) (fun _ => undef) (by kernel_rfl) ⟨HX4.out.drew, HY4.out.drew, HB4.out.drew⟩ ?F1 ?hF1 ?hstep1 ?hend1
  case hF1 =>
    intro u
    simp only [fillAct]
    go_simp
    rfl
  case hstep1 =>
      refine FSteps.cons ?_ ?_
      · intro u W hS hd K hK
        clear hd
        simp only [upd, reduceIte, Nat.reduceEqDiff] at hK
        have c0 := hS.1.k0.cell
        have c1 := hS.1.k1.cell
        have c2 := hS.1.k2.cell
        have c3 := hS.1.k3.cell
        have c4 := hS.1.k4.cell
        have c5 := hS.1.k5.cell
        go_simp
        exact hK.out _ _ (Below.refl _ _) rfl
      refine FSteps.cons ?_ ?_
      · intro u W hS hd K hK
        have h0 : u 0 = _ := hd 0 rfl
        clear hd
        simp only [upd, h0, reduceIte, Nat.reduceEqDiff] at hK
        go_simp
        go_at_call 8
        refine (HXR.out _).mono ?_
        rintro e wc ⟨rfl, hb⟩
        exact hK.out _ _ hb rfl
      refine FSteps.cons ?_ ?_
      · intro u W hS hd K hK
        clear hd
        simp only [upd, reduceIte, Nat.reduceEqDiff] at hK
        go_simp
        exact hK.out _ _ (Below.refl _ _) rfl
      refine FSteps.cons ?_ ?_
      · intro u W hS hd K hK
        have h1 : u 1 = _ := hd 1 rfl
        have h2 : u 2 = _ := hd 2 rfl
        clear hd
        simp only [upd, h1, h2, reduceIte, Nat.reduceEqDiff] at hK
        go_simp
        exact hK.out _ _ (Below.refl _ _) rfl
      refine FSteps.cons ?_ ?_
      · intro u W hS hd K hK
        have h3 : u 3 = _ := hd 3 rfl
        clear hd
        simp only [upd, h3, reduceIte, Nat.reduceEqDiff] at hK
        go_simp
        exact hK.out _ _ (Below.refl _ _) rfl
      refine FSteps.cons ?_ ?_
      · intro u W hS hd K hK
        have h4 : u 4 = _ := hd 4 rfl
        clear hd
        simp only [upd, h4, reduceIte, Nat.reduceEqDiff] at hK
        go_simp
        exact hK.out _ _ (Below.refl _ _) rfl
      refine FSteps.cons ?_ ?_
      · intro u W hS hd K hK
        have h4 : u 4 = _ := hd 4 rfl
        have h5 : u 5 = _ := hd 5 rfl
        clear hd
        simp only [upd, h4, h5, reduceIte, Nat.reduceEqDiff] at hK
        have c0 := hS.1.k0.cell
        go_simp
        exact hK.out _ _ (Below.refl _ _) rfl
      refine FSteps.cons ?_ ?_
      · intro u W hS hd K hK
        have h4 : u 4 = _ := hd 4 rfl
        clear hd
        simp only [upd, h4, reduceIte, Nat.reduceEqDiff] at hK
        go_simp
        exact hK.out _ _ (Below.refl _ _) rfl
      refine FSteps.cons ?_ ?_
      · intro u W hS hd K hK
        have h4 : u 4 = _ := hd 4 rfl
        have h7 : u 7 = _ := hd 7 rfl
        clear hd
        simp only [upd, h4, h7, reduceIte, Nat.reduceEqDiff] at hK
        have c0 := hS.1.k1.cell
        go_simp
        exact hK.out _ _ (Below.refl _ _) rfl
      refine FSteps.cons ?_ ?_
      · intro u W hS hd K hK
        have h4 : u 4 = _ := hd 4 rfl
        have h6 : u 6 = _ := hd 6 rfl
        have h8 : u 8 = _ := hd 8 rfl
        clear hd
        simp only [upd, h4, h6, h8, reduceIte, Nat.reduceEqDiff] at hK
        go_simp
        go_at_call 9
        refine (HM.out _).mono ?_
        rintro e wc ⟨rfl, rfl⟩
        exact hK.out _ _ (Below.refl _ _) rfl
      refine FSteps.cons ?_ ?_
      · intro u W hS hd K hK
        have h4 : u 4 = _ := hd 4 rfl
        clear hd
        simp only [upd, h4, reduceIte, Nat.reduceEqDiff] at hK
        go_simp
        exact hK.out _ _ (Below.refl _ _) rfl
      refine FSteps.cons ?_ ?_
      · intro u W hS hd K hK
        have h4 : u 4 = _ := hd 4 rfl
        have h10 : u 10 = _ := hd 10 rfl
        clear hd
        simp only [upd, h4, h10, reduceIte, Nat.reduceEqDiff] at hK
        have c0 := hS.1.k0.cell
        go_simp
        exact hK.out _ _ (Below.refl _ _) rfl
      refine FSteps.cons ?_ ?_
      · intro u W hS hd K hK
        have h4 : u 4 = _ := hd 4 rfl
        clear hd
        simp only [upd, h4, reduceIte, Nat.reduceEqDiff] at hK
        go_simp
        exact hK.out _ _ (Below.refl _ _) rfl
      refine FSteps.cons ?_ ?_
      · intro u W hS hd K hK
        have h4 : u 4 = _ := hd 4 rfl
        have h12 : u 12 = _ := hd 12 rfl
        clear hd
        simp only [upd, h4, h12, reduceIte, Nat.reduceEqDiff] at hK
        have c0 := hS.1.k1.cell
        go_simp
        exact hK.out _ _ (Below.refl _ _) rfl
      refine FSteps.cons ?_ ?_
      · intro u W hS hd K hK
        have h4 : u 4 = _ := hd 4 rfl
        have h11 : u 11 = _ := hd 11 rfl
        have h13 : u 13 = _ := hd 13 rfl
        clear hd
        simp only [upd, h4, h11, h13, reduceIte, Nat.reduceEqDiff] at hK
        go_simp
        go_at_call 10
        refine (HRM.out _).mono ?_
        rintro e wc ⟨rfl, rfl⟩
        exact hK.out _ _ (Below.refl _ _) rfl
      refine FSteps.cons ?_ ?_
      · intro u W hS hd K hK
        have h4 : u 4 = _ := hd 4 rfl
        have h9 : u 9 = _ := hd 9 rfl
        have h14 : u 14 = _ := hd 14 rfl
        clear hd
        simp only [upd, h4, h9, h14, reduceIte, Nat.reduceEqDiff] at hK
        go_simp
        exact hK.out _ _ (Below.refl _ _) rfl
      refine FSteps.cons ?_ ?_
      · intro u W hS hd K hK
        have h4 : u 4 = _ := hd 4 rfl
        have h15 : u 15 = _ := hd 15 rfl
        clear hd
        simp only [upd, h4, h15, reduceIte, Nat.reduceEqDiff] at hK
        go_simp
        exact hK.out _ _ (Below.refl _ _) rfl
      exact trivial
  case hend1 =>
    intro u w5 hS hd
    have h16 : u 16 = _ := hd 16 rfl
    have HX5 := Lib.hid hS.1
    have HY5 := Lib.hid hS.2.1
    have HB5 := Lib.hid hS.2.2
    clear hd hS HX4 HY4 HB4
    rw [h16]
    go_wp2_with fail
    go_ret
    exact ⟨rfl, HB5.out⟩
set_option maxHeartbeats 2000000 in
theorem xputs_yes (a b : Bool) (n k t r : Int) (w : World) (hr : rightX a b n k t r = true) : Calls Try.prog 3 #[.agg #[.bool a, .bool b, .int .i64 n, .int .i64 k, .int .i64 t, .int .i64 r]] w fun e w' => e = .returned (.bool true) ∧ Below w.heap.size w w' := by
  have HP := Lib.hid (fun W => xput_yes a b n k t r W hr)
  have HG := Lib.hid (fun W => xget_put a b n k t r W hr)
  have HRP := Lib.hid (fun W => rput8_any a b n k t r W hr)
  have hq := eq_same a b n k t r
  generalize (⟨(putX a b n k t r).toArray⟩ : ByteArray) = S at *
  have hss : (S.toList == S.toList) = true := beq_self_eq_true _
  have HAW := Lib.hid (fun W => xawake_any W)
  have HM := Lib.hid (fun W => most_any a b W)
  have HRM := Lib.hid (fun W => rmost_any a b W)
  have g1 := fun W => xright_any a b n k t r W
  have g2 := fun W => rright8_any a b n k t r W
  rw [hr] at g1 g2
  have HXR := Lib.hid g1
  have HRR := Lib.hid g2
  clear g1 g2
  generalize mostD a b = M at *
  have HB0 := Lib.hid ((Below.refl _ w).alloc (Nat.le_refl _) (.cells #[.bool a, .bool b, .int .i64 n, .int .i64 k, .int .i64 t, .int .i64 r] 23))
  have HX0 := Lib.hid (C6.new w w.heap.size rfl (.bool a) (.bool b) (.int .i64 n) (.int .i64 k) (.int .i64 t) (.int .i64 r) 23)
  go_enter Try.func3, Try.ntmps3
  go_wp2_with fail
  go_at_call 5
  refine (HAW.out _).mono ?_
  rintro e w1 ⟨rfl, hb⟩
  have HB1 := Lib.hid (HB0.out.trans (hb.mono HB0.out.size))
  have HX1 := Lib.hid (HX0.out.below hb)
  clear hb HB0 HX0
  obtain ⟨⟨a0, -, al⟩, ⟨a1, -, -⟩, ⟨a2, -, -⟩, ⟨a3, -, -⟩, ⟨a4, -, -⟩, ⟨a5, -, -⟩⟩ := HX1.out
  go_upto_region 4 with (fail)
  have HB2 := Lib.hid (HB1.out.alloc HB1.out.size (.cells #[.bool a, .bool b, .int .i64 n, .int .i64 k, .int .i64 t, .int .i64 r] 25))
  have HX2 := Lib.hid (HX1.out.alloc (.cells #[.bool a, .bool b, .int .i64 n, .int .i64 k, .int .i64 t, .int .i64 r] 25))
  have HY2 := Lib.hid (C6.new w1 w1.heap.size rfl (.bool a) (.bool b) (.int .i64 n) (.int .i64 k) (.int .i64 t) (.int .i64 r) 25)
  generalize w1.alloc (.cells #[.bool a, .bool b, .int .i64 n, .int .i64 k, .int .i64 t, .int .i64 r] 25) = w2 at *
  generalize w1.heap.size = g at *
  clear HB1 HX1 a0 al a1 a2 a3 a4 a5
  obtain ⟨⟨a0, -, al⟩, ⟨a1, -, -⟩, ⟨a2, -, -⟩, ⟨a3, -, -⟩, ⟨a4, -, -⟩, ⟨a5, -, -⟩⟩ := HX2.out
  obtain ⟨⟨b0, -, bl⟩, ⟨b1, -, -⟩, ⟨b2, -, -⟩, ⟨b3, -, -⟩, ⟨b4, -, -⟩, ⟨b5, -, -⟩⟩ := HY2.out
  go_wp2_with fail
  go_at_call 6
  refine (HRR.out _).mono ?_
  rintro e w3 ⟨rfl, hb⟩
  have HB3 := Lib.hid (HB2.out.trans (hb.mono HB2.out.size))
  have HX3 := Lib.hid (HX2.out.below hb)
  have HY3 := Lib.hid (HY2.out.below hb)
  clear hb HB2 HX2 HY2 a0 al a1 a2 a3 a4 a5 b0 bl b1 b2 b3 b4 b5
  obtain ⟨⟨a0, -, al⟩, ⟨a1, -, -⟩, ⟨a2, -, -⟩, ⟨a3, -, -⟩, ⟨a4, -, -⟩, ⟨a5, -, -⟩⟩ := HX3.out
  go_wp2_with fail
  go_at_call 7
  refine (HP.out _).mono ?_
  rintro e w4 ⟨rfl, hb⟩
  have HB4 := Lib.hid (HB3.out.trans (hb.mono HB3.out.size))
  have HX4 := Lib.hid (HX3.out.below hb)
  have HY4 := Lib.hid (HY3.out.below hb)
  clear hb HB3 HX3 HY3 a0 al a1 a2 a3 a4 a5
  go_wp2_with fail
  refine wp_region_facts (fun W W' => Below W.heap.size W W') (fun W => C6 W w.heap.size (.bool a) (.bool b) (.int .i64 n) (.int .i64 k) (.int .i64 t) (.int .i64 r) ∧ C6 W g (.bool a) (.bool b) (.int .i64 n) (.int .i64 k) (.int .i64 t) (.int .i64 r) ∧ Below w.heap.size w W) (factsOf [.is (.agg #[.bool a, .bool b, .int .i64 n, .int .i64 k, .int .i64 t, .int .i64 r]), .is (.bool true), .is (.bool true), .is (.bool false), .is (.bool false), .is (.pointer (some ⟨w.heap.size, 0, none⟩)), .is (.bool a), .is (.pointer (some ⟨w.heap.size, 1, none⟩)), .is (.bool b), .is (.int .i64 M), .is (.pointer (some ⟨w.heap.size, 0, none⟩)), .is (.bool a), .is (.pointer (some ⟨w.heap.size, 1, none⟩)), .is (.bool b), .is (.int .i64 M), .is (.bool false), .is (.bool false)]) (by kernel_rfl) (by kernel_rfl) (facts_stay _) (fun W W' hb h => ⟨h.1.below hb, h.2.1.below hb, h.2.2.trans (hb.mono h.2.2.size)⟩) (fun _ => undef) (by kernel_rfl) ⟨HX4.out.drew, HY4.out.drew, HB4.out.drew⟩ ?F2 ?hF2 ?hstep2 ?hend2
  case hF2 =>
    intro u
    simp only [fillAct]
    go_simp
    rfl
  case hstep2 =>
      refine FSteps.cons ?_ ?_
      · intro u W hS hd K hK
        clear hd
        simp only [upd, reduceIte, Nat.reduceEqDiff] at hK
        have c0 := hS.1.k0.cell
        have c1 := hS.1.k1.cell
        have c2 := hS.1.k2.cell
        have c3 := hS.1.k3.cell
        have c4 := hS.1.k4.cell
        have c5 := hS.1.k5.cell
        go_simp
        exact hK.out _ _ (Below.refl _ _) rfl
      refine FSteps.cons ?_ ?_
      · intro u W hS hd K hK
        have h0 : u 0 = _ := hd 0 rfl
        clear hd
        simp only [upd, h0, reduceIte, Nat.reduceEqDiff] at hK
        go_simp
        go_at_call 8
        refine (HXR.out _).mono ?_
        rintro e wc ⟨rfl, hb⟩
        exact hK.out _ _ hb rfl
      refine FSteps.cons ?_ ?_
      · intro u W hS hd K hK
        clear hd
        simp only [upd, reduceIte, Nat.reduceEqDiff] at hK
        go_simp
        exact hK.out _ _ (Below.refl _ _) rfl
      refine FSteps.cons ?_ ?_
      · intro u W hS hd K hK
        have h1 : u 1 = _ := hd 1 rfl
        have h2 : u 2 = _ := hd 2 rfl
        clear hd
        simp only [upd, h1, h2, reduceIte, Nat.reduceEqDiff] at hK
        go_simp
        exact hK.out _ _ (Below.refl _ _) rfl
      refine FSteps.cons ?_ ?_
      · intro u W hS hd K hK
        have h3 : u 3 = _ := hd 3 rfl
        clear hd
        simp only [upd, h3, reduceIte, Nat.reduceEqDiff] at hK
        go_simp
        exact hK.out _ _ (Below.refl _ _) rfl
      refine FSteps.cons ?_ ?_
      · intro u W hS hd K hK
        have h4 : u 4 = _ := hd 4 rfl
        clear hd
        simp only [upd, h4, reduceIte, Nat.reduceEqDiff] at hK
        go_simp
        exact hK.out _ _ (Below.refl _ _) rfl
      refine FSteps.cons ?_ ?_
      · intro u W hS hd K hK
        have h4 : u 4 = _ := hd 4 rfl
        have h5 : u 5 = _ := hd 5 rfl
        clear hd
        simp only [upd, h4, h5, reduceIte, Nat.reduceEqDiff] at hK
        have c0 := hS.1.k0.cell
        go_simp
        exact hK.out _ _ (Below.refl _ _) rfl
      refine FSteps.cons ?_ ?_
      · intro u W hS hd K hK
        have h4 : u 4 = _ := hd 4 rfl
        clear hd
        simp only [upd, h4, reduceIte, Nat.reduceEqDiff] at hK
        go_simp
        exact hK.out _ _ (Below.refl _ _) rfl
      refine FSteps.cons ?_ ?_
      · intro u W hS hd K hK
        have h4 : u 4 = _ := hd 4 rfl
        have h7 : u 7 = _ := hd 7 rfl
        clear hd
        simp only [upd, h4, h7, reduceIte, Nat.reduceEqDiff] at hK
        have c0 := hS.1.k1.cell
        go_simp
        exact hK.out _ _ (Below.refl _ _) rfl
      refine FSteps.cons ?_ ?_
      · intro u W hS hd K hK
        have h4 : u 4 = _ := hd 4 rfl
        have h6 : u 6 = _ := hd 6 rfl
        have h8 : u 8 = _ := hd 8 rfl
        clear hd
        simp only [upd, h4, h6, h8, reduceIte, Nat.reduceEqDiff] at hK
        go_simp
        go_at_call 9
        refine (HM.out _).mono ?_
        rintro e wc ⟨rfl, rfl⟩
        exact hK.out _ _ (Below.refl _ _) rfl
      refine FSteps.cons ?_ ?_
      · intro u W hS hd K hK
        have h4 : u 4 = _ := hd 4 rfl
        clear hd
        simp only [upd, h4, reduceIte, Nat.reduceEqDiff] at hK
        go_simp
        exact hK.out _ _ (Below.refl _ _) rfl
      refine FSteps.cons ?_ ?_
      · intro u W hS hd K hK
        have h4 : u 4 = _ := hd 4 rfl
        have h10 : u 10 = _ := hd 10 rfl
        clear hd
        simp only [upd, h4, h10, reduceIte, Nat.reduceEqDiff] at hK
        have c0 := hS.1.k0.cell
        go_simp
        exact hK.out _ _ (Below.refl _ _) rfl
      refine FSteps.cons ?_ ?_
      · intro u W hS hd K hK
        have h4 : u 4 = _ := hd 4 rfl
        clear hd
        simp only [upd, h4, reduceIte, Nat.reduceEqDiff] at hK
        go_simp
        exact hK.out _ _ (Below.refl _ _) rfl
      refine FSteps.cons ?_ ?_
      · intro u W hS hd K hK
        have h4 : u 4 = _ := hd 4 rfl
        have h12 : u 12 = _ := hd 12 rfl
        clear hd
        simp only [upd, h4, h12, reduceIte, Nat.reduceEqDiff] at hK
        have c0 := hS.1.k1.cell
        go_simp
        exact hK.out _ _ (Below.refl _ _) rfl
      refine FSteps.cons ?_ ?_
      · intro u W hS hd K hK
        have h4 : u 4 = _ := hd 4 rfl
        have h11 : u 11 = _ := hd 11 rfl
        have h13 : u 13 = _ := hd 13 rfl
        clear hd
        simp only [upd, h4, h11, h13, reduceIte, Nat.reduceEqDiff] at hK
        go_simp
        go_at_call 10
        refine (HRM.out _).mono ?_
        rintro e wc ⟨rfl, rfl⟩
        exact hK.out _ _ (Below.refl _ _) rfl
      refine FSteps.cons ?_ ?_
      · intro u W hS hd K hK
        have h4 : u 4 = _ := hd 4 rfl
        have h9 : u 9 = _ := hd 9 rfl
        have h14 : u 14 = _ := hd 14 rfl
        clear hd
        simp only [upd, h4, h9, h14, reduceIte, Nat.reduceEqDiff] at hK
        go_simp
        exact hK.out _ _ (Below.refl _ _) rfl
      refine FSteps.cons ?_ ?_
      · intro u W hS hd K hK
        have h4 : u 4 = _ := hd 4 rfl
        have h15 : u 15 = _ := hd 15 rfl
        clear hd
        simp only [upd, h4, h15, reduceIte, Nat.reduceEqDiff] at hK
        go_simp
        exact hK.out _ _ (Below.refl _ _) rfl
      exact trivial
  case hend2 =>
    intro u w5 hS hd
    have h16 : u 16 = _ := hd 16 rfl
    have HX5 := Lib.hid hS.1
    have HY5 := Lib.hid hS.2.1
    have HB5 := Lib.hid hS.2.2
    clear hd hS HX4 HY4 HB4
    rw [h16]
    go_wp2_with fail
    go_at_call 11
    refine (HG.out _).mono ?_
    rintro e w6 ⟨rfl, hb⟩
    have HB6 := Lib.hid (HB5.out.trans (hb.mono HB5.out.size))
    have HX6 := Lib.hid (HX5.out.below hb)
    have HY6 := Lib.hid (HY5.out.below hb)
    clear hb HB5 HX5 HY5
    go_upto_region 11 with (fail)
    have HB7 := Lib.hid (HB6.out.alloc HB6.out.size (.cells #[.bool a, .bool b, .int .i64 n, .int .i64 k, .int .i64 t, .int .i64 r] 23))
    have HX7 := Lib.hid (HX6.out.alloc (.cells #[.bool a, .bool b, .int .i64 n, .int .i64 k, .int .i64 t, .int .i64 r] 23))
    have HY7 := Lib.hid (HY6.out.alloc (.cells #[.bool a, .bool b, .int .i64 n, .int .i64 k, .int .i64 t, .int .i64 r] 23))
    have HQ7 := Lib.hid (C6.new w6 w6.heap.size rfl (.bool a) (.bool b) (.int .i64 n) (.int .i64 k) (.int .i64 t) (.int .i64 r) 23)
    generalize w6.alloc (.cells #[.bool a, .bool b, .int .i64 n, .int .i64 k, .int .i64 t, .int .i64 r] 23) = w7 at *
    generalize w6.heap.size = g2 at *
    clear HB6 HX6 HY6
    obtain ⟨⟨b0, -, bl⟩, ⟨b1, -, -⟩, ⟨b2, -, -⟩, ⟨b3, -, -⟩, ⟨b4, -, -⟩, ⟨b5, -, -⟩⟩ := HY7.out
    go_wp2_with fail
    go_at_call 12
    refine (HRP.out _).mono ?_
    rintro e w8 ⟨rfl, hb⟩
    have HB8 := Lib.hid (HB7.out.trans (hb.mono HB7.out.size))
    have HX8 := Lib.hid (HX7.out.below hb)
    have HQ8 := Lib.hid (HQ7.out.below hb)
    clear hb HB7 HX7 HY7 HQ7 b0 bl b1 b2 b3 b4 b5
    obtain ⟨⟨a0, -, al⟩, ⟨a1, -, -⟩, ⟨a2, -, -⟩, ⟨a3, -, -⟩, ⟨a4, -, -⟩, ⟨a5, -, -⟩⟩ := HX8.out
    obtain ⟨⟨b0, -, bl⟩, ⟨b1, -, -⟩, ⟨b2, -, -⟩, ⟨b3, -, -⟩, ⟨b4, -, -⟩, ⟨b5, -, -⟩⟩ := HQ8.out
    go_wp2_with fail
    go_ret
    exact ⟨rfl, HB8.out⟩
end Go.Proofs.Ytmbjhhpnckfppaa
