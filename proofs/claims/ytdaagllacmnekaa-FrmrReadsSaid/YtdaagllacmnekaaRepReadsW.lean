/-
Walk of the statement FrmrReads, out of what Put and Get are to do (written by tools/gen9/gen_laws.py).
-/
import Derived.Test.YtdaagllacmnekaaRepLaw
import Derived.Test.YtdaagllacmnekaaFacts
namespace Go.Proofs.Ytdaagllacmnekaa
open Go.RowKit
set_option maxRecDepth 20000
set_option maxHeartbeats 1000000 in
theorem repreads_any (hPut : RepPutOk) (hGet : RepGetOk) (s : ByteArray) (wide : Bool) (w : World) : Calls Try.prog 4 #[.string s, .bool wide] w fun e w' => e = .returned (.bool true) ∧ Below w.heap.size w w' := by
  have HAW := Lib.hid (fun W => repawake_any hPut W)
  by_cases hs : s.size ≤ 300
  · have h1 := fun W => hGet s wide W hs
    have h2 := fun W => rget9_any s wide W
    obtain ⟨⟨⟨c, vs, vr, re, m0, m1, m2, m3⟩, E⟩, hR⟩ : ∃ R, getR s wide = R := ⟨_, rfl⟩
    rw [hR] at h1 h2
    have h3 := fun W => repplain_any ⟨c, vs, vr, re, m0, m1, m2, m3⟩ W
    have hq := fun W => rep_eq_doc ⟨c, vs, vr, re, m0, m1, m2, m3⟩ W
    simp only [repV] at h1 h2 h3 hq
    have HGC := Lib.hid h1
    have HGR := Lib.hid h2
    have HPL := Lib.hid h3
    have hd : decide (300 < (s.size : Int)) = false := decide_eq_false (by omega)
    clear h1 h2 h3 hR hs hPut hGet
    go_enter Try.func4, Try.ntmps4
    go_wp2_with fail
    go_at_call 5
    refine (HAW.out _).mono ?_
    rintro e w1 ⟨rfl, hb⟩
    have HB1 := Lib.hid hb
    clear hb
    go_wp2_with fail
    go_at_call 10
    refine (HGC.out _).mono ?_
    rintro e w2 ⟨rfl, hb⟩
    have HB2 := Lib.hid (HB1.out.trans (hb.mono HB1.out.size))
    clear hb HB1
    go_upto_region 6 with (fail)
    have HB3 := Lib.hid (HB2.out.alloc HB2.out.size (.cells #[.string c, .int .i64 vs, .int .i64 vr, .bool re, .bool m0, .bool m1, .bool m2, .bool m3] 23))
    have HR3 := Lib.hid (RowAt.new w2 w2.heap.size rfl [.string c, .int .i64 vs, .int .i64 vr, .bool re, .bool m0, .bool m1, .bool m2, .bool m3] 23)
    generalize w2.alloc (.cells #[.string c, .int .i64 vs, .int .i64 vr, .bool re, .bool m0, .bool m1, .bool m2, .bool m3] 23) = w3 at *
    generalize w2.heap.size = g1 at *
    clear HB2
    go_wp2_with fail
    go_at_call 12
    refine (HGR.out _).mono ?_
    rintro e w4 ⟨rfl, hb⟩
    have HB4 := Lib.hid (HB3.out.trans (hb.mono HB3.out.size))
    have HR4 := Lib.hid (HR3.out.below hb)
    clear hb HB3 HR3
    go_upto_region 7 with (fail)
    have HB5 := Lib.hid (HB4.out.alloc HB4.out.size (.cells #[.string c, .int .i64 vs, .int .i64 vr, .bool re, .bool m0, .bool m1, .bool m2, .bool m3] 27))
    have HR5 := Lib.hid (HR4.out.alloc (.cells #[.string c, .int .i64 vs, .int .i64 vr, .bool re, .bool m0, .bool m1, .bool m2, .bool m3] 27))
    have HS5 := Lib.hid (RowAt.new w4 w4.heap.size rfl [.string c, .int .i64 vs, .int .i64 vr, .bool re, .bool m0, .bool m1, .bool m2, .bool m3] 27)
    generalize w4.alloc (.cells #[.string c, .int .i64 vs, .int .i64 vr, .bool re, .bool m0, .bool m1, .bool m2, .bool m3] 27) = w5 at *
    generalize w4.heap.size = g2 at *
    clear HB4 HR4
    refine wp_region_facts (fun W W' => Below W.heap.size W W') (fun W => RowAt W g1 [.string c, .int .i64 vs, .int .i64 vr, .bool re, .bool m0, .bool m1, .bool m2, .bool m3] ∧ RowAt W g2 [.string c, .int .i64 vs, .int .i64 vr, .bool re, .bool m0, .bool m1, .bool m2, .bool m3] ∧ Below w.heap.size w W) (factsOf [.is (.agg #[.string c, .int .i64 vs, .int .i64 vr, .bool re, .bool m0, .bool m1, .bool m2, .bool m3]), .is (.agg #[.string c, .int .i64 vs, .int .i64 vr, .bool re, .bool m0, .bool m1, .bool m2, .bool m3]), .is (.agg #[.string c, .int .i64 vs, .int .i64 vr, .bool re, .bool m0, .bool m1, .bool m2, .bool m3]), .is (.bool true), .is (.bool true), .is (.int .i64 E), .is (.int .i64 E), .is (.bool true), .is (.bool true), .is (.bool true)]) (by kernel_rfl) (by kernel_rfl) (facts_stay _) (fun W W' hb h => ⟨h.1.below hb, h.2.1.below hb, h.2.2.trans (hb.mono h.2.2.size)⟩) (fun i => if i = 9 then .bool false else undef) (by kernel_rfl) ⟨HR5.out.drew, HS5.out.drew, HB5.out.drew⟩ ?F ?hF ?hstep ?hend
    case hF =>
      intro u
      simp only [fillAct]
      go_simp
      rfl
    case hstep =>
      refine FSteps.cons ?_ ?_
      · intro u W hS hd K hK
        clear hd
        simp only [upd, reduceIte, Nat.reduceEqDiff] at hK
        have c0 := hS.1.cell 0 rfl
        have c1 := hS.1.cell 1 rfl
        have c2 := hS.1.cell 2 rfl
        have c3 := hS.1.cell 3 rfl
        have c4 := hS.1.cell 4 rfl
        have c5 := hS.1.cell 5 rfl
        have c6 := hS.1.cell 6 rfl
        have c7 := hS.1.cell 7 rfl
        go_simp
        exact hK.out _ _ (Below.refl _ _) rfl
      refine FSteps.cons ?_ ?_
      · intro u W hS hd K hK
        have h0 : u 0 = _ := hd 0 rfl
        clear hd
        simp only [upd, h0, reduceIte, Nat.reduceEqDiff] at hK
        go_simp
        go_at_call 6
        refine (HPL.out _).mono ?_
        rintro e wc ⟨rfl, hb⟩
        exact hK.out _ _ hb rfl
      refine FSteps.cons ?_ ?_
      · intro u W hS hd K hK
        clear hd
        simp only [upd, reduceIte, Nat.reduceEqDiff] at hK
        have c0 := hS.2.1.cell 0 rfl
        have c1 := hS.2.1.cell 1 rfl
        have c2 := hS.2.1.cell 2 rfl
        have c3 := hS.2.1.cell 3 rfl
        have c4 := hS.2.1.cell 4 rfl
        have c5 := hS.2.1.cell 5 rfl
        have c6 := hS.2.1.cell 6 rfl
        have c7 := hS.2.1.cell 7 rfl
        go_simp
        exact hK.out _ _ (Below.refl _ _) rfl
      refine FSteps.cons ?_ ?_
      · intro u W hS hd K hK
        have h1 : u 1 = _ := hd 1 rfl
        have h2 : u 2 = _ := hd 2 rfl
        clear hd
        simp only [upd, h1, h2, reduceIte, Nat.reduceEqDiff] at hK
        go_simp
        exact hK.out _ _ (Below.refl _ _) rfl
      refine FSteps.cons ?_ ?_
      · intro u W hS hd K hK
        have h3 : u 3 = _ := hd 3 rfl
        clear hd
        simp only [upd, h3, reduceIte, Nat.reduceEqDiff] at hK
        go_simp
        exact hK.out _ _ (Below.refl _ _) rfl
      refine FSteps.cons ?_ ?_
      · intro u W hS hd K hK
        have h4 : u 4 = _ := hd 4 rfl
        clear hd
        simp only [upd, h4, reduceIte, Nat.reduceEqDiff] at hK
        go_simp
        exact hK.out _ _ (Below.refl _ _) rfl
      refine FSteps.cons ?_ ?_
      · intro u W hS hd K hK
        have h4 : u 4 = _ := hd 4 rfl
        clear hd
        simp only [upd, h4, reduceIte, Nat.reduceEqDiff] at hK
        go_simp
        exact hK.out _ _ (Below.refl _ _) rfl
      refine FSteps.cons ?_ ?_
      · intro u W hS hd K hK
        have h4 : u 4 = _ := hd 4 rfl
        have h5 : u 5 = _ := hd 5 rfl
        have h6 : u 6 = _ := hd 6 rfl
        clear hd
        simp only [upd, h4, h5, h6, reduceIte, Nat.reduceEqDiff] at hK
        go_simp
        exact hK.out _ _ (Below.refl _ _) rfl
      refine FSteps.cons ?_ ?_
      · intro u W hS hd K hK
        have h4 : u 4 = _ := hd 4 rfl
        have h7 : u 7 = _ := hd 7 rfl
        clear hd
        simp only [upd, h4, h7, reduceIte, Nat.reduceEqDiff] at hK
        go_simp
        exact hK.out _ _ (Below.refl _ _) rfl
      refine FSteps.cons ?_ ?_
      · intro u W hS hd K hK
        have h8 : u 8 = _ := hd 8 rfl
        clear hd
        simp only [upd, h8, reduceIte, Nat.reduceEqDiff] at hK
        go_simp
        exact hK.out _ _ (Below.refl _ _) rfl
      exact trivial
    case hend =>
      intro u w6 hS hd
      have h9 : u 9 = _ := hd 9 rfl
      have HB6 := Lib.hid hS.2.2
      clear hd hS HR5 HS5 HB5
      rw [h9]
      go_wp2_with fail
      go_ret
      exact ⟨rfl, HB6.out⟩
  · have hd : decide (300 < (s.size : Int)) = true := decide_eq_true (by omega)
    clear hs hPut hGet
    go_enter Try.func4, Try.ntmps4
    go_wp2_with fail
    go_at_call 5
    refine (HAW.out _).mono ?_
    rintro e w1 ⟨rfl, hb⟩
    have HB1 := Lib.hid hb
    clear hb
    go_wp2_with fail
    go_ret
    exact ⟨rfl, HB1.out⟩
end Go.Proofs.Ytdaagllacmnekaa
