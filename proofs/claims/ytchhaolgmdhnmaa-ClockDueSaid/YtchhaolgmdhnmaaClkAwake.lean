/-
The document's example.
-/
import Derived.Test.YtchhaolgmdhnmaaClkAt
namespace Go.Proofs.Ytchhaolgmdhnmaa
open Go.RowKit
set_option maxRecDepth 20000
set_option maxHeartbeats 2000000 in
theorem cawake13 (w : World) : Calls Try.prog 6 #[] w fun e w' => e = .returned (.bool true) ∧ Below w.heap.size w w' := by
  have e1 : setT ⟨1, 0⟩ 2 [] = ([⟨1, 0, 2⟩], 0) := by kernel_rfl
  have e2 : setT ⟨2, 0⟩ 1 [⟨1, 0, 2⟩] = ([⟨1, 0, 2⟩, ⟨2, 0, 1⟩], 0) := by kernel_rfl
  have e3 : tickT [⟨1, 0, 2⟩, ⟨2, 0, 1⟩] = [⟨1, 0, 1⟩] := by kernel_rfl
  have e4 : toldT [⟨1, 0, 2⟩, ⟨2, 0, 1⟩] = [⟨2, 0⟩] := by kernel_rfl
  have e5 : tickT [⟨1, 0, 1⟩] = [] := by kernel_rfl
  have e6 : toldT [⟨1, 0, 1⟩] = [⟨1, 0⟩] := by kernel_rfl
  have k0 := ClkOk.nil
  have k1 := k0.set ⟨1, 0⟩ 2
  rw [e1] at k1
  have k2 := k1.set ⟨2, 0⟩ 1
  rw [e2] at k2
  have k3 := k2.tick
  rw [e3] at k3
  have HN := Lib.hid (fun W h => CkO.new w W h)
  have HS1 := Lib.hid (fun p O W (h : CkO w p [] O W) => h.set k0 ⟨1, 0⟩ 2)
  have HS2 := Lib.hid (fun p O W (h : CkO w p [⟨1, 0, 2⟩] O W) => h.set k1 ⟨2, 0⟩ 1)
  have HT1 := Lib.hid (fun p O W (h : CkO w p [⟨1, 0, 2⟩, ⟨2, 0, 1⟩] O W) => h.tick1 k2 ⟨2, 0⟩ e4)
  have HT2 := Lib.hid (fun p O W (h : CkO w p [⟨1, 0, 1⟩] O W) => h.tick1 k3 ⟨1, 0⟩ e6)
  have HA := Lib.hid (fun p O W (h : CkO w p [] O W) => h.all ClkOk.nil)
  rw [e1] at HS1
  rw [e2] at HS2
  rw [e3] at HT1
  rw [e5] at HT2
  simp only [List.map_nil] at HS1 HS2 HT1 HT2 HA
  have HB0 := Lib.hid (Below.refl w.heap.size w)
  clear e1 e2 e3 e4 e5 e6 k0 k1 k2 k3
  go_enter Try.func6, Try.ntmps6
  go_upto_region 2 with (go_at_call 7; (with_reducible refine (HN.out _ HB0.out).mono ?_); rintro e w1 ⟨p, rfl, hI⟩; have HI1 := Lib.hid hI; clear hI)
  go_upto_region 3 with (fail)
  have HI2 := Lib.hid (show CkO w p [] [(w1.heap.size + 1, [.int .i64 2, .int .i64 0]), (w1.heap.size, [.int .i64 1, .int .i64 0])] ((w1.alloc (.cells #[.int .i64 1, .int .i64 0] 31)).alloc (.cells #[.int .i64 2, .int .i64 0] 31)) from by
    have h := (HI1.out.box [.int .i64 1, .int .i64 0] 31).box [.int .i64 2, .int .i64 0] 31
    have e : (w1.alloc (.cells #[.int .i64 1, .int .i64 0] 31)).heap.size = w1.heap.size + 1 := by simp
    rw [e] at h
    exact h)
  clear HI1 HN HB0
  generalize (w1.alloc (.cells #[.int .i64 1, .int .i64 0] 31)).alloc (.cells #[.int .i64 2, .int .i64 0] 31) = w2 at *
  generalize w1.heap.size + 1 = mb at *
  generalize w1.heap.size = ma at *
  have x0 := (HI2.out.row (m := ma) (row := [.int .i64 1, .int .i64 0]) (.tail _ (.head _))).cell 0 rfl
  have x1 := (HI2.out.row (m := ma) (row := [.int .i64 1, .int .i64 0]) (.tail _ (.head _))).cell 1 rfl
  go_upto_region 5 with (first
    | (go_at_call 8; (with_reducible refine (HS1.out _ _ _ HI2.out).mono ?_); rintro e w3 ⟨rfl, hI⟩; have HI3 := Lib.hid hI; clear hI x0 x1; have x0 := (HI3.out.row (m := mb) (row := [.int .i64 2, .int .i64 0]) (.head _)).cell 0 rfl; have x1 := (HI3.out.row (m := mb) (row := [.int .i64 2, .int .i64 0]) (.head _)).cell 1 rfl)
    | (go_at_call 8; (with_reducible refine (HS2.out _ _ _ HI3.out).mono ?_); rintro e w4 ⟨rfl, hI⟩; have HI4 := Lib.hid hI; clear hI x0 x1))
  go_upto_region 6 with (first
    | (go_at_call 13; (with_reducible refine (HT1.out _ _ _ HI4.out).mono ?_); rintro e w5 ⟨g1, c1, rfl, hI⟩; have HI5 := Lib.hid hI; clear hI)
    | (go_at_call 13; (with_reducible refine (HT2.out _ _ _ HI5.out).mono ?_); rintro e w6 ⟨g2, c2, rfl, hI⟩; have HI6 := Lib.hid hI; clear hI))
  clear HS1 HS2 HT1 HT2 HI2 HI3 HI4 HI5
  refine wp_region_facts (fun W W' => Below W.heap.size W W') (fun W => CkO w p [] [(g2, [.int .i64 1, .int .i64 0]), (g1, [.int .i64 2, .int .i64 0]), (mb, [.int .i64 2, .int .i64 0]), (ma, [.int .i64 1, .int .i64 0])] W)
    (fun j' v W => factsOf ([.is (.slice (some ⟨g1, 0, none⟩) 1 c1), .is (.int .i64 1), .is (.bool true), .is (.bool true), .is (.slice (some ⟨g1, 0, none⟩) 1 c1), .is (.pointer (some ⟨g1, 0, none⟩)), .is (.agg #[.int .i64 2, .int .i64 0]), .is (.agg #[.int .i64 2, .int .i64 0]), .is (.bool true), .is (.bool true), .is (.bool true), .is (.slice (some ⟨g2, 0, none⟩) 1 c2), .is (.int .i64 1), .is (.bool true)] ++ [.is (.bool true), .is (.bool true), .is (.slice (some ⟨g2, 0, none⟩) 1 c2), .is (.pointer (some ⟨g2, 0, none⟩)), .is (.agg #[.int .i64 1, .int .i64 0]), .is (.agg #[.int .i64 1, .int .i64 0]), .is (.bool true), .is (.bool true), .is (.bool true), .is (.pointer (some ⟨p, 0, none⟩)), .any, .is (.int .i64 0), .is (.bool true), .is (.bool true), .is (.bool true)]) j' v W ∧ (j' = 24 → ∃ a c, v = .slice a ([] : List Nm).length c))
    (by kernel_rfl) (by kernel_rfl) (fun j' v W W' hb h => ⟨facts_stay _ j' v W W' hb h.1, h.2⟩) (fun W W' hb h => h.below hb) (fun i => if i = 28 then .bool false else undef) (by kernel_rfl) (HI6.out.below ((Below.refl _ _).drew)) ?F1 ?hF1 ?hstep1 ?hend1
  case hF1 =>
    intro u
    simp only [fillAct]
    go_simp
    rfl
  case hstep1 =>
    clear HI6
    refine FSteps.cons ?_ ?_
    · intro u W hS hd K hK
      clear hd
      simp only [upd, reduceIte, Nat.reduceEqDiff] at hK
      go_simp
      exact hK.out _ _ (Below.refl _ _) ⟨rfl, (fun e => absurd e (by decide))⟩
    refine FSteps.cons ?_ ?_
    · intro u W hS hd K hK
      have h0 : u 0 = _ := (hd 0 rfl).1
      clear hd
      simp only [upd, h0, reduceIte, Nat.reduceEqDiff] at hK
      go_simp
      exact hK.out _ _ (Below.refl _ _) ⟨rfl, (fun e => absurd e (by decide))⟩
    refine FSteps.cons ?_ ?_
    · intro u W hS hd K hK
      have h1 : u 1 = _ := (hd 1 rfl).1
      clear hd
      simp only [upd, h1, reduceIte, Nat.reduceEqDiff] at hK
      go_simp
      exact hK.out _ _ (Below.refl _ _) ⟨rfl, (fun e => absurd e (by decide))⟩
    refine FSteps.cons ?_ ?_
    · intro u W hS hd K hK
      have h2 : u 2 = _ := (hd 2 rfl).1
      clear hd
      simp only [upd, h2, reduceIte, Nat.reduceEqDiff] at hK
      go_simp
      exact hK.out _ _ (Below.refl _ _) ⟨rfl, (fun e => absurd e (by decide))⟩
    refine FSteps.cons ?_ ?_
    · intro u W hS hd K hK
      have h3 : u 3 = _ := (hd 3 rfl).1
      clear hd
      simp only [upd, h3, reduceIte, Nat.reduceEqDiff] at hK
      go_simp
      exact hK.out _ _ (Below.refl _ _) ⟨rfl, (fun e => absurd e (by decide))⟩
    refine FSteps.cons ?_ ?_
    · intro u W hS hd K hK
      have h3 : u 3 = _ := (hd 3 rfl).1
      have h4 : u 4 = _ := (hd 4 rfl).1
      clear hd
      simp only [upd, h3, h4, reduceIte, Nat.reduceEqDiff] at hK
      go_simp
      exact hK.out _ _ (Below.refl _ _) ⟨rfl, (fun e => absurd e (by decide))⟩
    refine FSteps.cons ?_ ?_
    · intro u W hS hd K hK
      have h3 : u 3 = _ := (hd 3 rfl).1
      have h5 : u 5 = _ := (hd 5 rfl).1
      clear hd
      simp only [upd, h3, h5, reduceIte, Nat.reduceEqDiff] at hK
      have c0 := (hS.row (m := g1) (row := [.int .i64 2, .int .i64 0]) (.tail _ (.head _))).cell 0 rfl
      have c1 := (hS.row (m := g1) (row := [.int .i64 2, .int .i64 0]) (.tail _ (.head _))).cell 1 rfl
      go_simp
      exact hK.out _ _ (Below.refl _ _) ⟨rfl, (fun e => absurd e (by decide))⟩
    refine FSteps.cons ?_ ?_
    · intro u W hS hd K hK
      have h3 : u 3 = _ := (hd 3 rfl).1
      clear hd
      simp only [upd, h3, reduceIte, Nat.reduceEqDiff] at hK
      have c0 := (hS.row (m := mb) (row := [.int .i64 2, .int .i64 0]) (.tail _ (.tail _ (.head _)))).cell 0 rfl
      have c1 := (hS.row (m := mb) (row := [.int .i64 2, .int .i64 0]) (.tail _ (.tail _ (.head _)))).cell 1 rfl
      go_simp
      exact hK.out _ _ (Below.refl _ _) ⟨rfl, (fun e => absurd e (by decide))⟩
    refine FSteps.cons ?_ ?_
    · intro u W hS hd K hK
      have h3 : u 3 = _ := (hd 3 rfl).1
      have h6 : u 6 = _ := (hd 6 rfl).1
      have h7 : u 7 = _ := (hd 7 rfl).1
      clear hd
      simp only [upd, h3, h6, h7, reduceIte, Nat.reduceEqDiff] at hK
      have he := run_eq_nm 2 0 2 0 W true (by kernel_rfl)
      go_simp
      exact hK.out _ _ (Below.refl _ _) ⟨rfl, (fun e => absurd e (by decide))⟩
    refine FSteps.cons ?_ ?_
    · intro u W hS hd K hK
      have h3 : u 3 = _ := (hd 3 rfl).1
      have h8 : u 8 = _ := (hd 8 rfl).1
      clear hd
      simp only [upd, h3, h8, reduceIte, Nat.reduceEqDiff] at hK
      go_simp
      exact hK.out _ _ (Below.refl _ _) ⟨rfl, (fun e => absurd e (by decide))⟩
    refine FSteps.cons ?_ ?_
    · intro u W hS hd K hK
      have h9 : u 9 = _ := (hd 9 rfl).1
      clear hd
      simp only [upd, h9, reduceIte, Nat.reduceEqDiff] at hK
      go_simp
      exact hK.out _ _ (Below.refl _ _) ⟨rfl, (fun e => absurd e (by decide))⟩
    refine FSteps.cons ?_ ?_
    · intro u W hS hd K hK
      have h10 : u 10 = _ := (hd 10 rfl).1
      clear hd
      simp only [upd, h10, reduceIte, Nat.reduceEqDiff] at hK
      go_simp
      exact hK.out _ _ (Below.refl _ _) ⟨rfl, (fun e => absurd e (by decide))⟩
    refine FSteps.cons ?_ ?_
    · intro u W hS hd K hK
      have h10 : u 10 = _ := (hd 10 rfl).1
      have h11 : u 11 = _ := (hd 11 rfl).1
      clear hd
      simp only [upd, h10, h11, reduceIte, Nat.reduceEqDiff] at hK
      go_simp
      exact hK.out _ _ (Below.refl _ _) ⟨rfl, (fun e => absurd e (by decide))⟩
    refine FSteps.cons ?_ ?_
    · intro u W hS hd K hK
      have h10 : u 10 = _ := (hd 10 rfl).1
      have h12 : u 12 = _ := (hd 12 rfl).1
      clear hd
      simp only [upd, h10, h12, reduceIte, Nat.reduceEqDiff] at hK
      go_simp
      exact hK.out _ _ (Below.refl _ _) ⟨rfl, (fun e => absurd e (by decide))⟩
    refine FSteps.cons ?_ ?_
    · intro u W hS hd K hK
      have h10 : u 10 = _ := (hd 10 rfl).1
      have h13 : u 13 = _ := (hd 13 rfl).1
      clear hd
      simp only [upd, h10, h13, reduceIte, Nat.reduceEqDiff] at hK
      go_simp
      exact hK.out _ _ (Below.refl _ _) ⟨rfl, (fun e => absurd e (by decide))⟩
    refine FSteps.cons ?_ ?_
    · intro u W hS hd K hK
      have h14 : u 14 = _ := (hd 14 rfl).1
      clear hd
      simp only [upd, h14, reduceIte, Nat.reduceEqDiff] at hK
      go_simp
      exact hK.out _ _ (Below.refl _ _) ⟨rfl, (fun e => absurd e (by decide))⟩
    refine FSteps.cons ?_ ?_
    · intro u W hS hd K hK
      have h15 : u 15 = _ := (hd 15 rfl).1
      clear hd
      simp only [upd, h15, reduceIte, Nat.reduceEqDiff] at hK
      go_simp
      exact hK.out _ _ (Below.refl _ _) ⟨rfl, (fun e => absurd e (by decide))⟩
    refine FSteps.cons ?_ ?_
    · intro u W hS hd K hK
      have h15 : u 15 = _ := (hd 15 rfl).1
      have h16 : u 16 = _ := (hd 16 rfl).1
      clear hd
      simp only [upd, h15, h16, reduceIte, Nat.reduceEqDiff] at hK
      go_simp
      exact hK.out _ _ (Below.refl _ _) ⟨rfl, (fun e => absurd e (by decide))⟩
    refine FSteps.cons ?_ ?_
    · intro u W hS hd K hK
      have h15 : u 15 = _ := (hd 15 rfl).1
      have h17 : u 17 = _ := (hd 17 rfl).1
      clear hd
      simp only [upd, h15, h17, reduceIte, Nat.reduceEqDiff] at hK
      have c0 := (hS.row (m := g2) (row := [.int .i64 1, .int .i64 0]) (.head _)).cell 0 rfl
      have c1 := (hS.row (m := g2) (row := [.int .i64 1, .int .i64 0]) (.head _)).cell 1 rfl
      go_simp
      exact hK.out _ _ (Below.refl _ _) ⟨rfl, (fun e => absurd e (by decide))⟩
    refine FSteps.cons ?_ ?_
    · intro u W hS hd K hK
      have h15 : u 15 = _ := (hd 15 rfl).1
      clear hd
      simp only [upd, h15, reduceIte, Nat.reduceEqDiff] at hK
      have c0 := (hS.row (m := ma) (row := [.int .i64 1, .int .i64 0]) (.tail _ (.tail _ (.tail _ (.head _))))).cell 0 rfl
      have c1 := (hS.row (m := ma) (row := [.int .i64 1, .int .i64 0]) (.tail _ (.tail _ (.tail _ (.head _))))).cell 1 rfl
      go_simp
      exact hK.out _ _ (Below.refl _ _) ⟨rfl, (fun e => absurd e (by decide))⟩
    refine FSteps.cons ?_ ?_
    · intro u W hS hd K hK
      have h15 : u 15 = _ := (hd 15 rfl).1
      have h18 : u 18 = _ := (hd 18 rfl).1
      have h19 : u 19 = _ := (hd 19 rfl).1
      clear hd
      simp only [upd, h15, h18, h19, reduceIte, Nat.reduceEqDiff] at hK
      have he := run_eq_nm 1 0 1 0 W true (by kernel_rfl)
      go_simp
      exact hK.out _ _ (Below.refl _ _) ⟨rfl, (fun e => absurd e (by decide))⟩
    refine FSteps.cons ?_ ?_
    · intro u W hS hd K hK
      have h15 : u 15 = _ := (hd 15 rfl).1
      have h20 : u 20 = _ := (hd 20 rfl).1
      clear hd
      simp only [upd, h15, h20, reduceIte, Nat.reduceEqDiff] at hK
      go_simp
      exact hK.out _ _ (Below.refl _ _) ⟨rfl, (fun e => absurd e (by decide))⟩
    refine FSteps.cons ?_ ?_
    · intro u W hS hd K hK
      have h21 : u 21 = _ := (hd 21 rfl).1
      clear hd
      simp only [upd, h21, reduceIte, Nat.reduceEqDiff] at hK
      go_simp
      exact hK.out _ _ (Below.refl _ _) ⟨rfl, (fun e => absurd e (by decide))⟩
    refine FSteps.cons ?_ ?_
    · intro u W hS hd K hK
      have h22 : u 22 = _ := (hd 22 rfl).1
      clear hd
      simp only [upd, h22, reduceIte, Nat.reduceEqDiff] at hK
      go_simp
      exact hK.out _ _ (Below.refl _ _) ⟨rfl, (fun e => absurd e (by decide))⟩
    refine FSteps.cons ?_ ?_
    · intro u W hS hd K hK
      have h22 : u 22 = _ := (hd 22 rfl).1
      have h23 : u 23 = _ := (hd 23 rfl).1
      clear hd
      simp only [upd, h22, h23, reduceIte, Nat.reduceEqDiff] at hK
      go_simp
      go_at_call 18
      refine (HA.out _ _ _ hS).mono ?_
      rintro e wc ⟨v, rfl, ho, hb⟩
      exact hK.out _ _ hb ⟨trivial, fun _ => OwnL.form2 ho⟩
    refine FSteps.cons ?_ ?_
    · intro u W hS hd K hK
      have h22 : u 22 = _ := (hd 22 rfl).1
      obtain ⟨a24, c24, h24⟩ := ((hd 24 rfl).2 rfl)
      clear hd
      simp only [upd, h22, h24, reduceIte, Nat.reduceEqDiff] at hK
      go_simp
      exact hK.out _ _ (Below.refl _ _) ⟨rfl, (fun e => absurd e (by decide))⟩
    refine FSteps.cons ?_ ?_
    · intro u W hS hd K hK
      have h22 : u 22 = _ := (hd 22 rfl).1
      have h25 : u 25 = _ := (hd 25 rfl).1
      clear hd
      simp only [upd, h22, h25, reduceIte, Nat.reduceEqDiff] at hK
      go_simp
      exact hK.out _ _ (Below.refl _ _) ⟨rfl, (fun e => absurd e (by decide))⟩
    refine FSteps.cons ?_ ?_
    · intro u W hS hd K hK
      have h22 : u 22 = _ := (hd 22 rfl).1
      have h26 : u 26 = _ := (hd 26 rfl).1
      clear hd
      simp only [upd, h22, h26, reduceIte, Nat.reduceEqDiff] at hK
      go_simp
      exact hK.out _ _ (Below.refl _ _) ⟨rfl, (fun e => absurd e (by decide))⟩
    refine FSteps.cons ?_ ?_
    · intro u W hS hd K hK
      have h27 : u 27 = _ := (hd 27 rfl).1
      clear hd
      simp only [upd, h27, reduceIte, Nat.reduceEqDiff] at hK
      go_simp
      exact hK.out _ _ (Below.refl _ _) ⟨rfl, (fun e => absurd e (by decide))⟩
    exact trivial
  case hend1 =>
    intro u w6 hS hd
    have h28 : u 28 = _ := (hd 28 rfl).1
    rw [h28]
    have HE := Lib.hid hS.bel
    clear hd hS h28
    go_wp2_with fail
    exact bodyPost_ret (v := .bool true) (by simp [results, Try.results6, go_sem]) rfl ⟨rfl, HE.out⟩
end Go.Proofs.Ytchhaolgmdhnmaa
