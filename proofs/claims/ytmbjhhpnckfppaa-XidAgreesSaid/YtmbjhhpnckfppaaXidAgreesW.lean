/-
Walk of the statement XidAgrees.
-/
import Derived.Test.YtmbjhhpnckfppaaXidAwake
import Derived.Test.YtmbjhhpnckfppaaXidAgree
import Derived.Test.YtmbjhhpnckfppaaXidRef
import Derived.Test.YtmbjhhpnckfppaaXidRAgree
namespace Go.Proofs.Ytmbjhhpnckfppaa
open Go.RowKit
set_option maxRecDepth 20000
/-- == on parameters that are the same -/
theorem eq_same (a b : Bool) (n k t r : Int) (w : World) : (Op.equalIn 10000 23 (.agg #[.bool a, .bool b, .int .i64 n, .int .i64 k, .int .i64 t, .int .i64 r]) (.agg #[.bool a, .bool b, .int .i64 n, .int .i64 k, .int .i64 t, .int .i64 r])).run Try.prog w = .ok true w := by
  go_simp
theorem eq_same_ref (a b : Bool) (n k t r : Int) (w : World) : (Op.equalIn 10000 25 (.agg #[.bool a, .bool b, .int .i64 n, .int .i64 k, .int .i64 t, .int .i64 r]) (.agg #[.bool a, .bool b, .int .i64 n, .int .i64 k, .int .i64 t, .int .i64 r])).run Try.prog w = .ok true w := by
  go_simp
/-- memory at the statement's last line: both, and what was agreed three times -/
structure XaAt (w W : World) (m1 m2 m3 : Nat) (a0 a1 a2 a3 a4 a5 b0 b1 b2 b3 b4 b5 p0 p1 p2 p3 p4 p5 : Value) : Prop where
  x : C6 W w.heap.size a0 a1 a2 a3 a4 a5
  y : C6 W (w.heap.size + 1) b0 b1 b2 b3 b4 b5
  p : C6 W m1 p0 p1 p2 p3 p4 p5
  q : C6 W m2 p0 p1 p2 p3 p4 p5
  s : C6 W m3 a0 a1 a2 a3 a4 a5
  bel : Below w.heap.size w W
theorem XaAt.below {w W W' : World} {m1 m2 m3 : Nat} {a0 a1 a2 a3 a4 a5 b0 b1 b2 b3 b4 b5 p0 p1 p2 p3 p4 p5 : Value} (h : XaAt w W m1 m2 m3 a0 a1 a2 a3 a4 a5 b0 b1 b2 b3 b4 b5 p0 p1 p2 p3 p4 p5) (hb : Below W.heap.size W W') : XaAt w W' m1 m2 m3 a0 a1 a2 a3 a4 a5 b0 b1 b2 b3 b4 b5 p0 p1 p2 p3 p4 p5 :=
  ⟨h.x.below hb, h.y.below hb, h.p.below hb, h.q.below hb, h.s.below hb, h.bel.trans (hb.mono h.bel.size)⟩
theorem XaAt.drew {w W : World} {m1 m2 m3 : Nat} {a0 a1 a2 a3 a4 a5 b0 b1 b2 b3 b4 b5 p0 p1 p2 p3 p4 p5 : Value} (h : XaAt w W m1 m2 m3 a0 a1 a2 a3 a4 a5 b0 b1 b2 b3 b4 b5 p0 p1 p2 p3 p4 p5) : XaAt w W.drew m1 m2 m3 a0 a1 a2 a3 a4 a5 b0 b1 b2 b3 b4 b5 p0 p1 p2 p3 p4 p5 :=
  ⟨h.x.drew, h.y.drew, h.p.drew, h.q.drew, h.s.drew, h.bel.drew⟩
set_option maxHeartbeats 2000000 in
theorem xagrees_yes_f (a b a' b' : Bool) (n k t r n' k' t' r' : Int) (ps : Bool) (pn pk pt pr : Int) (w : World) (hn : pn ≤ n) (hk : pk ≤ k')
    (H1 : Hid (∀ W, Calls Try.prog 13 #[.agg #[.bool a, .bool b, .int .i64 n, .int .i64 k, .int .i64 t, .int .i64 r], .agg #[.bool a', .bool b', .int .i64 n', .int .i64 k', .int .i64 t', .int .i64 r']] W fun e w' => e = .returned (.tuple #[.agg #[.bool false, .bool ps, .int .i64 pn, .int .i64 pk, .int .i64 pt, .int .i64 pr], .int .i64 0]) ∧ Below W.heap.size W w'))
    (H2 : Hid (∀ W, Calls Try.prog 13 #[.agg #[.bool a', .bool b', .int .i64 n', .int .i64 k', .int .i64 t', .int .i64 r'], .agg #[.bool a, .bool b, .int .i64 n, .int .i64 k, .int .i64 t, .int .i64 r]] W fun e w' => e = .returned (.tuple #[.agg #[.bool false, .bool ps, .int .i64 pn, .int .i64 pk, .int .i64 pt, .int .i64 pr], .int .i64 0]) ∧ Below W.heap.size W w'))
    (H3 : Hid (∀ W, Calls Try.prog 13 #[.agg #[.bool a, .bool b, .int .i64 n, .int .i64 k, .int .i64 t, .int .i64 r], .agg #[.bool a, .bool b, .int .i64 n, .int .i64 k, .int .i64 t, .int .i64 r]] W fun e w' => e = .returned (.tuple #[.agg #[.bool a, .bool b, .int .i64 n, .int .i64 k, .int .i64 t, .int .i64 r], .int .i64 0]) ∧ Below W.heap.size W w'))
    (HRA : Hid (∀ W, Calls Try.prog 14 #[.agg #[.bool a, .bool b, .int .i64 n, .int .i64 k, .int .i64 t, .int .i64 r], .agg #[.bool a', .bool b', .int .i64 n', .int .i64 k', .int .i64 t', .int .i64 r']] W fun e w' => e = .returned (.agg #[.bool false, .bool ps, .int .i64 pn, .int .i64 pk, .int .i64 pt, .int .i64 pr]) ∧ Below W.heap.size W w'))
    (HRP : Hid (∀ W, Calls Try.prog 8 #[.agg #[.bool false, .bool ps, .int .i64 pn, .int .i64 pk, .int .i64 pt, .int .i64 pr]] W fun e w' => e = .returned (.bool true) ∧ Below W.heap.size W w'))
    (HR1 : Hid (∀ W, Calls Try.prog 6 #[.agg #[.bool a, .bool b, .int .i64 n, .int .i64 k, .int .i64 t, .int .i64 r]] W fun e w' => e = .returned (.bool true) ∧ Below W.heap.size W w'))
    (HR2 : Hid (∀ W, Calls Try.prog 6 #[.agg #[.bool a', .bool b', .int .i64 n', .int .i64 k', .int .i64 t', .int .i64 r']] W fun e w' => e = .returned (.bool true) ∧ Below W.heap.size W w')) :
    Calls Try.prog 4 #[.agg #[.bool a, .bool b, .int .i64 n, .int .i64 k, .int .i64 t, .int .i64 r], .agg #[.bool a', .bool b', .int .i64 n', .int .i64 k', .int .i64 t', .int .i64 r']] w fun e w' => e = .returned (.bool true) ∧ Below w.heap.size w w' := by
  have HAW := Lib.hid (fun W => xawake_any W)
  have HB0 := Lib.hid (((Below.refl _ w).alloc (Nat.le_refl _) (.cells #[.bool a, .bool b, .int .i64 n, .int .i64 k, .int .i64 t, .int .i64 r] 23)).alloc (by simp) (.cells #[.bool a', .bool b', .int .i64 n', .int .i64 k', .int .i64 t', .int .i64 r'] 23))
  have HX0 := Lib.hid ((C6.new w w.heap.size rfl (.bool a) (.bool b) (.int .i64 n) (.int .i64 k) (.int .i64 t) (.int .i64 r) 23).alloc (.cells #[.bool a', .bool b', .int .i64 n', .int .i64 k', .int .i64 t', .int .i64 r'] 23))
  have HY0 := Lib.hid (C6.new (w.alloc (.cells #[.bool a, .bool b, .int .i64 n, .int .i64 k, .int .i64 t, .int .i64 r] 23)) (w.heap.size + 1) (by simp) (.bool a') (.bool b') (.int .i64 n') (.int .i64 k') (.int .i64 t') (.int .i64 r') 23)
  have dn := decide_eq_true hn
  have dk := decide_eq_true hk
  clear hn hk
  go_enter Try.func4, Try.ntmps4
  go_wp2_with fail
  go_at_call 5
  refine (HAW.out _).mono ?_
  rintro e w1 ⟨rfl, hb⟩
  have HB1 := Lib.hid (HB0.out.trans (hb.mono HB0.out.size))
  have HX1 := Lib.hid (HX0.out.below hb)
  have HY1 := Lib.hid (HY0.out.below hb)
  clear hb HB0 HX0 HY0
  obtain ⟨⟨a0, -, al⟩, ⟨a1, -, -⟩, ⟨a2, -, -⟩, ⟨a3, -, -⟩, ⟨a4, -, -⟩, ⟨a5, -, -⟩⟩ := HX1.out
  obtain ⟨⟨b0, -, bl⟩, ⟨b1, -, -⟩, ⟨b2, -, -⟩, ⟨b3, -, -⟩, ⟨b4, -, -⟩, ⟨b5, -, -⟩⟩ := HY1.out
  go_wp2_with fail
  go_at_call 13
  refine (H1.out _).mono ?_
  rintro e w2 ⟨rfl, hb⟩
  have HB2 := Lib.hid (HB1.out.trans (hb.mono HB1.out.size))
  have HX2 := Lib.hid (HX1.out.below hb)
  have HY2 := Lib.hid (HY1.out.below hb)
  clear hb a0 al a1 a2 a3 a4 a5 b0 bl b1 b2 b3 b4 b5
  go_upto_region 4 with (fail)
  have HB3 := Lib.hid (HB2.out.alloc HB2.out.size (.cells #[.bool false, .bool ps, .int .i64 pn, .int .i64 pk, .int .i64 pt, .int .i64 pr] 23))
  have HX3 := Lib.hid (HX2.out.alloc (.cells #[.bool false, .bool ps, .int .i64 pn, .int .i64 pk, .int .i64 pt, .int .i64 pr] 23))
  have HY3 := Lib.hid (HY2.out.alloc (.cells #[.bool false, .bool ps, .int .i64 pn, .int .i64 pk, .int .i64 pt, .int .i64 pr] 23))
  have HP3 := Lib.hid (C6.new w2 w2.heap.size rfl (.bool false) (.bool ps) (.int .i64 pn) (.int .i64 pk) (.int .i64 pt) (.int .i64 pr) 23)
  generalize w2.alloc (.cells #[.bool false, .bool ps, .int .i64 pn, .int .i64 pk, .int .i64 pt, .int .i64 pr] 23) = w3 at *
  generalize w2.heap.size = m1 at *
  clear HB2 HX2 HY2 HB1 HX1 HY1
  obtain ⟨⟨a0, -, al⟩, ⟨a1, -, -⟩, ⟨a2, -, -⟩, ⟨a3, -, -⟩, ⟨a4, -, -⟩, ⟨a5, -, -⟩⟩ := HX3.out
  obtain ⟨⟨b0, -, bl⟩, ⟨b1, -, -⟩, ⟨b2, -, -⟩, ⟨b3, -, -⟩, ⟨b4, -, -⟩, ⟨b5, -, -⟩⟩ := HY3.out
  go_wp2_with fail
  go_at_call 6
  refine (HR1.out _).mono ?_
  rintro e w4 ⟨rfl, hb⟩
  have HB4 := Lib.hid (HB3.out.trans (hb.mono HB3.out.size))
  have HX4 := Lib.hid (HX3.out.below hb)
  have HY4 := Lib.hid (HY3.out.below hb)
  have HP4 := Lib.hid (HP3.out.below hb)
  clear hb a0 al a1 a2 a3 a4 a5 b0 bl b1 b2 b3 b4 b5
  clear HB3 HX3 HY3 HP3
  obtain ⟨⟨a0, -, al⟩, ⟨a1, -, -⟩, ⟨a2, -, -⟩, ⟨a3, -, -⟩, ⟨a4, -, -⟩, ⟨a5, -, -⟩⟩ := HX4.out
  obtain ⟨⟨b0, -, bl⟩, ⟨b1, -, -⟩, ⟨b2, -, -⟩, ⟨b3, -, -⟩, ⟨b4, -, -⟩, ⟨b5, -, -⟩⟩ := HY4.out
  go_wp2_with fail
  go_at_call 6
  refine (HR2.out _).mono ?_
  rintro e w5 ⟨rfl, hb⟩
  have HB5 := Lib.hid (HB4.out.trans (hb.mono HB4.out.size))
  have HX5 := Lib.hid (HX4.out.below hb)
  have HY5 := Lib.hid (HY4.out.below hb)
  have HP5 := Lib.hid (HP4.out.below hb)
  clear hb a0 al a1 a2 a3 a4 a5 b0 bl b1 b2 b3 b4 b5
  clear HB4 HX4 HY4 HP4
  obtain ⟨⟨a0, -, al⟩, ⟨a1, -, -⟩, ⟨a2, -, -⟩, ⟨a3, -, -⟩, ⟨a4, -, -⟩, ⟨a5, -, -⟩⟩ := HX5.out
  obtain ⟨⟨b0, -, bl⟩, ⟨b1, -, -⟩, ⟨b2, -, -⟩, ⟨b3, -, -⟩, ⟨b4, -, -⟩, ⟨b5, -, -⟩⟩ := HY5.out
  go_wp2_with fail
  go_at_call 13
  refine (H2.out _).mono ?_
  rintro e w6 ⟨rfl, hb⟩
  have HB6 := Lib.hid (HB5.out.trans (hb.mono HB5.out.size))
  have HX6 := Lib.hid (HX5.out.below hb)
  have HY6 := Lib.hid (HY5.out.below hb)
  have HP6 := Lib.hid (HP5.out.below hb)
  clear hb a0 al a1 a2 a3 a4 a5 b0 bl b1 b2 b3 b4 b5
  clear HB5 HX5 HY5 HP5
  go_upto_region 7 with (fail)
  have HB7 := Lib.hid (HB6.out.alloc HB6.out.size (.cells #[.bool false, .bool ps, .int .i64 pn, .int .i64 pk, .int .i64 pt, .int .i64 pr] 23))
  have HX7 := Lib.hid (HX6.out.alloc (.cells #[.bool false, .bool ps, .int .i64 pn, .int .i64 pk, .int .i64 pt, .int .i64 pr] 23))
  have HY7 := Lib.hid (HY6.out.alloc (.cells #[.bool false, .bool ps, .int .i64 pn, .int .i64 pk, .int .i64 pt, .int .i64 pr] 23))
  have HP7 := Lib.hid (HP6.out.alloc (.cells #[.bool false, .bool ps, .int .i64 pn, .int .i64 pk, .int .i64 pt, .int .i64 pr] 23))
  have HQ7 := Lib.hid (C6.new w6 w6.heap.size rfl (.bool false) (.bool ps) (.int .i64 pn) (.int .i64 pk) (.int .i64 pt) (.int .i64 pr) 23)
  generalize w6.alloc (.cells #[.bool false, .bool ps, .int .i64 pn, .int .i64 pk, .int .i64 pt, .int .i64 pr] 23) = w7 at *
  generalize w6.heap.size = m2 at *
  clear HB6 HX6 HY6 HP6
  obtain ⟨⟨a0, -, al⟩, ⟨a1, -, -⟩, ⟨a2, -, -⟩, ⟨a3, -, -⟩, ⟨a4, -, -⟩, ⟨a5, -, -⟩⟩ := HX7.out
  obtain ⟨⟨b0, -, bl⟩, ⟨b1, -, -⟩, ⟨b2, -, -⟩, ⟨b3, -, -⟩, ⟨b4, -, -⟩, ⟨b5, -, -⟩⟩ := HY7.out
  go_wp2_with fail
  go_at_call 13
  refine (H3.out _).mono ?_
  rintro e w8 ⟨rfl, hb⟩
  have HB8 := Lib.hid (HB7.out.trans (hb.mono HB7.out.size))
  have HX8 := Lib.hid (HX7.out.below hb)
  have HY8 := Lib.hid (HY7.out.below hb)
  have HP8 := Lib.hid (HP7.out.below hb)
  have HQ8 := Lib.hid (HQ7.out.below hb)
  clear hb a0 al a1 a2 a3 a4 a5 b0 bl b1 b2 b3 b4 b5
  clear HB7 HX7 HY7 HP7 HQ7
  go_upto_region 8 with (fail)
  have HS := Lib.hid (show XaAt w (w8.alloc (.cells #[.bool a, .bool b, .int .i64 n, .int .i64 k, .int .i64 t, .int .i64 r] 23)) m1 m2 w8.heap.size (.bool a) (.bool b) (.int .i64 n) (.int .i64 k) (.int .i64 t) (.int .i64 r) (.bool a') (.bool b') (.int .i64 n') (.int .i64 k') (.int .i64 t') (.int .i64 r') (.bool false) (.bool ps) (.int .i64 pn) (.int .i64 pk) (.int .i64 pt) (.int .i64 pr) from ⟨HX8.out.alloc _, HY8.out.alloc _, HP8.out.alloc _, HQ8.out.alloc _, C6.new w8 _ rfl _ _ _ _ _ _ _, HB8.out.alloc HB8.out.size _⟩)
  generalize w8.alloc (.cells #[.bool a, .bool b, .int .i64 n, .int .i64 k, .int .i64 t, .int .i64 r] 23) = w9 at *
  generalize w8.heap.size = m3 at *
  clear HB8 HX8 HY8 HP8 HQ8
  have hq1 := eq_same false ps pn pk pt pr
  have hq2 := eq_same_ref false ps pn pk pt pr
  have hq3 := eq_same a b n k t r
  refine wp_region_facts (fun W W' => Below W.heap.size W W') (fun W => XaAt w W m1 m2 m3 (.bool a) (.bool b) (.int .i64 n) (.int .i64 k) (.int .i64 t) (.int .i64 r) (.bool a') (.bool b') (.int .i64 n') (.int .i64 k') (.int .i64 t') (.int .i64 r') (.bool false) (.bool ps) (.int .i64 pn) (.int .i64 pk) (.int .i64 pt) (.int .i64 pr)) (factsOf [.is (.int .i64 0), .is (.bool true), .is (.bool true), .is (.agg #[.bool false, .bool ps, .int .i64 pn, .int .i64 pk, .int .i64 pt, .int .i64 pr]), .is (.agg #[.bool a, .bool b, .int .i64 n, .int .i64 k, .int .i64 t, .int .i64 r]), .is (.agg #[.bool a', .bool b', .int .i64 n', .int .i64 k', .int .i64 t', .int .i64 r']), .is (.agg #[.bool false, .bool ps, .int .i64 pn, .int .i64 pk, .int .i64 pt, .int .i64 pr]), .is (.bool true), .is (.bool true), .is (.bool true), .is (.int .i64 0), .is (.bool true), .is (.bool true), .is (.bool true), .is (.agg #[.bool false, .bool ps, .int .i64 pn, .int .i64 pk, .int .i64 pt, .int .i64 pr]), .is (.agg #[.bool false, .bool ps, .int .i64 pn, .int .i64 pk, .int .i64 pt, .int .i64 pr]), .is (.bool true), .is (.bool true), .is (.bool true), .is (.agg #[.bool false, .bool ps, .int .i64 pn, .int .i64 pk, .int .i64 pt, .int .i64 pr]), .is (.bool true), .is (.bool true), .is (.bool true), .is (.int .i64 0), .is (.bool true), .is (.bool true), .is (.bool true), .is (.agg #[.bool a, .bool b, .int .i64 n, .int .i64 k, .int .i64 t, .int .i64 r]), .is (.agg #[.bool a, .bool b, .int .i64 n, .int .i64 k, .int .i64 t, .int .i64 r]), .is (.bool true), .is (.bool true), .is (.bool true), .is (.pointer (some ⟨m1, 2, none⟩)), .is (.int .i64 pn), .is (.pointer (some ⟨w.heap.size, 2, none⟩)), .is (.int .i64 n), .is (.bool true), .is (.bool true), .is (.bool true), .is (.pointer (some ⟨m1, 3, none⟩)), .is (.int .i64 pk), .is (.pointer (some ⟨w.heap.size + 1, 3, none⟩)), .is (.int .i64 k'), .is (.bool true), .is (.bool true), .is (.bool true), .is (.pointer (some ⟨m1, 0, none⟩)), .is (.bool false), .is (.bool true), .is (.bool true), .any, .any, .is (.bool true), .is (.bool true), .is (.bool true)]) (by kernel_rfl) (by kernel_rfl) (facts_stay _) (fun W W' hb h => h.below hb) (fun i => if i = 54 then .bool false else undef) (by kernel_rfl) HS.out.drew ?F ?hF ?hstep ?hend
  case hF =>
    intro u
    simp only [fillAct]
    go_simp
    rfl
  case hstep =>
      refine FSteps.cons ?_ ?_
      · intro u W hS hd K hK
        clear hd
        simp only [upd, reduceIte, Nat.reduceEqDiff] at hK
        go_simp
        exact hK.out _ _ (Below.refl _ _) rfl
      refine FSteps.cons ?_ ?_
      · intro u W hS hd K hK
        have h0 : u 0 = _ := hd 0 rfl
        clear hd
        simp only [upd, h0, reduceIte, Nat.reduceEqDiff] at hK
        go_simp
        exact hK.out _ _ (Below.refl _ _) rfl
      refine FSteps.cons ?_ ?_
      · intro u W hS hd K hK
        have h1 : u 1 = _ := hd 1 rfl
        clear hd
        simp only [upd, h1, reduceIte, Nat.reduceEqDiff] at hK
        go_simp
        exact hK.out _ _ (Below.refl _ _) rfl
      refine FSteps.cons ?_ ?_
      · intro u W hS hd K hK
        have h2 : u 2 = _ := hd 2 rfl
        clear hd
        simp only [upd, h2, reduceIte, Nat.reduceEqDiff] at hK
        have c0 := hS.p.k0.cell
        have c1 := hS.p.k1.cell
        have c2 := hS.p.k2.cell
        have c3 := hS.p.k3.cell
        have c4 := hS.p.k4.cell
        have c5 := hS.p.k5.cell
        go_simp
        exact hK.out _ _ (Below.refl _ _) rfl
      refine FSteps.cons ?_ ?_
      · intro u W hS hd K hK
        have h2 : u 2 = _ := hd 2 rfl
        clear hd
        simp only [upd, h2, reduceIte, Nat.reduceEqDiff] at hK
        have c0 := hS.x.k0.cell
        have c1 := hS.x.k1.cell
        have c2 := hS.x.k2.cell
        have c3 := hS.x.k3.cell
        have c4 := hS.x.k4.cell
        have c5 := hS.x.k5.cell
        go_simp
        exact hK.out _ _ (Below.refl _ _) rfl
      refine FSteps.cons ?_ ?_
      · intro u W hS hd K hK
        have h2 : u 2 = _ := hd 2 rfl
        clear hd
        simp only [upd, h2, reduceIte, Nat.reduceEqDiff] at hK
        have c0 := hS.y.k0.cell
        have c1 := hS.y.k1.cell
        have c2 := hS.y.k2.cell
        have c3 := hS.y.k3.cell
        have c4 := hS.y.k4.cell
        have c5 := hS.y.k5.cell
        go_simp
        exact hK.out _ _ (Below.refl _ _) rfl
      refine FSteps.cons ?_ ?_
      · intro u W hS hd K hK
        have h2 : u 2 = _ := hd 2 rfl
        have h4 : u 4 = _ := hd 4 rfl
        have h5 : u 5 = _ := hd 5 rfl
        clear hd
        simp only [upd, h2, h4, h5, reduceIte, Nat.reduceEqDiff] at hK
        go_simp
        go_at_call 14
        refine (HRA.out _).mono ?_
        rintro e wc ⟨rfl, hb⟩
        exact hK.out _ _ hb rfl
      refine FSteps.cons ?_ ?_
      · intro u W hS hd K hK
        have h2 : u 2 = _ := hd 2 rfl
        have h3 : u 3 = _ := hd 3 rfl
        have h6 : u 6 = _ := hd 6 rfl
        clear hd
        simp only [upd, h2, h3, h6, reduceIte, Nat.reduceEqDiff] at hK
        go_simp
        exact hK.out _ _ (Below.refl _ _) rfl
      refine FSteps.cons ?_ ?_
      · intro u W hS hd K hK
        have h2 : u 2 = _ := hd 2 rfl
        have h7 : u 7 = _ := hd 7 rfl
        clear hd
        simp only [upd, h2, h7, reduceIte, Nat.reduceEqDiff] at hK
        go_simp
        exact hK.out _ _ (Below.refl _ _) rfl
      refine FSteps.cons ?_ ?_
      · intro u W hS hd K hK
        have h8 : u 8 = _ := hd 8 rfl
        clear hd
        simp only [upd, h8, reduceIte, Nat.reduceEqDiff] at hK
        go_simp
        exact hK.out _ _ (Below.refl _ _) rfl
      refine FSteps.cons ?_ ?_
      · intro u W hS hd K hK
        have h9 : u 9 = _ := hd 9 rfl
        clear hd
        simp only [upd, h9, reduceIte, Nat.reduceEqDiff] at hK
        go_simp
        exact hK.out _ _ (Below.refl _ _) rfl
      refine FSteps.cons ?_ ?_
      · intro u W hS hd K hK
        have h9 : u 9 = _ := hd 9 rfl
        have h10 : u 10 = _ := hd 10 rfl
        clear hd
        simp only [upd, h9, h10, reduceIte, Nat.reduceEqDiff] at hK
        go_simp
        exact hK.out _ _ (Below.refl _ _) rfl
      refine FSteps.cons ?_ ?_
      · intro u W hS hd K hK
        have h9 : u 9 = _ := hd 9 rfl
        have h11 : u 11 = _ := hd 11 rfl
        clear hd
        simp only [upd, h9, h11, reduceIte, Nat.reduceEqDiff] at hK
        go_simp
        exact hK.out _ _ (Below.refl _ _) rfl
      refine FSteps.cons ?_ ?_
      · intro u W hS hd K hK
        have h12 : u 12 = _ := hd 12 rfl
        clear hd
        simp only [upd, h12, reduceIte, Nat.reduceEqDiff] at hK
        go_simp
        exact hK.out _ _ (Below.refl _ _) rfl
      refine FSteps.cons ?_ ?_
      · intro u W hS hd K hK
        have h13 : u 13 = _ := hd 13 rfl
        clear hd
        simp only [upd, h13, reduceIte, Nat.reduceEqDiff] at hK
        have c0 := hS.q.k0.cell
        have c1 := hS.q.k1.cell
        have c2 := hS.q.k2.cell
        have c3 := hS.q.k3.cell
        have c4 := hS.q.k4.cell
        have c5 := hS.q.k5.cell
        go_simp
        exact hK.out _ _ (Below.refl _ _) rfl
      refine FSteps.cons ?_ ?_
      · intro u W hS hd K hK
        have h13 : u 13 = _ := hd 13 rfl
        clear hd
        simp only [upd, h13, reduceIte, Nat.reduceEqDiff] at hK
        have c0 := hS.p.k0.cell
        have c1 := hS.p.k1.cell
        have c2 := hS.p.k2.cell
        have c3 := hS.p.k3.cell
        have c4 := hS.p.k4.cell
        have c5 := hS.p.k5.cell
        go_simp
        exact hK.out _ _ (Below.refl _ _) rfl
      refine FSteps.cons ?_ ?_
      · intro u W hS hd K hK
        have h13 : u 13 = _ := hd 13 rfl
        have h14 : u 14 = _ := hd 14 rfl
        have h15 : u 15 = _ := hd 15 rfl
        clear hd
        simp only [upd, h13, h14, h15, reduceIte, Nat.reduceEqDiff] at hK
        go_simp
        exact hK.out _ _ (Below.refl _ _) rfl
      refine FSteps.cons ?_ ?_
      · intro u W hS hd K hK
        have h13 : u 13 = _ := hd 13 rfl
        have h16 : u 16 = _ := hd 16 rfl
        clear hd
        simp only [upd, h13, h16, reduceIte, Nat.reduceEqDiff] at hK
        go_simp
        exact hK.out _ _ (Below.refl _ _) rfl
      refine FSteps.cons ?_ ?_
      · intro u W hS hd K hK
        have h17 : u 17 = _ := hd 17 rfl
        clear hd
        simp only [upd, h17, reduceIte, Nat.reduceEqDiff] at hK
        go_simp
        exact hK.out _ _ (Below.refl _ _) rfl
      refine FSteps.cons ?_ ?_
      · intro u W hS hd K hK
        have h18 : u 18 = _ := hd 18 rfl
        clear hd
        simp only [upd, h18, reduceIte, Nat.reduceEqDiff] at hK
        have c0 := hS.p.k0.cell
        have c1 := hS.p.k1.cell
        have c2 := hS.p.k2.cell
        have c3 := hS.p.k3.cell
        have c4 := hS.p.k4.cell
        have c5 := hS.p.k5.cell
        go_simp
        exact hK.out _ _ (Below.refl _ _) rfl
      refine FSteps.cons ?_ ?_
      · intro u W hS hd K hK
        have h18 : u 18 = _ := hd 18 rfl
        have h19 : u 19 = _ := hd 19 rfl
        clear hd
        simp only [upd, h18, h19, reduceIte, Nat.reduceEqDiff] at hK
        go_simp
        go_at_call 8
        refine (HRP.out _).mono ?_
        rintro e wc ⟨rfl, hb⟩
        exact hK.out _ _ hb rfl
      refine FSteps.cons ?_ ?_
      · intro u W hS hd K hK
        have h18 : u 18 = _ := hd 18 rfl
        have h20 : u 20 = _ := hd 20 rfl
        clear hd
        simp only [upd, h18, h20, reduceIte, Nat.reduceEqDiff] at hK
        go_simp
        exact hK.out _ _ (Below.refl _ _) rfl
      refine FSteps.cons ?_ ?_
      · intro u W hS hd K hK
        have h21 : u 21 = _ := hd 21 rfl
        clear hd
        simp only [upd, h21, reduceIte, Nat.reduceEqDiff] at hK
        go_simp
        exact hK.out _ _ (Below.refl _ _) rfl
      refine FSteps.cons ?_ ?_
      · intro u W hS hd K hK
        have h22 : u 22 = _ := hd 22 rfl
        clear hd
        simp only [upd, h22, reduceIte, Nat.reduceEqDiff] at hK
        go_simp
        exact hK.out _ _ (Below.refl _ _) rfl
      refine FSteps.cons ?_ ?_
      · intro u W hS hd K hK
        have h22 : u 22 = _ := hd 22 rfl
        have h23 : u 23 = _ := hd 23 rfl
        clear hd
        simp only [upd, h22, h23, reduceIte, Nat.reduceEqDiff] at hK
        go_simp
        exact hK.out _ _ (Below.refl _ _) rfl
      refine FSteps.cons ?_ ?_
      · intro u W hS hd K hK
        have h22 : u 22 = _ := hd 22 rfl
        have h24 : u 24 = _ := hd 24 rfl
        clear hd
        simp only [upd, h22, h24, reduceIte, Nat.reduceEqDiff] at hK
        go_simp
        exact hK.out _ _ (Below.refl _ _) rfl
      refine FSteps.cons ?_ ?_
      · intro u W hS hd K hK
        have h25 : u 25 = _ := hd 25 rfl
        clear hd
        simp only [upd, h25, reduceIte, Nat.reduceEqDiff] at hK
        go_simp
        exact hK.out _ _ (Below.refl _ _) rfl
      refine FSteps.cons ?_ ?_
      · intro u W hS hd K hK
        have h26 : u 26 = _ := hd 26 rfl
        clear hd
        simp only [upd, h26, reduceIte, Nat.reduceEqDiff] at hK
        have c0 := hS.s.k0.cell
        have c1 := hS.s.k1.cell
        have c2 := hS.s.k2.cell
        have c3 := hS.s.k3.cell
        have c4 := hS.s.k4.cell
        have c5 := hS.s.k5.cell
        go_simp
        exact hK.out _ _ (Below.refl _ _) rfl
      refine FSteps.cons ?_ ?_
      · intro u W hS hd K hK
        have h26 : u 26 = _ := hd 26 rfl
        clear hd
        simp only [upd, h26, reduceIte, Nat.reduceEqDiff] at hK
        have c0 := hS.x.k0.cell
        have c1 := hS.x.k1.cell
        have c2 := hS.x.k2.cell
        have c3 := hS.x.k3.cell
        have c4 := hS.x.k4.cell
        have c5 := hS.x.k5.cell
        go_simp
        exact hK.out _ _ (Below.refl _ _) rfl
      refine FSteps.cons ?_ ?_
      · intro u W hS hd K hK
        have h26 : u 26 = _ := hd 26 rfl
        have h27 : u 27 = _ := hd 27 rfl
        have h28 : u 28 = _ := hd 28 rfl
        clear hd
        simp only [upd, h26, h27, h28, reduceIte, Nat.reduceEqDiff] at hK
        go_simp
        exact hK.out _ _ (Below.refl _ _) rfl
      refine FSteps.cons ?_ ?_
      · intro u W hS hd K hK
        have h26 : u 26 = _ := hd 26 rfl
        have h29 : u 29 = _ := hd 29 rfl
        clear hd
        simp only [upd, h26, h29, reduceIte, Nat.reduceEqDiff] at hK
        go_simp
        exact hK.out _ _ (Below.refl _ _) rfl
      refine FSteps.cons ?_ ?_
      · intro u W hS hd K hK
        have h30 : u 30 = _ := hd 30 rfl
        clear hd
        simp only [upd, h30, reduceIte, Nat.reduceEqDiff] at hK
        go_simp
        exact hK.out _ _ (Below.refl _ _) rfl
      refine FSteps.cons ?_ ?_
      · intro u W hS hd K hK
        have h31 : u 31 = _ := hd 31 rfl
        clear hd
        simp only [upd, h31, reduceIte, Nat.reduceEqDiff] at hK
        go_simp
        exact hK.out _ _ (Below.refl _ _) rfl
      refine FSteps.cons ?_ ?_
      · intro u W hS hd K hK
        have h31 : u 31 = _ := hd 31 rfl
        have h32 : u 32 = _ := hd 32 rfl
        clear hd
        simp only [upd, h31, h32, reduceIte, Nat.reduceEqDiff] at hK
        have c0 := hS.p.k2.cell
        go_simp
        exact hK.out _ _ (Below.refl _ _) rfl
      refine FSteps.cons ?_ ?_
      · intro u W hS hd K hK
        have h31 : u 31 = _ := hd 31 rfl
        clear hd
        simp only [upd, h31, reduceIte, Nat.reduceEqDiff] at hK
        go_simp
        exact hK.out _ _ (Below.refl _ _) rfl
      refine FSteps.cons ?_ ?_
      · intro u W hS hd K hK
        have h31 : u 31 = _ := hd 31 rfl
        have h34 : u 34 = _ := hd 34 rfl
        clear hd
        simp only [upd, h31, h34, reduceIte, Nat.reduceEqDiff] at hK
        have c0 := hS.x.k2.cell
        go_simp
        exact hK.out _ _ (Below.refl _ _) rfl
      refine FSteps.cons ?_ ?_
      · intro u W hS hd K hK
        have h31 : u 31 = _ := hd 31 rfl
        have h33 : u 33 = _ := hd 33 rfl
        have h35 : u 35 = _ := hd 35 rfl
        clear hd
        simp only [upd, h31, h33, h35, reduceIte, Nat.reduceEqDiff] at hK
        go_simp
        exact hK.out _ _ (Below.refl _ _) rfl
      refine FSteps.cons ?_ ?_
      · intro u W hS hd K hK
        have h31 : u 31 = _ := hd 31 rfl
        have h36 : u 36 = _ := hd 36 rfl
        clear hd
        simp only [upd, h31, h36, reduceIte, Nat.reduceEqDiff] at hK
        go_simp
        exact hK.out _ _ (Below.refl _ _) rfl
      refine FSteps.cons ?_ ?_
      · intro u W hS hd K hK
        have h37 : u 37 = _ := hd 37 rfl
        clear hd
        simp only [upd, h37, reduceIte, Nat.reduceEqDiff] at hK
        go_simp
        exact hK.out _ _ (Below.refl _ _) rfl
      refine FSteps.cons ?_ ?_
      · intro u W hS hd K hK
        have h38 : u 38 = _ := hd 38 rfl
        clear hd
        simp only [upd, h38, reduceIte, Nat.reduceEqDiff] at hK
        go_simp
        exact hK.out _ _ (Below.refl _ _) rfl
      refine FSteps.cons ?_ ?_
      · intro u W hS hd K hK
        have h38 : u 38 = _ := hd 38 rfl
        have h39 : u 39 = _ := hd 39 rfl
        clear hd
        simp only [upd, h38, h39, reduceIte, Nat.reduceEqDiff] at hK
        have c0 := hS.p.k3.cell
        go_simp
        exact hK.out _ _ (Below.refl _ _) rfl
      refine FSteps.cons ?_ ?_
      · intro u W hS hd K hK
        have h38 : u 38 = _ := hd 38 rfl
        clear hd
        simp only [upd, h38, reduceIte, Nat.reduceEqDiff] at hK
        go_simp
        exact hK.out _ _ (Below.refl _ _) rfl
      refine FSteps.cons ?_ ?_
      · intro u W hS hd K hK
        have h38 : u 38 = _ := hd 38 rfl
        have h41 : u 41 = _ := hd 41 rfl
        clear hd
        simp only [upd, h38, h41, reduceIte, Nat.reduceEqDiff] at hK
        have c0 := hS.y.k3.cell
        go_simp
        exact hK.out _ _ (Below.refl _ _) rfl
      refine FSteps.cons ?_ ?_
      · intro u W hS hd K hK
        have h38 : u 38 = _ := hd 38 rfl
        have h40 : u 40 = _ := hd 40 rfl
        have h42 : u 42 = _ := hd 42 rfl
        clear hd
        simp only [upd, h38, h40, h42, reduceIte, Nat.reduceEqDiff] at hK
        go_simp
        exact hK.out _ _ (Below.refl _ _) rfl
      refine FSteps.cons ?_ ?_
      · intro u W hS hd K hK
        have h38 : u 38 = _ := hd 38 rfl
        have h43 : u 43 = _ := hd 43 rfl
        clear hd
        simp only [upd, h38, h43, reduceIte, Nat.reduceEqDiff] at hK
        go_simp
        exact hK.out _ _ (Below.refl _ _) rfl
      refine FSteps.cons ?_ ?_
      · intro u W hS hd K hK
        have h44 : u 44 = _ := hd 44 rfl
        clear hd
        simp only [upd, h44, reduceIte, Nat.reduceEqDiff] at hK
        go_simp
        exact hK.out _ _ (Below.refl _ _) rfl
      refine FSteps.cons ?_ ?_
      · intro u W hS hd K hK
        have h45 : u 45 = _ := hd 45 rfl
        clear hd
        simp only [upd, h45, reduceIte, Nat.reduceEqDiff] at hK
        go_simp
        exact hK.out _ _ (Below.refl _ _) rfl
      refine FSteps.cons ?_ ?_
      · intro u W hS hd K hK
        have h45 : u 45 = _ := hd 45 rfl
        have h46 : u 46 = _ := hd 46 rfl
        clear hd
        simp only [upd, h45, h46, reduceIte, Nat.reduceEqDiff] at hK
        have c0 := hS.p.k0.cell
        go_simp
        exact hK.out _ _ (Below.refl _ _) rfl
      refine FSteps.cons ?_ ?_
      · intro u W hS hd K hK
        have h45 : u 45 = _ := hd 45 rfl
        have h47 : u 47 = _ := hd 47 rfl
        clear hd
        simp only [upd, h45, h47, reduceIte, Nat.reduceEqDiff] at hK
        go_simp
        exact hK.out _ _ (Below.refl _ _) rfl
      refine FSteps.cons ?_ ?_
      · intro u W hS hd K hK
        have h45 : u 45 = _ := hd 45 rfl
        have h48 : u 48 = _ := hd 48 rfl
        clear hd
        simp only [upd, h45, h48, reduceIte, Nat.reduceEqDiff] at hK
        go_simp
        exact hK.out _ _ (Below.refl _ _) rfl
      refine FSteps.cons ?_ ?_
      · intro u W hS hd K hK
        have h49 : u 49 = _ := hd 49 rfl
        clear hd
        simp only [upd, h49, reduceIte, Nat.reduceEqDiff] at hK
        go_simp
        exact hK.out undef _ (Below.refl _ _) trivial
      refine FSteps.cons ?_ ?_
      · intro u W hS hd K hK
        have h49 : u 49 = _ := hd 49 rfl
        clear hd
        simp only [upd, h49, reduceIte, Nat.reduceEqDiff] at hK
        go_simp
        exact hK.out undef _ (Below.refl _ _) trivial
      refine FSteps.cons ?_ ?_
      · intro u W hS hd K hK
        have h45 : u 45 = _ := hd 45 rfl
        have h49 : u 49 = _ := hd 49 rfl
        clear hd
        simp only [upd, h45, h49, reduceIte, Nat.reduceEqDiff] at hK
        go_simp
        exact hK.out _ _ (Below.refl _ _) rfl
      refine FSteps.cons ?_ ?_
      · intro u W hS hd K hK
        have h45 : u 45 = _ := hd 45 rfl
        have h52 : u 52 = _ := hd 52 rfl
        clear hd
        simp only [upd, h45, h52, reduceIte, Nat.reduceEqDiff] at hK
        go_simp
        exact hK.out _ _ (Below.refl _ _) rfl
      refine FSteps.cons ?_ ?_
      · intro u W hS hd K hK
        have h53 : u 53 = _ := hd 53 rfl
        clear hd
        simp only [upd, h53, reduceIte, Nat.reduceEqDiff] at hK
        go_simp
        exact hK.out _ _ (Below.refl _ _) rfl
      exact trivial
  case hend =>
    intro u w10 hS hd
    have h54 : u 54 = _ := hd 54 rfl
    have HB10 := Lib.hid hS.bel
    clear hd hS
    go_wp2
    go_ret
    exact ⟨congrArg Ending.returned h54, HB10.out⟩
set_option maxHeartbeats 2000000 in
theorem xagrees_yes_t (b a' b' : Bool) (n k t r n' k' t' r' : Int) (ps : Bool) (pn pk pt pr : Int) (w : World) (hn : pn ≤ n) (hk : pk ≤ k')
    (H1 : Hid (∀ W, Calls Try.prog 13 #[.agg #[.bool true, .bool b, .int .i64 n, .int .i64 k, .int .i64 t, .int .i64 r], .agg #[.bool a', .bool b', .int .i64 n', .int .i64 k', .int .i64 t', .int .i64 r']] W fun e w' => e = .returned (.tuple #[.agg #[.bool true, .bool ps, .int .i64 pn, .int .i64 pk, .int .i64 pt, .int .i64 pr], .int .i64 0]) ∧ Below W.heap.size W w'))
    (H2 : Hid (∀ W, Calls Try.prog 13 #[.agg #[.bool a', .bool b', .int .i64 n', .int .i64 k', .int .i64 t', .int .i64 r'], .agg #[.bool true, .bool b, .int .i64 n, .int .i64 k, .int .i64 t, .int .i64 r]] W fun e w' => e = .returned (.tuple #[.agg #[.bool true, .bool ps, .int .i64 pn, .int .i64 pk, .int .i64 pt, .int .i64 pr], .int .i64 0]) ∧ Below W.heap.size W w'))
    (H3 : Hid (∀ W, Calls Try.prog 13 #[.agg #[.bool true, .bool b, .int .i64 n, .int .i64 k, .int .i64 t, .int .i64 r], .agg #[.bool true, .bool b, .int .i64 n, .int .i64 k, .int .i64 t, .int .i64 r]] W fun e w' => e = .returned (.tuple #[.agg #[.bool true, .bool b, .int .i64 n, .int .i64 k, .int .i64 t, .int .i64 r], .int .i64 0]) ∧ Below W.heap.size W w'))
    (HRA : Hid (∀ W, Calls Try.prog 14 #[.agg #[.bool true, .bool b, .int .i64 n, .int .i64 k, .int .i64 t, .int .i64 r], .agg #[.bool a', .bool b', .int .i64 n', .int .i64 k', .int .i64 t', .int .i64 r']] W fun e w' => e = .returned (.agg #[.bool true, .bool ps, .int .i64 pn, .int .i64 pk, .int .i64 pt, .int .i64 pr]) ∧ Below W.heap.size W w'))
    (HRP : Hid (∀ W, Calls Try.prog 8 #[.agg #[.bool true, .bool ps, .int .i64 pn, .int .i64 pk, .int .i64 pt, .int .i64 pr]] W fun e w' => e = .returned (.bool true) ∧ Below W.heap.size W w'))
    (HR1 : Hid (∀ W, Calls Try.prog 6 #[.agg #[.bool true, .bool b, .int .i64 n, .int .i64 k, .int .i64 t, .int .i64 r]] W fun e w' => e = .returned (.bool true) ∧ Below W.heap.size W w'))
    (HR2 : Hid (∀ W, Calls Try.prog 6 #[.agg #[.bool a', .bool b', .int .i64 n', .int .i64 k', .int .i64 t', .int .i64 r']] W fun e w' => e = .returned (.bool true) ∧ Below W.heap.size W w')) :
    Calls Try.prog 4 #[.agg #[.bool true, .bool b, .int .i64 n, .int .i64 k, .int .i64 t, .int .i64 r], .agg #[.bool a', .bool b', .int .i64 n', .int .i64 k', .int .i64 t', .int .i64 r']] w fun e w' => e = .returned (.bool true) ∧ Below w.heap.size w w' := by
  have HAW := Lib.hid (fun W => xawake_any W)
  have HB0 := Lib.hid (((Below.refl _ w).alloc (Nat.le_refl _) (.cells #[.bool true, .bool b, .int .i64 n, .int .i64 k, .int .i64 t, .int .i64 r] 23)).alloc (by simp) (.cells #[.bool a', .bool b', .int .i64 n', .int .i64 k', .int .i64 t', .int .i64 r'] 23))
  have HX0 := Lib.hid ((C6.new w w.heap.size rfl (.bool true) (.bool b) (.int .i64 n) (.int .i64 k) (.int .i64 t) (.int .i64 r) 23).alloc (.cells #[.bool a', .bool b', .int .i64 n', .int .i64 k', .int .i64 t', .int .i64 r'] 23))
  have HY0 := Lib.hid (C6.new (w.alloc (.cells #[.bool true, .bool b, .int .i64 n, .int .i64 k, .int .i64 t, .int .i64 r] 23)) (w.heap.size + 1) (by simp) (.bool a') (.bool b') (.int .i64 n') (.int .i64 k') (.int .i64 t') (.int .i64 r') 23)
  have dn := decide_eq_true hn
  have dk := decide_eq_true hk
  clear hn hk
  go_enter Try.func4, Try.ntmps4
  go_wp2_with fail
  go_at_call 5
  refine (HAW.out _).mono ?_
  rintro e w1 ⟨rfl, hb⟩
  have HB1 := Lib.hid (HB0.out.trans (hb.mono HB0.out.size))
  have HX1 := Lib.hid (HX0.out.below hb)
  have HY1 := Lib.hid (HY0.out.below hb)
  clear hb HB0 HX0 HY0
  obtain ⟨⟨a0, -, al⟩, ⟨a1, -, -⟩, ⟨a2, -, -⟩, ⟨a3, -, -⟩, ⟨a4, -, -⟩, ⟨a5, -, -⟩⟩ := HX1.out
  obtain ⟨⟨b0, -, bl⟩, ⟨b1, -, -⟩, ⟨b2, -, -⟩, ⟨b3, -, -⟩, ⟨b4, -, -⟩, ⟨b5, -, -⟩⟩ := HY1.out
  go_wp2_with fail
  go_at_call 13
  refine (H1.out _).mono ?_
  rintro e w2 ⟨rfl, hb⟩
  have HB2 := Lib.hid (HB1.out.trans (hb.mono HB1.out.size))
  have HX2 := Lib.hid (HX1.out.below hb)
  have HY2 := Lib.hid (HY1.out.below hb)
  clear hb a0 al a1 a2 a3 a4 a5 b0 bl b1 b2 b3 b4 b5
  go_upto_region 4 with (fail)
  have HB3 := Lib.hid (HB2.out.alloc HB2.out.size (.cells #[.bool true, .bool ps, .int .i64 pn, .int .i64 pk, .int .i64 pt, .int .i64 pr] 23))
  have HX3 := Lib.hid (HX2.out.alloc (.cells #[.bool true, .bool ps, .int .i64 pn, .int .i64 pk, .int .i64 pt, .int .i64 pr] 23))
  have HY3 := Lib.hid (HY2.out.alloc (.cells #[.bool true, .bool ps, .int .i64 pn, .int .i64 pk, .int .i64 pt, .int .i64 pr] 23))
  have HP3 := Lib.hid (C6.new w2 w2.heap.size rfl (.bool true) (.bool ps) (.int .i64 pn) (.int .i64 pk) (.int .i64 pt) (.int .i64 pr) 23)
  generalize w2.alloc (.cells #[.bool true, .bool ps, .int .i64 pn, .int .i64 pk, .int .i64 pt, .int .i64 pr] 23) = w3 at *
  generalize w2.heap.size = m1 at *
  clear HB2 HX2 HY2 HB1 HX1 HY1
  obtain ⟨⟨a0, -, al⟩, ⟨a1, -, -⟩, ⟨a2, -, -⟩, ⟨a3, -, -⟩, ⟨a4, -, -⟩, ⟨a5, -, -⟩⟩ := HX3.out
  obtain ⟨⟨b0, -, bl⟩, ⟨b1, -, -⟩, ⟨b2, -, -⟩, ⟨b3, -, -⟩, ⟨b4, -, -⟩, ⟨b5, -, -⟩⟩ := HY3.out
  go_wp2_with fail
  go_at_call 6
  refine (HR1.out _).mono ?_
  rintro e w4 ⟨rfl, hb⟩
  have HB4 := Lib.hid (HB3.out.trans (hb.mono HB3.out.size))
  have HX4 := Lib.hid (HX3.out.below hb)
  have HY4 := Lib.hid (HY3.out.below hb)
  have HP4 := Lib.hid (HP3.out.below hb)
  clear hb a0 al a1 a2 a3 a4 a5 b0 bl b1 b2 b3 b4 b5
  clear HB3 HX3 HY3 HP3
  obtain ⟨⟨a0, -, al⟩, ⟨a1, -, -⟩, ⟨a2, -, -⟩, ⟨a3, -, -⟩, ⟨a4, -, -⟩, ⟨a5, -, -⟩⟩ := HX4.out
  obtain ⟨⟨b0, -, bl⟩, ⟨b1, -, -⟩, ⟨b2, -, -⟩, ⟨b3, -, -⟩, ⟨b4, -, -⟩, ⟨b5, -, -⟩⟩ := HY4.out
  go_wp2_with fail
  go_at_call 6
  refine (HR2.out _).mono ?_
  rintro e w5 ⟨rfl, hb⟩
  have HB5 := Lib.hid (HB4.out.trans (hb.mono HB4.out.size))
  have HX5 := Lib.hid (HX4.out.below hb)
  have HY5 := Lib.hid (HY4.out.below hb)
  have HP5 := Lib.hid (HP4.out.below hb)
  clear hb a0 al a1 a2 a3 a4 a5 b0 bl b1 b2 b3 b4 b5
  clear HB4 HX4 HY4 HP4
  obtain ⟨⟨a0, -, al⟩, ⟨a1, -, -⟩, ⟨a2, -, -⟩, ⟨a3, -, -⟩, ⟨a4, -, -⟩, ⟨a5, -, -⟩⟩ := HX5.out
  obtain ⟨⟨b0, -, bl⟩, ⟨b1, -, -⟩, ⟨b2, -, -⟩, ⟨b3, -, -⟩, ⟨b4, -, -⟩, ⟨b5, -, -⟩⟩ := HY5.out
  go_wp2_with fail
  go_at_call 13
  refine (H2.out _).mono ?_
  rintro e w6 ⟨rfl, hb⟩
  have HB6 := Lib.hid (HB5.out.trans (hb.mono HB5.out.size))
  have HX6 := Lib.hid (HX5.out.below hb)
  have HY6 := Lib.hid (HY5.out.below hb)
  have HP6 := Lib.hid (HP5.out.below hb)
  clear hb a0 al a1 a2 a3 a4 a5 b0 bl b1 b2 b3 b4 b5
  clear HB5 HX5 HY5 HP5
  go_upto_region 7 with (fail)
  have HB7 := Lib.hid (HB6.out.alloc HB6.out.size (.cells #[.bool true, .bool ps, .int .i64 pn, .int .i64 pk, .int .i64 pt, .int .i64 pr] 23))
  have HX7 := Lib.hid (HX6.out.alloc (.cells #[.bool true, .bool ps, .int .i64 pn, .int .i64 pk, .int .i64 pt, .int .i64 pr] 23))
  have HY7 := Lib.hid (HY6.out.alloc (.cells #[.bool true, .bool ps, .int .i64 pn, .int .i64 pk, .int .i64 pt, .int .i64 pr] 23))
  have HP7 := Lib.hid (HP6.out.alloc (.cells #[.bool true, .bool ps, .int .i64 pn, .int .i64 pk, .int .i64 pt, .int .i64 pr] 23))
  have HQ7 := Lib.hid (C6.new w6 w6.heap.size rfl (.bool true) (.bool ps) (.int .i64 pn) (.int .i64 pk) (.int .i64 pt) (.int .i64 pr) 23)
  generalize w6.alloc (.cells #[.bool true, .bool ps, .int .i64 pn, .int .i64 pk, .int .i64 pt, .int .i64 pr] 23) = w7 at *
  generalize w6.heap.size = m2 at *
  clear HB6 HX6 HY6 HP6
  obtain ⟨⟨a0, -, al⟩, ⟨a1, -, -⟩, ⟨a2, -, -⟩, ⟨a3, -, -⟩, ⟨a4, -, -⟩, ⟨a5, -, -⟩⟩ := HX7.out
  obtain ⟨⟨b0, -, bl⟩, ⟨b1, -, -⟩, ⟨b2, -, -⟩, ⟨b3, -, -⟩, ⟨b4, -, -⟩, ⟨b5, -, -⟩⟩ := HY7.out
  go_wp2_with fail
  go_at_call 13
  refine (H3.out _).mono ?_
  rintro e w8 ⟨rfl, hb⟩
  have HB8 := Lib.hid (HB7.out.trans (hb.mono HB7.out.size))
  have HX8 := Lib.hid (HX7.out.below hb)
  have HY8 := Lib.hid (HY7.out.below hb)
  have HP8 := Lib.hid (HP7.out.below hb)
  have HQ8 := Lib.hid (HQ7.out.below hb)
  clear hb a0 al a1 a2 a3 a4 a5 b0 bl b1 b2 b3 b4 b5
  clear HB7 HX7 HY7 HP7 HQ7
  go_upto_region 8 with (fail)
  have HS := Lib.hid (show XaAt w (w8.alloc (.cells #[.bool true, .bool b, .int .i64 n, .int .i64 k, .int .i64 t, .int .i64 r] 23)) m1 m2 w8.heap.size (.bool true) (.bool b) (.int .i64 n) (.int .i64 k) (.int .i64 t) (.int .i64 r) (.bool a') (.bool b') (.int .i64 n') (.int .i64 k') (.int .i64 t') (.int .i64 r') (.bool true) (.bool ps) (.int .i64 pn) (.int .i64 pk) (.int .i64 pt) (.int .i64 pr) from ⟨HX8.out.alloc _, HY8.out.alloc _, HP8.out.alloc _, HQ8.out.alloc _, C6.new w8 _ rfl _ _ _ _ _ _ _, HB8.out.alloc HB8.out.size _⟩)
  generalize w8.alloc (.cells #[.bool true, .bool b, .int .i64 n, .int .i64 k, .int .i64 t, .int .i64 r] 23) = w9 at *
  generalize w8.heap.size = m3 at *
  clear HB8 HX8 HY8 HP8 HQ8
  have hq1 := eq_same true ps pn pk pt pr
  have hq2 := eq_same_ref true ps pn pk pt pr
  have hq3 := eq_same true b n k t r
  refine wp_region_facts (fun W W' => Below W.heap.size W W') (fun W => XaAt w W m1 m2 m3 (.bool true) (.bool b) (.int .i64 n) (.int .i64 k) (.int .i64 t) (.int .i64 r) (.bool a') (.bool b') (.int .i64 n') (.int .i64 k') (.int .i64 t') (.int .i64 r') (.bool true) (.bool ps) (.int .i64 pn) (.int .i64 pk) (.int .i64 pt) (.int .i64 pr)) (factsOf [.is (.int .i64 0), .is (.bool true), .is (.bool true), .is (.agg #[.bool true, .bool ps, .int .i64 pn, .int .i64 pk, .int .i64 pt, .int .i64 pr]), .is (.agg #[.bool true, .bool b, .int .i64 n, .int .i64 k, .int .i64 t, .int .i64 r]), .is (.agg #[.bool a', .bool b', .int .i64 n', .int .i64 k', .int .i64 t', .int .i64 r']), .is (.agg #[.bool true, .bool ps, .int .i64 pn, .int .i64 pk, .int .i64 pt, .int .i64 pr]), .is (.bool true), .is (.bool true), .is (.bool true), .is (.int .i64 0), .is (.bool true), .is (.bool true), .is (.bool true), .is (.agg #[.bool true, .bool ps, .int .i64 pn, .int .i64 pk, .int .i64 pt, .int .i64 pr]), .is (.agg #[.bool true, .bool ps, .int .i64 pn, .int .i64 pk, .int .i64 pt, .int .i64 pr]), .is (.bool true), .is (.bool true), .is (.bool true), .is (.agg #[.bool true, .bool ps, .int .i64 pn, .int .i64 pk, .int .i64 pt, .int .i64 pr]), .is (.bool true), .is (.bool true), .is (.bool true), .is (.int .i64 0), .is (.bool true), .is (.bool true), .is (.bool true), .is (.agg #[.bool true, .bool b, .int .i64 n, .int .i64 k, .int .i64 t, .int .i64 r]), .is (.agg #[.bool true, .bool b, .int .i64 n, .int .i64 k, .int .i64 t, .int .i64 r]), .is (.bool true), .is (.bool true), .is (.bool true), .is (.pointer (some ⟨m1, 2, none⟩)), .is (.int .i64 pn), .is (.pointer (some ⟨w.heap.size, 2, none⟩)), .is (.int .i64 n), .is (.bool true), .is (.bool true), .is (.bool true), .is (.pointer (some ⟨m1, 3, none⟩)), .is (.int .i64 pk), .is (.pointer (some ⟨w.heap.size + 1, 3, none⟩)), .is (.int .i64 k'), .is (.bool true), .is (.bool true), .is (.bool true), .is (.pointer (some ⟨m1, 0, none⟩)), .is (.bool true), .is (.bool false), .is (.bool false), .is (.pointer (some ⟨w.heap.size, 0, none⟩)), .is (.bool true), .is (.bool true), .is (.bool true), .is (.bool true)]) (by kernel_rfl) (by kernel_rfl) (facts_stay _) (fun W W' hb h => h.below hb) (fun i => if i = 54 then .bool false else undef) (by kernel_rfl) HS.out.drew ?F2 ?hF2 ?hstep2 ?hend2
  case hF2 =>
    intro u
    simp only [fillAct]
    go_simp
    rfl
  case hstep2 =>
      refine FSteps.cons ?_ ?_
      · intro u W hS hd K hK
        clear hd
        simp only [upd, reduceIte, Nat.reduceEqDiff] at hK
        go_simp
        exact hK.out _ _ (Below.refl _ _) rfl
      refine FSteps.cons ?_ ?_
      · intro u W hS hd K hK
        have h0 : u 0 = _ := hd 0 rfl
        clear hd
        simp only [upd, h0, reduceIte, Nat.reduceEqDiff] at hK
        go_simp
        exact hK.out _ _ (Below.refl _ _) rfl
      refine FSteps.cons ?_ ?_
      · intro u W hS hd K hK
        have h1 : u 1 = _ := hd 1 rfl
        clear hd
        simp only [upd, h1, reduceIte, Nat.reduceEqDiff] at hK
        go_simp
        exact hK.out _ _ (Below.refl _ _) rfl
      refine FSteps.cons ?_ ?_
      · intro u W hS hd K hK
        have h2 : u 2 = _ := hd 2 rfl
        clear hd
        simp only [upd, h2, reduceIte, Nat.reduceEqDiff] at hK
        have c0 := hS.p.k0.cell
        have c1 := hS.p.k1.cell
        have c2 := hS.p.k2.cell
        have c3 := hS.p.k3.cell
        have c4 := hS.p.k4.cell
        have c5 := hS.p.k5.cell
        go_simp
        exact hK.out _ _ (Below.refl _ _) rfl
      refine FSteps.cons ?_ ?_
      · intro u W hS hd K hK
        have h2 : u 2 = _ := hd 2 rfl
        clear hd
        simp only [upd, h2, reduceIte, Nat.reduceEqDiff] at hK
        have c0 := hS.x.k0.cell
        have c1 := hS.x.k1.cell
        have c2 := hS.x.k2.cell
        have c3 := hS.x.k3.cell
        have c4 := hS.x.k4.cell
        have c5 := hS.x.k5.cell
        go_simp
        exact hK.out _ _ (Below.refl _ _) rfl
      refine FSteps.cons ?_ ?_
      · intro u W hS hd K hK
        have h2 : u 2 = _ := hd 2 rfl
        clear hd
        simp only [upd, h2, reduceIte, Nat.reduceEqDiff] at hK
        have c0 := hS.y.k0.cell
        have c1 := hS.y.k1.cell
        have c2 := hS.y.k2.cell
        have c3 := hS.y.k3.cell
        have c4 := hS.y.k4.cell
        have c5 := hS.y.k5.cell
        go_simp
        exact hK.out _ _ (Below.refl _ _) rfl
      refine FSteps.cons ?_ ?_
      · intro u W hS hd K hK
        have h2 : u 2 = _ := hd 2 rfl
        have h4 : u 4 = _ := hd 4 rfl
        have h5 : u 5 = _ := hd 5 rfl
        clear hd
        simp only [upd, h2, h4, h5, reduceIte, Nat.reduceEqDiff] at hK
        go_simp
        go_at_call 14
        refine (HRA.out _).mono ?_
        rintro e wc ⟨rfl, hb⟩
        exact hK.out _ _ hb rfl
      refine FSteps.cons ?_ ?_
      · intro u W hS hd K hK
        have h2 : u 2 = _ := hd 2 rfl
        have h3 : u 3 = _ := hd 3 rfl
        have h6 : u 6 = _ := hd 6 rfl
        clear hd
        simp only [upd, h2, h3, h6, reduceIte, Nat.reduceEqDiff] at hK
        go_simp
        exact hK.out _ _ (Below.refl _ _) rfl
      refine FSteps.cons ?_ ?_
      · intro u W hS hd K hK
        have h2 : u 2 = _ := hd 2 rfl
        have h7 : u 7 = _ := hd 7 rfl
        clear hd
        simp only [upd, h2, h7, reduceIte, Nat.reduceEqDiff] at hK
        go_simp
        exact hK.out _ _ (Below.refl _ _) rfl
      refine FSteps.cons ?_ ?_
      · intro u W hS hd K hK
        have h8 : u 8 = _ := hd 8 rfl
        clear hd
        simp only [upd, h8, reduceIte, Nat.reduceEqDiff] at hK
        go_simp
        exact hK.out _ _ (Below.refl _ _) rfl
      refine FSteps.cons ?_ ?_
      · intro u W hS hd K hK
        have h9 : u 9 = _ := hd 9 rfl
        clear hd
        simp only [upd, h9, reduceIte, Nat.reduceEqDiff] at hK
        go_simp
        exact hK.out _ _ (Below.refl _ _) rfl
      refine FSteps.cons ?_ ?_
      · intro u W hS hd K hK
        have h9 : u 9 = _ := hd 9 rfl
        have h10 : u 10 = _ := hd 10 rfl
        clear hd
        simp only [upd, h9, h10, reduceIte, Nat.reduceEqDiff] at hK
        go_simp
        exact hK.out _ _ (Below.refl _ _) rfl
      refine FSteps.cons ?_ ?_
      · intro u W hS hd K hK
        have h9 : u 9 = _ := hd 9 rfl
        have h11 : u 11 = _ := hd 11 rfl
        clear hd
        simp only [upd, h9, h11, reduceIte, Nat.reduceEqDiff] at hK
        go_simp
        exact hK.out _ _ (Below.refl _ _) rfl
      refine FSteps.cons ?_ ?_
      · intro u W hS hd K hK
        have h12 : u 12 = _ := hd 12 rfl
        clear hd
        simp only [upd, h12, reduceIte, Nat.reduceEqDiff] at hK
        go_simp
        exact hK.out _ _ (Below.refl _ _) rfl
      refine FSteps.cons ?_ ?_
      · intro u W hS hd K hK
        have h13 : u 13 = _ := hd 13 rfl
        clear hd
        simp only [upd, h13, reduceIte, Nat.reduceEqDiff] at hK
        have c0 := hS.q.k0.cell
        have c1 := hS.q.k1.cell
        have c2 := hS.q.k2.cell
        have c3 := hS.q.k3.cell
        have c4 := hS.q.k4.cell
        have c5 := hS.q.k5.cell
        go_simp
        exact hK.out _ _ (Below.refl _ _) rfl
      refine FSteps.cons ?_ ?_
      · intro u W hS hd K hK
        have h13 : u 13 = _ := hd 13 rfl
        clear hd
        simp only [upd, h13, reduceIte, Nat.reduceEqDiff] at hK
        have c0 := hS.p.k0.cell
        have c1 := hS.p.k1.cell
        have c2 := hS.p.k2.cell
        have c3 := hS.p.k3.cell
        have c4 := hS.p.k4.cell
        have c5 := hS.p.k5.cell
        go_simp
        exact hK.out _ _ (Below.refl _ _) rfl
      refine FSteps.cons ?_ ?_
      · intro u W hS hd K hK
        have h13 : u 13 = _ := hd 13 rfl
        have h14 : u 14 = _ := hd 14 rfl
        have h15 : u 15 = _ := hd 15 rfl
        clear hd
        simp only [upd, h13, h14, h15, reduceIte, Nat.reduceEqDiff] at hK
        go_simp
        exact hK.out _ _ (Below.refl _ _) rfl
      refine FSteps.cons ?_ ?_
      · intro u W hS hd K hK
        have h13 : u 13 = _ := hd 13 rfl
        have h16 : u 16 = _ := hd 16 rfl
        clear hd
        simp only [upd, h13, h16, reduceIte, Nat.reduceEqDiff] at hK
        go_simp
        exact hK.out _ _ (Below.refl _ _) rfl
      refine FSteps.cons ?_ ?_
      · intro u W hS hd K hK
        have h17 : u 17 = _ := hd 17 rfl
        clear hd
        simp only [upd, h17, reduceIte, Nat.reduceEqDiff] at hK
        go_simp
        exact hK.out _ _ (Below.refl _ _) rfl
      refine FSteps.cons ?_ ?_
      · intro u W hS hd K hK
        have h18 : u 18 = _ := hd 18 rfl
        clear hd
        simp only [upd, h18, reduceIte, Nat.reduceEqDiff] at hK
        have c0 := hS.p.k0.cell
        have c1 := hS.p.k1.cell
        have c2 := hS.p.k2.cell
        have c3 := hS.p.k3.cell
        have c4 := hS.p.k4.cell
        have c5 := hS.p.k5.cell
        go_simp
        exact hK.out _ _ (Below.refl _ _) rfl
      refine FSteps.cons ?_ ?_
      · intro u W hS hd K hK
        have h18 : u 18 = _ := hd 18 rfl
        have h19 : u 19 = _ := hd 19 rfl
        clear hd
        simp only [upd, h18, h19, reduceIte, Nat.reduceEqDiff] at hK
        go_simp
        go_at_call 8
        refine (HRP.out _).mono ?_
        rintro e wc ⟨rfl, hb⟩
        exact hK.out _ _ hb rfl
      refine FSteps.cons ?_ ?_
      · intro u W hS hd K hK
        have h18 : u 18 = _ := hd 18 rfl
        have h20 : u 20 = _ := hd 20 rfl
        clear hd
        simp only [upd, h18, h20, reduceIte, Nat.reduceEqDiff] at hK
        go_simp
        exact hK.out _ _ (Below.refl _ _) rfl
      refine FSteps.cons ?_ ?_
      · intro u W hS hd K hK
        have h21 : u 21 = _ := hd 21 rfl
        clear hd
        simp only [upd, h21, reduceIte, Nat.reduceEqDiff] at hK
        go_simp
        exact hK.out _ _ (Below.refl _ _) rfl
      refine FSteps.cons ?_ ?_
      · intro u W hS hd K hK
        have h22 : u 22 = _ := hd 22 rfl
        clear hd
        simp only [upd, h22, reduceIte, Nat.reduceEqDiff] at hK
        go_simp
        exact hK.out _ _ (Below.refl _ _) rfl
      refine FSteps.cons ?_ ?_
      · intro u W hS hd K hK
        have h22 : u 22 = _ := hd 22 rfl
        have h23 : u 23 = _ := hd 23 rfl
        clear hd
        simp only [upd, h22, h23, reduceIte, Nat.reduceEqDiff] at hK
        go_simp
        exact hK.out _ _ (Below.refl _ _) rfl
      refine FSteps.cons ?_ ?_
      · intro u W hS hd K hK
        have h22 : u 22 = _ := hd 22 rfl
        have h24 : u 24 = _ := hd 24 rfl
        clear hd
        simp only [upd, h22, h24, reduceIte, Nat.reduceEqDiff] at hK
        go_simp
        exact hK.out _ _ (Below.refl _ _) rfl
      refine FSteps.cons ?_ ?_
      · intro u W hS hd K hK
        have h25 : u 25 = _ := hd 25 rfl
        clear hd
        simp only [upd, h25, reduceIte, Nat.reduceEqDiff] at hK
        go_simp
        exact hK.out _ _ (Below.refl _ _) rfl
      refine FSteps.cons ?_ ?_
      · intro u W hS hd K hK
        have h26 : u 26 = _ := hd 26 rfl
        clear hd
        simp only [upd, h26, reduceIte, Nat.reduceEqDiff] at hK
        have c0 := hS.s.k0.cell
        have c1 := hS.s.k1.cell
        have c2 := hS.s.k2.cell
        have c3 := hS.s.k3.cell
        have c4 := hS.s.k4.cell
        have c5 := hS.s.k5.cell
        go_simp
        exact hK.out _ _ (Below.refl _ _) rfl
      refine FSteps.cons ?_ ?_
      · intro u W hS hd K hK
        have h26 : u 26 = _ := hd 26 rfl
        clear hd
        simp only [upd, h26, reduceIte, Nat.reduceEqDiff] at hK
        have c0 := hS.x.k0.cell
        have c1 := hS.x.k1.cell
        have c2 := hS.x.k2.cell
        have c3 := hS.x.k3.cell
        have c4 := hS.x.k4.cell
        have c5 := hS.x.k5.cell
        go_simp
        exact hK.out _ _ (Below.refl _ _) rfl
      refine FSteps.cons ?_ ?_
      · intro u W hS hd K hK
        have h26 : u 26 = _ := hd 26 rfl
        have h27 : u 27 = _ := hd 27 rfl
        have h28 : u 28 = _ := hd 28 rfl
        clear hd
        simp only [upd, h26, h27, h28, reduceIte, Nat.reduceEqDiff] at hK
        go_simp
        exact hK.out _ _ (Below.refl _ _) rfl
      refine FSteps.cons ?_ ?_
      · intro u W hS hd K hK
        have h26 : u 26 = _ := hd 26 rfl
        have h29 : u 29 = _ := hd 29 rfl
        clear hd
        simp only [upd, h26, h29, reduceIte, Nat.reduceEqDiff] at hK
        go_simp
        exact hK.out _ _ (Below.refl _ _) rfl
      refine FSteps.cons ?_ ?_
      · intro u W hS hd K hK
        have h30 : u 30 = _ := hd 30 rfl
        clear hd
        simp only [upd, h30, reduceIte, Nat.reduceEqDiff] at hK
        go_simp
        exact hK.out _ _ (Below.refl _ _) rfl
      refine FSteps.cons ?_ ?_
      · intro u W hS hd K hK
        have h31 : u 31 = _ := hd 31 rfl
        clear hd
        simp only [upd, h31, reduceIte, Nat.reduceEqDiff] at hK
        go_simp
        exact hK.out _ _ (Below.refl _ _) rfl
      refine FSteps.cons ?_ ?_
      · intro u W hS hd K hK
        have h31 : u 31 = _ := hd 31 rfl
        have h32 : u 32 = _ := hd 32 rfl
        clear hd
        simp only [upd, h31, h32, reduceIte, Nat.reduceEqDiff] at hK
        have c0 := hS.p.k2.cell
        go_simp
        exact hK.out _ _ (Below.refl _ _) rfl
      refine FSteps.cons ?_ ?_
      · intro u W hS hd K hK
        have h31 : u 31 = _ := hd 31 rfl
        clear hd
        simp only [upd, h31, reduceIte, Nat.reduceEqDiff] at hK
        go_simp
        exact hK.out _ _ (Below.refl _ _) rfl
      refine FSteps.cons ?_ ?_
      · intro u W hS hd K hK
        have h31 : u 31 = _ := hd 31 rfl
        have h34 : u 34 = _ := hd 34 rfl
        clear hd
        simp only [upd, h31, h34, reduceIte, Nat.reduceEqDiff] at hK
        have c0 := hS.x.k2.cell
        go_simp
        exact hK.out _ _ (Below.refl _ _) rfl
      refine FSteps.cons ?_ ?_
      · intro u W hS hd K hK
        have h31 : u 31 = _ := hd 31 rfl
        have h33 : u 33 = _ := hd 33 rfl
        have h35 : u 35 = _ := hd 35 rfl
        clear hd
        simp only [upd, h31, h33, h35, reduceIte, Nat.reduceEqDiff] at hK
        go_simp
        exact hK.out _ _ (Below.refl _ _) rfl
      refine FSteps.cons ?_ ?_
      · intro u W hS hd K hK
        have h31 : u 31 = _ := hd 31 rfl
        have h36 : u 36 = _ := hd 36 rfl
        clear hd
        simp only [upd, h31, h36, reduceIte, Nat.reduceEqDiff] at hK
        go_simp
        exact hK.out _ _ (Below.refl _ _) rfl
      refine FSteps.cons ?_ ?_
      · intro u W hS hd K hK
        have h37 : u 37 = _ := hd 37 rfl
        clear hd
        simp only [upd, h37, reduceIte, Nat.reduceEqDiff] at hK
        go_simp
        exact hK.out _ _ (Below.refl _ _) rfl
      refine FSteps.cons ?_ ?_
      · intro u W hS hd K hK
        have h38 : u 38 = _ := hd 38 rfl
        clear hd
        simp only [upd, h38, reduceIte, Nat.reduceEqDiff] at hK
        go_simp
        exact hK.out _ _ (Below.refl _ _) rfl
      refine FSteps.cons ?_ ?_
      · intro u W hS hd K hK
        have h38 : u 38 = _ := hd 38 rfl
        have h39 : u 39 = _ := hd 39 rfl
        clear hd
        simp only [upd, h38, h39, reduceIte, Nat.reduceEqDiff] at hK
        have c0 := hS.p.k3.cell
        go_simp
        exact hK.out _ _ (Below.refl _ _) rfl
      refine FSteps.cons ?_ ?_
      · intro u W hS hd K hK
        have h38 : u 38 = _ := hd 38 rfl
        clear hd
        simp only [upd, h38, reduceIte, Nat.reduceEqDiff] at hK
        go_simp
        exact hK.out _ _ (Below.refl _ _) rfl
      refine FSteps.cons ?_ ?_
      · intro u W hS hd K hK
        have h38 : u 38 = _ := hd 38 rfl
        have h41 : u 41 = _ := hd 41 rfl
        clear hd
        simp only [upd, h38, h41, reduceIte, Nat.reduceEqDiff] at hK
        have c0 := hS.y.k3.cell
        go_simp
        exact hK.out _ _ (Below.refl _ _) rfl
      refine FSteps.cons ?_ ?_
      · intro u W hS hd K hK
        have h38 : u 38 = _ := hd 38 rfl
        have h40 : u 40 = _ := hd 40 rfl
        have h42 : u 42 = _ := hd 42 rfl
        clear hd
        simp only [upd, h38, h40, h42, reduceIte, Nat.reduceEqDiff] at hK
        go_simp
        exact hK.out _ _ (Below.refl _ _) rfl
      refine FSteps.cons ?_ ?_
      · intro u W hS hd K hK
        have h38 : u 38 = _ := hd 38 rfl
        have h43 : u 43 = _ := hd 43 rfl
        clear hd
        simp only [upd, h38, h43, reduceIte, Nat.reduceEqDiff] at hK
        go_simp
        exact hK.out _ _ (Below.refl _ _) rfl
      refine FSteps.cons ?_ ?_
      · intro u W hS hd K hK
        have h44 : u 44 = _ := hd 44 rfl
        clear hd
        simp only [upd, h44, reduceIte, Nat.reduceEqDiff] at hK
        go_simp
        exact hK.out _ _ (Below.refl _ _) rfl
      refine FSteps.cons ?_ ?_
      · intro u W hS hd K hK
        have h45 : u 45 = _ := hd 45 rfl
        clear hd
        simp only [upd, h45, reduceIte, Nat.reduceEqDiff] at hK
        go_simp
        exact hK.out _ _ (Below.refl _ _) rfl
      refine FSteps.cons ?_ ?_
      · intro u W hS hd K hK
        have h45 : u 45 = _ := hd 45 rfl
        have h46 : u 46 = _ := hd 46 rfl
        clear hd
        simp only [upd, h45, h46, reduceIte, Nat.reduceEqDiff] at hK
        have c0 := hS.p.k0.cell
        go_simp
        exact hK.out _ _ (Below.refl _ _) rfl
      refine FSteps.cons ?_ ?_
      · intro u W hS hd K hK
        have h45 : u 45 = _ := hd 45 rfl
        have h47 : u 47 = _ := hd 47 rfl
        clear hd
        simp only [upd, h45, h47, reduceIte, Nat.reduceEqDiff] at hK
        go_simp
        exact hK.out _ _ (Below.refl _ _) rfl
      refine FSteps.cons ?_ ?_
      · intro u W hS hd K hK
        have h45 : u 45 = _ := hd 45 rfl
        have h48 : u 48 = _ := hd 48 rfl
        clear hd
        simp only [upd, h45, h48, reduceIte, Nat.reduceEqDiff] at hK
        go_simp
        exact hK.out _ _ (Below.refl _ _) rfl
      refine FSteps.cons ?_ ?_
      · intro u W hS hd K hK
        have h49 : u 49 = _ := hd 49 rfl
        clear hd
        simp only [upd, h49, reduceIte, Nat.reduceEqDiff] at hK
        go_simp
        exact hK.out _ _ (Below.refl _ _) rfl
      refine FSteps.cons ?_ ?_
      · intro u W hS hd K hK
        have h49 : u 49 = _ := hd 49 rfl
        have h50 : u 50 = _ := hd 50 rfl
        clear hd
        simp only [upd, h49, h50, reduceIte, Nat.reduceEqDiff] at hK
        have c0 := hS.x.k0.cell
        go_simp
        exact hK.out _ _ (Below.refl _ _) rfl
      refine FSteps.cons ?_ ?_
      · intro u W hS hd K hK
        have h45 : u 45 = _ := hd 45 rfl
        have h49 : u 49 = _ := hd 49 rfl
        have h51 : u 51 = _ := hd 51 rfl
        clear hd
        simp only [upd, h45, h49, h51, reduceIte, Nat.reduceEqDiff] at hK
        go_simp
        exact hK.out _ _ (Below.refl _ _) rfl
      refine FSteps.cons ?_ ?_
      · intro u W hS hd K hK
        have h45 : u 45 = _ := hd 45 rfl
        have h52 : u 52 = _ := hd 52 rfl
        clear hd
        simp only [upd, h45, h52, reduceIte, Nat.reduceEqDiff] at hK
        go_simp
        exact hK.out _ _ (Below.refl _ _) rfl
      refine FSteps.cons ?_ ?_
      · intro u W hS hd K hK
        have h53 : u 53 = _ := hd 53 rfl
        clear hd
        simp only [upd, h53, reduceIte, Nat.reduceEqDiff] at hK
        go_simp
        exact hK.out _ _ (Below.refl _ _) rfl
      exact trivial
  case hend2 =>
    intro u w10 hS hd
    have h54 : u 54 = _ := hd 54 rfl
    have HB10 := Lib.hid hS.bel
    clear hd hS
    go_wp2
    go_ret
    exact ⟨congrArg Ending.returned h54, HB10.out⟩
end Go.Proofs.Ytmbjhhpnckfppaa
