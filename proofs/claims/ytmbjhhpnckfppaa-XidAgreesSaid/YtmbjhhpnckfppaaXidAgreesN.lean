/-
Walk of the statement XidAgrees where one isn't right; both together.
-/
import Derived.Test.YtmbjhhpnckfppaaXidAgreesW
namespace Go.Proofs.Ytmbjhhpnckfppaa
open Go.RowKit
set_option maxRecDepth 20000
set_option maxHeartbeats 1000000 in
theorem xagrees_no (a b a' b' : Bool) (n k t r n' k' t' r' : Int) (w : World) (hr : (rightX a b n k t r && rightX a' b' n' k' t' r') = false) :
    Calls Try.prog 4 #[.agg #[.bool a, .bool b, .int .i64 n, .int .i64 k, .int .i64 t, .int .i64 r], .agg #[.bool a', .bool b', .int .i64 n', .int .i64 k', .int .i64 t', .int .i64 r']] w fun e w' => e = .returned (.bool true) ∧ Below w.heap.size w w' := by
  have HAW := Lib.hid (fun W => xawake_any W)
  have H1 := Lib.hid (fun W => xagree_no a b a' b' n k t r n' k' t' r' W hr)
  have g1 := fun W => rright8_any a b n k t r W
  have g2 := fun W => rright8_any a' b' n' k' t' r' W
  generalize rightX a b n k t r = A at *
  generalize rightX a' b' n' k' t' r' = B at *
  have HR1 := Lib.hid g1
  have HR2 := Lib.hid g2
  clear g1 g2
  have HB0 := Lib.hid (((Below.refl _ w).alloc (Nat.le_refl _) (.cells #[.bool a, .bool b, .int .i64 n, .int .i64 k, .int .i64 t, .int .i64 r] 23)).alloc (by simp) (.cells #[.bool a', .bool b', .int .i64 n', .int .i64 k', .int .i64 t', .int .i64 r'] 23))
  have HX0 := Lib.hid ((C6.new w w.heap.size rfl (.bool a) (.bool b) (.int .i64 n) (.int .i64 k) (.int .i64 t) (.int .i64 r) 23).alloc (.cells #[.bool a', .bool b', .int .i64 n', .int .i64 k', .int .i64 t', .int .i64 r'] 23))
  have HY0 := Lib.hid (C6.new (w.alloc (.cells #[.bool a, .bool b, .int .i64 n, .int .i64 k, .int .i64 t, .int .i64 r] 23)) (w.heap.size + 1) (by simp) (.bool a') (.bool b') (.int .i64 n') (.int .i64 k') (.int .i64 t') (.int .i64 r') 23)
  have hq := fun W => eq_same false false 0 0 0 0 W
  go_enter Try.func4, Try.ntmps4
  go_wp2_with fail
  go_at_call 5
  refine (HAW.out _).mono ?_
  rintro e w1 ⟨rfl, hb⟩
  have HB1 := Lib.hid (HB0.out.trans (hb.mono HB0.out.size))
  have HX1 := Lib.hid (HX0.out.below hb)
  have HY1 := Lib.hid (HY0.out.below hb)
  clear hb HB0 HX0 HY0
  obtain ⟨⟨a0, -, al⟩, ⟨a1, -, -⟩, ⟨a2, -, -⟩, ⟨a3, -, -⟩, ⟨a4, -, -⟩, ⟨a5, -, -⟩⟩ := HX1.out
  obtain ⟨⟨b0, -, bl⟩, ⟨b1, -, -⟩, ⟨b2, -, -⟩, ⟨b3, -, -⟩, ⟨b4, -, -⟩, ⟨b5, -, -⟩⟩ := HY1.out
  go_wp2_with fail
  go_at_call 13
  refine (H1.out _).mono ?_
  rintro e w2 ⟨rfl, hb⟩
  have HB2 := Lib.hid (HB1.out.trans (hb.mono HB1.out.size))
  have HX2 := Lib.hid (HX1.out.below hb)
  have HY2 := Lib.hid (HY1.out.below hb)
  clear hb a0 al a1 a2 a3 a4 a5 b0 bl b1 b2 b3 b4 b5
  go_upto_region 4 with (fail)
  have HB3 := Lib.hid (HB2.out.alloc HB2.out.size (.cells #[.bool false, .bool false, .int .i64 0, .int .i64 0, .int .i64 0, .int .i64 0] 23))
  have HX3 := Lib.hid (HX2.out.alloc (.cells #[.bool false, .bool false, .int .i64 0, .int .i64 0, .int .i64 0, .int .i64 0] 23))
  have HY3 := Lib.hid (HY2.out.alloc (.cells #[.bool false, .bool false, .int .i64 0, .int .i64 0, .int .i64 0, .int .i64 0] 23))
  have HP3 := Lib.hid (C6.new w2 w2.heap.size rfl (.bool false) (.bool false) (.int .i64 0) (.int .i64 0) (.int .i64 0) (.int .i64 0) 23)
  generalize w2.alloc (.cells #[.bool false, .bool false, .int .i64 0, .int .i64 0, .int .i64 0, .int .i64 0] 23) = w3 at *
  generalize w2.heap.size = m1 at *
  clear HB2 HX2 HY2 HB1 HX1 HY1
  obtain ⟨⟨a0, -, al⟩, ⟨a1, -, -⟩, ⟨a2, -, -⟩, ⟨a3, -, -⟩, ⟨a4, -, -⟩, ⟨a5, -, -⟩⟩ := HX3.out
  obtain ⟨⟨b0, -, bl⟩, ⟨b1, -, -⟩, ⟨b2, -, -⟩, ⟨b3, -, -⟩, ⟨b4, -, -⟩, ⟨b5, -, -⟩⟩ := HY3.out
  go_wp2_with fail
  go_at_call 6
  refine (HR1.out _).mono ?_
  rintro e w4 ⟨rfl, hb⟩
  have HB4 := Lib.hid (HB3.out.trans (hb.mono HB3.out.size))
  have HX4 := Lib.hid (HX3.out.below hb)
  have HY4 := Lib.hid (HY3.out.below hb)
  have HP4 := Lib.hid (HP3.out.below hb)
  clear hb a0 al a1 a2 a3 a4 a5 b0 bl b1 b2 b3 b4 b5 HB3 HX3 HY3 HP3
  cases A
  · clear hr HR2
    obtain ⟨⟨p0, -, pl⟩, ⟨p1, -, -⟩, ⟨p2, -, -⟩, ⟨p3, -, -⟩, ⟨p4, -, -⟩, ⟨p5, -, -⟩⟩ := HP4.out
    go_wp2_with fail
    go_ret
    exact ⟨rfl, HB4.out⟩
  · obtain rfl : B = false := by simpa using hr
    clear hr
    obtain ⟨⟨a0, -, al⟩, ⟨a1, -, -⟩, ⟨a2, -, -⟩, ⟨a3, -, -⟩, ⟨a4, -, -⟩, ⟨a5, -, -⟩⟩ := HX4.out
    obtain ⟨⟨b0, -, bl⟩, ⟨b1, -, -⟩, ⟨b2, -, -⟩, ⟨b3, -, -⟩, ⟨b4, -, -⟩, ⟨b5, -, -⟩⟩ := HY4.out
    go_wp2_with fail
    go_at_call 6
    refine (HR2.out _).mono ?_
    rintro e w5 ⟨rfl, hb⟩
    have HB5 := Lib.hid (HB4.out.trans (hb.mono HB4.out.size))
    have HP5 := Lib.hid (HP4.out.below hb)
    clear hb a0 al a1 a2 a3 a4 a5 b0 bl b1 b2 b3 b4 b5 HB4 HX4 HY4 HP4
    obtain ⟨⟨p0, -, pl⟩, ⟨p1, -, -⟩, ⟨p2, -, -⟩, ⟨p3, -, -⟩, ⟨p4, -, -⟩, ⟨p5, -, -⟩⟩ := HP5.out
    go_wp2_with fail
    go_ret
    exact ⟨rfl, HB5.out⟩
theorem min_self3 (a b : Bool) (k : Int) (h : k ≤ mostD a b) : min k (min k (mostD a b)) = k := by omega
theorem most_ge (a b : Bool) : 4 ≤ mostD a b := by cases a <;> cases b <;> decide
theorem agree_right {a b a' b' : Bool} {n k t r n' k' t' r' : Int} (h1 : rightX a b n k t r = true) (h2 : rightX a' b' n' k' t' r' = true) : rightX (a && a') (b && b') (min n n') (min k (min k' (mostD (a && a') (b && b')))) (max t t') (min r r') = true := by
  obtain ⟨x0, x1, x2, x3, x4, x5, x6, x7⟩ := rightX_facts h1
  obtain ⟨y0, y1, y2, y3, y4, y5, y6, y7⟩ := rightX_facts h2
  unfold rightX inD
  have hm := most_ge (a && a') (b && b')
  obtain ⟨M, hM⟩ : ∃ M, M = mostD (a && a') (b && b') := ⟨_, rfl⟩
  rw [← hM] at hm ⊢
  simp only [Bool.and_eq_true, decide_eq_true_eq]
  refine ⟨⟨by omega, by omega⟩, ⟨by omega, by omega⟩, ⟨by omega, by omega⟩, by omega, by omega⟩
theorem xagrees_any (a b a' b' : Bool) (n k t r n' k' t' r' : Int) (w : World) :
    Calls Try.prog 4 #[.agg #[.bool a, .bool b, .int .i64 n, .int .i64 k, .int .i64 t, .int .i64 r], .agg #[.bool a', .bool b', .int .i64 n', .int .i64 k', .int .i64 t', .int .i64 r']] w fun e w' => e = .returned (.bool true) ∧ Below w.heap.size w w' := by
  cases h1 : rightX a b n k t r
  · exact xagrees_no a b a' b' n k t r n' k' t' r' w (by rw [h1]; rfl)
  cases h2 : rightX a' b' n' k' t' r'
  · exact xagrees_no a b a' b' n k t r n' k' t' r' w (by rw [h1, h2]; rfl)
  have hk : k ≤ mostD a b := by
    have h := h1
    unfold rightX inD at h
    simp only [Bool.and_eq_true, decide_eq_true_eq] at h
    exact h.2.1.2
  have g1 := fun W => xagree_yes a b a' b' n k t r n' k' t' r' W h1 h2
  have g2 := fun W => xagree_yes a' b' a b n' k' t' r' n k t r W h2 h1
  have g3 := fun W => xagree_yes a b a b n k t r n k t r W h1 h1
  rw [Bool.and_comm a' a, Bool.and_comm b' b, Int.min_comm n' n, Int.max_comm t' t, Int.min_comm r' r, show min k' (min k (mostD (a && a') (b && b'))) = min k (min k' (mostD (a && a') (b && b'))) from by omega] at g2
  rw [Bool.and_self a, Bool.and_self b, Int.min_self n, Int.max_self t, Int.min_self r, min_self3 a b k hk] at g3
  have g4 := fun W => ragree_any a b a' b' n k t r n' k' t' r' W
  have hp := agree_right h1 h2
  have g5 := fun W => xright_any (a && a') (b && b') (min n n') (min k (min k' (mostD (a && a') (b && b')))) (max t t') (min r r') W
  rw [hp] at g5
  have g6 := fun W => rright8_any a b n k t r W
  have g7 := fun W => rright8_any a' b' n' k' t' r' W
  rw [h1] at g6
  rw [h2] at g7
  have l1 : min n n' ≤ n := by omega
  have l2 : min k (min k' (mostD (a && a') (b && b'))) ≤ k' := by omega
  generalize min k (min k' (mostD (a && a') (b && b'))) = PK at *
  generalize min n n' = PN at *
  generalize max t t' = PT at *
  generalize min r r' = PR at *
  generalize (b && b') = PS at *
  cases a
  · exact xagrees_yes_f false b a' b' n k t r n' k' t' r' PS PN PK PT PR w l1 l2 (Lib.hid g1) (Lib.hid g2) (Lib.hid g3) (Lib.hid g4) (Lib.hid g5) (Lib.hid g6) (Lib.hid g7)
  · cases a'
    · exact xagrees_yes_f true b false b' n k t r n' k' t' r' PS PN PK PT PR w l1 l2 (Lib.hid g1) (Lib.hid g2) (Lib.hid g3) (Lib.hid g4) (Lib.hid g5) (Lib.hid g6) (Lib.hid g7)
    · exact xagrees_yes_t b true b' n k t r n' k' t' r' PS PN PK PT PR w l1 l2 (Lib.hid g1) (Lib.hid g2) (Lib.hid g3) (Lib.hid g4) (Lib.hid g5) (Lib.hid g6) (Lib.hid g7)
end Go.Proofs.Ytmbjhhpnckfppaa
