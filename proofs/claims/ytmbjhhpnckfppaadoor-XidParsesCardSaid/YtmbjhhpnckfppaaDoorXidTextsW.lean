/-
Walks of the statements XidTexts and XidParses.
-/
import Derived.Test.YtmbjhhpnckfppaaDoorXidParse
import Derived.Test.YtmbjhhpnckfppaaDoorXidPure
import Derived.Test.YtmbjhhpnckfppaaDoorXidRText
import Derived.Test.YtmbjhhpnckfppaaDoorXidRef
import Derived.Test.YtmbjhhpnckfppaaDoorXidAwake
import Derived.Test.YtmbjhhpnckfppaaDoorXidSame
namespace Go.Proofs.YtmbjhhpnckfppaaDoor
open Go.RowKit Go.Sort
set_option maxRecDepth 20000
set_option maxHeartbeats 1000000 in
theorem xtexts_no (a b : Bool) (n k t r : Int) (w : World) (hr : rightX a b n k t r = false) : Calls Tryd.prog 3 #[.agg #[.bool a, .bool b, .int .i64 n, .int .i64 k, .int .i64 t, .int .i64 r]] w fun e w' => e = .returned (.bool true) ∧ Below w.heap.size w w' := by
  have HT := Lib.hid (fun W => xtext_no a b n k t r W hr)
  have g2 := fun W => rright8_any a b n k t r W
  rw [hr] at g2
  have HRR := Lib.hid g2
  clear g2 hr
  have HAW := Lib.hid (fun W => xawake_any W)
  have HB0 := Lib.hid ((Below.refl _ w).alloc (Nat.le_refl _) (.cells #[.bool a, .bool b, .int .i64 n, .int .i64 k, .int .i64 t, .int .i64 r] 23))
  have HX0 := Lib.hid (C6.new w w.heap.size rfl (.bool a) (.bool b) (.int .i64 n) (.int .i64 k) (.int .i64 t) (.int .i64 r) 23)
  go_enter Tryd.func3, Tryd.ntmps3
  go_wp2_with fail
  go_at_call 5
  refine (HAW.out _).mono ?_
  rintro e w1 ⟨rfl, hb⟩
  have HB1 := Lib.hid (HB0.out.trans (hb.mono HB0.out.size))
  have HX1 := Lib.hid (HX0.out.below hb)
  clear hb HB0 HX0
  obtain ⟨⟨a0, -, al⟩, ⟨a1, -, -⟩, ⟨a2, -, -⟩, ⟨a3, -, -⟩, ⟨a4, -, -⟩, ⟨a5, -, -⟩⟩ := HX1.out
  go_wp2_with fail
  go_at_call 6
  refine (HT.out _).mono ?_
  rintro e w2 ⟨rfl, hb⟩
  have HB2 := Lib.hid (HB1.out.trans (hb.mono HB1.out.size))
  have HX2 := Lib.hid (HX1.out.below hb)
  clear hb HB1 HX1 a0 al a1 a2 a3 a4 a5
  obtain ⟨⟨a0, -, al⟩, ⟨a1, -, -⟩, ⟨a2, -, -⟩, ⟨a3, -, -⟩, ⟨a4, -, -⟩, ⟨a5, -, -⟩⟩ := HX2.out
  go_wp2_with fail
  go_at_call 7
  refine (HRR.out _).mono ?_
  rintro e w3 ⟨rfl, hb⟩
  have HB3 := Lib.hid (HB2.out.trans (hb.mono HB2.out.size))
  clear hb HB2 HX2 a0 al a1 a2 a3 a4 a5
  go_wp2_with fail
  go_ret
  exact ⟨rfl, HB3.out⟩
set_option maxHeartbeats 1000000 in
theorem xtexts_yes (a b : Bool) (n k t r : Int) (w : World) (hV : VarsOk w) (hr : rightX a b n k t r = true) : Calls Tryd.prog 3 #[.agg #[.bool a, .bool b, .int .i64 n, .int .i64 k, .int .i64 t, .int .i64 r]] w fun e w' => e = .returned (.bool true) ∧ Below w.heap.size w w' := by
  have HT := Lib.hid (fun W (hb : Below w.heap.size w W) => xtext_yes a b n k t r W (hV.below hb) hr)
  have HRT := Lib.hid (fun W => rtext8_any a b n k t r W hr)
  have hpar : ∀ W, Below w.heap.size w W → Calls Tryd.prog 8 #[.string ⟨(textX a b n k t r).toArray⟩] W fun e w' => e = .returned (.tuple #[.agg #[.bool a, .bool b, .int .i64 n, .int .i64 k, .int .i64 t, .int .i64 r], .int .i64 0]) ∧ Below W.heap.size W w' := fun W hb =>
    (xparse_any ⟨(textX a b n k t r).toArray⟩ W (hV.below hb) (text_len a b n k t r hr)).mono fun e w' ⟨p, hp, he, hw⟩ => ⟨by
      have e2 := read_text hr hp
      subst e2
      rw [he]
      simp [parseV, hr], hw⟩
  have HP := Lib.hid hpar
  have g2 := fun W => rright8_any a b n k t r W
  rw [hr] at g2
  have HRR := Lib.hid g2
  have hq := eq_same a b n k t r
  clear g2 hr hpar hV
  generalize (⟨(textX a b n k t r).toArray⟩ : ByteArray) = S at *
  have hss : (S.toList == S.toList) = true := beq_self_eq_true _
  have HAW := Lib.hid (fun W => xawake_any W)
  have HB0 := Lib.hid ((Below.refl _ w).alloc (Nat.le_refl _) (.cells #[.bool a, .bool b, .int .i64 n, .int .i64 k, .int .i64 t, .int .i64 r] 23))
  have HX0 := Lib.hid (C6.new w w.heap.size rfl (.bool a) (.bool b) (.int .i64 n) (.int .i64 k) (.int .i64 t) (.int .i64 r) 23)
  go_enter Tryd.func3, Tryd.ntmps3
  go_wp2_with fail
  go_at_call 5
  refine (HAW.out _).mono ?_
  rintro e w1 ⟨rfl, hb⟩
  have HB1 := Lib.hid (HB0.out.trans (hb.mono HB0.out.size))
  have HX1 := Lib.hid (HX0.out.below hb)
  clear hb HB0 HX0
  obtain ⟨⟨a0, -, al⟩, ⟨a1, -, -⟩, ⟨a2, -, -⟩, ⟨a3, -, -⟩, ⟨a4, -, -⟩, ⟨a5, -, -⟩⟩ := HX1.out
  go_wp2_with fail
  go_at_call 6
  refine (HT.out _ HB1.out).mono ?_
  rintro e w2 ⟨rfl, hb⟩
  have HB2 := Lib.hid (HB1.out.trans (hb.mono HB1.out.size))
  have HX2 := Lib.hid (HX1.out.below hb)
  clear hb HB1 HX1 a0 al a1 a2 a3 a4 a5
  obtain ⟨⟨a0, -, al⟩, ⟨a1, -, -⟩, ⟨a2, -, -⟩, ⟨a3, -, -⟩, ⟨a4, -, -⟩, ⟨a5, -, -⟩⟩ := HX2.out
  go_wp2_with fail
  go_at_call 7
  refine (HRR.out _).mono ?_
  rintro e w3 ⟨rfl, hb⟩
  have HB3 := Lib.hid (HB2.out.trans (hb.mono HB2.out.size))
  have HX3 := Lib.hid (HX2.out.below hb)
  clear hb HB2 HX2 a0 al a1 a2 a3 a4 a5
  go_wp2_with fail
  go_at_call 8
  refine (HP.out _ HB3.out).mono ?_
  rintro e w4 ⟨rfl, hb⟩
  have HB4 := Lib.hid (HB3.out.trans (hb.mono HB3.out.size))
  have HX4 := Lib.hid (HX3.out.below hb)
  clear hb HB3 HX3
  go_upto_region 7 with (fail)
  have HB5 := Lib.hid (HB4.out.alloc HB4.out.size (.cells #[.bool a, .bool b, .int .i64 n, .int .i64 k, .int .i64 t, .int .i64 r] 23))
  have HX5 := Lib.hid (HX4.out.alloc (.cells #[.bool a, .bool b, .int .i64 n, .int .i64 k, .int .i64 t, .int .i64 r] 23))
  have HQ5 := Lib.hid (C6.new w4 w4.heap.size rfl (.bool a) (.bool b) (.int .i64 n) (.int .i64 k) (.int .i64 t) (.int .i64 r) 23)
  generalize w4.alloc (.cells #[.bool a, .bool b, .int .i64 n, .int .i64 k, .int .i64 t, .int .i64 r] 23) = w5 at *
  generalize w4.heap.size = g at *
  clear HB4 HX4
  obtain ⟨⟨a0, -, al⟩, ⟨a1, -, -⟩, ⟨a2, -, -⟩, ⟨a3, -, -⟩, ⟨a4, -, -⟩, ⟨a5, -, -⟩⟩ := HX5.out
  go_wp2_with fail
  go_at_call 9
  refine (HRT.out _).mono ?_
  rintro e w6 ⟨rfl, hb⟩
  have HB6 := Lib.hid (HB5.out.trans (hb.mono HB5.out.size))
  have HX6 := Lib.hid (HX5.out.below hb)
  have HQ6 := Lib.hid (HQ5.out.below hb)
  clear hb HB5 HX5 HQ5 a0 al a1 a2 a3 a4 a5
  obtain ⟨⟨a0, -, al⟩, ⟨a1, -, -⟩, ⟨a2, -, -⟩, ⟨a3, -, -⟩, ⟨a4, -, -⟩, ⟨a5, -, -⟩⟩ := HX6.out
  obtain ⟨⟨q0, -, ql⟩, ⟨q1, -, -⟩, ⟨q2, -, -⟩, ⟨q3, -, -⟩, ⟨q4, -, -⟩, ⟨q5, -, -⟩⟩ := HQ6.out
  go_wp2_with fail
  go_ret
  exact ⟨rfl, HB6.out⟩
theorem xparses_long (s : ByteArray) (w : World) (hs : 200 < s.size) : Calls Tryd.prog 4 #[.string s] w fun e w' => e = .returned (.bool true) ∧ Below w.heap.size w w' := by
  have HAW := Lib.hid (fun W => xawake_any W)
  have dl : decide ((200 : Int) < (s.size : Int)) = true := decide_eq_true (by omega)
  clear hs
  go_enter Tryd.func4, Tryd.ntmps4
  go_wp2_with fail
  go_at_call 5
  refine (HAW.out _).mono ?_
  rintro e w1 ⟨rfl, hb⟩
  have HB1 := Lib.hid hb
  clear hb
  go_wp2_with fail
  go_ret
  exact ⟨rfl, HB1.out⟩
set_option maxHeartbeats 1000000 in
theorem xparses_no (s : ByteArray) (w : World) (hs : s.size ≤ 200)
    (HP : Hid (∀ W, Below w.heap.size w W → Calls Tryd.prog 8 #[.string s] W fun e w' => ∃ p : XP, ReadTo s.data.toList XP.zero p ∧ e = .returned (parseV s p) ∧ Below W.heap.size W w')) (HV : Hid (VarsOk w)) :
    Calls Tryd.prog 4 #[.string s] w fun e w' => e = .returned (.bool true) ∧ Below w.heap.size w w' := by
  have HAW := Lib.hid (fun W => xawake_any W)
  have dl : decide ((200 : Int) < (s.size : Int)) = false := decide_eq_false (by omega)
  have hz := eq_same false false 0 0 0 0
  have hss : (s.toList == s.toList) = true := beq_self_eq_true _
  clear hs
  go_enter Tryd.func4, Tryd.ntmps4
  go_wp2_with fail
  go_at_call 5
  refine (HAW.out _).mono ?_
  rintro e w1 ⟨rfl, hb⟩
  have HB1 := Lib.hid hb
  clear hb
  go_wp2_with fail
  go_at_call 8
  refine (HP.out _ HB1.out).mono ?_
  rintro e w2 ⟨p, -, rfl, hb⟩
  have HB2 := Lib.hid (HB1.out.trans (hb.mono HB1.out.size))
  clear hb HB1 HP
  by_cases hc : (rightX p.a p.b p.n p.k p.t p.r && (decide ((⟨(textX p.a p.b p.n p.k p.t p.r).toArray⟩ : ByteArray) = s))) = true
  · rw [show parseV s p = .tuple #[.agg #[.bool p.a, .bool p.b, .int .i64 p.n, .int .i64 p.k, .int .i64 p.t, .int .i64 p.r], .int .i64 0] from if_pos hc]
    rw [Bool.and_eq_true] at hc
    obtain ⟨h1, h2⟩ := hc
    have h2' := of_decide_eq_true h2
    have g1 := fun W => xright_any p.a p.b p.n p.k p.t p.r W
    rw [h1] at g1
    have g2 := fun W (hb : Below w.heap.size w W) => xtext_yes p.a p.b p.n p.k p.t p.r W (HV.out.below hb) h1
    have g3 := fun W => rtext8_any p.a p.b p.n p.k p.t p.r W h1
    rw [h2'] at g2 g3
    have HR := Lib.hid g1
    have HT := Lib.hid g2
    have HRT := Lib.hid g3
    clear g1 g2 g3 h1 h2 h2'
    go_upto_region 6 with (fail)
    have HB3 := Lib.hid (HB2.out.alloc HB2.out.size (.cells #[.bool p.a, .bool p.b, .int .i64 p.n, .int .i64 p.k, .int .i64 p.t, .int .i64 p.r] 23))
    have HQ3 := Lib.hid (C6.new w2 w2.heap.size rfl (.bool p.a) (.bool p.b) (.int .i64 p.n) (.int .i64 p.k) (.int .i64 p.t) (.int .i64 p.r) 23)
    generalize w2.alloc (.cells #[.bool p.a, .bool p.b, .int .i64 p.n, .int .i64 p.k, .int .i64 p.t, .int .i64 p.r] 23) = w3 at *
    generalize w2.heap.size = g at *
    clear HB2
    obtain ⟨⟨q0, -, ql⟩, ⟨q1, -, -⟩, ⟨q2, -, -⟩, ⟨q3, -, -⟩, ⟨q4, -, -⟩, ⟨q5, -, -⟩⟩ := HQ3.out
    go_wp2_with fail
    go_at_call 10
    refine (HR.out _).mono ?_
    rintro e w4 ⟨rfl, hb⟩
    have HB4 := Lib.hid (HB3.out.trans (hb.mono HB3.out.size))
    have HQ4 := Lib.hid (HQ3.out.below hb)
    clear hb HB3 HQ3 q0 ql q1 q2 q3 q4 q5
    obtain ⟨⟨q0, -, ql⟩, ⟨q1, -, -⟩, ⟨q2, -, -⟩, ⟨q3, -, -⟩, ⟨q4, -, -⟩, ⟨q5, -, -⟩⟩ := HQ4.out
    go_wp2_with fail
    go_at_call 6
    refine (HT.out _ HB4.out).mono ?_
    rintro e w5 ⟨rfl, hb⟩
    have HB5 := Lib.hid (HB4.out.trans (hb.mono HB4.out.size))
    have HQ5 := Lib.hid (HQ4.out.below hb)
    clear hb HB4 HQ4 q0 ql q1 q2 q3 q4 q5
    obtain ⟨⟨q0, -, ql⟩, ⟨q1, -, -⟩, ⟨q2, -, -⟩, ⟨q3, -, -⟩, ⟨q4, -, -⟩, ⟨q5, -, -⟩⟩ := HQ5.out
    go_wp2_with fail
    go_at_call 9
    refine (HRT.out _).mono ?_
    rintro e w6 ⟨rfl, hb⟩
    have HB6 := Lib.hid (HB5.out.trans (hb.mono HB5.out.size))
    clear hb HB5 HQ5 q0 ql q1 q2 q3 q4 q5
    go_wp2_with fail
    go_ret
    exact ⟨rfl, HB6.out⟩
  · rw [show parseV s p = .tuple #[.agg #[.bool false, .bool false, .int .i64 0, .int .i64 0, .int .i64 0, .int .i64 0], .int .i64 2] from if_neg hc]
    clear hc
    go_upto_region 6 with (fail)
    have HB3 := Lib.hid (HB2.out.alloc HB2.out.size (.cells #[.bool false, .bool false, .int .i64 0, .int .i64 0, .int .i64 0, .int .i64 0] 23))
    have HQ3 := Lib.hid (C6.new w2 w2.heap.size rfl (.bool false) (.bool false) (.int .i64 0) (.int .i64 0) (.int .i64 0) (.int .i64 0) 23)
    generalize w2.alloc (.cells #[.bool false, .bool false, .int .i64 0, .int .i64 0, .int .i64 0, .int .i64 0] 23) = w3 at *
    generalize w2.heap.size = g at *
    clear HB2
    obtain ⟨⟨q0, -, ql⟩, ⟨q1, -, -⟩, ⟨q2, -, -⟩, ⟨q3, -, -⟩, ⟨q4, -, -⟩, ⟨q5, -, -⟩⟩ := HQ3.out
    go_wp2_with fail
    go_ret
    exact ⟨rfl, HB3.out⟩
theorem xparses_any (s : ByteArray) (w : World) (hV : VarsOk w) : Calls Tryd.prog 4 #[.string s] w fun e w' => e = .returned (.bool true) ∧ Below w.heap.size w w' := by
  by_cases hs : s.size ≤ 200
  · exact xparses_no s w hs (Lib.hid (fun W hb => xparse_any s W (hV.below hb) hs)) (Lib.hid hV)
  · exact xparses_long s w (by omega)
theorem xtexts_any (a b : Bool) (n k t r : Int) (w : World) (hV : VarsOk w) : Calls Tryd.prog 3 #[.agg #[.bool a, .bool b, .int .i64 n, .int .i64 k, .int .i64 t, .int .i64 r]] w fun e w' => e = .returned (.bool true) ∧ Below w.heap.size w w' := by
  cases hr : rightX a b n k t r
  · exact xtexts_no a b n k t r w hr
  · exact xtexts_yes a b n k t r w hV hr
end Go.Proofs.YtmbjhhpnckfppaaDoor
