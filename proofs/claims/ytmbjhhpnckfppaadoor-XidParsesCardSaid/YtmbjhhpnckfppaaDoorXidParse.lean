/-
The landed code's Parse of parameters.
-/
import Derived.Test.YtmbjhhpnckfppaaDoorXidRead
import Derived.Deep.DeepCutAuto
namespace Go.Proofs.YtmbjhhpnckfppaaDoor
open Go.RowKit Go.Sort
set_option maxRecDepth 20000
/-- what Parse answers of words that are read as p -/
def parseV (s : ByteArray) (p : XP) : Value := if (rightX p.a p.b p.n p.k p.t p.r && (decide ((⟨(textX p.a p.b p.n p.k p.t p.r).toArray⟩ : ByteArray) = s))) = true then .tuple #[.agg #[.bool p.a, .bool p.b, .int .i64 p.n, .int .i64 p.k, .int .i64 p.t, .int .i64 p.r], .int .i64 0] else .tuple #[.agg #[.bool false, .bool false, .int .i64 0, .int .i64 0, .int .i64 0, .int .i64 0], .int .i64 2]
theorem eq_lists (x y : ByteArray) : (x.toList == y.toList) = decide (x = y) := by
  rw [ByteArray.toList_eq, ByteArray.toList_eq, Bool.eq_iff_iff, beq_iff_eq, decide_eq_true_eq]
  exact ⟨fun h => bytes_ext' h, fun h => by rw [h]⟩
set_option maxHeartbeats 1000000 in
theorem xparse_any (s : ByteArray) (w : World) (hV : VarsOk w) (hs : s.size ≤ 200) : Calls Tryd.prog 8 #[.string s] w fun e w' => ∃ p : XP, ReadTo s.data.toList XP.zero p ∧ e = .returned (parseV s p) ∧ Below w.heap.size w w' := by
  have HRD := Lib.hid (fun W (hb : Below w.heap.size w W) => read_any s W (hV.below hb) hs)
  have HTX := Lib.hid (fun (p : XP) (h : rightX p.a p.b p.n p.k p.t p.r = true) W (hb : Below w.heap.size w W) => xtext_yes p.a p.b p.n p.k p.t p.r W (hV.below hb) h)
  have HXR := Lib.hid (fun (p : XP) W => xright_any p.a p.b p.n p.k p.t p.r W)
  have HB0 := Lib.hid ((Below.refl _ w).alloc (Nat.le_refl _) (.cells #[.bool false, .bool false, .int .i64 0, .int .i64 0, .int .i64 0, .int .i64 0] 23))
  have HZ0 := Lib.hid (C6.new w w.heap.size rfl (.bool false) (.bool false) (.int .i64 0) (.int .i64 0) (.int .i64 0) (.int .i64 0) 23)
  clear hV hs
  go_enter Tryd.func8, Tryd.ntmps8
  go_wp2_with fail
  go_at_call 15
  refine (HRD.out _ HB0.out).mono ?_
  rintro e w1 ⟨p, rfl, hrt, hb⟩
  have HRT := Lib.hid hrt
  have HB1 := Lib.hid (HB0.out.trans (hb.mono HB0.out.size))
  have HZ1 := Lib.hid (HZ0.out.below hb)
  clear hb hrt HB0 HZ0 HRD
  go_upto_region 2 with (fail)
  have HB2 := Lib.hid (HB1.out.alloc HB1.out.size (.cells #[.bool p.a, .bool p.b, .int .i64 p.n, .int .i64 p.k, .int .i64 p.t, .int .i64 p.r] 23))
  have HZ2 := Lib.hid (HZ1.out.alloc (.cells #[.bool p.a, .bool p.b, .int .i64 p.n, .int .i64 p.k, .int .i64 p.t, .int .i64 p.r] 23))
  have HP2 := Lib.hid (C6.new w1 w1.heap.size rfl (.bool p.a) (.bool p.b) (.int .i64 p.n) (.int .i64 p.k) (.int .i64 p.t) (.int .i64 p.r) 23)
  have hzm := HZ1.out.k0.lt
  have HZM := Lib.hid hzm
  generalize w1.alloc (.cells #[.bool p.a, .bool p.b, .int .i64 p.n, .int .i64 p.k, .int .i64 p.t, .int .i64 p.r] 23) = w2 at *
  generalize w1.heap.size = m at *
  clear HB1 HZ1 hzm
  obtain ⟨⟨p0, -, pl⟩, ⟨p1, -, -⟩, ⟨p2, -, -⟩, ⟨p3, -, -⟩, ⟨p4, -, -⟩, ⟨p5, -, -⟩⟩ := HP2.out
  go_wp2_with fail
  go_at_call 10
  refine (HXR.out p _).mono ?_
  rintro e w3 ⟨rfl, hb⟩
  have HB3 := Lib.hid (HB2.out.trans (hb.mono HB2.out.size))
  have HZ3 := Lib.hid (HZ2.out.below hb)
  have HP3 := Lib.hid (HP2.out.below hb)
  clear hb p0 pl p1 p2 p3 p4 p5 HB2 HZ2 HP2
  cases hx : rightX p.a p.b p.n p.k p.t p.r
  · obtain ⟨⟨p0, -, pl⟩, ⟨p1, -, -⟩, ⟨p2, -, -⟩, ⟨p3, -, -⟩, ⟨p4, -, -⟩, ⟨p5, -, -⟩⟩ := HP3.out
    obtain ⟨⟨z0, y0, -⟩, ⟨z1, y1, -⟩, ⟨z2, y2, -⟩, ⟨z3, y3, -⟩, ⟨z4, y4, -⟩, ⟨z5, y5, -⟩⟩ := HZ3.out
    clear HTX
    go_wp2_with fail
    have S6 := stored6 (.bool false) (.bool false) (.int .i64 0) (.int .i64 0) (.int .i64 0) (.int .i64 0) HZ3.out
    have HBF := Lib.hid (set6_below (m := w.heap.size) HB3.out (Nat.le_refl _) (.bool false) (.bool false) (.int .i64 0) (.int .i64 0) (.int .i64 0) (.int .i64 0))
    exact bodyPost_ret (v := .tuple #[.agg #[.bool false, .bool false, .int .i64 0, .int .i64 0, .int .i64 0, .int .i64 0], .int .i64 2]) (by simp [results, Tryd.results8, go_sem, S6.k0.cell, S6.k1.cell, S6.k2.cell, S6.k3.cell, S6.k4.cell, S6.k5.cell]) rfl ⟨p, HRT.out, by simp [parseV, hx], HBF.out⟩
  · have HT := Lib.hid (HTX.out p hx)
    clear HTX
    obtain ⟨⟨p0, -, pl⟩, ⟨p1, -, -⟩, ⟨p2, -, -⟩, ⟨p3, -, -⟩, ⟨p4, -, -⟩, ⟨p5, -, -⟩⟩ := HP3.out
    obtain ⟨⟨z0, y0, -⟩, ⟨z1, y1, -⟩, ⟨z2, y2, -⟩, ⟨z3, y3, -⟩, ⟨z4, y4, -⟩, ⟨z5, y5, -⟩⟩ := HZ3.out
    go_wp2_with fail
    go_at_call 6
    refine (HT.out _ HB3.out).mono ?_
    rintro e w4 ⟨rfl, hb⟩
    have HB4 := Lib.hid (HB3.out.trans (hb.mono HB3.out.size))
    have HZ4 := Lib.hid (HZ3.out.below hb)
    have HP4 := Lib.hid (HP3.out.below hb)
    clear hb HB3 HZ3 HP3 HT
    clear p0 pl p1 p2 p3 p4 p5 z0 y0 z1 y1 z2 y2 z3 y3 z4 y4 z5 y5
    obtain ⟨⟨p0, -, pl⟩, ⟨p1, -, -⟩, ⟨p2, -, -⟩, ⟨p3, -, -⟩, ⟨p4, -, -⟩, ⟨p5, -, -⟩⟩ := HP4.out
    obtain ⟨⟨z0, y0, -⟩, ⟨z1, y1, -⟩, ⟨z2, y2, -⟩, ⟨z3, y3, -⟩, ⟨z4, y4, -⟩, ⟨z5, y5, -⟩⟩ := HZ4.out
    have hEQ := eq_lists ⟨(textX p.a p.b p.n p.k p.t p.r).toArray⟩ s
    have HX := Lib.hid hx
    clear hx
    have HPV := Lib.hid (show ∀ E, decide ((⟨(textX p.a p.b p.n p.k p.t p.r).toArray⟩ : ByteArray) = s) = E → parseV s p = if E = true then .tuple #[.agg #[.bool p.a, .bool p.b, .int .i64 p.n, .int .i64 p.k, .int .i64 p.t, .int .i64 p.r], .int .i64 0] else .tuple #[.agg #[.bool false, .bool false, .int .i64 0, .int .i64 0, .int .i64 0, .int .i64 0], .int .i64 2] from fun E h => by simp only [parseV, HX.out, Bool.true_and, h])
    by_cases hE : (⟨(textX p.a p.b p.n p.k p.t p.r).toArray⟩ : ByteArray) = s
    · have hpv := HPV.out true (decide_eq_true hE)
      rw [decide_eq_true hE] at hEQ
      generalize (⟨(textX p.a p.b p.n p.k p.t p.r).toArray⟩ : ByteArray) = U at *
      have HPE := Lib.hid hpv
      have hne : (U.toList != s.toList) = false := by rw [bne, hEQ]; rfl
      clear hE hpv HPV
      go_wp2_with fail
      have S6 := stored6 (.bool p.a) (.bool p.b) (.int .i64 p.n) (.int .i64 p.k) (.int .i64 p.t) (.int .i64 p.r) HZ4.out
      have HBF := Lib.hid (set6_below (m := w.heap.size) HB4.out (Nat.le_refl _) (.bool p.a) (.bool p.b) (.int .i64 p.n) (.int .i64 p.k) (.int .i64 p.t) (.int .i64 p.r))
      exact bodyPost_ret (v := .tuple #[.agg #[.bool p.a, .bool p.b, .int .i64 p.n, .int .i64 p.k, .int .i64 p.t, .int .i64 p.r], .int .i64 0]) (by simp [results, Tryd.results8, go_sem, S6.k0.cell, S6.k1.cell, S6.k2.cell, S6.k3.cell, S6.k4.cell, S6.k5.cell]) rfl ⟨p, HRT.out, by rw [HPE.out]; rfl, HBF.out⟩
    · have hpv := HPV.out false (decide_eq_false hE)
      rw [decide_eq_false hE] at hEQ
      generalize (⟨(textX p.a p.b p.n p.k p.t p.r).toArray⟩ : ByteArray) = U at *
      have HPE := Lib.hid hpv
      have hne : (U.toList != s.toList) = true := by rw [bne, hEQ]; rfl
      clear hE hpv HPV
      go_wp2_with fail
      have S6 := stored6 (.bool false) (.bool false) (.int .i64 0) (.int .i64 0) (.int .i64 0) (.int .i64 0) HZ4.out
      have HBF := Lib.hid (set6_below (m := w.heap.size) HB4.out (Nat.le_refl _) (.bool false) (.bool false) (.int .i64 0) (.int .i64 0) (.int .i64 0) (.int .i64 0))
      exact bodyPost_ret (v := .tuple #[.agg #[.bool false, .bool false, .int .i64 0, .int .i64 0, .int .i64 0, .int .i64 0], .int .i64 2]) (by simp [results, Tryd.results8, go_sem, S6.k0.cell, S6.k1.cell, S6.k2.cell, S6.k3.cell, S6.k4.cell, S6.k5.cell]) rfl ⟨p, HRT.out, by rw [HPE.out]; rfl, HBF.out⟩
end Go.Proofs.YtmbjhhpnckfppaaDoor
