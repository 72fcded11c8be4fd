/-
The landed code's Get of right parameters' bytes.
-/
import Derived.Test.YtmbjhhpnckfppaaXidSetAll
import Derived.Test.YtmbjhhpnckfppaaXidAwake
namespace Go.Proofs.Ytmbjhhpnckfppaa
open Go.RowKit Go.Maps Go.WideMaps
set_option maxRecDepth 20000
theorem ParJ.below {a b : Bool} {n k t r : Int} {j : Nat} {W W' : World} {m : Nat} (h : ParJ a b n k t r j W m) (hb : Below W.heap.size W W') : ParJ a b n k t r j W' m := C6.below h hb
theorem open_put (a b : Bool) (n k t r : Int) (w : World) : Calls Try.prog 19 #[.string ⟨(putX a b n k t r).toArray⟩] w fun e w' => e = .returned (.tuple #[.string ⟨(bodyL a b n k t r).toArray⟩, .int .i64 0]) ∧ Below w.heap.size w w' := by
  have hs : (⟨(putX a b n k t r).toArray⟩ : ByteArray).size = 21 := rfl
  refine open_ok ⟨(putX a b n k t r).toArray⟩ ⟨(bodyL a b n k t r).toArray⟩ ⟨#[0, 17]⟩ w rfl (by rw [hs]; decide) ?_ ?_ ?_ rfl rfl
  · apply bytes_ext'
    simp [ByteArray.data_extract, putX, bodyL]
  · apply bytes_ext'
    rw [Lib.extract_to_end]
    rfl
  · apply bytes_ext'
    simp [ByteArray.data_extract, putX, bodyL]
set_option maxHeartbeats 1000000 in
theorem xget_put (a b : Bool) (n k t r : Int) (w : World) (hr : rightX a b n k t r = true) : Calls Try.prog 11 #[.string ⟨(putX a b n k t r).toArray⟩] w fun e w' => e = .returned (.tuple #[.agg #[.bool a, .bool b, .int .i64 n, .int .i64 k, .int .i64 t, .int .i64 r], .int .i64 0]) ∧ Below w.heap.size w w' := by
  have HU := Lib.hid (fun W => usual_any W)
  have HO := Lib.hid (fun W => open_put a b n k t r W)
  have HSA := Lib.hid (fun m W h => setAll_ok a b n k t r hr m W h)
  have hR := fun W => xright_any a b n k t r W
  rw [hr] at hR
  have HR := Lib.hid hR
  have HB0 := Lib.hid ((Below.refl _ w).alloc (Nat.le_refl _) (.cells #[.bool false, .bool false, .int .i64 0, .int .i64 0, .int .i64 0, .int .i64 0] 23))
  have HZ0 := Lib.hid (C6.new w w.heap.size rfl (.bool false) (.bool false) (.int .i64 0) (.int .i64 0) (.int .i64 0) (.int .i64 0) 23)
  generalize (⟨(putX a b n k t r).toArray⟩ : ByteArray) = S at *
  generalize (⟨(bodyL a b n k t r).toArray⟩ : ByteArray) = B at *
  clear hR hr
  go_enter Try.func11, Try.ntmps11
  go_wp2_with fail
  go_at_call 15
  refine (HU.out _).mono ?_
  rintro e w1 ⟨rfl, hb⟩
  have HB1 := Lib.hid (HB0.out.trans (hb.mono HB0.out.size))
  have HZ1 := Lib.hid (HZ0.out.below hb)
  clear hb HB0 HZ0
  go_upto_region 2 with (fail)
  have HB2 := Lib.hid (HB1.out.alloc HB1.out.size (.cells #[.bool false, .bool false, .int .i64 64, .int .i64 4, .int .i64 20, .int .i64 5] 23))
  have HZ2 := Lib.hid (HZ1.out.alloc (.cells #[.bool false, .bool false, .int .i64 64, .int .i64 4, .int .i64 20, .int .i64 5] 23))
  have HP2 := Lib.hid (show ParJ a b n k t r 0 (w1.alloc (.cells #[.bool false, .bool false, .int .i64 64, .int .i64 4, .int .i64 20, .int .i64 5] 23)) w1.heap.size from C6.new w1 _ rfl _ _ _ _ _ _ _)
  have hzm : w.heap.size < w1.heap.size := HZ1.out.k0.lt
  have HZM := Lib.hid hzm
  generalize w1.alloc (.cells #[.bool false, .bool false, .int .i64 64, .int .i64 4, .int .i64 20, .int .i64 5] 23) = w2 at *
  generalize w1.heap.size = m at *
  clear HB1 HZ1 hzm
  go_wp2_with fail
  go_at_call 19
  refine (HO.out _).mono ?_
  rintro e w3 ⟨rfl, hb⟩
  have HB3 := Lib.hid (HB2.out.trans (hb.mono HB2.out.size))
  have HZ3 := Lib.hid (HZ2.out.below hb)
  have HP3 := Lib.hid (HP2.out.below hb)
  clear hb HB2 HZ2 HP2
  go_wp2_with fail
  go_at_call 20
  refine (HSA.out m _ HP3.out).mono ?_
  rintro e w4 ⟨rfl, hp, hg⟩
  have HB4 := Lib.hid (HB3.out.grown hg HB3.out.size (fun j hj => by have := Option.some.inj hj; have := HZM.out; omega))
  have HZ4 := Lib.hid (HZ3.out.block (hg.block _ HZ3.out.k0.lt (fun e => by have := Option.some.inj e; have := HZM.out; omega)) hg.size)
  have HP4 := Lib.hid (show C6 w4 m (.bool a) (.bool b) (.int .i64 n) (.int .i64 k) (.int .i64 t) (.int .i64 r) from hp)
  clear hp hg HB3 HZ3 HP3
  obtain ⟨⟨p0, -, pl⟩, ⟨p1, -, -⟩, ⟨p2, -, -⟩, ⟨p3, -, -⟩, ⟨p4, -, -⟩, ⟨p5, -, -⟩⟩ := HP4.out
  go_wp2_with fail
  go_at_call 8
  refine (HR.out _).mono ?_
  rintro e w5 ⟨rfl, hb⟩
  have HB5 := Lib.hid (HB4.out.trans (hb.mono HB4.out.size))
  have HZ5 := Lib.hid (HZ4.out.below hb)
  have HP5 := Lib.hid (HP4.out.below hb)
  clear hb p0 pl p1 p2 p3 p4 p5 HB4 HZ4 HP4
  obtain ⟨⟨p0, -, pl⟩, ⟨p1, -, -⟩, ⟨p2, -, -⟩, ⟨p3, -, -⟩, ⟨p4, -, -⟩, ⟨p5, -, -⟩⟩ := HP5.out
  obtain ⟨⟨z0, y0, -⟩, ⟨z1, y1, -⟩, ⟨z2, y2, -⟩, ⟨z3, y3, -⟩, ⟨z4, y4, -⟩, ⟨z5, y5, -⟩⟩ := HZ5.out
  go_wp2_with fail
  have S6 := stored6 (.bool a) (.bool b) (.int .i64 n) (.int .i64 k) (.int .i64 t) (.int .i64 r) HZ5.out
  have HBF := Lib.hid (set6_below (m := w.heap.size) HB5.out (Nat.le_refl _) (.bool a) (.bool b) (.int .i64 n) (.int .i64 k) (.int .i64 t) (.int .i64 r))
  exact bodyPost_ret (v := .tuple #[.agg #[.bool a, .bool b, .int .i64 n, .int .i64 k, .int .i64 t, .int .i64 r], .int .i64 0]) (by simp [results, Try.results11, go_sem, S6.k0.cell, S6.k1.cell, S6.k2.cell, S6.k3.cell, S6.k4.cell, S6.k5.cell]) rfl ⟨rfl, HBF.out⟩
end Go.Proofs.Ytmbjhhpnckfppaa
