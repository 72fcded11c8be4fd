/-
The walk of PlaceTurns.
-/
import Derived.Test.YthfnooldjbalcaaPlcOne
namespace Go.Proofs.Ythfnooldjbalcaa
open Go.RowKit
set_option maxRecDepth 20000
/-- where the station stands behind k quarters -/
def rotN (x y u v : Int) : Nat → Int × Int
  | 0 => (x, y)
  | k + 1 => (turnX (rotN x y u v k).2 u v, turnY (rotN x y u v k).1 u v)
theorem rot_four (x y u v : Int) : rotN x y u v 4 = (x, y) := by
  simp only [rotN, turnX, turnY]
  ext <;> simp <;> omega
theorem sq_sum (a b : Int) : a * a + b * b = (-b) * (-b) + a * a := by
  rw [Int.neg_mul_neg, Int.add_comm]
/-- how far it is from the place about which it turns -/
theorem rot_far (x y u v : Int) : ∀ k, ((rotN x y u v k).1 - u) * ((rotN x y u v k).1 - u) + ((rotN x y u v k).2 - v) * ((rotN x y u v k).2 - v) = (x - u) * (x - u) + (y - v) * (y - v)
  | 0 => rfl
  | k + 1 => by
    rw [← rot_far x y u v k]
    simp only [rotN, turnX, turnY]
    generalize (rotN x y u v k).1 = a
    generalize (rotN x y u v k).2 = b
    rw [show u + -(b - v) - u = -(b - v) by omega, show v + (a - u) - v = a - u by omega]
    exact (sq_sum _ _).symm
theorem far_in {x y u v : Int} (h : inP x y = true) (k : inP u v = true) : farN x y u v = (x - u) * (x - u) + (y - v) * (y - v) := by
  unfold farN
  rw [h, k]
  rfl
theorem rem_small (n : Int) : -1000 ≤ n.tmod 1001 ∧ n.tmod 1001 ≤ 1000 := by
  have e : (n.tmod 1001).natAbs = n.natAbs % 1001 := Int.natAbs_tmod n 1001
  omega
theorem Fl.eqT {a b : Nat} {x : Int} (ha : Fl a x) (hb : Fl b x) : (FloatKind.f64.format.order a b == some .eq) = true := (ha.eq hb).trans (decide_eq_true rfl)
theorem in2000 {x y u v : Int} (h : inP x y = true) (k : inP u v = true) : inZ 2000 (u - x) (v - y) = true := by
  rw [inP_iff] at h k
  unfold inZ
  rw [decide_eq_true (show (u - x).natAbs ≤ 2000 by omega), decide_eq_true (show (v - y).natAbs ≤ 2000 by omega)]
  rfl
theorem stand3 {x y : Int} (h : inP x y = true) : standOk x y 3 = true := by
  unfold standOk
  rw [h]
  rfl
/-- there and back -/
theorem OneAt.moveTo {w0 W : World} {p : Nat} {x y : Int} (h : OneAt w0 p x y W) (c d : Nat) (u v : Int) (hxy : inP x y = true) (huv : inP u v = true) (hc : Fl c (u - x)) (hd : Fl d (v - y)) :
    Calls Try.prog 10 #[.pointer (some ⟨p, 0, none⟩), .int .i64 1, .complex .f64 c d] W fun e w' => e = .returned (.int .i64 0) ∧ OneAt w0 p u v w' := by
  obtain ⟨bx, by_⟩ := (inP_iff x y).1 hxy
  have e1 : x + (u - x) = u := by omega
  have e2 : y + (v - y) = v := by omega
  have := h.move (by omega) (by omega) c d (u - x) (v - y) hc hd (in2000 hxy huv) (by rw [e1, e2]; exact stand3 huv)
  rwa [e1, e2] at this
set_option maxHeartbeats 4000000 in
theorem turns_any (z0 z1 w0 w1 : Int) (h0 : -32768 ≤ z0 ∧ z0 ≤ 32767) (h1 : -32768 ≤ z1 ∧ z1 ≤ 32767) (h2 : -32768 ≤ w0 ∧ w0 ≤ 32767) (h3 : -32768 ≤ w1 ∧ w1 ≤ 32767) (w : World) :
    Calls Try.prog 3 #[.agg #[.int .i16 z0, .int .i16 z1], .agg #[.int .i16 w0, .int .i16 w1]] w fun e w' => e = .returned (.bool true) ∧ Below w.heap.size w w' := by
  have HAW := Lib.hid (fun W => cawake14 W)
  have HZ := Lib.hid ((RowAt.new w w.heap.size rfl [.int .i16 z0, .int .i16 z1] 23).alloc (.cells #[.int .i16 w0, .int .i16 w1] 23))
  have HW := Lib.hid (RowAt.new (w.alloc (.cells #[.int .i16 z0, .int .i16 z1] 23)) (w.heap.size + 1) (by simp) [.int .i16 w0, .int .i16 w1] 23)
  have HB := Lib.hid (below_alloc2 w (.cells #[.int .i16 z0, .int .i16 z1] 23) (.cells #[.int .i16 w0, .int .i16 w1] 23))
  have HN := Lib.hid (fun W h => PlO.new w W h 1 1 rfl (by omega))
  have n0 : IntKind.i64.wrap z0 = z0 := i64_near z0 (by omega) (by omega)
  have n1 : IntKind.i64.wrap z1 = z1 := i64_near z1 (by omega) (by omega)
  have n2 : IntKind.i64.wrap w0 = w0 := i64_near w0 (by omega) (by omega)
  have n3 : IntKind.i64.wrap w1 = w1 := i64_near w1 (by omega) (by omega)
  have bx := rem_small z0
  have by_ := rem_small z1
  have bu := rem_small w0
  have bv := rem_small w1
  obtain ⟨x, ex⟩ : ∃ x, z0.tmod 1001 = x := ⟨_, rfl⟩
  obtain ⟨y, ey⟩ : ∃ x, z1.tmod 1001 = x := ⟨_, rfl⟩
  obtain ⟨u, eu⟩ : ∃ x, w0.tmod 1001 = x := ⟨_, rfl⟩
  obtain ⟨v, ev⟩ : ∃ x, w1.tmod 1001 = x := ⟨_, rfl⟩
  rw [ex] at bx
  rw [ey] at by_
  rw [eu] at bu
  rw [ev] at bv
  have ga := Fl.ofInt x (by omega)
  have gb := Fl.ofInt y (by omega)
  have gc := Fl.ofInt u (by omega)
  have gd := Fl.ofInt v (by omega)
  obtain ⟨a, ea⟩ : ∃ a, floatOfInt .f64 x = a := ⟨_, rfl⟩
  obtain ⟨b, eb⟩ : ∃ a, floatOfInt .f64 y = a := ⟨_, rfl⟩
  obtain ⟨c, ec⟩ : ∃ a, floatOfInt .f64 u = a := ⟨_, rfl⟩
  obtain ⟨d, ed⟩ : ∃ a, floatOfInt .f64 v = a := ⟨_, rfl⟩
  rw [ea] at ga
  rw [eb] at gb
  rw [ec] at gc
  rw [ed] at gd
  have hin := (inP_iff x y).2 ⟨bx, by_⟩
  have hon := (inP_iff u v).2 ⟨bu, bv⟩
  have HS := Lib.hid (fun p W (h : PlO w p (fresh 1) (.map []) W) => OneAt.stand h a b ga gb hin)
  have HF := Lib.hid (fun W => apart_any a b c d x y u v W ga gb (by omega) (by omega) gc gd (by omega) (by omega))
  rw [far_in hin hon] at HF
  obtain ⟨far, ef⟩ : ∃ far, far = (x - u) * (x - u) + (y - v) * (y - v) := ⟨_, rfl⟩
  rw [← ef] at HF
  have HFAR := Lib.hid ef
  have HIN := Lib.hid hin
  have HON := Lib.hid hon
  have HGA := Lib.hid (And.intro ga (And.intro gb (And.intro gc gd)))
  clear h0 h1 h2 h3 bx by_ bu bv ga gb gc gd hin hon ef
  go_enter Try.func3, Try.ntmps3
  go_upto_region 6 with (first
    | (go_at_call 4; (with_reducible refine (HAW.out _).mono ?_); rintro e wa ⟨rfl, hb⟩; have HB1 := Lib.hid (HB.out.trans (hb.mono HB.out.size)); have HZ1 := Lib.hid (HZ.out.below hb); have HW1 := Lib.hid (HW.out.below hb); clear hb HAW HB HZ HW)
    | (go_at_call 5; (with_reducible refine (HN.out _ HB1.out).mono ?_); rintro e wb ⟨p, rfl, hI, hb⟩; have HI1 := Lib.hid hI; have HZ2 := Lib.hid (HZ1.out.below hb); have HW2 := Lib.hid (HW1.out.below hb); clear hI HN hb HZ1 HW1))
  refine wp_region_held (S := fun W' => Below wb.heap.size wb W') (by kernel_rfl) ?_
  change wpAnyH _ _ _ _ _ _ _ _ wb.drew
  have HB := Lib.hid ((Below.refl wb.heap.size wb).drew)
  refine wpAnyH_take (i := 0) (v := ?_) rfl (by kernel_rfl) (by kernel_rfl) (by kernel_rfl) (fun _ _ _ h => h) (Or.inl ⟨by rfl, ?_⟩) HB.out ?_
  rotate_left
  · intro w' hw'
    go_simp
    with_reducible rfl
  go_simp
  refine wpAnyH_take (i := 5) (v := ?_) rfl (by kernel_rfl) (by kernel_rfl) (by kernel_rfl) (fun _ _ _ h => h) (Or.inl ⟨by rfl, ?_⟩) HB.out ?_
  rotate_left
  · intro w' hw'
    go_simp
    with_reducible rfl
  go_simp
  refine wpAnyH_take (i := 11) (v := ?_) rfl (by kernel_rfl) (by kernel_rfl) (by kernel_rfl) (fun _ _ _ h => h) (Or.inl ⟨by rfl, ?_⟩) HB.out ?_
  rotate_left
  · intro w' hw'
    go_simp
    with_reducible rfl
  go_simp
  refine wpAnyH_take (i := 16) (v := ?_) rfl (by kernel_rfl) (by kernel_rfl) (by kernel_rfl) (fun _ _ _ h => h) (Or.inl ⟨by rfl, ?_⟩) HB.out ?_
  rotate_left
  · intro w' hw'
    go_simp
    with_reducible rfl
  go_simp
  refine wpAnyH_take (i := 1) (v := ?_) rfl (by kernel_rfl) (by kernel_rfl) (by kernel_rfl) (fun _ _ _ h => h) (Or.inl ⟨by rfl, ?_⟩) HB.out ?_
  rotate_left
  · intro w' hw'
    have x := (HZ2.out.below hw').cell 0 rfl
    go_simp
    with_reducible rfl
  go_simp
  refine wpAnyH_take (i := 6) (v := ?_) rfl (by kernel_rfl) (by kernel_rfl) (by kernel_rfl) (fun _ _ _ h => h) (Or.inl ⟨by rfl, ?_⟩) HB.out ?_
  rotate_left
  · intro w' hw'
    have x := (HZ2.out.below hw').cell 1 rfl
    go_simp
    with_reducible rfl
  go_simp
  refine wpAnyH_take (i := 12) (v := ?_) rfl (by kernel_rfl) (by kernel_rfl) (by kernel_rfl) (fun _ _ _ h => h) (Or.inl ⟨by rfl, ?_⟩) HB.out ?_
  rotate_left
  · intro w' hw'
    have x := (HW2.out.below hw').cell 0 rfl
    go_simp
    with_reducible rfl
  go_simp
  refine wpAnyH_take (i := 17) (v := ?_) rfl (by kernel_rfl) (by kernel_rfl) (by kernel_rfl) (fun _ _ _ h => h) (Or.inl ⟨by rfl, ?_⟩) HB.out ?_
  rotate_left
  · intro w' hw'
    have x := (HW2.out.below hw').cell 1 rfl
    go_simp
    with_reducible rfl
  go_simp
  refine wpAnyH_take (i := 2) (v := ?_) rfl (by kernel_rfl) (by kernel_rfl) (by kernel_rfl) (fun _ _ _ h => h) (Or.inl ⟨by rfl, ?_⟩) HB.out ?_
  rotate_left
  · intro w' hw'
    go_simp
    with_reducible rfl
  go_simp
  refine wpAnyH_take (i := 3) (v := ?_) rfl (by kernel_rfl) (by kernel_rfl) (by kernel_rfl) (fun _ _ _ h => h) (Or.inl ⟨by rfl, ?_⟩) HB.out ?_
  rotate_left
  · intro w' hw'
    go_simp
    with_reducible rfl
  go_simp
  refine wpAnyH_take (i := 4) (v := ?_) rfl (by kernel_rfl) (by kernel_rfl) (by kernel_rfl) (fun _ _ _ h => h) (Or.inl ⟨by rfl, ?_⟩) HB.out ?_
  rotate_left
  · intro w' hw'
    go_simp
    with_reducible rfl
  go_simp
  refine wpAnyH_take (i := 7) (v := ?_) rfl (by kernel_rfl) (by kernel_rfl) (by kernel_rfl) (fun _ _ _ h => h) (Or.inl ⟨by rfl, ?_⟩) HB.out ?_
  rotate_left
  · intro w' hw'
    go_simp
    with_reducible rfl
  go_simp
  refine wpAnyH_take (i := 8) (v := ?_) rfl (by kernel_rfl) (by kernel_rfl) (by kernel_rfl) (fun _ _ _ h => h) (Or.inl ⟨by rfl, ?_⟩) HB.out ?_
  rotate_left
  · intro w' hw'
    go_simp
    with_reducible rfl
  go_simp
  refine wpAnyH_take (i := 9) (v := ?_) rfl (by kernel_rfl) (by kernel_rfl) (by kernel_rfl) (fun _ _ _ h => h) (Or.inl ⟨by rfl, ?_⟩) HB.out ?_
  rotate_left
  · intro w' hw'
    go_simp
    with_reducible rfl
  go_simp
  refine wpAnyH_take (i := 10) (v := ?_) rfl (by kernel_rfl) (by kernel_rfl) (by kernel_rfl) (fun _ _ _ h => h) (Or.inl ⟨by rfl, ?_⟩) HB.out ?_
  rotate_left
  · intro w' hw'
    go_simp
    with_reducible rfl
  go_simp
  refine wpAnyH_take (i := 13) (v := ?_) rfl (by kernel_rfl) (by kernel_rfl) (by kernel_rfl) (fun _ _ _ h => h) (Or.inl ⟨by rfl, ?_⟩) HB.out ?_
  rotate_left
  · intro w' hw'
    go_simp
    with_reducible rfl
  go_simp
  refine wpAnyH_take (i := 14) (v := ?_) rfl (by kernel_rfl) (by kernel_rfl) (by kernel_rfl) (fun _ _ _ h => h) (Or.inl ⟨by rfl, ?_⟩) HB.out ?_
  rotate_left
  · intro w' hw'
    go_simp
    with_reducible rfl
  go_simp
  refine wpAnyH_take (i := 15) (v := ?_) rfl (by kernel_rfl) (by kernel_rfl) (by kernel_rfl) (fun _ _ _ h => h) (Or.inl ⟨by rfl, ?_⟩) HB.out ?_
  rotate_left
  · intro w' hw'
    go_simp
    with_reducible rfl
  go_simp
  refine wpAnyH_take (i := 18) (v := ?_) rfl (by kernel_rfl) (by kernel_rfl) (by kernel_rfl) (fun _ _ _ h => h) (Or.inl ⟨by rfl, ?_⟩) HB.out ?_
  rotate_left
  · intro w' hw'
    go_simp
    with_reducible rfl
  go_simp
  refine wpAnyH_take (i := 19) (v := ?_) rfl (by kernel_rfl) (by kernel_rfl) (by kernel_rfl) (fun _ _ _ h => h) (Or.inl ⟨by rfl, ?_⟩) HB.out ?_
  rotate_left
  · intro w' hw'
    go_simp
    with_reducible rfl
  go_simp
  refine wpAnyH_take (i := 20) (v := ?_) rfl (by kernel_rfl) (by kernel_rfl) (by kernel_rfl) (fun _ _ _ h => h) (Or.inl ⟨by rfl, ?_⟩) HB.out ?_
  rotate_left
  · intro w' hw'
    go_simp
    with_reducible rfl
  go_simp
  refine wpAnyH_take (i := 21) (v := ?_) rfl (by kernel_rfl) (by kernel_rfl) (by kernel_rfl) (fun _ _ _ h => h) (Or.inl ⟨by rfl, ?_⟩) HB.out ?_
  rotate_left
  · intro w' hw'
    go_simp
    with_reducible rfl
  go_simp
  refine wpAnyH_take (i := 22) (v := ?_) rfl (by kernel_rfl) (by kernel_rfl) (by kernel_rfl) (fun _ _ _ h => h) (Or.inl ⟨by rfl, ?_⟩) HB.out ?_
  rotate_left
  · intro w' hw'
    go_simp
    with_reducible rfl
  go_simp
  refine wpAnyH_take (i := 23) (v := ?_) rfl (by kernel_rfl) (by kernel_rfl) (by kernel_rfl) (fun _ _ _ h => h) (Or.inl ⟨by rfl, ?_⟩) HB.out ?_
  rotate_left
  · intro w' hw'
    go_simp
    with_reducible rfl
  go_simp
  refine wpAnyH_done (by kernel_rfl) ?_ _
  clear HZ2 HW2 HB1 HB n0 n1 n2 n3
  clear ex ey eu ev ea eb ec ed
  have HID := Lib.hid (HI1.out.below ((Below.refl _ wb).drew))
  generalize wb.drew = wc at *
  go_upto_region 11 with (first
    | (go_at_call 6; (with_reducible refine (HS.out _ _ HID.out).mono ?_); rintro e wd ⟨rfl, hI⟩; have HI2 := Lib.hid hI; clear hI HS HI1 HID)
    | (go_at_call 7; (with_reducible refine (HF.out _).mono ?_); rintro e we ⟨rfl, hb⟩; have HI3 := Lib.hid (HI2.out.below hb); clear hb HF HI2))
  have HL0 := Lib.hid (show inP (rotN x y u v 0).1 (rotN x y u v 0).2 = true ∧ OneAt w p (rotN x y u v 0).1 (rotN x y u v 0).2 we from ⟨HIN.out, HI3.out⟩)
  go_loopw [10] (fun i wx => ∃ k : Nat, k ≤ 4 ∧ i = .int .i64 k ∧ Hid (inP (rotN x y u v k).1 (rotN x y u v k).2 = true ∧ OneAt w p (rotN x y u v k).1 (rotN x y u v k).2 wx)) (fun i _ => 4 - (intOf i).toNat)
  case atStart => exact ⟨0, Nat.zero_le _, rfl, HL0⟩
  case round =>
    obtain ⟨k, hk, rfl, HK⟩ := hrel
    clear HL0 HI3
    by_cases hlt : k < 4
    · have dk : decide ((k : Int) < 4) = true := decide_eq_true (by omega)
      have HNX := Lib.hid (show (rotN x y u v (k + 1)).1 = turnX (rotN x y u v k).2 u v ∧ (rotN x y u v (k + 1)).2 = turnY (rotN x y u v k).1 u v from ⟨rfl, rfl⟩)
      have HRF := Lib.hid (rot_far x y u v (k + 1))
      rw [← HFAR.out] at HRF
      generalize (rotN x y u v k).1 = X at *
      generalize (rotN x y u v k).2 = Y at *
      obtain ⟨bX, bY⟩ := (inP_iff X Y).1 HK.out.1
      have HXY := Lib.hid (And.intro (show X.natAbs ≤ 1000 by omega) (show Y.natAbs ≤ 1000 by omega))
      have HO := Lib.hid HK.out.2
      clear bX bY HK
      cases hok : standOk (turnX Y u v) (turnY X u v) 3
      · have HT := Lib.hid (fun W (h : OneAt w p X Y W) => h.turn_no HXY.out.1 HXY.out.2 c d u v HGA.out.2.2.1 HGA.out.2.2.2 HON.out hok)
        clear hok HNX HRF
        go_upto_region 14 with (go_at_call 8; (with_reducible refine HO.out.at_.mono ?_); rintro e w1 ⟨a1, b1, rfl, fa, fb, hI⟩; have HA := Lib.hid (And.intro fa fb); have HO1 := Lib.hid hI; clear fa fb hI HO)
        go_upto_region 17 with (first
          | (go_at_call 9; (with_reducible refine (HT.out _ HO1.out).mono ?_); rintro e w2 ⟨rfl, hI⟩; have HO2 := Lib.hid hI; clear hI HT HO1)
          | (go_at_call 8; (with_reducible refine HO2.out.at_.mono ?_); rintro e w3 ⟨a2, b2, rfl, fa, fb, hI⟩; have q1 := fa.eqT HA.out.1; have q2 := fb.eqT HA.out.2; have HO3 := Lib.hid hI.bel; clear fa fb hI HO2 HA))
        go_wp2_with fail
        exact bodyPost_ret (v := .bool true) (by simp [results, Try.results3, go_sem]) rfl ⟨rfl, HO3.out⟩
      · have HT := Lib.hid (fun W (h : OneAt w p X Y W) => h.turn_yes HXY.out.1 HXY.out.2 c d u v HGA.out.2.2.1 HGA.out.2.2.2 HON.out hok)
        have hin' : inP (turnX Y u v) (turnY X u v) = true := by
          unfold standOk at hok
          rw [Bool.and_eq_true] at hok
          exact hok.1
        have HIN' := Lib.hid hin'
        rw [← HNX.out.1, ← HNX.out.2] at HIN' HT
        clear hok HNX hin'
        obtain ⟨X', hX⟩ : ∃ X', (rotN x y u v (k + 1)).1 = X' := ⟨_, rfl⟩
        obtain ⟨Y', hY⟩ : ∃ Y', (rotN x y u v (k + 1)).2 = Y' := ⟨_, rfl⟩
        rw [hX, hY] at HIN' HT HRF
        have HX := Lib.hid (And.intro hX hY)
        clear hX hY
        obtain ⟨bX, bY⟩ := (inP_iff X' Y').1 HIN'.out
        have HF := Lib.hid (fun a b W (ha : Fl a X') (hb : Fl b Y') => apart_any a b c d X' Y' u v W ha hb (by omega) (by omega) HGA.out.2.2.1 HGA.out.2.2.2 (by have := (inP_iff u v).1 HON.out; omega) (by have := (inP_iff u v).1 HON.out; omega))
        rw [far_in HIN'.out HON.out, HRF.out] at HF
        clear bX bY HRF
        go_upto_region 14 with (go_at_call 8; (with_reducible refine HO.out.at_.mono ?_); rintro e w1 ⟨a1, b1, rfl, -, -, hI⟩; have HO1 := Lib.hid hI; clear hI HO)
        go_upto_region 15 with (go_at_call 9; (with_reducible refine (HT.out _ HO1.out).mono ?_); rintro e w2 ⟨rfl, hI⟩; have HO2 := Lib.hid hI; clear hI HT HO1)
        go_wp2_with (first
          | (go_at_call 8; (with_reducible refine HO2.out.at_.mono ?_); rintro e w3 ⟨a2, b2, rfl, fa, fb, hI⟩; have HA := Lib.hid (And.intro fa fb); have HO3 := Lib.hid hI; clear fa fb hI HO2)
          | (go_at_call 7; (with_reducible refine (HF.out _ _ _ HA.out.1 HA.out.2).mono ?_); rintro e w4 ⟨rfl, hb⟩; have HO4 := Lib.hid (And.intro HIN'.out (HO3.out.below hb)); clear hb HF HO3 HA))
        go_roundw
        case rel => exact ⟨k + 1, by omega, by go_num, by rw [HX.out.1, HX.out.2]; exact HO4⟩
        case measure => simp [intOf]; omega
    · obtain rfl : k = 4 := by omega
      have dk : decide (((4 : Nat) : Int) < 4) = false := decide_eq_false (by omega)
      rw [rot_four] at HK
      simp only at HK
      have HM1 := Lib.hid HK.out.2
      have hfar : decide (0 ≤ far) = true := by
        apply decide_eq_true
        rw [HFAR.out]
        have h1 := (sq_small (x - u) (by have := (inP_iff x y).1 HIN.out; have := (inP_iff u v).1 HON.out; omega)).2
        have h2 := (sq_small (y - v) (by have := (inP_iff x y).1 HIN.out; have := (inP_iff u v).1 HON.out; omega)).2
        omega
      clear HK
      obtain ⟨e1, e2, s1, g1, g2⟩ := cx_sub HGA.out.2.2.1 HGA.out.2.2.2 HGA.out.1 HGA.out.2.1 (by have := (inP_iff x y).1 HIN.out; have := (inP_iff u v).1 HON.out; omega) (by have := (inP_iff x y).1 HIN.out; have := (inP_iff u v).1 HON.out; omega)
      obtain ⟨e3, e4, s2, g3, g4⟩ := cx_sub HGA.out.1 HGA.out.2.1 HGA.out.2.2.1 HGA.out.2.2.2 (by have := (inP_iff x y).1 HIN.out; have := (inP_iff u v).1 HON.out; omega) (by have := (inP_iff x y).1 HIN.out; have := (inP_iff u v).1 HON.out; omega)
      have HV1 := Lib.hid (fun W (h : OneAt w p x y W) => h.moveTo e1 e2 u v HIN.out HON.out g1 g2)
      have HV2 := Lib.hid (fun W (h : OneAt w p u v W) => h.moveTo e3 e4 x y HON.out HIN.out g3 g4)
      clear g1 g2 g3 g4
      go_upto_region 22 with (go_at_call 8; (with_reducible refine HM1.out.at_.mono ?_); rintro e w1 ⟨a1, b1, rfl, fa, fb, hI⟩; have HO1 := Lib.hid hI; have q1 := fa.eqT HGA.out.1; have q2 := fb.eqT HGA.out.2.1; clear fa fb hI HM1)
      go_upto_region 24 with (go_at_call 10; (with_reducible refine (HV1.out _ HO1.out).mono ?_); rintro e w2 ⟨rfl, hI⟩; have HO2 := Lib.hid hI; clear hI HV1 HO1 q1 q2)
      go_upto_region 25 with (go_at_call 8; (with_reducible refine HO2.out.at_.mono ?_); rintro e w3 ⟨a2, b2, rfl, fa, fb, hI⟩; have HO3 := Lib.hid hI; have q1 := fa.eqT HGA.out.2.2.1; have q2 := fb.eqT HGA.out.2.2.2; clear fa fb hI HO2)
      go_wp2_with (go_at_call 10; (with_reducible refine (HV2.out _ HO3.out).mono ?_); rintro e w4 ⟨rfl, hI⟩; have HO4 := Lib.hid hI.bel; clear hI HV2 HO3)
      exact bodyPost_ret (v := .bool true) (by simp [results, Try.results3, go_sem]) rfl ⟨rfl, HO4.out⟩
end Go.Proofs.Ythfnooldjbalcaa
