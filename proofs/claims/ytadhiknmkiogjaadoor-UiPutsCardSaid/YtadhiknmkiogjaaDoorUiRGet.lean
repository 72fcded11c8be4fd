/-
The document's own Get of datagrams.
-/
import Derived.Test.YtadhiknmkiogjaaDoorMix27
import Derived.Test.YtadhiknmkiogjaaDoorUiRDec
import Derived.Test.YtadhiknmkiogjaaDoorMix29
import Derived.Lib.AppendZeros
import Derived.OrdersHeld
import Derived.Deep.RegionHeld
import Derived.Deep.DeepCutAuto
namespace Go.Proofs.YtadhiknmkiogjaaDoor
open Go.RowKit Go.Sort
set_option maxRecDepth 20000
set_option maxHeartbeats 1000000 in
theorem rget22_no (s : ByteArray) (w : World) (hs : s.size ≤ 100000) (h : decE s.data.toList false ≠ 0) :
    Calls Tryd.prog 12 #[.string s] w fun e w' => GotTo s.data.toList w e w' := by
  have HB0 := Lib.hid ((Below.refl _ w).alloc (Nat.le_refl _) (.cells #[.string ⟨#[]⟩, .int .i64 0, .string ⟨#[]⟩, .int .i64 0, .slice none 0 0, .int .i64 0, .string ⟨#[]⟩] 34))
  have HF0 := Lib.hid (P7.new w w.heap.size rfl (.string ⟨#[]⟩) (.int .i64 0) (.string ⟨#[]⟩) (.int .i64 0) (.slice none 0 0) (.int .i64 0) (.string ⟨#[]⟩) 34)
  have hE : getE22 s.data.toList = decE s.data.toList false := by unfold getE22; rw [if_pos h]
  have hN : got22 s.data.toList = noGr := got_no22 (by rw [hE]; exact h)
  unfold GotTo
  rw [hN, hE]
  have hd := fun W => rdecy_any s false W hs
  unfold RDecY at hd
  generalize decE s.data.toList false = E at *
  have hz : ((E : Int) != 0) = true := by rw [bne_iff_ne]; omega
  have HD := Lib.hid hd
  clear hd hE hN h hs
  go_enter Tryd.func12, Tryd.ntmps12
  go_wp2_with (go_at_call 25; (with_reducible refine (HD.out _).mono ?_); rintro e w1 ⟨⟨a, n, c, k, nr, ns, pf, pid, info, er, rfl, rfl, -⟩, hb⟩; have hb1 := HB0.out.trans (hb.mono HB0.out.size); have HB := Lib.hid (hb1.alloc hb1.size (.cells #[.slice a n c, .int .i64 (k : Int), .int .i64 (nr : Int), .int .i64 (ns : Int), .bool pf, .int .i64 pid, .string info] 73)); have HF := Lib.hid ((HF0.out.below hb).alloc (.cells #[.slice a n c, .int .i64 (k : Int), .int .i64 (nr : Int), .int .i64 (ns : Int), .bool pf, .int .i64 pid, .string info] 73)); clear hb hb1; obtain ⟨⟨p0, q0, pl⟩, ⟨p1, q1, -⟩, ⟨p2, q2, -⟩, ⟨p3, q3, -⟩, ⟨p4, q4, -⟩, ⟨p5, q5, -⟩, ⟨p6, q6, -⟩⟩ := HF.out)
  have S7 := stored7 (.string ⟨#[]⟩) (.int .i64 0) (.string ⟨#[]⟩) (.int .i64 0) (.slice none 0 0) (.int .i64 0) (.string ⟨#[]⟩) HF.out
  have HBF := Lib.hid (set7_below HB.out (Nat.le_refl _) (.string ⟨#[]⟩) (.int .i64 0) (.string ⟨#[]⟩) (.int .i64 0) (.slice none 0 0) (.int .i64 0) (.string ⟨#[]⟩))
  exact bodyPost_ret (v := .tuple #[.agg #[.string ⟨#[]⟩, .int .i64 0, .string ⟨#[]⟩, .int .i64 0, .slice none 0 0, .int .i64 0, .string ⟨#[]⟩], .int .i64 (er : Int)]) (by simp [results, Tryd.results12, go_sem, S7.k0.cell, S7.k1.cell, S7.k2.cell, S7.k3.cell, S7.k4.cell, S7.k5.cell, S7.k6.cell]) rfl ⟨⟨none, 0, rfl, fun k hk => absurd hk (Nat.not_lt_zero _)⟩, HBF.out⟩
theorem rdec22 (s : ByteArray) (hs : s.size ≤ 100000) (h : decE s.data.toList false = 0) (W : World) :
    Calls Tryd.prog 25 #[.string s, .bool false] W fun e w' => (∃ (a : Option Addr) (n c : Nat) (k nr ns : Nat) (pf : Bool) (pid : Int) (info : ByteArray), e = .returned (.tuple #[.agg #[.slice a n c, .int .i64 (k : Int), .int .i64 (nr : Int), .int .i64 (ns : Int), .bool pf, .int .i64 pid, .string info], .int .i64 0]) ∧ n = (getP 10 [] s.data.toList).2.length ∧ k = (ctlOf s.data.toList false).1 ∧ EntsAt w' a c (getP 10 [] s.data.toList).2 ∧ PidInf s.data.toList false pid info.data.toList) ∧ Below W.heap.size W w' :=
  (rdecy_any s false W hs).mono fun e w' hq => by
    obtain ⟨⟨a, n, c, k, nr, ns, pf, pid, info, er, h1, h2, h3⟩, h4⟩ := hq
    rw [h] at h2
    subst h2
    obtain ⟨k1, k2, k3, k4⟩ := h3 rfl
    exact ⟨⟨a, n, c, k, nr, ns, pf, pid, info, h1, k1, k2, k3, k4⟩, h4⟩
set_option maxHeartbeats 1000000 in
theorem rget22_kind (s : ByteArray) (w : World) (hs : s.size ≤ 100000) (h : decE s.data.toList false = 0) (hk : (ctlOf s.data.toList false).1 ≠ 12) :
    Calls Tryd.prog 12 #[.string s] w fun e w' => GotTo s.data.toList w e w' := by
  have HB0 := Lib.hid ((Below.refl _ w).alloc (Nat.le_refl _) (.cells #[.string ⟨#[]⟩, .int .i64 0, .string ⟨#[]⟩, .int .i64 0, .slice none 0 0, .int .i64 0, .string ⟨#[]⟩] 34))
  have HF0 := Lib.hid (P7.new w w.heap.size rfl (.string ⟨#[]⟩) (.int .i64 0) (.string ⟨#[]⟩) (.int .i64 0) (.slice none 0 0) (.int .i64 0) (.string ⟨#[]⟩) 34)
  have hE : getE22 s.data.toList = 2 := by unfold getE22; rw [if_neg (fun q => q h), if_neg hk]
  have hN : got22 s.data.toList = noGr := got_no22 (by rw [hE]; decide)
  unfold GotTo
  rw [hN, hE]
  have HD := Lib.hid (rdec22 s hs h)
  have HKN := Lib.hid (show ∀ k : Nat, k = (ctlOf s.data.toList false).1 → ((k : Int) != 12) = true from fun k hq => by rw [bne_iff_ne]; intro q; apply hk; omega)
  clear hE hN h hs hk
  go_enter Tryd.func12, Tryd.ntmps12
  go_wp2_with (go_at_call 25; (with_reducible refine (HD.out _).mono ?_); rintro e w1 ⟨⟨a, n, c, k, nr, ns, pf, pid, info, rfl, -, hkk, -, -⟩, hb⟩; have hz := HKN.out k hkk; have hb1 := HB0.out.trans (hb.mono HB0.out.size); have HB := Lib.hid (hb1.alloc hb1.size (.cells #[.slice a n c, .int .i64 (k : Int), .int .i64 (nr : Int), .int .i64 (ns : Int), .bool pf, .int .i64 pid, .string info] 73)); have HF := Lib.hid ((HF0.out.below hb).alloc (.cells #[.slice a n c, .int .i64 (k : Int), .int .i64 (nr : Int), .int .i64 (ns : Int), .bool pf, .int .i64 pid, .string info] 73)); have HR := Lib.hid (RowAt.new w1 w1.heap.size rfl [.slice a n c, .int .i64 (k : Int), .int .i64 (nr : Int), .int .i64 (ns : Int), .bool pf, .int .i64 pid, .string info] 73); clear hb hb1 hkk; have f1 := HR.out.cell 1 rfl; obtain ⟨⟨p0, q0, pl⟩, ⟨p1, q1, -⟩, ⟨p2, q2, -⟩, ⟨p3, q3, -⟩, ⟨p4, q4, -⟩, ⟨p5, q5, -⟩, ⟨p6, q6, -⟩⟩ := HF.out)
  have S7 := stored7 (.string ⟨#[]⟩) (.int .i64 0) (.string ⟨#[]⟩) (.int .i64 0) (.slice none 0 0) (.int .i64 0) (.string ⟨#[]⟩) HF.out
  have HBF := Lib.hid (set7_below HB.out (Nat.le_refl _) (.string ⟨#[]⟩) (.int .i64 0) (.string ⟨#[]⟩) (.int .i64 0) (.slice none 0 0) (.int .i64 0) (.string ⟨#[]⟩))
  exact bodyPost_ret (v := .tuple #[.agg #[.string ⟨#[]⟩, .int .i64 0, .string ⟨#[]⟩, .int .i64 0, .slice none 0 0, .int .i64 0, .string ⟨#[]⟩], .int .i64 2]) (by simp [results, Tryd.results12, go_sem, S7.k0.cell, S7.k1.cell, S7.k2.cell, S7.k3.cell, S7.k4.cell, S7.k5.cell, S7.k6.cell]) rfl ⟨⟨none, 0, rfl, fun k hk => absurd hk (Nat.not_lt_zero _)⟩, HBF.out⟩
theorem getP_two (s : List UInt8) (h : decE s false = 0) : 2 ≤ (getP 10 [] s).2.length := by
  have hr := (read_path s (decE_get h)).1
  unfold rightP at hr
  simp only [Bool.and_eq_true, decide_eq_true_eq] at hr
  exact hr.1.1.2
set_option maxHeartbeats 2000000 in
theorem rget22_yes (s : ByteArray) (w : World) (hs : s.size ≤ 100000) (h : decE s.data.toList false = 0) (hk : (ctlOf s.data.toList false).1 = 12) :
    Calls Tryd.prog 12 #[.string s] w fun e w' => GotTo s.data.toList w e w' := by
  have HB0 := Lib.hid ((Below.refl _ w).alloc (Nat.le_refl _) (.cells #[.string ⟨#[]⟩, .int .i64 0, .string ⟨#[]⟩, .int .i64 0, .slice none 0 0, .int .i64 0, .string ⟨#[]⟩] 34))
  have HF0 := Lib.hid (P7.new w w.heap.size rfl (.string ⟨#[]⟩) (.int .i64 0) (.string ⟨#[]⟩) (.int .i64 0) (.slice none 0 0) (.int .i64 0) (.string ⟨#[]⟩) 34)
  obtain ⟨x, y, D, hp, hl8⟩ : ∃ x y D, (getP 10 [] s.data.toList).2 = x :: y :: D ∧ D.length ≤ 8 := by
    have hr := getP_two s.data.toList h
    have hl := getP_len 10 [] s.data.toList rfl
    match hP : (getP 10 [] s.data.toList).2, hr with
    | x :: y :: D, _ =>
      rw [hP] at hl
      exact ⟨x, y, D, rfl, by simpa using hl⟩
  have HYES := Lib.hid (fun pid info => got_yes22 (s := s.data.toList) (x := x) (y := y) (D := D) (pid := pid) (info := info) h hk hp)
  have hd := rdec22 s hs h
  rw [hp, hk] at hd
  obtain ⟨xb, xn, xm⟩ := x
  obtain ⟨yb, yn, ym⟩ := y
  have HX0 := Lib.hid (show ((xb, xn, xm) :: (yb, yn, ym) :: D : List Ent)[0]? = some (xb, xn, xm) from rfl)
  have HX1 := Lib.hid (show ((xb, xn, xm) :: (yb, yn, ym) :: D : List Ent)[1]? = some (yb, yn, ym) from rfl)
  have HXN := Lib.hid (show ∀ j (hj : j < D.length), ((xb, xn, xm) :: (yb, yn, ym) :: D : List Ent)[j + 2]? = some D[j] from fun j hj => by simp [hj])
  have hNL : ((xb, xn, xm) :: (yb, yn, ym) :: D : List Ent).length = D.length + 2 := rfl
  have HN2 := Lib.hid hNL
  unfold GotTo
  generalize ((xb, xn, xm) :: (yb, yn, ym) :: D : List Ent) = LL at *
  have HD := Lib.hid hd
  have hN1 : (1 : Int) < (LL.length : Int) := by omega
  have hN0 : (0 : Int) < (LL.length : Int) := by omega
  have hn1 : 1 < LL.length := by omega
  have hn0 : 0 < LL.length := by omega
  clear hd h hk hs hp hNL
  go_enter Tryd.func12, Tryd.ntmps12
  go_upto_region 6 with (first
    | (go_at_call 25; ((with_reducible refine (HD.out _).mono ?_); rintro e w1 ⟨⟨a, n, c, k, nr, ns, pf, pid, info, rfl, rfl, rfl, hE, hpi⟩, hb⟩; have HG := Lib.hid (HYES.out pid info hpi); have HE1 := Lib.hid hE; have HB1 := Lib.hid hb; have HR := Lib.hid (RowAt.new w1 w1.heap.size rfl [.slice a LL.length c, .int .i64 12, .int .i64 (nr : Int), .int .i64 (ns : Int), .bool pf, .int .i64 pid, .string info] 73); clear hb hE hpi; have f1 := HR.out.cell 1 rfl)))
  obtain ⟨g, o, rfl, hg, -⟩ := HE1.out.at_ 0 hn0
  have hsw : w.heap.size < w1.heap.size := Nat.lt_of_lt_of_le (by simp) HB1.out.size
  obtain ⟨FXX, HFX⟩ : ∃ FXX : List Value, Hid (FXX = [.slice (some ⟨g, o, none⟩) LL.length c, .int .i64 12, .int .i64 (nr : Int), .int .i64 (ns : Int), .bool pf, .int .i64 pid, .string info]) := ⟨_, Lib.hid rfl⟩
  have HFC := Lib.hid (show ∀ W, RowAt W w1.heap.size FXX → W.cell? ⟨w1.heap.size, 0, none⟩ = some (.slice (some ⟨g, o, none⟩) LL.length c) ∧ W.cell? ⟨w1.heap.size, 5, none⟩ = some (.int .i64 pid) ∧ W.cell? ⟨w1.heap.size, 6, none⟩ = some (.string info) from fun W h => by
    rw [HFX.out] at h
    exact ⟨h.cell 0 rfl, h.cell 5 rfl, h.cell 6 rfl⟩)
  obtain ⟨w2, hw2⟩ : ∃ w2, w2 = w1.alloc (.cells #[.slice (some ⟨g, o, none⟩) LL.length c, .int .i64 12, .int .i64 (nr : Int), .int .i64 (ns : Int), .bool pf, .int .i64 pid, .string info] 73) := ⟨_, rfl⟩
  have hb1 := HB0.out.trans (HB1.out.mono HB0.out.size)
  have HE2 := Lib.hid (show EntsAt w2 (some ⟨g, o, none⟩) c LL by rw [hw2]; exact HE1.out.alloc _)
  have HP2 := Lib.hid (show P7 w2 w.heap.size (.string ⟨#[]⟩) (.int .i64 0) (.string ⟨#[]⟩) (.int .i64 0) (.slice none 0 0) (.int .i64 0) (.string ⟨#[]⟩) by rw [hw2]; exact (HF0.out.below HB1.out).alloc _)
  have HB2 := Lib.hid (show Below w.heap.size w w2 by rw [hw2]; exact hb1.alloc hb1.size _)
  have hs2 : w2.heap.size = w1.heap.size + 1 := by rw [hw2]; simp
  rw [← hw2] at HR
  rw [← HFX.out] at HR
  rw [← hw2]
  have HCE := Lib.hid (show ∀ W, EntsAt W (some ⟨g, o, none⟩) c LL → W.cell? ⟨g, o, none⟩ = some (.string xb) ∧ W.cell? ⟨g, o + 1, none⟩ = some (.int .i64 xn) ∧ W.cell? ⟨g, o + 3, none⟩ = some (.string yb) ∧ W.cell? ⟨g, o + 3 + 1, none⟩ = some (.int .i64 yn) from fun W h => by
    obtain ⟨a0, a1, -⟩ := h.cells 0 HX0.out
    obtain ⟨b0, b1, -⟩ := h.cells 1 HX1.out
    simp only [Nat.zero_mul, Nat.add_zero, Nat.one_mul] at a0 a1 b0 b1
    exact ⟨a0, a1, b0, b1⟩)
  clear hw2 f1 HB0 HF0 HE1 HB1 hb1 HX0 HX1 HFX
  refine wp_region_held (S := fun W' => RowAt W' w1.heap.size FXX ∧ EntsAt W' (some ⟨g, o, none⟩) c LL) (by kernel_rfl) ?_
  change wpAnyH _ _ _ _ _ _ _ _ (World.drew _)
  have HB := Lib.hid (show RowAt w2.drew w1.heap.size FXX ∧ EntsAt w2.drew (some ⟨g, o, none⟩) c LL from ⟨HR.out.drew, HE2.out.below ((Below.refl _ _).drew)⟩)
  refine wpAnyH_take (i := 0) (v := ?_) rfl (by kernel_rfl) (by kernel_rfl) (by kernel_rfl) (fun _ _ _ h => h) (Or.inl ⟨by rfl, ?_⟩) HB.out ?_
  rotate_left
  · intro w' hw'
    go_simp
    with_reducible rfl
  go_simp
  refine wpAnyH_take (i := 1) (v := ?_) rfl (by kernel_rfl) (by kernel_rfl) (by kernel_rfl) (fun _ _ _ h => h) (Or.inl ⟨by rfl, ?_⟩) HB.out ?_
  rotate_left
  · intro w' hw'
    go_simp
    with_reducible rfl
  go_simp
  refine wpAnyH_take (i := 6) (v := ?_) rfl (by kernel_rfl) (by kernel_rfl) (by kernel_rfl) (fun _ _ _ h => h) (Or.inl ⟨by rfl, ?_⟩) HB.out ?_
  rotate_left
  · intro w' hw'
    go_simp
    with_reducible rfl
  go_simp
  refine wpAnyH_take (i := 7) (v := ?_) rfl (by kernel_rfl) (by kernel_rfl) (by kernel_rfl) (fun _ _ _ h => h) (Or.inl ⟨by rfl, ?_⟩) HB.out ?_
  rotate_left
  · intro w' hw'
    go_simp
    with_reducible rfl
  go_simp
  refine wpAnyH_take (i := 12) (v := ?_) rfl (by kernel_rfl) (by kernel_rfl) (by kernel_rfl) (fun _ _ _ h => h) (Or.inl ⟨by rfl, ?_⟩) HB.out ?_
  rotate_left
  · intro w' hw'
    go_simp
    with_reducible rfl
  go_simp
  refine wpAnyH_take (i := 14) (v := ?_) rfl (by kernel_rfl) (by kernel_rfl) (by kernel_rfl) (fun _ _ _ h => h) (Or.inl ⟨by rfl, ?_⟩) HB.out ?_
  rotate_left
  · intro w' hw'
    go_simp
    with_reducible rfl
  go_simp
  refine wpAnyH_take (i := 2) (v := ?_) rfl (by kernel_rfl) (by kernel_rfl) (by kernel_rfl) (fun _ _ _ h => h) (Or.inl ⟨by rfl, ?_⟩) HB.out ?_
  rotate_left
  · intro w' hw'
    have xx := (HFC.out w' hw'.1).1
    go_simp
    with_reducible rfl
  go_simp
  refine wpAnyH_take (i := 8) (v := ?_) rfl (by kernel_rfl) (by kernel_rfl) (by kernel_rfl) (fun _ _ _ h => h) (Or.inl ⟨by rfl, ?_⟩) HB.out ?_
  rotate_left
  · intro w' hw'
    have xx := (HFC.out w' hw'.1).1
    go_simp
    with_reducible rfl
  go_simp
  refine wpAnyH_take (i := 3) (v := ?_) rfl (by kernel_rfl) (by kernel_rfl) (by kernel_rfl) (fun _ _ _ h => h) (Or.inl ⟨by rfl, ?_⟩) HB.out ?_
  rotate_left
  · intro w' hw'
    go_simp
    with_reducible rfl
  go_simp
  refine wpAnyH_take (i := 4) (v := ?_) rfl (by kernel_rfl) (by kernel_rfl) (by kernel_rfl) (fun _ _ _ h => h) (Or.inl ⟨by rfl, ?_⟩) HB.out ?_
  rotate_left
  · intro w' hw'
    go_simp
    with_reducible rfl
  go_simp
  refine wpAnyH_take (i := 9) (v := ?_) rfl (by kernel_rfl) (by kernel_rfl) (by kernel_rfl) (fun _ _ _ h => h) (Or.inl ⟨by rfl, ?_⟩) HB.out ?_
  rotate_left
  · intro w' hw'
    go_simp
    with_reducible rfl
  go_simp
  refine wpAnyH_take (i := 10) (v := ?_) rfl (by kernel_rfl) (by kernel_rfl) (by kernel_rfl) (fun _ _ _ h => h) (Or.inl ⟨by rfl, ?_⟩) HB.out ?_
  rotate_left
  · intro w' hw'
    go_simp
    with_reducible rfl
  go_simp
  refine wpAnyH_take (i := 5) (v := ?_) rfl (by kernel_rfl) (by kernel_rfl) (by kernel_rfl) (fun _ _ _ h => h) (Or.inl ⟨by rfl, ?_⟩) HB.out ?_
  rotate_left
  · intro w' hw'
    obtain ⟨x0, x1, x2, x3⟩ := HCE.out w' hw'.2
    go_simp
    with_reducible rfl
  go_simp
  refine wpAnyH_take (i := 11) (v := ?_) rfl (by kernel_rfl) (by kernel_rfl) (by kernel_rfl) (fun _ _ _ h => h) (Or.inl ⟨by rfl, ?_⟩) HB.out ?_
  rotate_left
  · intro w' hw'
    obtain ⟨x0, x1, x2, x3⟩ := HCE.out w' hw'.2
    go_simp
    with_reducible rfl
  go_simp
  refine wpAnyH_take (i := 13) (v := ?_) rfl (by kernel_rfl) (by kernel_rfl) (by kernel_rfl) (fun _ _ _ h => h) (Or.inl ⟨by rfl, ?_⟩) HB.out ?_
  rotate_left
  · intro w' hw'
    have xx := (HFC.out w' hw'.1).2.1
    go_simp
    with_reducible rfl
  go_simp
  refine wpAnyH_take (i := 15) (v := ?_) rfl (by kernel_rfl) (by kernel_rfl) (by kernel_rfl) (fun _ _ _ h => h) (Or.inl ⟨by rfl, ?_⟩) HB.out ?_
  rotate_left
  · intro w' hw'
    have xx := (HFC.out w' hw'.1).2.2
    go_simp
    with_reducible rfl
  go_simp
  refine wpAnyH_take (i := 16) (v := ?_) rfl (by kernel_rfl) (by kernel_rfl) (by kernel_rfl) (fun _ _ _ h => h) (Or.inl ⟨by rfl, ?_⟩) HB.out ?_
  rotate_left
  · intro w' hw'
    go_simp
    with_reducible rfl
  go_simp
  refine wpAnyH_ready (rs := [17]) (by kernel_rfl) (by simp) ?_
  refine AllReadyH.cons rfl (fun K hK => ?_) AllReadyH.nil
  go_simp
  replace HB := Lib.hid (show RowAt (w2.alloc (.cells #[.string ⟨#[]⟩, .int .i64 0, .string ⟨#[]⟩, .int .i64 0, .slice none 0 0, .int .i64 0, .string ⟨#[]⟩] 34)).drew w1.heap.size FXX ∧ EntsAt (w2.alloc (.cells #[.string ⟨#[]⟩, .int .i64 0, .string ⟨#[]⟩, .int .i64 0, .slice none 0 0, .int .i64 0, .string ⟨#[]⟩] 34)).drew (some ⟨g, o, none⟩) c LL from ⟨(HR.out.alloc _).drew, (HE2.out.alloc _).below ((Below.refl _ _).drew)⟩)
  refine hK.out _ _ HB.out (fun _ => ?_)
  clear hK K
  refine wpAnyH_ready (rs := [18]) (by kernel_rfl) (by simp) ?_
  refine AllReadyH.cons rfl (fun K hK => ?_) AllReadyH.nil
  go_simp
  clear HB
  have HB := Lib.hid (show RowAt ((w2.alloc (.cells #[.string yb, .int .i64 yn, .string xb, .int .i64 xn, .slice none 0 0, .int .i64 pid, .string info] 34)).drew) w1.heap.size FXX ∧ EntsAt ((w2.alloc (.cells #[.string yb, .int .i64 yn, .string xb, .int .i64 xn, .slice none 0 0, .int .i64 pid, .string info] 34)).drew) (some ⟨g, o, none⟩) c LL from ⟨(HR.out.alloc _).drew, (HE2.out.alloc _).below ((Below.refl _ _).drew)⟩)
  refine hK.out _ _ HB.out (fun _ => ?_)
  clear hK K
  refine wpAnyH_done (by kernel_rfl) ?_ _
  have HU := Lib.hid (show GgU w ((w2.alloc (.cells #[.string yb, .int .i64 yn, .string xb, .int .i64 xn, .slice none 0 0, .int .i64 pid, .string info] 34)).drew) (w1.heap.size + 1) w1.heap.size FXX (some ⟨g, o, none⟩) c LL (.string yb) (.int .i64 yn) (.string xb) (.int .i64 xn) (.slice none 0 0) (.int .i64 pid) (.string info) ((D.take (2 - 2)).map callOf) from
    ⟨(RowAt.new w2 (w1.heap.size + 1) hs2.symm [.string yb, .int .i64 yn, .string xb, .int .i64 xn, .slice none 0 0, .int .i64 pid, .string info] 34).drew, OwnL.nil _ _ _ _, (HB2.out.alloc HB2.out.size _).drew, (HP2.out.alloc _).below ((Below.refl _ _).drew), HB.out.2, HB.out.1, (fun _ q hq => by (rw [← Option.some.inj hq]; show g < w1.heap.size + 1; omega)), (by omega), (by omega), (by show w1.heap.size + 1 < (w2.alloc _).heap.size; simp [hs2])⟩)
  clear HB HE2 HP2 HB2 HR HCE hs2
  generalize (w2.alloc (.cells #[.string yb, .int .i64 yn, .string xb, .int .i64 xn, .slice none 0 0, .int .i64 pid, .string info] 34)).drew = w3 at *
  generalize w1.heap.size = f at *
  go_wp2
  go_loopw [7] (fun i wx => ∃ j : Nat, 2 ≤ j ∧ j ≤ LL.length ∧ i = .int .i64 j ∧ ∃ tv, Hid (GgU w wx (f + 1) f FXX (some ⟨g, o, none⟩) c LL (.string yb) (.int .i64 yn) (.string xb) (.int .i64 xn) tv (.int .i64 pid) (.string info) ((D.take (j - 2)).map callOf))) (fun i _ => LL.length - (intOf i).toNat)
  case atStart => exact ⟨2, Nat.le_refl _, hn1, rfl, _, HU⟩
  case round =>
    obtain ⟨j, hj2, hj, rfl, tv, HQ⟩ := hrel
    clear HU
    have y0 := (HFC.out wr HQ.out.ex).1
    by_cases hlt : j < LL.length
    · have dj : decide ((j : Int) < (LL.length : Int)) = true := decide_eq_true (by omega)
      have hqd : j - 2 < D.length := by have := HN2.out; omega
      have hx := HXN.out (j - 2) hqd
      rw [show j - 2 + 2 = j by omega] at hx
      have hnx := call_next D (j - 2) hqd
      rw [show j - 2 + 1 = j + 1 - 2 by omega] at hnx
      have hle : ((D.take (j - 2)).map callOf).length ≤ 100000 := by simp; omega
      generalize D[j - 2] = d at *
      obtain ⟨db, dn, dm⟩ := d
      simp only at hnx
      generalize (D.take (j - 2)).map callOf = L0 at *
      have HX := Lib.hid hx
      have HNX := Lib.hid hnx
      have HLE := Lib.hid hle
      obtain ⟨ta, tn', tc, htv⟩ := own_form22 HQ.out.own
      subst htv
      clear hx hnx hle hqd
      go_upto_region 10 with fail
      clear y0
      have HK0 := Lib.hid (show ∀ W, Below wr.heap.size wr W → GgU w W (f + 1) f FXX (some ⟨g, o, none⟩) c LL (.string yb) (.int .i64 yn) (.string xb) (.int .i64 xn) (.slice ta tn' tc) (.int .i64 pid) (.string info) L0 from fun W hb => HQ.out.below hb)
      refine wp_region_held (S := fun W' => RowAt W' f FXX ∧ EntsAt W' (some ⟨g, o, none⟩) c LL) (by kernel_rfl) ?_
      change wpAnyH _ _ _ _ _ _ _ _ (World.drew _)
      have HBB := Lib.hid ((Below.refl wr.heap.size wr).drew)
      have HB := Lib.hid (show RowAt wr.drew f FXX ∧ EntsAt wr.drew (some ⟨g, o, none⟩) c LL from ⟨(HK0.out _ HBB.out).ex, (HK0.out _ HBB.out).ents⟩)
      refine wpAnyH_take (i := 0) (v := ?_) rfl (by kernel_rfl) (by kernel_rfl) (by kernel_rfl) (fun _ _ _ h => h) (Or.inl ⟨by rfl, ?_⟩) HB.out ?_
      rotate_left
      · intro w' hw'
        go_simp
        with_reducible rfl
      go_simp
      refine wpAnyH_take (i := 2) (v := ?_) rfl (by kernel_rfl) (by kernel_rfl) (by kernel_rfl) (fun _ _ _ h => h) (Or.inl ⟨by rfl, ?_⟩) HB.out ?_
      rotate_left
      · intro w' hw'
        go_simp
        with_reducible rfl
      go_simp
      refine wpAnyH_take (i := 3) (v := ?_) rfl (by kernel_rfl) (by kernel_rfl) (by kernel_rfl) (fun _ _ _ h => h) (Or.inl ⟨by rfl, ?_⟩) HB.out ?_
      rotate_left
      · intro w' hw'
        go_simp
        with_reducible rfl
      go_simp
      refine wpAnyH_take (i := 5) (v := ?_) rfl (by kernel_rfl) (by kernel_rfl) (by kernel_rfl) (fun _ _ _ h => h) (Or.inl ⟨by rfl, ?_⟩) HB.out ?_
      rotate_left
      · intro w' hw'
        go_simp
        with_reducible rfl
      go_simp
      refine wpAnyH_take (i := 4) (v := ?_) rfl (by kernel_rfl) (by kernel_rfl) (by kernel_rfl) (fun _ _ _ h => h) (Or.inl ⟨by rfl, ?_⟩) HB.out ?_
      rotate_left
      · intro w' hw'
        have xx := (HFC.out w' hw'.1).1
        go_simp
        with_reducible rfl
      go_simp
      refine wpAnyH_take (i := 6) (v := ?_) rfl (by kernel_rfl) (by kernel_rfl) (by kernel_rfl) (fun _ _ _ h => h) (Or.inl ⟨by rfl, ?_⟩) HB.out ?_
      rotate_left
      · intro w' hw'
        go_simp
        with_reducible rfl
      go_simp
      refine wpAnyH_take (i := 7) (v := ?_) rfl (by kernel_rfl) (by kernel_rfl) (by kernel_rfl) (fun _ _ _ h => h) (Or.inl ⟨by rfl, ?_⟩) HB.out ?_
      rotate_left
      · intro w' hw'
        go_simp
        with_reducible rfl
      go_simp
      refine wpAnyH_take (i := 8) (v := ?_) rfl (by kernel_rfl) (by kernel_rfl) (by kernel_rfl) (fun _ _ _ h => h) (Or.inl ⟨by rfl, ?_⟩) HB.out ?_
      rotate_left
      · intro w' hw'
        obtain ⟨x0, x1, -⟩ := hw'.2.cells j HX.out
        go_simp
        with_reducible rfl
      go_simp
      refine wpAnyH_ready (rs := [1, 9]) (by kernel_rfl) (by simp) ?_
      refine AllReadyH.cons rfl (fun K hK => ?_) (AllReadyH.cons rfl (fun K hK => ?_) AllReadyH.nil)
      · have xx : wr.drew.cell? ⟨f + 1, 4, none⟩ = some (.slice ta tn' tc) := (HK0.out _ HBB.out).row.cell 4 rfl
        go_simp
        clear xx
        refine hK.out _ _ HB.out (fun _ => ?_)
        clear hK K
        refine wpAnyH_ready (rs := [9]) (by kernel_rfl) (by simp) ?_
        refine AllReadyH.cons rfl (fun K hK => ?_) AllReadyH.nil
        go_simp
        obtain ⟨w5, hw5⟩ : ∃ w5, w5 = (wr.alloc (.cells #[.string db, .int .i64 dn] 23)).drew := ⟨_, rfl⟩
        have HM := Lib.hid (show AtL encCl w5 (some ⟨wr.heap.size, 0, none⟩) [(db, dn)] by rw [hw5]; exact (AtL.made encCl 23 wr wr.heap.size (db, dn) _ rfl rfl).drew)
        have HB5 := Lib.hid (show Below wr.heap.size wr w5 by rw [hw5]; exact ((Below.refl wr.heap.size wr).alloc (Nat.le_refl _) _).drew)
        rw [← hw5]
        clear hw5 HB
        have HU5 := Lib.hid (HK0.out w5 HB5.out)
        have HB := Lib.hid (show RowAt w5 f FXX ∧ EntsAt w5 (some ⟨g, o, none⟩) c LL from ⟨HU5.out.ex, HU5.out.ents⟩)
        refine hK.out _ _ HB.out (fun _ => ?_)
        clear hK K
        obtain ⟨v4, w4, hrun, hown, hgr, hwh⟩ := run_append_one encCl 23 24 24 Tryd.underlying24 infoCl rfl (by decide) w5 (f + 1 + 1) (.slice ta tn' tc) L0 HU5.out.own wr.heap.size 1 (db, dn) HM.out HLE.out (by have := HU5.out.lt; omega)
        rw [← HNX.out] at hown
        obtain ⟨va, vn, vc, rfl⟩ := own_form22 hown
        obtain ⟨k1, k2, k3, k4⟩ := HU5.out.grown hown hgr hwh
        have HRUN := Lib.hid hrun
        have HU4 := Lib.hid k4
        have HK4 := Lib.hid k1
        clear HB
        have HB := Lib.hid (show RowAt w4 f FXX ∧ EntsAt w4 (some ⟨g, o, none⟩) c LL from ⟨k3, k2⟩)
        clear hrun hown hgr hwh k1 k2 k3 k4
        refine wpAnyH_ready (rs := [10]) (by kernel_rfl) (by simp) ?_
        refine AllReadyH.cons rfl (fun K hK => ?_) AllReadyH.nil
        rw [if_pos (by kernel_rfl)]
        refine wp_append_run (.tmp 48) (.tmp 56) rfl rfl rfl HRUN.out ?_
        go_simp
        refine hK.out _ _ HB.out (fun _ => ?_)
        clear hK K
        refine wpAnyH_take (i := 11) (v := ?_) rfl (by kernel_rfl) (by kernel_rfl) (by kernel_rfl) (fun _ _ _ h => h) (Or.inl ⟨by rfl, ?_⟩) HB.out ?_
        rotate_left
        · intro w' hw'
          go_simp
          with_reducible rfl
        go_simp
        obtain ⟨xx, xy, xz⟩ := HK4.out.get 4 rfl
        refine wpAnyH_ready (rs := [12]) (by kernel_rfl) (by simp) ?_
        refine AllReadyH.cons rfl (fun K hK => ?_) AllReadyH.nil
        go_simp
        clear xx xy xz HB
        have HB := Lib.hid (show RowAt (w4.setCell ⟨f + 1, 4, none⟩ (.slice va vn vc)) f FXX ∧ EntsAt (w4.setCell ⟨f + 1, 4, none⟩ (.slice va vn vc)) (some ⟨g, o, none⟩) c LL from ⟨HU4.out.ex, HU4.out.ents⟩)
        refine hK.out _ _ HB.out (fun _ => ?_)
        clear hK K
        refine wpAnyH_done (by kernel_rfl) ?_ _
        clear HB HK4 HU5
        generalize w4.setCell ⟨f + 1, 4, none⟩ (.slice va vn vc) = w6 at *
        have hll := HN2.out
        go_wp2
        go_roundw
        case rel => exact ⟨j + 1, by omega, by omega, by go_num, _, HU4⟩
        case measure => simp [intOf]; omega
      · go_simp
        obtain ⟨w5, hw5⟩ : ∃ w5, w5 = (wr.alloc (.cells #[.string db, .int .i64 dn] 23)).drew := ⟨_, rfl⟩
        have HM := Lib.hid (show AtL encCl w5 (some ⟨wr.heap.size, 0, none⟩) [(db, dn)] by rw [hw5]; exact (AtL.made encCl 23 wr wr.heap.size (db, dn) _ rfl rfl).drew)
        have HB5 := Lib.hid (show Below wr.heap.size wr w5 by rw [hw5]; exact ((Below.refl wr.heap.size wr).alloc (Nat.le_refl _) _).drew)
        rw [← hw5]
        clear hw5 HB
        have HU5 := Lib.hid (HK0.out w5 HB5.out)
        have HB := Lib.hid (show RowAt w5 f FXX ∧ EntsAt w5 (some ⟨g, o, none⟩) c LL from ⟨HU5.out.ex, HU5.out.ents⟩)
        refine hK.out _ _ HB.out (fun _ => ?_)
        clear hK K
        have xx : w5.cell? ⟨f + 1, 4, none⟩ = some (.slice ta tn' tc) := HU5.out.row.cell 4 rfl
        refine wpAnyH_ready (rs := [1]) (by kernel_rfl) (by simp) ?_
        refine AllReadyH.cons rfl (fun K hK => ?_) AllReadyH.nil
        go_simp
        clear xx
        refine hK.out _ _ HB.out (fun _ => ?_)
        clear hK K
        obtain ⟨v4, w4, hrun, hown, hgr, hwh⟩ := run_append_one encCl 23 24 24 Tryd.underlying24 infoCl rfl (by decide) w5 (f + 1 + 1) (.slice ta tn' tc) L0 HU5.out.own wr.heap.size 1 (db, dn) HM.out HLE.out (by have := HU5.out.lt; omega)
        rw [← HNX.out] at hown
        obtain ⟨va, vn, vc, rfl⟩ := own_form22 hown
        obtain ⟨k1, k2, k3, k4⟩ := HU5.out.grown hown hgr hwh
        have HRUN := Lib.hid hrun
        have HU4 := Lib.hid k4
        have HK4 := Lib.hid k1
        clear HB
        have HB := Lib.hid (show RowAt w4 f FXX ∧ EntsAt w4 (some ⟨g, o, none⟩) c LL from ⟨k3, k2⟩)
        clear hrun hown hgr hwh k1 k2 k3 k4
        refine wpAnyH_ready (rs := [10]) (by kernel_rfl) (by simp) ?_
        refine AllReadyH.cons rfl (fun K hK => ?_) AllReadyH.nil
        rw [if_pos (by kernel_rfl)]
        refine wp_append_run (.tmp 48) (.tmp 56) rfl rfl rfl HRUN.out ?_
        go_simp
        refine hK.out _ _ HB.out (fun _ => ?_)
        clear hK K
        refine wpAnyH_take (i := 11) (v := ?_) rfl (by kernel_rfl) (by kernel_rfl) (by kernel_rfl) (fun _ _ _ h => h) (Or.inl ⟨by rfl, ?_⟩) HB.out ?_
        rotate_left
        · intro w' hw'
          go_simp
          with_reducible rfl
        go_simp
        obtain ⟨xx, xy, xz⟩ := HK4.out.get 4 rfl
        refine wpAnyH_ready (rs := [12]) (by kernel_rfl) (by simp) ?_
        refine AllReadyH.cons rfl (fun K hK => ?_) AllReadyH.nil
        go_simp
        clear xx xy xz HB
        have HB := Lib.hid (show RowAt (w4.setCell ⟨f + 1, 4, none⟩ (.slice va vn vc)) f FXX ∧ EntsAt (w4.setCell ⟨f + 1, 4, none⟩ (.slice va vn vc)) (some ⟨g, o, none⟩) c LL from ⟨HU4.out.ex, HU4.out.ents⟩)
        refine hK.out _ _ HB.out (fun _ => ?_)
        clear hK K
        refine wpAnyH_done (by kernel_rfl) ?_ _
        clear HB HK4 HU5
        generalize w4.setCell ⟨f + 1, 4, none⟩ (.slice va vn vc) = w6 at *
        have hll := HN2.out
        go_wp2
        go_roundw
        case rel => exact ⟨j + 1, by omega, by omega, by go_num, _, HU4⟩
        case measure => simp [intOf]; omega
    · obtain rfl : j = LL.length := by omega
      have dj : decide ((LL.length : Int) < (LL.length : Int)) = false := decide_eq_false (by omega)
      have e : LL.length - 2 = D.length := by have := HN2.out; omega
      rw [e, List.take_length] at HQ
      obtain ⟨va, vc, htv, hat⟩ := HQ.out.own.see
      rw [List.length_map] at htv
      subst htv
      have y0' := HQ.out.row.cell 0 rfl
      have y1 := HQ.out.row.cell 1 rfl
      have y2 := HQ.out.row.cell 2 rfl
      have y3 := HQ.out.row.cell 3 rfl
      have y4 := HQ.out.row.cell 4 rfl
      have y5 := HQ.out.row.cell 5 rfl
      have y6 := HQ.out.row.cell 6 rfl
      obtain ⟨⟨p0, q0, pl⟩, ⟨p1, q1, -⟩, ⟨p2, q2, -⟩, ⟨p3, q3, -⟩, ⟨p4, q4, -⟩, ⟨p5, q5, -⟩, ⟨p6, q6, -⟩⟩ := HQ.out.res
      have HGV := Lib.hid (show grV (got22 s.data.toList) va vc = .agg #[.string yb, .int .i64 yn, .string xb, .int .i64 xn, .slice va D.length vc, .int .i64 pid, .string info] from by rw [HG.out.2]; unfold grV; dsimp only; rw [List.length_map])
      have HGC := Lib.hid (show (got22 s.data.toList).2.2.2.2.1 = D.map callOf from by rw [HG.out.2])
      have HGE := Lib.hid HG.out.1
      have HBF := Lib.hid (set7_below HQ.out.bel (Nat.le_refl _) (.string yb) (.int .i64 yn) (.string xb) (.int .i64 xn) (.slice va D.length vc) (.int .i64 pid) (.string info))
      have hof := HQ.out.own.grown (grown7 (m := w.heap.size) (grown_refl wr (some w.heap.size)) (Or.inr rfl) (.string yb) (.int .i64 yn) (.string xb) (.int .i64 xn) (.slice va D.length vc) (.int .i64 pid) (.string info)) (fun g hv e => by have h1 := (HQ.out.own.ge hv).1; have h2 := HQ.out.lt.1; have h3 := Option.some.inj e; omega)
      obtain ⟨a', c', hv', hA⟩ := hof.see
      simp only [Value.slice.injEq] at hv'
      obtain ⟨rfl, -, -⟩ := hv'
      have HCA := Lib.hid hA.calls
      clear hA hof hat e
      go_wp2
      have S7 := stored7 (.string yb) (.int .i64 yn) (.string xb) (.int .i64 xn) (.slice va D.length vc) (.int .i64 pid) (.string info) HQ.out.res
      exact bodyPost_ret (v := .tuple #[.agg #[.string yb, .int .i64 yn, .string xb, .int .i64 xn, .slice va D.length vc, .int .i64 pid, .string info], .int .i64 0]) (by simp [results, Tryd.results12, go_sem, S7.k0.cell, S7.k1.cell, S7.k2.cell, S7.k3.cell, S7.k4.cell, S7.k5.cell, S7.k6.cell]) rfl ⟨⟨va, vc, by rw [HGV.out, HGE.out]; rfl, by rw [HGC.out]; exact HCA.out⟩, HBF.out⟩
theorem rget22_any (s : ByteArray) (w : World) (hs : s.size ≤ 100000) :
    Calls Tryd.prog 12 #[.string s] w fun e w' => GotTo s.data.toList w e w' := by
  by_cases h : decE s.data.toList false = 0
  · by_cases hk : (ctlOf s.data.toList false).1 = 12
    · exact rget22_yes s w hs h hk
    · exact rget22_kind s w hs h hk
  · exact rget22_no s w hs h
end Go.Proofs.YtadhiknmkiogjaaDoor
