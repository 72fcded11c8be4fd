/-
The walk of UiPuts.
-/
import Derived.Test.YtadhiknmkiogjaaDoorMix30
import Derived.Test.YtadhiknmkiogjaaDoorMix34
import Derived.Test.YtadhiknmkiogjaaDoorUiRGet
namespace Go.Proofs.YtadhiknmkiogjaaDoor
open Go.RowKit Go.Sort
set_option maxRecDepth 20000
theorem got_len22 (s : List UInt8) : (got22 s).2.2.2.2.1.length ≤ 10 := by
  unfold got22
  split
  · split
    · rename_i x y D b r hp hd
      have hl := getP_len 10 [] s rfl
      rw [hp] at hl
      simp only [List.length_map]
      simp only [List.length_cons] at hl
      omega
    · exact Nat.zero_le _
  · exact Nat.zero_le _
set_option maxHeartbeats 2000000 in
theorem uiputs_any (fb tb : ByteArray) (fn tn : Int) (a : Option Addr) (cap : Nat) (C : List (ByteArray × Int)) (pid : Int) (t s : ByteArray) (w : World) (hCo : CodesOk w) (hE : CallsAt w a C)
    (hf : fb.size ≤ 140737488351232) (ht : tb.size ≤ 140737488351232) (hs : ∀ x ∈ C, x.1.size ≤ 140737488351232) :
    Calls Tryd.prog 3 #[.agg #[.string fb, .int .i64 fn, .string tb, .int .i64 tn, .slice a C.length cap, .int .i64 pid, .string t], .string s] w fun e w' => e = .returned (.bool true) ∧ Below w.heap.size w w' := by
  have hb0 := (Below.refl w.heap.size w).alloc (Nat.le_refl _) (.cells #[.string fb, .int .i64 fn, .string tb, .int .i64 tn, .slice a C.length cap, .int .i64 pid, .string t] 26)
  have HB0 := Lib.hid hb0
  have HR0 := Lib.hid (RowAt.new w w.heap.size rfl [.string fb, .int .i64 fn, .string tb, .int .i64 tn, .slice a C.length cap, .int .i64 pid, .string t] 26)
  have HAW := Lib.hid (fun W (hb : Below w.heap.size w W) => cawake22 W (hCo.below hb))
  have HGR := Lib.hid (fun W => great22_any fb tb fn tn a C.length cap pid t W)
  cases hg : great22 C.length t.size with
  | true =>
    rw [hg] at HGR
    clear hg hb0 hCo hE hf ht hs
    go_enter Tryd.func3, Tryd.ntmps3
    go_wp2_with (first
      | (go_at_call 6; (with_reducible refine (HAW.out _ HB0.out).mono ?_); rintro e w1 ⟨rfl, hb⟩; have HB1 := Lib.hid (HB0.out.trans (hb.mono HB0.out.size)); have HR1 := Lib.hid (HR0.out.below hb); clear hb; have x0 := HR1.out.cell 0 rfl; have x1 := HR1.out.cell 1 rfl; have x2 := HR1.out.cell 2 rfl; have x3 := HR1.out.cell 3 rfl; have x4 := HR1.out.cell 4 rfl; have x5 := HR1.out.cell 5 rfl; have x6 := HR1.out.cell 6 rfl)
      | (go_at_call 7; (with_reducible refine (HGR.out _).mono ?_); rintro e w2 ⟨rfl, hb⟩; have HB2 := Lib.hid (HB1.out.trans (hb.mono HB1.out.size)); have HR2 := Lib.hid (HR1.out.below hb); clear hb; clear x0 x1 x2 x3 x4 x5 x6; have x0 := HR2.out.cell 0 rfl; have x1 := HR2.out.cell 1 rfl; have x2 := HR2.out.cell 2 rfl; have x3 := HR2.out.cell 3 rfl; have x4 := HR2.out.cell 4 rfl; have x5 := HR2.out.cell 5 rfl; have x6 := HR2.out.cell 6 rfl))
    exact bodyPost_ret (v := .bool true) (by simp [results, Tryd.results3, go_sem]) rfl ⟨rfl, HB2.out⟩
  | false =>
    obtain ⟨hg1, hg2⟩ := great22_no hg
    rw [hg] at HGR
    clear hg
    by_cases hsz : 2000 < s.size
    · have d2 : decide ((2000 : Int) < (s.size : Int)) = true := decide_eq_true (by omega)
      clear hb0 hCo hE hf ht hs hsz hg1 hg2
      go_enter Tryd.func3, Tryd.ntmps3
      go_wp2_with (first
        | (go_at_call 6; (with_reducible refine (HAW.out _ HB0.out).mono ?_); rintro e w1 ⟨rfl, hb⟩; have HB1 := Lib.hid (HB0.out.trans (hb.mono HB0.out.size)); have HR1 := Lib.hid (HR0.out.below hb); clear hb; have x0 := HR1.out.cell 0 rfl; have x1 := HR1.out.cell 1 rfl; have x2 := HR1.out.cell 2 rfl; have x3 := HR1.out.cell 3 rfl; have x4 := HR1.out.cell 4 rfl; have x5 := HR1.out.cell 5 rfl; have x6 := HR1.out.cell 6 rfl)
        | (go_at_call 7; (with_reducible refine (HGR.out _).mono ?_); rintro e w2 ⟨rfl, hb⟩; have HB2 := Lib.hid (HB1.out.trans (hb.mono HB1.out.size)); have HR2 := Lib.hid (HR1.out.below hb); clear hb; clear x0 x1 x2 x3 x4 x5 x6; have x0 := HR2.out.cell 0 rfl; have x1 := HR2.out.cell 1 rfl; have x2 := HR2.out.cell 2 rfl; have x3 := HR2.out.cell 3 rfl; have x4 := HR2.out.cell 4 rfl; have x5 := HR2.out.cell 5 rfl; have x6 := HR2.out.cell 6 rfl))
      exact bodyPost_ret (v := .bool true) (by simp [results, Tryd.results3, go_sem]) rfl ⟨rfl, HB2.out⟩
    · have d2 : decide ((2000 : Int) < (s.size : Int)) = false := decide_eq_false (by omega)
      obtain ⟨S, hS⟩ : ∃ S, S = gramS fb tb fn tn C pid t := ⟨_, rfl⟩
      obtain ⟨E, hEE⟩ : ∃ E, E = gramE fb tb fn tn C pid t.size := ⟨_, rfl⟩
      have HPU := Lib.hid (show ∀ W, Below w.heap.size w W → Calls Tryd.prog 8 #[.agg #[.string fb, .int .i64 fn, .string tb, .int .i64 tn, .slice a C.length cap, .int .i64 pid, .string t]] W fun e w' => e = .returned (.tuple #[.string S, .int .i64 (E : Nat)]) ∧ Below W.heap.size W w' from fun W hb => by rw [hS, hEE]; exact uput_any fb tb fn tn a cap C pid t W (hCo.below hb) (by omega) (hE.below hb) hf ht hs)
      have HRP := Lib.hid (show ∀ W, Below w.heap.size w W → Calls Tryd.prog 9 #[.agg #[.string fb, .int .i64 fn, .string tb, .int .i64 tn, .slice a C.length cap, .int .i64 pid, .string t]] W fun e w' => e = .returned (.tuple #[.string S, .int .i64 (E : Nat)]) ∧ Below W.heap.size W w' from fun W hb => by rw [hS, hEE]; exact rput22_any fb tb fn tn a cap C pid t W (by omega) (hE.below hb))
      have hql := got_len22 s.data.toList
      have hg2' := fun W (hb : Below w.heap.size w W) => uget_any s W (by omega) (hCo.below hb)
      have hg3' := fun W => rget22_any s W (by omega)
      unfold GotTo at hg2' hg3'
      obtain ⟨qe0, hqe0⟩ : ∃ q, q = getE22 s.data.toList := ⟨_, rfl⟩
      rw [← hqe0] at hg2' hg3'
      generalize got22 s.data.toList = q at *
      obtain ⟨qa, qb, qc, qd, Q, qe, qf⟩ := q
      have HG2 := Lib.hid (show ∀ W, Below w.heap.size w W → Calls Tryd.prog 10 #[.string s] W fun e w' => (∃ a7 c7, e = .returned (.tuple #[.agg #[.string qa, .int .i64 qb, .string qc, .int .i64 qd, .slice a7 Q.length c7, .int .i64 qe, .string qf], .int .i64 (qe0 : Nat)]) ∧ CallsAt w' a7 Q) ∧ Below W.heap.size W w' from hg2')
      have HG3 := Lib.hid (show ∀ W, Calls Tryd.prog 12 #[.string s] W fun e w' => (∃ a8 c8, e = .returned (.tuple #[.agg #[.string qa, .int .i64 qb, .string qc, .int .i64 qd, .slice a8 Q.length c8, .int .i64 qe, .string qf], .int .i64 (qe0 : Nat)]) ∧ CallsAt w' a8 Q) ∧ Below W.heap.size W w' from hg3')
      have HSM2 := Lib.hid (show ∀ a7 a8 c7 c8 W, CallsAt W a7 Q → CallsAt W a8 Q → Calls Tryd.prog 11 #[.agg #[.string qa, .int .i64 qb, .string qc, .int .i64 qd, .slice a7 Q.length c7, .int .i64 qe, .string qf], .agg #[.string qa, .int .i64 qb, .string qc, .int .i64 qd, .slice a8 Q.length c8, .int .i64 qe, .string qf]] W fun e w' => e = .returned (.bool true) ∧ Below W.heap.size W w' from fun a7 a8 c7 c8 W h1 h2 => same22_yes qa qc qb qd a7 a8 c7 c8 Q qe qf W (by have : Q.length ≤ 10 := hql; omega) h1 h2)
      clear hg2' hg3' hqe0 hql
      have hss : (S.toList == S.toList) = true := beq_self_eq_true _
      by_cases h0 : E = 0
      · have hz : ((E : Int) == 0) = true := by rw [h0]; rfl
        obtain ⟨g1, g2, g3⟩ := got_put22 fb tb fn tn C pid t (hEE.symm.trans h0)
        rw [← hS] at g1 g2 g3
        have HG1 := Lib.hid (show ∀ W, Below w.heap.size w W → Calls Tryd.prog 10 #[.string S] W fun e w' => (∃ a5 c5, e = .returned (.tuple #[.agg #[.string fb, .int .i64 fn, .string tb, .int .i64 tn, .slice a5 C.length c5, .int .i64 pid, .string t], .int .i64 0]) ∧ CallsAt w' a5 C) ∧ Below W.heap.size W w' from fun W hb => by
          have k := uget_any S W (by omega) (hCo.below hb)
          unfold GotTo at k
          rw [g1, g2] at k
          exact k)
        have HSM1 := Lib.hid (show ∀ a5 c5 W, Below w.heap.size w W → CallsAt W a5 C → Calls Tryd.prog 11 #[.agg #[.string fb, .int .i64 fn, .string tb, .int .i64 tn, .slice a5 C.length c5, .int .i64 pid, .string t], .agg #[.string fb, .int .i64 fn, .string tb, .int .i64 tn, .slice a C.length cap, .int .i64 pid, .string t]] W fun e w' => e = .returned (.bool true) ∧ Below W.heap.size W w' from fun a5 c5 W hb h1 => same22_yes fb tb fn tn a5 a c5 cap C pid t W (by omega) h1 (hE.below hb))
        clear hb0 hCo hE hf ht hs hsz hg1 hg2 hS hEE h0 g1 g2 g3
        go_enter Tryd.func3, Tryd.ntmps3
        go_wp2_with (first
          | (go_at_call 6; (with_reducible refine (HAW.out _ HB0.out).mono ?_); rintro e w1 ⟨rfl, hb⟩; have HB1 := Lib.hid (HB0.out.trans (hb.mono HB0.out.size)); have HR1 := Lib.hid (HR0.out.below hb); clear hb; have x0 := HR1.out.cell 0 rfl; have x1 := HR1.out.cell 1 rfl; have x2 := HR1.out.cell 2 rfl; have x3 := HR1.out.cell 3 rfl; have x4 := HR1.out.cell 4 rfl; have x5 := HR1.out.cell 5 rfl; have x6 := HR1.out.cell 6 rfl)
          | (go_at_call 7; (with_reducible refine (HGR.out _).mono ?_); rintro e w2 ⟨rfl, hb⟩; have HB2 := Lib.hid (HB1.out.trans (hb.mono HB1.out.size)); have HR2 := Lib.hid (HR1.out.below hb); clear hb; clear x0 x1 x2 x3 x4 x5 x6; have x0 := HR2.out.cell 0 rfl; have x1 := HR2.out.cell 1 rfl; have x2 := HR2.out.cell 2 rfl; have x3 := HR2.out.cell 3 rfl; have x4 := HR2.out.cell 4 rfl; have x5 := HR2.out.cell 5 rfl; have x6 := HR2.out.cell 6 rfl)
          | (go_at_call 8; (with_reducible refine (HPU.out _ HB2.out).mono ?_); rintro e w3 ⟨rfl, hb⟩; have HB3 := Lib.hid (HB2.out.trans (hb.mono HB2.out.size)); have HR3 := Lib.hid (HR2.out.below hb); clear hb; clear x0 x1 x2 x3 x4 x5 x6; have x0 := HR3.out.cell 0 rfl; have x1 := HR3.out.cell 1 rfl; have x2 := HR3.out.cell 2 rfl; have x3 := HR3.out.cell 3 rfl; have x4 := HR3.out.cell 4 rfl; have x5 := HR3.out.cell 5 rfl; have x6 := HR3.out.cell 6 rfl)
          | (go_at_call 9; (with_reducible refine (HRP.out _ HB3.out).mono ?_); rintro e w4 ⟨rfl, hb⟩; have HB4 := Lib.hid (HB3.out.trans (hb.mono HB3.out.size)); have HR4 := Lib.hid (HR3.out.below hb); clear hb; clear x0 x1 x2 x3 x4 x5 x6; have x0 := HR4.out.cell 0 rfl; have x1 := HR4.out.cell 1 rfl; have x2 := HR4.out.cell 2 rfl; have x3 := HR4.out.cell 3 rfl; have x4 := HR4.out.cell 4 rfl; have x5 := HR4.out.cell 5 rfl; have x6 := HR4.out.cell 6 rfl)
          | (go_at_call 10; (with_reducible refine (HG1.out _ HB4.out).mono ?_); rintro e w5 ⟨⟨a5, c5, rfl, hca⟩, hb⟩; have hb5 := HB4.out.trans (hb.mono HB4.out.size); have HB5 := Lib.hid (hb5.alloc hb5.size (.cells #[.string fb, .int .i64 fn, .string tb, .int .i64 tn, .slice a5 C.length c5, .int .i64 pid, .string t] 26)); have HR5 := Lib.hid ((HR4.out.below hb).alloc (.cells #[.string fb, .int .i64 fn, .string tb, .int .i64 tn, .slice a5 C.length c5, .int .i64 pid, .string t] 26)); have HY5 := Lib.hid (RowAt.new w5 w5.heap.size rfl [.string fb, .int .i64 fn, .string tb, .int .i64 tn, .slice a5 C.length c5, .int .i64 pid, .string t] 26); have HC5 := Lib.hid (hca.below ((Below.refl _ w5).alloc (Nat.le_refl _) (.cells #[.string fb, .int .i64 fn, .string tb, .int .i64 tn, .slice a5 C.length c5, .int .i64 pid, .string t] 26))); clear hb hb5 hca; clear x0 x1 x2 x3 x4 x5 x6; have x0 := HR5.out.cell 0 rfl; have x1 := HR5.out.cell 1 rfl; have x2 := HR5.out.cell 2 rfl; have x3 := HR5.out.cell 3 rfl; have x4 := HR5.out.cell 4 rfl; have x5 := HR5.out.cell 5 rfl; have x6 := HR5.out.cell 6 rfl; have y0 := HY5.out.cell 0 rfl; have y1 := HY5.out.cell 1 rfl; have y2 := HY5.out.cell 2 rfl; have y3 := HY5.out.cell 3 rfl; have y4 := HY5.out.cell 4 rfl; have y5 := HY5.out.cell 5 rfl; have y6 := HY5.out.cell 6 rfl)
          | (go_at_call 11; (with_reducible refine (HSM1.out a5 c5 _ HB5.out HC5.out).mono ?_); rintro e w6 ⟨rfl, hb⟩; have HB6 := Lib.hid (HB5.out.trans (hb.mono HB5.out.size)); clear hb; clear x0 x1 x2 x3 x4 x5 x6; clear y0 y1 y2 y3 y4 y5 y6)
          | (go_at_call 10; (with_reducible refine (HG2.out _ HB6.out).mono ?_); rintro e w7 ⟨⟨a7, c7, rfl, hca⟩, hb⟩; have hb7 := HB6.out.trans (hb.mono HB6.out.size); have HB7 := Lib.hid (hb7.alloc hb7.size (.cells #[.string qa, .int .i64 qb, .string qc, .int .i64 qd, .slice a7 Q.length c7, .int .i64 qe, .string qf] 26)); have HY7 := Lib.hid (RowAt.new w7 w7.heap.size rfl [.string qa, .int .i64 qb, .string qc, .int .i64 qd, .slice a7 Q.length c7, .int .i64 qe, .string qf] 26); have HC7 := Lib.hid (hca.below ((Below.refl _ w7).alloc (Nat.le_refl _) (.cells #[.string qa, .int .i64 qb, .string qc, .int .i64 qd, .slice a7 Q.length c7, .int .i64 qe, .string qf] 26))); clear hb hb7 hca)
          | (go_at_call 12; (with_reducible refine (HG3.out _).mono ?_); rintro e w8 ⟨⟨a8, c8, rfl, hca⟩, hb⟩; have hb8 := HB7.out.trans (hb.mono HB7.out.size); have HB8 := Lib.hid (hb8.alloc hb8.size (.cells #[.string qa, .int .i64 qb, .string qc, .int .i64 qd, .slice a8 Q.length c8, .int .i64 qe, .string qf] 34)); have HY8 := Lib.hid (RowAt.new w8 w8.heap.size rfl [.string qa, .int .i64 qb, .string qc, .int .i64 qd, .slice a8 Q.length c8, .int .i64 qe, .string qf] 34); have HZ7 := Lib.hid ((HY7.out.below hb).alloc (.cells #[.string qa, .int .i64 qb, .string qc, .int .i64 qd, .slice a8 Q.length c8, .int .i64 qe, .string qf] 34)); have HD7 := Lib.hid ((HC7.out.below hb).below ((Below.refl _ w8).alloc (Nat.le_refl _) (.cells #[.string qa, .int .i64 qb, .string qc, .int .i64 qd, .slice a8 Q.length c8, .int .i64 qe, .string qf] 34))); have HC8 := Lib.hid (hca.below ((Below.refl _ w8).alloc (Nat.le_refl _) (.cells #[.string qa, .int .i64 qb, .string qc, .int .i64 qd, .slice a8 Q.length c8, .int .i64 qe, .string qf] 34))); clear hb hb8 hca; have y0 := HZ7.out.cell 0 rfl; have y1 := HZ7.out.cell 1 rfl; have y2 := HZ7.out.cell 2 rfl; have y3 := HZ7.out.cell 3 rfl; have y4 := HZ7.out.cell 4 rfl; have y5 := HZ7.out.cell 5 rfl; have y6 := HZ7.out.cell 6 rfl; have z0 := HY8.out.cell 0 rfl; have z1 := HY8.out.cell 1 rfl; have z2 := HY8.out.cell 2 rfl; have z3 := HY8.out.cell 3 rfl; have z4 := HY8.out.cell 4 rfl; have z5 := HY8.out.cell 5 rfl; have z6 := HY8.out.cell 6 rfl)
          | (go_at_call 11; (with_reducible refine (HSM2.out a7 a8 c7 c8 _ HD7.out HC8.out).mono ?_); rintro e w9 ⟨rfl, hb⟩; have HB9 := Lib.hid (HB8.out.trans (hb.mono HB8.out.size)); clear hb))
        exact bodyPost_ret (v := .bool true) (by simp [results, Tryd.results3, go_sem]) rfl ⟨rfl, HB9.out⟩
      · have hz : ((E : Int) == 0) = false := by rw [beq_eq_false_iff_ne]; omega
        clear hb0 hCo hE hf ht hs hsz hg1 hg2 hS hEE h0
        go_enter Tryd.func3, Tryd.ntmps3
        go_wp2_with (first
          | (go_at_call 6; (with_reducible refine (HAW.out _ HB0.out).mono ?_); rintro e w1 ⟨rfl, hb⟩; have HB1 := Lib.hid (HB0.out.trans (hb.mono HB0.out.size)); have HR1 := Lib.hid (HR0.out.below hb); clear hb; have x0 := HR1.out.cell 0 rfl; have x1 := HR1.out.cell 1 rfl; have x2 := HR1.out.cell 2 rfl; have x3 := HR1.out.cell 3 rfl; have x4 := HR1.out.cell 4 rfl; have x5 := HR1.out.cell 5 rfl; have x6 := HR1.out.cell 6 rfl)
          | (go_at_call 7; (with_reducible refine (HGR.out _).mono ?_); rintro e w2 ⟨rfl, hb⟩; have HB2 := Lib.hid (HB1.out.trans (hb.mono HB1.out.size)); have HR2 := Lib.hid (HR1.out.below hb); clear hb; clear x0 x1 x2 x3 x4 x5 x6; have x0 := HR2.out.cell 0 rfl; have x1 := HR2.out.cell 1 rfl; have x2 := HR2.out.cell 2 rfl; have x3 := HR2.out.cell 3 rfl; have x4 := HR2.out.cell 4 rfl; have x5 := HR2.out.cell 5 rfl; have x6 := HR2.out.cell 6 rfl)
          | (go_at_call 8; (with_reducible refine (HPU.out _ HB2.out).mono ?_); rintro e w3 ⟨rfl, hb⟩; have HB3 := Lib.hid (HB2.out.trans (hb.mono HB2.out.size)); have HR3 := Lib.hid (HR2.out.below hb); clear hb; clear x0 x1 x2 x3 x4 x5 x6; have x0 := HR3.out.cell 0 rfl; have x1 := HR3.out.cell 1 rfl; have x2 := HR3.out.cell 2 rfl; have x3 := HR3.out.cell 3 rfl; have x4 := HR3.out.cell 4 rfl; have x5 := HR3.out.cell 5 rfl; have x6 := HR3.out.cell 6 rfl)
          | (go_at_call 9; (with_reducible refine (HRP.out _ HB3.out).mono ?_); rintro e w4 ⟨rfl, hb⟩; have HB4 := Lib.hid (HB3.out.trans (hb.mono HB3.out.size)); have HR4 := Lib.hid (HR3.out.below hb); clear hb; clear x0 x1 x2 x3 x4 x5 x6; have x0 := HR4.out.cell 0 rfl; have x1 := HR4.out.cell 1 rfl; have x2 := HR4.out.cell 2 rfl; have x3 := HR4.out.cell 3 rfl; have x4 := HR4.out.cell 4 rfl; have x5 := HR4.out.cell 5 rfl; have x6 := HR4.out.cell 6 rfl)
          | (go_at_call 10; (with_reducible refine (HG2.out _ HB4.out).mono ?_); rintro e w7 ⟨⟨a7, c7, rfl, hca⟩, hb⟩; have hb7 := HB4.out.trans (hb.mono HB4.out.size); have HB7 := Lib.hid (hb7.alloc hb7.size (.cells #[.string qa, .int .i64 qb, .string qc, .int .i64 qd, .slice a7 Q.length c7, .int .i64 qe, .string qf] 26)); have HY7 := Lib.hid (RowAt.new w7 w7.heap.size rfl [.string qa, .int .i64 qb, .string qc, .int .i64 qd, .slice a7 Q.length c7, .int .i64 qe, .string qf] 26); have HC7 := Lib.hid (hca.below ((Below.refl _ w7).alloc (Nat.le_refl _) (.cells #[.string qa, .int .i64 qb, .string qc, .int .i64 qd, .slice a7 Q.length c7, .int .i64 qe, .string qf] 26))); clear hb hb7 hca)
          | (go_at_call 12; (with_reducible refine (HG3.out _).mono ?_); rintro e w8 ⟨⟨a8, c8, rfl, hca⟩, hb⟩; have hb8 := HB7.out.trans (hb.mono HB7.out.size); have HB8 := Lib.hid (hb8.alloc hb8.size (.cells #[.string qa, .int .i64 qb, .string qc, .int .i64 qd, .slice a8 Q.length c8, .int .i64 qe, .string qf] 34)); have HY8 := Lib.hid (RowAt.new w8 w8.heap.size rfl [.string qa, .int .i64 qb, .string qc, .int .i64 qd, .slice a8 Q.length c8, .int .i64 qe, .string qf] 34); have HZ7 := Lib.hid ((HY7.out.below hb).alloc (.cells #[.string qa, .int .i64 qb, .string qc, .int .i64 qd, .slice a8 Q.length c8, .int .i64 qe, .string qf] 34)); have HD7 := Lib.hid ((HC7.out.below hb).below ((Below.refl _ w8).alloc (Nat.le_refl _) (.cells #[.string qa, .int .i64 qb, .string qc, .int .i64 qd, .slice a8 Q.length c8, .int .i64 qe, .string qf] 34))); have HC8 := Lib.hid (hca.below ((Below.refl _ w8).alloc (Nat.le_refl _) (.cells #[.string qa, .int .i64 qb, .string qc, .int .i64 qd, .slice a8 Q.length c8, .int .i64 qe, .string qf] 34))); clear hb hb8 hca; have y0 := HZ7.out.cell 0 rfl; have y1 := HZ7.out.cell 1 rfl; have y2 := HZ7.out.cell 2 rfl; have y3 := HZ7.out.cell 3 rfl; have y4 := HZ7.out.cell 4 rfl; have y5 := HZ7.out.cell 5 rfl; have y6 := HZ7.out.cell 6 rfl; have z0 := HY8.out.cell 0 rfl; have z1 := HY8.out.cell 1 rfl; have z2 := HY8.out.cell 2 rfl; have z3 := HY8.out.cell 3 rfl; have z4 := HY8.out.cell 4 rfl; have z5 := HY8.out.cell 5 rfl; have z6 := HY8.out.cell 6 rfl)
          | (go_at_call 11; (with_reducible refine (HSM2.out a7 a8 c7 c8 _ HD7.out HC8.out).mono ?_); rintro e w9 ⟨rfl, hb⟩; have HB9 := Lib.hid (HB8.out.trans (hb.mono HB8.out.size)); clear hb))
        exact bodyPost_ret (v := .bool true) (by simp [results, Tryd.results3, go_sem]) rfl ⟨rfl, HB9.out⟩
end Go.Proofs.YtadhiknmkiogjaaDoor
