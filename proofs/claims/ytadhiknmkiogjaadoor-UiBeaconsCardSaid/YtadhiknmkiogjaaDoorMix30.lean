/-
The document's own Same, of datagrams that are alike; the law's great.
The document's example of beacons; a beacon that isn't there.
-/
import Derived.Test.YtadhiknmkiogjaaDoorMix27
import Derived.Test.YtadhiknmkiogjaaDoorMix29
import Derived.Deep.QuietTactic
import Derived.Lib.QuietBelow
import Derived.Test.YtadhiknmkiogjaaDoorMix28
namespace Go.Proofs.YtadhiknmkiogjaaDoor
open Go.RowKit Go.Sort
set_option maxRecDepth 20000
set_option maxHeartbeats 1000000 in
theorem same22_yes (fb tb : ByteArray) (fn tn : Int) (a1 a2 : Option Addr) (c1 c2 : Nat) (C : List (ByteArray × Int)) (pid : Int) (t : ByteArray) (w : World) (hC : C.length ≤ 1000) (h1 : CallsAt w a1 C) (h2 : CallsAt w a2 C) :
    Calls Tryd.prog 11 #[.agg #[.string fb, .int .i64 fn, .string tb, .int .i64 tn, .slice a1 C.length c1, .int .i64 pid, .string t], .agg #[.string fb, .int .i64 fn, .string tb, .int .i64 tn, .slice a2 C.length c2, .int .i64 pid, .string t]] w fun e w' => e = .returned (.bool true) ∧ Below w.heap.size w w' := by
  obtain ⟨w2, hw2⟩ : ∃ w2, w2 = (w.alloc (.cells #[.string fb, .int .i64 fn, .string tb, .int .i64 tn, .slice a1 C.length c1, .int .i64 pid, .string t] 34)).alloc (.cells #[.string fb, .int .i64 fn, .string tb, .int .i64 tn, .slice a2 C.length c2, .int .i64 pid, .string t] 34) := ⟨_, rfl⟩
  have HB := Lib.hid (show Below w.heap.size w w2 by rw [hw2]; exact ((Below.refl _ w).alloc (Nat.le_refl _) _).alloc (by simp) _)
  have HR1 := Lib.hid (show RowAt w2 w.heap.size [.string fb, .int .i64 fn, .string tb, .int .i64 tn, .slice a1 C.length c1, .int .i64 pid, .string t] by rw [hw2]; exact (RowAt.new w w.heap.size rfl [.string fb, .int .i64 fn, .string tb, .int .i64 tn, .slice a1 C.length c1, .int .i64 pid, .string t] 34).alloc _)
  have HR2 := Lib.hid (show RowAt w2 (w.heap.size + 1) [.string fb, .int .i64 fn, .string tb, .int .i64 tn, .slice a2 C.length c2, .int .i64 pid, .string t] by rw [hw2]; exact RowAt.new (w.alloc _) (w.heap.size + 1) (by simp) [.string fb, .int .i64 fn, .string tb, .int .i64 tn, .slice a2 C.length c2, .int .i64 pid, .string t] 34)
  have H1 := Lib.hid (h1.below HB.out)
  have H2 := Lib.hid (h2.below HB.out)
  have ef := fun W => run_eq_call18 fb fb fn fn W true (decide_eq_true rfl).symm
  have et := fun W => run_eq_call18 tb tb tn tn W true (decide_eq_true rfl).symm
  have x0 := HR1.out.cell 0 rfl
  have x1 := HR1.out.cell 1 rfl
  have x2 := HR1.out.cell 2 rfl
  have x3 := HR1.out.cell 3 rfl
  have x4 := HR1.out.cell 4 rfl
  have x5 := HR1.out.cell 5 rfl
  have x6 := HR1.out.cell 6 rfl
  have y0 := HR2.out.cell 0 rfl
  have y1 := HR2.out.cell 1 rfl
  have y2 := HR2.out.cell 2 rfl
  have y3 := HR2.out.cell 3 rfl
  have y4 := HR2.out.cell 4 rfl
  have y5 := HR2.out.cell 5 rfl
  have y6 := HR2.out.cell 6 rfl
  clear h1 h2
  go_enter Tryd.func11, Tryd.ntmps11
  go_upto_region 1 with fail
  rw [← hw2]
  clear hw2
  go_wp2
  go_loopw [5] (fun i wx => ∃ j : Nat, j ≤ C.length ∧ i = .int .i64 j ∧ Hid (Below w2.heap.size w2 wx)) (fun i _ => C.length - (intOf i).toNat)
  case atStart => exact ⟨0, Nat.zero_le _, rfl, Lib.hid (Below.refl _ _)⟩
  case round =>
    obtain ⟨j, hj, rfl, HQ⟩ := hrel
    clear x0 x1 x2 x3 x4 x5 x6 y0 y1 y2 y3 y4 y5 y6
    have x4 := (HR1.out.below HQ.out).cell 4 rfl
    have y4 := (HR2.out.below HQ.out).cell 4 rfl
    by_cases hlt : j < C.length
    · have dj : decide ((j : Int) < (C.length : Int)) = true := decide_eq_true (by omega)
      have dj2 : decide (j < C.length) = true := decide_eq_true hlt
      obtain ⟨g, o, rfl, hg, b0, b1⟩ := (H1.out.below HQ.out) j hlt
      obtain ⟨g', o', rfl, hg', d0, d1⟩ := (H2.out.below HQ.out) j hlt
      generalize C[j] = d at *
      obtain ⟨db, dn⟩ := d
      simp only at b0 b1 d0 d1
      have ed := fun W => run_eq_call18 db db dn dn W true (decide_eq_true rfl).symm
      clear hg hg' ef et
      go_upto_region 6 with fail
      go_quiet (fail)
      go_wp2
      go_roundw
      case rel => exact ⟨j + 1, by omega, by go_num, Lib.hid ⟨HQ.out.os, HQ.out.tape, HQ.out.output, HQ.out.size, HQ.out.block⟩⟩
      case measure => simp [intOf]; omega
    · obtain rfl : j = C.length := by omega
      have dj : decide ((C.length : Int) < (C.length : Int)) = false := decide_eq_false (by omega)
      go_wp2
      exact bodyPost_ret (v := .bool true) (by simp [results, Tryd.results11, go_sem]) rfl ⟨rfl, HB.out.trans (HQ.out.mono HB.out.size)⟩
/-- more than is played? -/
def great22 (n : Nat) (m : Nat) : Bool := decide (30 < n) || decide (2000 < m)
theorem great22_any (fb tb : ByteArray) (fn tn : Int) (a : Option Addr) (n c : Nat) (pid : Int) (t : ByteArray) (w : World) :
    Calls Tryd.prog 7 #[.agg #[.string fb, .int .i64 fn, .string tb, .int .i64 tn, .slice a n c, .int .i64 pid, .string t]] w fun e w' => e = .returned (.bool (great22 n t.size)) ∧ Below w.heap.size w w' := by
  obtain ⟨r, hr⟩ : ∃ r, great22 n t.size = r := ⟨_, rfl⟩
  rw [hr]
  have HB := Lib.hid ((Below.refl w.heap.size w).alloc (Nat.le_refl _) (.cells #[.string fb, .int .i64 fn, .string tb, .int .i64 tn, .slice a n c, .int .i64 pid, .string t] 26))
  unfold great22 at hr
  have HR := Lib.hid hr
  clear hr
  by_cases h1 : 30 < n
  · have d1 : decide ((30 : Int) < (n : Int)) = true := decide_eq_true (by omega)
    have HE := Lib.hid (show true = r by rw [← HR.out, decide_eq_true h1]; rfl)
    clear h1
    go_enter Tryd.func7, Tryd.ntmps7
    go_wp2_with fail
    exact bodyPost_ret (v := .bool true) (by simp [results, Tryd.results7, go_sem]) rfl ⟨by rw [HE.out], HB.out⟩
  · have d1 : decide ((30 : Int) < (n : Int)) = false := decide_eq_false (by omega)
    by_cases h2 : 2000 < t.size
    · have d2 : decide ((2000 : Int) < (t.size : Int)) = true := decide_eq_true (by omega)
      have HE := Lib.hid (show true = r by rw [← HR.out, decide_eq_true h2, Bool.or_true])
      clear h1 h2
      go_enter Tryd.func7, Tryd.ntmps7
      go_wp2_with fail
      exact bodyPost_ret (v := .bool true) (by simp [results, Tryd.results7, go_sem]) rfl ⟨by rw [HE.out], HB.out⟩
    · have d2 : decide ((2000 : Int) < (t.size : Int)) = false := decide_eq_false (by omega)
      have HE := Lib.hid (show false = r by rw [← HR.out, decide_eq_false h1, decide_eq_false h2]; rfl)
      clear h1 h2
      go_enter Tryd.func7, Tryd.ntmps7
      go_wp2_with fail
      exact bodyPost_ret (v := .bool false) (by simp [results, Tryd.results7, go_sem]) rfl ⟨by rw [HE.out], HB.out⟩
theorem great22_no {n m : Nat} (h : great22 n m = false) : n ≤ 30 ∧ m ≤ 2000 := by
  unfold great22 at h
  rw [Bool.or_eq_false_iff, decide_eq_false_iff_not, decide_eq_false_iff_not] at h
  omega
end Go.Proofs.YtadhiknmkiogjaaDoor
namespace Go.Proofs.YtadhiknmkiogjaaDoor
open Go.RowKit Go.Sort
set_option maxRecDepth 20000
theorem exE22 : gramE ⟨#[65]⟩ ⟨#[73, 68]⟩ 0 0 [] 240 2 = 0 := by decide +kernel
set_option maxHeartbeats 1000000 in
theorem cawake22 (w : World) (hC : CodesOk w) : Calls Tryd.prog 6 #[] w fun e w' => e = .returned (.bool true) ∧ Below w.heap.size w w' := by
  have HNE := Lib.hid (fun W => cnew22 ⟨#[65]⟩ 0 W (by decide))
  rw [show rightD ⟨#[65]⟩ 0 = true from by decide +kernel] at HNE
  simp only [if_true] at HNE
  obtain ⟨S, hS⟩ : ∃ S, S = gramS ⟨#[65]⟩ ⟨#[73, 68]⟩ 0 0 [] 240 ⟨#[104, 105]⟩ := ⟨_, rfl⟩
  obtain ⟨g1, g2, g3⟩ := got_put22 ⟨#[65]⟩ ⟨#[73, 68]⟩ 0 0 [] 240 ⟨#[104, 105]⟩ exE22
  rw [← hS] at g1 g2 g3
  have HSE := Lib.hid (show ∀ W p, Below w.heap.size w W → RowAt W p (bcV ⟨#[65]⟩ 0 0 0 ⟨#[]⟩) → Calls Tryd.prog 17 #[ptrB p, .int .i64 2, .agg #[.string ⟨#[]⟩, .int .i64 0, .string ⟨#[73, 68]⟩, .int .i64 0, .slice none 0 0, .int .i64 0, .string ⟨#[104, 105]⟩]] W fun e w' => e = .returned (.int .i64 0) ∧ RowAt w' p (bcV ⟨#[65]⟩ 0 2 2 S) ∧ Turn (fun k => k = p) W w' from fun W p hb h => by
    have k := cset_go W p ⟨#[65]⟩ 0 0 0 ⟨#[]⟩ h (hC.below hb) 2 (by decide) ⟨#[]⟩ ⟨#[73, 68]⟩ 0 0 none 0 [] 0 ⟨#[104, 105]⟩ (by decide) (fun k hk => absurd hk (Nat.not_lt_zero _)) (by decide) (by decide) (fun x hx => absurd hx (by simp)) 0 exE22.symm S hS
    simp only [if_true] at k
    exact k)
  have HT1 := Lib.hid (show ∀ W p, RowAt W p (bcV ⟨#[65]⟩ 0 2 2 S) → Calls Tryd.prog 15 #[ptrB p] W fun e w' => e = .returned (.tuple #[.string ⟨#[]⟩, .bool false]) ∧ RowAt w' p (bcV ⟨#[65]⟩ 0 2 1 S) ∧ Turn (fun k => k = p) W w' from fun W p h => ctick22 W p _ 0 2 2 S h (by omega) (by decide))
  have HT2 := Lib.hid (show ∀ W p, RowAt W p (bcV ⟨#[65]⟩ 0 2 1 S) → Calls Tryd.prog 15 #[ptrB p] W fun e w' => e = .returned (.tuple #[.string S, .bool true]) ∧ RowAt w' p (bcV ⟨#[65]⟩ 0 2 2 S) ∧ Turn (fun k => k = p) W w' from fun W p h => ctick22 W p _ 0 2 1 S h (by omega) (by decide))
  have HGE := Lib.hid (show ∀ W, Below w.heap.size w W → Calls Tryd.prog 10 #[.string S] W fun e w' => (∃ a c, e = .returned (.tuple #[.agg #[.string ⟨#[65]⟩, .int .i64 0, .string ⟨#[73, 68]⟩, .int .i64 0, .slice a 0 c, .int .i64 240, .string ⟨#[104, 105]⟩], .int .i64 0])) ∧ Below W.heap.size W w' from fun W hb => (uget_any S W (by omega) (hC.below hb)).mono fun e w' hq => by
    obtain ⟨⟨a, c, h1, -⟩, h2⟩ := hq
    rw [g1, g2] at h1
    exact ⟨⟨a, c, h1⟩, h2⟩)
  have he := fun W => run_eq_call18 ⟨#[65]⟩ ⟨#[65]⟩ 0 0 W true (decide_eq_true rfl).symm
  clear hS g1 g2 g3 hC
  go_enter Tryd.func6, Tryd.ntmps6
  go_wp2_with (first
    | (go_at_call 13; (with_reducible refine (HNE.out _).mono ?_); rintro e w1 ⟨⟨p, rfl, hpl, hr⟩, hb⟩; have HB1 := Lib.hid hb; have HR1 := Lib.hid hr; have HPL := Lib.hid hpl; clear hb hr hpl)
    | (go_at_call 17; (with_reducible refine (HSE.out _ p HB1.out HR1.out).mono ?_); rintro e w2 ⟨rfl, hr, ht⟩; have HB2 := Lib.hid (HB1.out.trans (ht.below HB1.out.size (fun k hk => by rw [hk]; exact HPL.out))); have HR2 := Lib.hid hr; clear hr ht)
    | (go_at_call 15; (with_reducible refine (HT1.out _ p HR2.out).mono ?_); rintro e w3 ⟨rfl, hr, ht⟩; have HB3 := Lib.hid (HB2.out.trans (ht.below HB2.out.size (fun k hk => by rw [hk]; exact HPL.out))); have HR3 := Lib.hid hr; clear hr ht)
    | (go_at_call 15; (with_reducible refine (HT2.out _ p HR3.out).mono ?_); rintro e w4 ⟨rfl, hr, ht⟩; have HB4 := Lib.hid (HB3.out.trans (ht.below HB3.out.size (fun k hk => by rw [hk]; exact HPL.out))); clear hr ht)
    | (go_at_call 10; (with_reducible refine (HGE.out _ HB4.out).mono ?_); rintro e w5 ⟨⟨a, c, rfl⟩, hb⟩; have hb5 := HB4.out.trans (hb.mono HB4.out.size); have HB5 := Lib.hid (hb5.alloc hb5.size (.cells #[.string ⟨#[65]⟩, .int .i64 0, .string ⟨#[73, 68]⟩, .int .i64 0, .slice a 0 c, .int .i64 240, .string ⟨#[104, 105]⟩] 26)); have HG5 := Lib.hid (RowAt.new w5 w5.heap.size rfl [.string ⟨#[65]⟩, .int .i64 0, .string ⟨#[73, 68]⟩, .int .i64 0, .slice a 0 c, .int .i64 240, .string ⟨#[104, 105]⟩] 26); clear hb hb5; have y0 := HG5.out.cell 0 rfl; have y1 := HG5.out.cell 1 rfl; have y5 := HG5.out.cell 5 rfl; have y6 := HG5.out.cell 6 rfl))
  exact bodyPost_ret (v := .bool true) (by simp [results, Tryd.results6, go_sem]) rfl ⟨rfl, HB5.out⟩
set_option maxHeartbeats 1000000 in
theorem uinone_any (N : Int) (fb tb : ByteArray) (fn tn : Int) (a : Option Addr) (m c : Nat) (pid : Int) (t : ByteArray) (w : World) (hC : CodesOk w) :
    Calls Tryd.prog 5 #[.int .i64 N, .agg #[.string fb, .int .i64 fn, .string tb, .int .i64 tn, .slice a m c, .int .i64 pid, .string t]] w fun e w' => e = .returned (.bool true) ∧ Below w.heap.size w w' := by
  have hb0 := (Below.refl w.heap.size w).alloc (Nat.le_refl _) (.cells #[.string fb, .int .i64 fn, .string tb, .int .i64 tn, .slice a m c, .int .i64 pid, .string t] 26)
  have HB0 := Lib.hid hb0
  have HR0 := Lib.hid (RowAt.new w w.heap.size rfl [.string fb, .int .i64 fn, .string tb, .int .i64 tn, .slice a m c, .int .i64 pid, .string t] 26)
  have HAW := Lib.hid (fun W (hb : Below w.heap.size w W) => cawake22 W (hC.below hb))
  have HGR := Lib.hid (fun W => great22_any fb tb fn tn a m c pid t W)
  have HT0 := Lib.hid (fun W => ctick0 W)
  have HS0 := Lib.hid (fun W => cset0 W N a m c fb tb t fn tn pid)
  have HE0 := Lib.hid (fun W => cevery0 W)
  have HL0 := Lib.hid (fun W => cleft0 W)
  clear hb0 hC
  cases hg : great22 m t.size with
  | true =>
    rw [hg] at HGR
    clear hg
    go_enter Tryd.func5, Tryd.ntmps5
    go_wp2_with (first
      | (go_at_call 6; (with_reducible refine (HAW.out _ HB0.out).mono ?_); rintro e w1 ⟨rfl, hb⟩; have HB1 := Lib.hid (HB0.out.trans (hb.mono HB0.out.size)); have HR1 := Lib.hid (HR0.out.below hb); clear hb; have x0 := HR1.out.cell 0 rfl; have x1 := HR1.out.cell 1 rfl; have x2 := HR1.out.cell 2 rfl; have x3 := HR1.out.cell 3 rfl; have x4 := HR1.out.cell 4 rfl; have x5 := HR1.out.cell 5 rfl; have x6 := HR1.out.cell 6 rfl)
      | (go_at_call 7; (with_reducible refine (HGR.out _).mono ?_); rintro e w2 ⟨rfl, hb⟩; have HB2 := Lib.hid (HB1.out.trans (hb.mono HB1.out.size)); clear hb))
    exact bodyPost_ret (v := .bool true) (by simp [results, Tryd.results5, go_sem]) rfl ⟨rfl, HB2.out⟩
  | false =>
    rw [hg] at HGR
    clear hg
    go_enter Tryd.func5, Tryd.ntmps5
    go_wp2_with (first
      | (go_at_call 6; (with_reducible refine (HAW.out _ HB0.out).mono ?_); rintro e w1 ⟨rfl, hb⟩; have HB1 := Lib.hid (HB0.out.trans (hb.mono HB0.out.size)); have HR1 := Lib.hid (HR0.out.below hb); clear hb; have x0 := HR1.out.cell 0 rfl; have x1 := HR1.out.cell 1 rfl; have x2 := HR1.out.cell 2 rfl; have x3 := HR1.out.cell 3 rfl; have x4 := HR1.out.cell 4 rfl; have x5 := HR1.out.cell 5 rfl; have x6 := HR1.out.cell 6 rfl)
      | (go_at_call 7; (with_reducible refine (HGR.out _).mono ?_); rintro e w2 ⟨rfl, hb⟩; have HB2 := Lib.hid (HB1.out.trans (hb.mono HB1.out.size)); have HR2 := Lib.hid (HR1.out.below hb); clear hb x0 x1 x2 x3 x4 x5 x6; have x0 := HR2.out.cell 0 rfl; have x1 := HR2.out.cell 1 rfl; have x2 := HR2.out.cell 2 rfl; have x3 := HR2.out.cell 3 rfl; have x4 := HR2.out.cell 4 rfl; have x5 := HR2.out.cell 5 rfl; have x6 := HR2.out.cell 6 rfl)
      | (go_at_call 15; (with_reducible refine (HT0.out _).mono ?_); rintro e w2 ⟨rfl, rfl⟩)
      | (go_at_call 17; (with_reducible refine (HS0.out _).mono ?_); rintro e w3 ⟨rfl, hb⟩; have HB3 := Lib.hid (HB2.out.trans (hb.mono HB2.out.size)); clear hb)
      | (go_at_call 18; (with_reducible refine (HE0.out _).mono ?_); rintro e w3 ⟨rfl, rfl⟩)
      | (go_at_call 19; (with_reducible refine (HL0.out _).mono ?_); rintro e w3 ⟨rfl, rfl⟩))
    exact bodyPost_ret (v := .bool true) (by simp [results, Tryd.results5, go_sem]) rfl ⟨rfl, HB3.out⟩
end Go.Proofs.YtadhiknmkiogjaaDoor
