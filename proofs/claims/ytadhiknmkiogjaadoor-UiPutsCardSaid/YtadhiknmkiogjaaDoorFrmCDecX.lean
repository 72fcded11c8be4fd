/-
The landed code's Decode of any bytes.
-/
import Derived.Test.YtadhiknmkiogjaaDoorMix13
import Derived.Test.YtadhiknmkiogjaaDoorMix04
import Derived.Test.YtadhiknmkiogjaaDoorCtlRGetA
import Derived.Test.YtadhiknmkiogjaaDoorDigRDec
namespace Go.Proofs.YtadhiknmkiogjaaDoor
open Go.RowKit Go.Sort
set_option maxRecDepth 20000
/-- where what stands behind path and control begins -/
def headN (s : List UInt8) (wide : Bool) : Nat := 7 * (getP 10 [] s).2.length + (ctlOf s wide).2.2.2.2.1
/-- pid and information -/
def PidInf (s : List UInt8) (wide : Bool) (pid : Int) (info : List UInt8) : Prop :=
  (pidD ((ctlOf s wide).1 : Int) = false → pid = 0 ∧ info = s.drop (headN s wide)) ∧ (pidD ((ctlOf s wide).1 : Int) = true → ∃ b : UInt8, s.drop (headN s wide) = b :: info ∧ pid = (b.toNat : Int))
/-- what it answers -/
def FDecTo (s : List UInt8) (wide : Bool) (w : World) (e : Ending) (w' : World) : Prop :=
  (decE s wide ≠ 0 → e = .returned (.tuple #[zeroF, .int .i64 (decE s wide : Nat)])) ∧
  (decE s wide = 0 → ∃ (x y : Ent) (D : List Ent) (da : Option Addr) (dc : Nat) (pid : Int) (info : ByteArray), (getP 10 [] s).2 = x :: y :: D ∧ e = .returned (.tuple #[.agg #[.string x.1, .int .i64 x.2.1, .string y.1, .int .i64 y.2.1, .bool x.2.2, .bool y.2.2, .slice da D.length dc, .int .i64 ((ctlOf s wide).1 : Nat), .int .i64 ((ctlOf s wide).2.1 : Nat), .int .i64 ((ctlOf s wide).2.2.1 : Nat), .bool (ctlOf s wide).2.2.2.1, .int .i64 pid, .string info], .int .i64 0]) ∧ EntsAt w' da dc D ∧ (∀ q, da = some q → w.heap.size ≤ q.block) ∧ PidInf s wide pid info.data.toList) ∧ Below w.heap.size w w'
set_option maxHeartbeats 2000000 in
theorem fdecx_beg (s : ByteArray) (wide : Bool) (w : World) (hs : s.size ≤ 100000) (hC : CodesOk w) (h : begE s.data.toList wide ≠ 0) :
    Calls Tryd.prog 24 #[.string s, .bool wide] w fun e w' => FDecTo s.data.toList wide w e w' := by
  have hb : decE s.data.toList wide = begE s.data.toList wide := by unfold decE; rw [if_pos h]
  unfold FDecTo
  rw [hb]
  have hbg := fun W (hb : Below w.heap.size w W) => (begin_any s wide W hs (hC.below hb)).mono fun e w' hq => And.intro (hq.1 h) hq.2.2
  have HB0 := Lib.hid ((Below.refl _ w).alloc (Nat.le_refl _) (.cells #[.string ⟨#[]⟩, .int .i64 0, .string ⟨#[]⟩, .int .i64 0, .bool false, .bool false, .slice none 0 0, .int .i64 0, .int .i64 0, .int .i64 0, .bool false, .int .i64 0, .string ⟨#[]⟩] 65))
  have HF0 := Lib.hid (F13.new w w.heap.size rfl (.string ⟨#[]⟩) (.int .i64 0) (.string ⟨#[]⟩) (.int .i64 0) (.bool false) (.bool false) (.slice none 0 0) (.int .i64 0) (.int .i64 0) (.int .i64 0) (.bool false) (.int .i64 0) (.string ⟨#[]⟩) 65)
  unfold zeroF at hbg
  generalize begE s.data.toList wide = E at *
  have hz : ((E : Int) != 0) = true := by rw [bne_iff_ne]; omega
  have HBG := Lib.hid hbg
  have HNZ := Lib.hid h
  clear hbg h hb hC
  go_enter Tryd.func24, Tryd.ntmps24
  go_wp2_with (go_at_call 42; (with_reducible refine (HBG.out _ HB0.out).mono ?_); rintro e w1 ⟨rfl, hb⟩; have hb1 := HB0.out.trans (hb.mono HB0.out.size); have HB := Lib.hid (hb1.alloc hb1.size (.cells #[.string ⟨#[]⟩, .int .i64 0, .string ⟨#[]⟩, .int .i64 0, .bool false, .bool false, .slice none 0 0, .int .i64 0, .int .i64 0, .int .i64 0, .bool false, .int .i64 0, .string ⟨#[]⟩] 65)); have HF := Lib.hid ((HF0.out.below hb).alloc (.cells #[.string ⟨#[]⟩, .int .i64 0, .string ⟨#[]⟩, .int .i64 0, .bool false, .bool false, .slice none 0 0, .int .i64 0, .int .i64 0, .int .i64 0, .bool false, .int .i64 0, .string ⟨#[]⟩] 65)); clear hb hb1; obtain ⟨⟨p0, q0, pl⟩, ⟨p1, q1, -⟩, ⟨p2, q2, -⟩, ⟨p3, q3, -⟩, ⟨p4, q4, -⟩, ⟨p5, q5, -⟩, ⟨p6, q6, -⟩, ⟨p7, q7, -⟩, ⟨p8, q8, -⟩, ⟨p9, q9, -⟩, ⟨p10, q10, -⟩, ⟨p11, q11, -⟩, ⟨p12, q12, -⟩⟩ := HF.out)
  have S9 := F13.stored HF.out (.string ⟨#[]⟩) (.int .i64 0) (.string ⟨#[]⟩) (.int .i64 0) (.bool false) (.bool false) (.slice none 0 0) (.int .i64 0) (.int .i64 0) (.int .i64 0) (.bool false) (.int .i64 0) (.string ⟨#[]⟩)
  have HBF := Lib.hid (set13_below HB.out (Nat.le_refl _) (.string ⟨#[]⟩) (.int .i64 0) (.string ⟨#[]⟩) (.int .i64 0) (.bool false) (.bool false) (.slice none 0 0) (.int .i64 0) (.int .i64 0) (.int .i64 0) (.bool false) (.int .i64 0) (.string ⟨#[]⟩))
  exact bodyPost_ret (v := .tuple #[zeroF, .int .i64 (E : Int)]) (by simp [results, Tryd.results24, go_sem, zeroF, S9.k0.cell, S9.k1.cell, S9.k2.cell, S9.k3.cell, S9.k4.cell, S9.k5.cell, S9.k6.cell, S9.k7.cell, S9.k8.cell, S9.k9.cell, S9.k10.cell, S9.k11.cell, S9.k12.cell]) rfl ⟨fun _ => rfl, fun h => absurd h HNZ.out, HBF.out⟩
set_option maxHeartbeats 4000000 in
theorem fdecx_bare (s : ByteArray) (wide : Bool) (w : World) (hs : s.size ≤ 100000) (hC : CodesOk w) (h : begE s.data.toList wide = 0) (hp : pidD ((ctlOf s.data.toList wide).1 : Int) = false) :
    Calls Tryd.prog 24 #[.string s, .bool wide] w fun e w' => FDecTo s.data.toList wide w e w' := by
  have hgp : (getP 10 [] s.data.toList).1 = 0 := by
    unfold begE at h
    by_cases hq : (getP 10 [] s.data.toList).1 = 0
    · exact hq
    · rw [if_pos hq] at h
      exact h
  have hlen := getP_bytes s.data.toList hgp
  have hsl : s.data.toList.length = s.size := by simp
  have hml := refget_len (s.data.toList.drop (7 * (getP 10 [] s.data.toList).2.length)) wide
  rw [List.length_drop, hsl] at hml
  have hco : ctlOf s.data.toList wide = refGet (s.data.toList.drop (7 * (getP 10 [] s.data.toList).2.length)) wide := rfl
  rw [← hco] at hml
  have hAs : headN s.data.toList wide ≤ s.size := by unfold headN; omega
  obtain ⟨J, hJ, hcut⟩ := slice_at s (headN s.data.toList wide) hAs
  have hJl : J.data.toList.length = J.size := by simp
  have hJz : J.size = s.size - headN s.data.toList wide := by rw [← hJl, hJ, List.length_drop, hsl]
  have hde : decE s.data.toList wide = if pidD ((ctlOf s.data.toList wide).1 : Int) = true then (if s.size ≤ headN s.data.toList wide then 4 else infE ((ctlOf s.data.toList wide).1 : Int) (s.size - (headN s.data.toList wide + 1))) else infE ((ctlOf s.data.toList wide).1 : Int) (s.size - headN s.data.toList wide) := by
    unfold decE headN
    rw [h, if_neg (fun q => q rfl), hsl]
  have hbg := fun W (hb : Below w.heap.size w W) => (begin_any s wide W hs (hC.below hb)).mono fun e w' hq => And.intro (hq.2.1 h) hq.2.2
  have hN : headN s.data.toList wide = 7 * (getP 10 [] s.data.toList).2.length + (ctlOf s.data.toList wide).2.2.2.2.1 := rfl
  rw [← hN] at hbg
  have HB0 := Lib.hid ((Below.refl _ w).alloc (Nat.le_refl _) (.cells #[.string ⟨#[]⟩, .int .i64 0, .string ⟨#[]⟩, .int .i64 0, .bool false, .bool false, .slice none 0 0, .int .i64 0, .int .i64 0, .int .i64 0, .bool false, .int .i64 0, .string ⟨#[]⟩] 65))
  have HF0 := Lib.hid (F13.new w w.heap.size rfl (.string ⟨#[]⟩) (.int .i64 0) (.string ⟨#[]⟩) (.int .i64 0) (.bool false) (.bool false) (.slice none 0 0) (.int .i64 0) (.int .i64 0) (.int .i64 0) (.bool false) (.int .i64 0) (.string ⟨#[]⟩) 65)
  unfold FDecTo PidInf
  generalize headN s.data.toList wide = A at *
  generalize ctlOf s.data.toList wide = C at *
  obtain ⟨k, nr, ns, pf, m, er⟩ := C
  dsimp only at hbg hde hp ⊢
  generalize (getP 10 [] s.data.toList).2 = L at *
  generalize decE s.data.toList wide = E at *
  have hpd := fun W => pid_any (k : Int) W
  rw [hp] at hpd
  have HPD := Lib.hid hpd
  have HBG := Lib.hid hbg
  rw [if_neg (by rw [hp]; decide), ← hJz] at hde
  have HIN := Lib.hid (show ∀ (xb yb : ByteArray) (xn yn : Int) (xm ym : Bool) (D : List Ent) da dc W, Calls Tryd.prog 43 #[.agg #[.string xb, .int .i64 xn, .string yb, .int .i64 yn, .bool xm, .bool ym, .slice da D.length dc, .int .i64 (k : Int), .int .i64 (nr : Int), .int .i64 (ns : Int), .bool pf, .int .i64 0, .string J]] W fun e w' => e = .returned (.int .i64 (E : Int)) ∧ Below W.heap.size W w' from fun xb yb xn yn xm ym D da dc W => by
    have k9 := inffault_any xb yb xn yn xm ym da D.length dc k nr ns pf 0 J W
    rw [← hde] at k9
    exact k9)
  have HCL := Lib.hid (fun W => clone_any J W (by omega))
  have HJ := Lib.hid hJ
  have HPP := Lib.hid hp
  clear hde hbg hpd hJ hJz hJl hml hco hN hAs hsl hlen hgp h hC hp
  by_cases hE0 : E = 0
  · subst hE0
    rw [show (((0 : Nat) : Int)) = 0 from rfl] at HIN
    go_enter Tryd.func24, Tryd.ntmps24
    go_wp2_with (first
      | (go_at_call 42; (with_reducible refine (HBG.out _ HB0.out).mono ?_); rintro e w1 ⟨⟨⟨xb, xn, xm⟩, ⟨yb, yn, ym⟩, D, da, dc, hx, rfl, hE⟩, hb⟩; have HX := Lib.hid hx; clear hx; have hb1 := HB0.out.trans (hb.mono HB0.out.size); have HA := Lib.hid (show DcAt w (w1.alloc (.cells #[.string xb, .int .i64 xn, .string yb, .int .i64 yn, .bool xm, .bool ym, .slice da D.length dc, .int .i64 (k : Int), .int .i64 (nr : Int), .int .i64 (ns : Int), .bool pf, .int .i64 0, .string J] 65)) w1.heap.size (.slice da D.length dc) (.string xb) (.int .i64 xn) (.string yb) (.int .i64 yn) (.bool xm) (.bool ym) (.slice da D.length dc) (.int .i64 (k : Int)) (.int .i64 (nr : Int)) (.int .i64 (ns : Int)) (.bool pf) (.int .i64 0) (.string J) D from ⟨(HF0.out.below hb).alloc _, F13.new w1 _ rfl _ _ _ _ _ _ _ _ _ _ _ _ _ _, (hE.base (by simp)).alloc _, hb1.alloc hb1.size _, Nat.lt_of_lt_of_le (by simp) hb.size, fun g hv => (hE.ge hv).2⟩); clear hb hb1 hE)
      | (go_at_call 34; (with_reducible refine (HPD.out _).mono ?_); rintro e w2 ⟨rfl, rfl⟩)
      | (go_at_call 43; (with_reducible refine (HIN.out xb yb xn yn xm ym D da dc _).mono ?_); rintro e w3 ⟨rfl, hb⟩; replace HA := Lib.hid (HA.out.below hb); clear hb)
      | (go_at_call 27; (with_reducible refine (HCL.out _).mono ?_); rintro e w4 ⟨rfl, hb⟩; replace HA := Lib.hid (HA.out.below hb); clear hb; have HA5 := Lib.hid (HA.out.info (.string J)); have hne := HA.out.rm; have hne2 : ¬ w1.heap.size = w.heap.size := (by omega); obtain ⟨⟨p0, q0, pl⟩, ⟨p1, q1, -⟩, ⟨p2, q2, -⟩, ⟨p3, q3, -⟩, ⟨p4, q4, -⟩, ⟨p5, q5, -⟩, ⟨p6, q6, -⟩, ⟨p7, q7, -⟩, ⟨p8, q8, -⟩, ⟨p9, q9, -⟩, ⟨p10, q10, -⟩, ⟨p11, q11, -⟩, ⟨p12, q12, -⟩⟩ := HA.out.res; obtain ⟨⟨b0, z0, bl⟩, ⟨b1, z1, -⟩, ⟨b2, z2, -⟩, ⟨b3, z3, -⟩, ⟨b4, z4, -⟩, ⟨b5, z5, -⟩, ⟨b6, z6, -⟩, ⟨b7, z7, -⟩, ⟨b8, z8, -⟩, ⟨b9, z9, -⟩, ⟨b10, z10, -⟩, ⟨b11, z11, -⟩, ⟨b12, z12, -⟩⟩ := HA.out.box))
    have S9 := F13.stored HA5.out.res (.string xb) (.int .i64 xn) (.string yb) (.int .i64 yn) (.bool xm) (.bool ym) (.slice da D.length dc) (.int .i64 (k : Int)) (.int .i64 (nr : Int)) (.int .i64 (ns : Int)) (.bool pf) (.int .i64 0) (.string J)
    have HBF := Lib.hid (set13_below HA5.out.bel (Nat.le_refl _) (.string xb) (.int .i64 xn) (.string yb) (.int .i64 yn) (.bool xm) (.bool ym) (.slice da D.length dc) (.int .i64 (k : Int)) (.int .i64 (nr : Int)) (.int .i64 (ns : Int)) (.bool pf) (.int .i64 0) (.string J))
    have HEF := Lib.hid (ents_of_own (own13 HA5.out.own (Nat.lt_succ_self _) (.string xb) (.int .i64 xn) (.string yb) (.int .i64 yn) (.bool xm) (.bool ym) (.slice da D.length dc) (.int .i64 (k : Int)) (.int .i64 (nr : Int)) (.int .i64 (ns : Int)) (.bool pf) (.int .i64 0) (.string J)))
    have HEO := Lib.hid (show ∀ q, da = some q → w.heap.size ≤ q.block from fun q hq => Nat.le_of_succ_le (HA5.out.own.ge (g := q.block) (by rw [hq]; rfl)).1)
    exact bodyPost_ret (v := .tuple #[.agg #[.string xb, .int .i64 xn, .string yb, .int .i64 yn, .bool xm, .bool ym, .slice da D.length dc, .int .i64 (k : Int), .int .i64 (nr : Int), .int .i64 (ns : Int), .bool pf, .int .i64 0, .string J], .int .i64 0]) (by simp [results, Tryd.results24, go_sem, S9.k0.cell, S9.k1.cell, S9.k2.cell, S9.k3.cell, S9.k4.cell, S9.k5.cell, S9.k6.cell, S9.k7.cell, S9.k8.cell, S9.k9.cell, S9.k10.cell, S9.k11.cell, S9.k12.cell]) rfl ⟨fun h => absurd rfl h, fun _ => ⟨(xb, xn, xm), (yb, yn, ym), D, da, dc, 0, J, HX.out, rfl, HEF.out, HEO.out, fun _ => ⟨rfl, HJ.out⟩, fun hq => absurd (HPP.out.symm.trans hq) (by decide)⟩, HBF.out⟩
  · have hz : ((E : Int) != 0) = true := by rw [bne_iff_ne]; omega
    have HNZ := Lib.hid hE0
    clear hE0
    go_enter Tryd.func24, Tryd.ntmps24
    go_wp2_with (first
      | (go_at_call 42; (with_reducible refine (HBG.out _ HB0.out).mono ?_); rintro e w1 ⟨⟨⟨xb, xn, xm⟩, ⟨yb, yn, ym⟩, D, da, dc, hx, rfl, hE⟩, hb⟩; have HX := Lib.hid hx; clear hx; have hb1 := HB0.out.trans (hb.mono HB0.out.size); have HA := Lib.hid (show DcAt w (w1.alloc (.cells #[.string xb, .int .i64 xn, .string yb, .int .i64 yn, .bool xm, .bool ym, .slice da D.length dc, .int .i64 (k : Int), .int .i64 (nr : Int), .int .i64 (ns : Int), .bool pf, .int .i64 0, .string J] 65)) w1.heap.size (.slice da D.length dc) (.string xb) (.int .i64 xn) (.string yb) (.int .i64 yn) (.bool xm) (.bool ym) (.slice da D.length dc) (.int .i64 (k : Int)) (.int .i64 (nr : Int)) (.int .i64 (ns : Int)) (.bool pf) (.int .i64 0) (.string J) D from ⟨(HF0.out.below hb).alloc _, F13.new w1 _ rfl _ _ _ _ _ _ _ _ _ _ _ _ _ _, (hE.base (by simp)).alloc _, hb1.alloc hb1.size _, Nat.lt_of_lt_of_le (by simp) hb.size, fun g hv => (hE.ge hv).2⟩); clear hb hb1 hE)
      | (go_at_call 34; (with_reducible refine (HPD.out _).mono ?_); rintro e w2 ⟨rfl, rfl⟩)
      | (go_at_call 43; (with_reducible refine (HIN.out xb yb xn yn xm ym D da dc _).mono ?_); rintro e w3 ⟨rfl, hb⟩; replace HA := Lib.hid (HA.out.below hb); clear hb; have HR := Lib.hid HA.out.res; have HBR := Lib.hid HA.out.bel; obtain ⟨⟨p0, q0, pl⟩, ⟨p1, q1, -⟩, ⟨p2, q2, -⟩, ⟨p3, q3, -⟩, ⟨p4, q4, -⟩, ⟨p5, q5, -⟩, ⟨p6, q6, -⟩, ⟨p7, q7, -⟩, ⟨p8, q8, -⟩, ⟨p9, q9, -⟩, ⟨p10, q10, -⟩, ⟨p11, q11, -⟩, ⟨p12, q12, -⟩⟩ := HA.out.res))
    have S9 := F13.stored HR.out (.string ⟨#[]⟩) (.int .i64 0) (.string ⟨#[]⟩) (.int .i64 0) (.bool false) (.bool false) (.slice none 0 0) (.int .i64 0) (.int .i64 0) (.int .i64 0) (.bool false) (.int .i64 0) (.string ⟨#[]⟩)
    have HBF := Lib.hid (set13_below HBR.out (Nat.le_refl _) (.string ⟨#[]⟩) (.int .i64 0) (.string ⟨#[]⟩) (.int .i64 0) (.bool false) (.bool false) (.slice none 0 0) (.int .i64 0) (.int .i64 0) (.int .i64 0) (.bool false) (.int .i64 0) (.string ⟨#[]⟩))
    exact bodyPost_ret (v := .tuple #[zeroF, .int .i64 (E : Int)]) (by simp [results, Tryd.results24, go_sem, zeroF, S9.k0.cell, S9.k1.cell, S9.k2.cell, S9.k3.cell, S9.k4.cell, S9.k5.cell, S9.k6.cell, S9.k7.cell, S9.k8.cell, S9.k9.cell, S9.k10.cell, S9.k11.cell, S9.k12.cell]) rfl ⟨fun _ => rfl, fun h => absurd h HNZ.out, HBF.out⟩
set_option maxHeartbeats 4000000 in
theorem fdecx_pid (s : ByteArray) (wide : Bool) (w : World) (hs : s.size ≤ 100000) (hC : CodesOk w) (h : begE s.data.toList wide = 0) (hp : pidD ((ctlOf s.data.toList wide).1 : Int) = true) :
    Calls Tryd.prog 24 #[.string s, .bool wide] w fun e w' => FDecTo s.data.toList wide w e w' := by
  have hgp : (getP 10 [] s.data.toList).1 = 0 := by
    unfold begE at h
    by_cases hq : (getP 10 [] s.data.toList).1 = 0
    · exact hq
    · rw [if_pos hq] at h
      exact h
  have hlen := getP_bytes s.data.toList hgp
  have hsl : s.data.toList.length = s.size := by simp
  have hml := refget_len (s.data.toList.drop (7 * (getP 10 [] s.data.toList).2.length)) wide
  rw [List.length_drop, hsl] at hml
  have hco : ctlOf s.data.toList wide = refGet (s.data.toList.drop (7 * (getP 10 [] s.data.toList).2.length)) wide := rfl
  rw [← hco] at hml
  have hAs : headN s.data.toList wide ≤ s.size := by unfold headN; omega
  obtain ⟨J, hJ, hcut⟩ := slice_at s (headN s.data.toList wide) hAs
  have hJl : J.data.toList.length = J.size := by simp
  have hJz : J.size = s.size - headN s.data.toList wide := by rw [← hJl, hJ, List.length_drop, hsl]
  have hde : decE s.data.toList wide = if pidD ((ctlOf s.data.toList wide).1 : Int) = true then (if s.size ≤ headN s.data.toList wide then 4 else infE ((ctlOf s.data.toList wide).1 : Int) (s.size - (headN s.data.toList wide + 1))) else infE ((ctlOf s.data.toList wide).1 : Int) (s.size - headN s.data.toList wide) := by
    unfold decE headN
    rw [h, if_neg (fun q => q rfl), hsl]
  have hbg := fun W (hb : Below w.heap.size w W) => (begin_any s wide W hs (hC.below hb)).mono fun e w' hq => And.intro (hq.2.1 h) hq.2.2
  have hN : headN s.data.toList wide = 7 * (getP 10 [] s.data.toList).2.length + (ctlOf s.data.toList wide).2.2.2.2.1 := rfl
  rw [← hN] at hbg
  have HB0 := Lib.hid ((Below.refl _ w).alloc (Nat.le_refl _) (.cells #[.string ⟨#[]⟩, .int .i64 0, .string ⟨#[]⟩, .int .i64 0, .bool false, .bool false, .slice none 0 0, .int .i64 0, .int .i64 0, .int .i64 0, .bool false, .int .i64 0, .string ⟨#[]⟩] 65))
  have HF0 := Lib.hid (F13.new w w.heap.size rfl (.string ⟨#[]⟩) (.int .i64 0) (.string ⟨#[]⟩) (.int .i64 0) (.bool false) (.bool false) (.slice none 0 0) (.int .i64 0) (.int .i64 0) (.int .i64 0) (.bool false) (.int .i64 0) (.string ⟨#[]⟩) 65)
  unfold FDecTo PidInf
  generalize headN s.data.toList wide = A at *
  generalize ctlOf s.data.toList wide = C at *
  obtain ⟨k, nr, ns, pf, m, er⟩ := C
  dsimp only at hbg hde hp ⊢
  generalize (getP 10 [] s.data.toList).2 = L at *
  generalize decE s.data.toList wide = E at *
  have hpd := fun W => pid_any (k : Int) W
  rw [hp] at hpd
  have HPD := Lib.hid hpd
  have HBG := Lib.hid hbg
  rw [if_pos hp] at hde
  by_cases hJ0 : J.size = 0
  · have hE4 : E = 4 := by rw [hde, if_pos (by omega)]
    have hJe : J = ⟨#[]⟩ := by
      apply bytes_ext'
      rw [List.eq_nil_of_length_eq_zero (hJl.trans hJ0)]
    subst hE4
    rw [hJe] at hcut
    clear hde hbg hpd hJ hJz hJl hml hco hN hAs hsl hlen hgp h hC hp hJ0 hJe
    go_enter Tryd.func24, Tryd.ntmps24
    go_wp2_with (first
      | (go_at_call 42; (with_reducible refine (HBG.out _ HB0.out).mono ?_); rintro e w1 ⟨⟨⟨xb, xn, xm⟩, ⟨yb, yn, ym⟩, D, da, dc, hx, rfl, hE⟩, hb⟩; have HX := Lib.hid hx; clear hx; have hb1 := HB0.out.trans (hb.mono HB0.out.size); have HA := Lib.hid (show DcAt w (w1.alloc (.cells #[.string xb, .int .i64 xn, .string yb, .int .i64 yn, .bool xm, .bool ym, .slice da D.length dc, .int .i64 (k : Int), .int .i64 (nr : Int), .int .i64 (ns : Int), .bool pf, .int .i64 0, .string ⟨#[]⟩] 65)) w1.heap.size (.slice da D.length dc) (.string xb) (.int .i64 xn) (.string yb) (.int .i64 yn) (.bool xm) (.bool ym) (.slice da D.length dc) (.int .i64 (k : Int)) (.int .i64 (nr : Int)) (.int .i64 (ns : Int)) (.bool pf) (.int .i64 0) (.string ⟨#[]⟩) D from ⟨(HF0.out.below hb).alloc _, F13.new w1 _ rfl _ _ _ _ _ _ _ _ _ _ _ _ _ _, (hE.base (by simp)).alloc _, hb1.alloc hb1.size _, Nat.lt_of_lt_of_le (by simp) hb.size, fun g hv => (hE.ge hv).2⟩); clear hb hb1 hE)
      | (go_at_call 34; (with_reducible refine (HPD.out _).mono ?_); rintro e w2 ⟨rfl, rfl⟩; have HR := Lib.hid HA.out.res; have HBR := Lib.hid HA.out.bel; obtain ⟨⟨p0, q0, pl⟩, ⟨p1, q1, -⟩, ⟨p2, q2, -⟩, ⟨p3, q3, -⟩, ⟨p4, q4, -⟩, ⟨p5, q5, -⟩, ⟨p6, q6, -⟩, ⟨p7, q7, -⟩, ⟨p8, q8, -⟩, ⟨p9, q9, -⟩, ⟨p10, q10, -⟩, ⟨p11, q11, -⟩, ⟨p12, q12, -⟩⟩ := HA.out.res))
    have S9 := F13.stored HR.out (.string ⟨#[]⟩) (.int .i64 0) (.string ⟨#[]⟩) (.int .i64 0) (.bool false) (.bool false) (.slice none 0 0) (.int .i64 0) (.int .i64 0) (.int .i64 0) (.bool false) (.int .i64 0) (.string ⟨#[]⟩)
    have HBF := Lib.hid (set13_below HBR.out (Nat.le_refl _) (.string ⟨#[]⟩) (.int .i64 0) (.string ⟨#[]⟩) (.int .i64 0) (.bool false) (.bool false) (.slice none 0 0) (.int .i64 0) (.int .i64 0) (.int .i64 0) (.bool false) (.int .i64 0) (.string ⟨#[]⟩))
    exact bodyPost_ret (v := .tuple #[zeroF, .int .i64 4]) (by simp [results, Tryd.results24, go_sem, zeroF, S9.k0.cell, S9.k1.cell, S9.k2.cell, S9.k3.cell, S9.k4.cell, S9.k5.cell, S9.k6.cell, S9.k7.cell, S9.k8.cell, S9.k9.cell, S9.k10.cell, S9.k11.cell, S9.k12.cell]) rfl ⟨fun _ => rfl, fun h => absurd h (by decide), HBF.out⟩
  · have n0 : 0 < J.size := by omega
    rw [if_neg (by omega)] at hde
    have hje : J.toList.isEmpty = false := txt_full J n0
    obtain ⟨I2, hI2, hcut2⟩ := slice_at J 1 (by omega)
    have hcut3 : ∀ W, (Instr.slice 9 (.string J) (some (.int .i64 1)) none none).run Tryd.prog W = .ok (.string I2) W := hcut2
    have hJc : J.data.toList = J[0]'n0 :: I2.data.toList := by
      rw [hI2]
      cases hq : J.data.toList with
      | nil =>
        rw [hq] at hJl
        simp at hJl
        omega
      | cons b t =>
        rw [head_at J b t hq n0]
        rfl
    have hI2z : I2.size = s.size - (A + 1) := by
      have e1 : I2.data.toList.length = I2.size := by simp
      have e2 : (J.data.toList).length = I2.data.toList.length + 1 := by rw [hJc, List.length_cons]
      omega
    rw [← hI2z] at hde
    have HPID := Lib.hid (show ∃ b : UInt8, s.data.toList.drop A = b :: I2.data.toList ∧ (((J[0]'n0).toNat : Nat) : Int) = (b.toNat : Int) from ⟨J[0]'n0, by rw [← hJ, hJc], rfl⟩)
    obtain ⟨X, hX⟩ : ∃ X : Int, X = (((J[0]'n0).toNat : Nat) : Int) := ⟨_, rfl⟩
    have hj0 : (((J[0]'n0).toNat : Nat) : Int) = X := hX.symm
    have hwx : IntKind.i64.wrap X = X := by
      rw [hX]
      have := (J[0]'n0).toNat_lt
      exact IntWalk.i64_in _ (by omega)
    rw [← hX] at HPID
    have HIN := Lib.hid (show ∀ (xb yb : ByteArray) (xn yn : Int) (xm ym : Bool) (D : List Ent) da dc W, Calls Tryd.prog 43 #[.agg #[.string xb, .int .i64 xn, .string yb, .int .i64 yn, .bool xm, .bool ym, .slice da D.length dc, .int .i64 (k : Int), .int .i64 (nr : Int), .int .i64 (ns : Int), .bool pf, .int .i64 X, .string I2]] W fun e w' => e = .returned (.int .i64 (E : Int)) ∧ Below W.heap.size W w' from fun xb yb xn yn xm ym D da dc W => by
      have k9 := inffault_any xb yb xn yn xm ym da D.length dc k nr ns pf X I2 W
      rw [← hde] at k9
      exact k9)
    have HCL := Lib.hid (fun W => clone_any I2 W (by omega))
    have HPP := Lib.hid hp
    clear hde hbg hpd hJ hJz hJl hml hco hN hAs hsl hlen hgp h hC hp hJ0 hI2 hcut2 hJc hI2z hX
    by_cases hE0 : E = 0
    · subst hE0
      rw [show (((0 : Nat) : Int)) = 0 from rfl] at HIN
      go_enter Tryd.func24, Tryd.ntmps24
      go_wp2_with (first
        | (go_at_call 42; (with_reducible refine (HBG.out _ HB0.out).mono ?_); rintro e w1 ⟨⟨⟨xb, xn, xm⟩, ⟨yb, yn, ym⟩, D, da, dc, hx, rfl, hE⟩, hb⟩; have HX := Lib.hid hx; clear hx; have hb1 := HB0.out.trans (hb.mono HB0.out.size); have HA := Lib.hid (show DcAt w (w1.alloc (.cells #[.string xb, .int .i64 xn, .string yb, .int .i64 yn, .bool xm, .bool ym, .slice da D.length dc, .int .i64 (k : Int), .int .i64 (nr : Int), .int .i64 (ns : Int), .bool pf, .int .i64 0, .string ⟨#[]⟩] 65)) w1.heap.size (.slice da D.length dc) (.string xb) (.int .i64 xn) (.string yb) (.int .i64 yn) (.bool xm) (.bool ym) (.slice da D.length dc) (.int .i64 (k : Int)) (.int .i64 (nr : Int)) (.int .i64 (ns : Int)) (.bool pf) (.int .i64 0) (.string ⟨#[]⟩) D from ⟨(HF0.out.below hb).alloc _, F13.new w1 _ rfl _ _ _ _ _ _ _ _ _ _ _ _ _ _, (hE.base (by simp)).alloc _, hb1.alloc hb1.size _, Nat.lt_of_lt_of_le (by simp) hb.size, fun g hv => (hE.ge hv).2⟩); clear hb hb1 hE)
        | (go_at_call 34; (with_reducible refine (HPD.out _).mono ?_); rintro e w2 ⟨rfl, rfl⟩))
      generalize w1.alloc (.cells #[.string xb, .int .i64 xn, .string yb, .int .i64 yn, .bool xm, .bool ym, .slice da D.length dc, .int .i64 (k : Int), .int .i64 (nr : Int), .int .i64 (ns : Int), .bool pf, .int .i64 0, .string ⟨#[]⟩] 65) = W0 at *
      generalize w1.heap.size = mm at *
      have HA1 := Lib.hid (HA.out.pid (.int .i64 X)).drew
      obtain ⟨⟨b0, z0, bl⟩, ⟨b1, z1, -⟩, ⟨b2, z2, -⟩, ⟨b3, z3, -⟩, ⟨b4, z4, -⟩, ⟨b5, z5, -⟩, ⟨b6, z6, -⟩, ⟨b7, z7, -⟩, ⟨b8, z8, -⟩, ⟨b9, z9, -⟩, ⟨b10, z10, -⟩, ⟨b11, z11, -⟩, ⟨b12, z12, -⟩⟩ := HA.out.box
      clear HA
      refine wp_region_any (by kernel_rfl) ?_
      try (change wpAny _ _ _ _ _ _ _ (World.drew _))
      refine wpAny_take (i := 0) (v := ?_) rfl (by kernel_rfl) (by kernel_rfl) (by kernel_rfl) (fun _ _ _ h => h) (Or.inl ⟨by rfl, ?_⟩) ?_
      rotate_left
      · intro w; go_simp; with_reducible rfl
      refine wpAny_take (i := 1) (v := ?_) rfl (by kernel_rfl) (by kernel_rfl) (by kernel_rfl) (fun _ _ _ h => h) (Or.inl ⟨by rfl, ?_⟩) ?_
      rotate_left
      · intro w; go_simp; with_reducible rfl
      refine wpAny_take (i := 2) (v := ?_) rfl (by kernel_rfl) (by kernel_rfl) (by kernel_rfl) (fun _ _ _ h => h) (Or.inl ⟨by rfl, ?_⟩) ?_
      rotate_left
      · intro w; go_simp; with_reducible rfl
      refine wpAny_take (i := 3) (v := ?_) rfl (by kernel_rfl) (by kernel_rfl) (by kernel_rfl) (fun _ _ _ h => h) (Or.inl ⟨by rfl, ?_⟩) ?_
      rotate_left
      · intro w; go_simp; with_reducible rfl
      refine wpAny_take (i := 4) (v := ?_) rfl (by kernel_rfl) (by kernel_rfl) (by kernel_rfl) (fun _ _ _ h => h) (Or.inl ⟨by rfl, ?_⟩) ?_
      rotate_left
      · intro w; go_simp; with_reducible rfl
      refine wpAny_take (i := 5) (v := ?_) rfl (by kernel_rfl) (by kernel_rfl) (by kernel_rfl) (fun _ _ _ h => h) (Or.inl ⟨by rfl, ?_⟩) ?_
      rotate_left
      · intro w; go_simp; with_reducible rfl
      refine wpAny_ready (rs := [6]) (by kernel_rfl) (by simp) ?_
      refine AllReady.cons rfl (fun K hK => ?_) AllReady.nil
      go_simp
      refine hK _ _ ?_
      clear hK K
      refine wpAny_ready (rs := [7]) (by kernel_rfl) (by simp) ?_
      refine AllReady.cons rfl (fun K hK => ?_) AllReady.nil
      go_simp
      refine hK _ _ ?_
      clear hK K
      refine wpAny_done (by kernel_rfl) ?_ _
      clear b0 z0 bl b1 z1 b2 z2 b3 z3 b4 z4 b5 z5 b6 z6 b7 z7 b8 z8 b9 z9 b10 z10 b11 z11 b12 z12
      generalize (W0.setCell ⟨mm, 11, none⟩ (.int .i64 X)).drew = W1 at *
      have HA3 := Lib.hid (HA1.out.info (.string I2))
      obtain ⟨⟨b0, z0, bl⟩, ⟨b1, z1, -⟩, ⟨b2, z2, -⟩, ⟨b3, z3, -⟩, ⟨b4, z4, -⟩, ⟨b5, z5, -⟩, ⟨b6, z6, -⟩, ⟨b7, z7, -⟩, ⟨b8, z8, -⟩, ⟨b9, z9, -⟩, ⟨b10, z10, -⟩, ⟨b11, z11, -⟩, ⟨b12, z12, -⟩⟩ := HA1.out.box
      go_wp2_with (first
        | (go_at_call 43; (with_reducible refine (HIN.out xb yb xn yn xm ym D da dc _).mono ?_); rintro e w3 ⟨rfl, hb⟩; have HA := Lib.hid (HA3.out.below hb); clear hb; clear b0 z0 bl b1 z1 b2 z2 b3 z3 b4 z4 b5 z5 b6 z6 b7 z7 b8 z8 b9 z9 b10 z10 b11 z11 b12 z12; obtain ⟨⟨b0, z0, bl⟩, ⟨b1, z1, -⟩, ⟨b2, z2, -⟩, ⟨b3, z3, -⟩, ⟨b4, z4, -⟩, ⟨b5, z5, -⟩, ⟨b6, z6, -⟩, ⟨b7, z7, -⟩, ⟨b8, z8, -⟩, ⟨b9, z9, -⟩, ⟨b10, z10, -⟩, ⟨b11, z11, -⟩, ⟨b12, z12, -⟩⟩ := HA.out.box)
        | (go_at_call 27; (with_reducible refine (HCL.out _).mono ?_); rintro e w4 ⟨rfl, hb⟩; replace HA := Lib.hid (HA.out.below hb); clear hb; have HA5 := Lib.hid (HA.out.info (.string I2)); have hne := HA.out.rm; have hne2 : ¬ mm = w.heap.size := (by omega); clear b0 z0 bl b1 z1 b2 z2 b3 z3 b4 z4 b5 z5 b6 z6 b7 z7 b8 z8 b9 z9 b10 z10 b11 z11 b12 z12; obtain ⟨⟨p0, q0, pl⟩, ⟨p1, q1, -⟩, ⟨p2, q2, -⟩, ⟨p3, q3, -⟩, ⟨p4, q4, -⟩, ⟨p5, q5, -⟩, ⟨p6, q6, -⟩, ⟨p7, q7, -⟩, ⟨p8, q8, -⟩, ⟨p9, q9, -⟩, ⟨p10, q10, -⟩, ⟨p11, q11, -⟩, ⟨p12, q12, -⟩⟩ := HA.out.res; obtain ⟨⟨b0, z0, bl⟩, ⟨b1, z1, -⟩, ⟨b2, z2, -⟩, ⟨b3, z3, -⟩, ⟨b4, z4, -⟩, ⟨b5, z5, -⟩, ⟨b6, z6, -⟩, ⟨b7, z7, -⟩, ⟨b8, z8, -⟩, ⟨b9, z9, -⟩, ⟨b10, z10, -⟩, ⟨b11, z11, -⟩, ⟨b12, z12, -⟩⟩ := HA.out.box))
      have S9 := F13.stored HA5.out.res (.string xb) (.int .i64 xn) (.string yb) (.int .i64 yn) (.bool xm) (.bool ym) (.slice da D.length dc) (.int .i64 (k : Int)) (.int .i64 (nr : Int)) (.int .i64 (ns : Int)) (.bool pf) (.int .i64 X) (.string I2)
      have HBF := Lib.hid (set13_below HA5.out.bel (Nat.le_refl _) (.string xb) (.int .i64 xn) (.string yb) (.int .i64 yn) (.bool xm) (.bool ym) (.slice da D.length dc) (.int .i64 (k : Int)) (.int .i64 (nr : Int)) (.int .i64 (ns : Int)) (.bool pf) (.int .i64 X) (.string I2))
      have HEF := Lib.hid (ents_of_own (own13 HA5.out.own (Nat.lt_succ_self _) (.string xb) (.int .i64 xn) (.string yb) (.int .i64 yn) (.bool xm) (.bool ym) (.slice da D.length dc) (.int .i64 (k : Int)) (.int .i64 (nr : Int)) (.int .i64 (ns : Int)) (.bool pf) (.int .i64 X) (.string I2)))
      have HEO := Lib.hid (show ∀ q, da = some q → w.heap.size ≤ q.block from fun q hq => Nat.le_of_succ_le (HA5.out.own.ge (g := q.block) (by rw [hq]; rfl)).1)
      exact bodyPost_ret (v := .tuple #[.agg #[.string xb, .int .i64 xn, .string yb, .int .i64 yn, .bool xm, .bool ym, .slice da D.length dc, .int .i64 (k : Int), .int .i64 (nr : Int), .int .i64 (ns : Int), .bool pf, .int .i64 X, .string I2], .int .i64 0]) (by simp [results, Tryd.results24, go_sem, S9.k0.cell, S9.k1.cell, S9.k2.cell, S9.k3.cell, S9.k4.cell, S9.k5.cell, S9.k6.cell, S9.k7.cell, S9.k8.cell, S9.k9.cell, S9.k10.cell, S9.k11.cell, S9.k12.cell]) rfl ⟨fun h => absurd rfl h, fun _ => ⟨(xb, xn, xm), (yb, yn, ym), D, da, dc, X, I2, HX.out, rfl, HEF.out, HEO.out, fun hq => absurd (HPP.out.symm.trans hq) (by decide), fun _ => HPID.out⟩, HBF.out⟩
    · have hz : ((E : Int) != 0) = true := by rw [bne_iff_ne]; omega
      have HNZ := Lib.hid hE0
      clear hE0
      go_enter Tryd.func24, Tryd.ntmps24
      go_wp2_with (first
        | (go_at_call 42; (with_reducible refine (HBG.out _ HB0.out).mono ?_); rintro e w1 ⟨⟨⟨xb, xn, xm⟩, ⟨yb, yn, ym⟩, D, da, dc, hx, rfl, hE⟩, hb⟩; have HX := Lib.hid hx; clear hx; have hb1 := HB0.out.trans (hb.mono HB0.out.size); have HA := Lib.hid (show DcAt w (w1.alloc (.cells #[.string xb, .int .i64 xn, .string yb, .int .i64 yn, .bool xm, .bool ym, .slice da D.length dc, .int .i64 (k : Int), .int .i64 (nr : Int), .int .i64 (ns : Int), .bool pf, .int .i64 0, .string ⟨#[]⟩] 65)) w1.heap.size (.slice da D.length dc) (.string xb) (.int .i64 xn) (.string yb) (.int .i64 yn) (.bool xm) (.bool ym) (.slice da D.length dc) (.int .i64 (k : Int)) (.int .i64 (nr : Int)) (.int .i64 (ns : Int)) (.bool pf) (.int .i64 0) (.string ⟨#[]⟩) D from ⟨(HF0.out.below hb).alloc _, F13.new w1 _ rfl _ _ _ _ _ _ _ _ _ _ _ _ _ _, (hE.base (by simp)).alloc _, hb1.alloc hb1.size _, Nat.lt_of_lt_of_le (by simp) hb.size, fun g hv => (hE.ge hv).2⟩); clear hb hb1 hE)
        | (go_at_call 34; (with_reducible refine (HPD.out _).mono ?_); rintro e w2 ⟨rfl, rfl⟩))
      generalize w1.alloc (.cells #[.string xb, .int .i64 xn, .string yb, .int .i64 yn, .bool xm, .bool ym, .slice da D.length dc, .int .i64 (k : Int), .int .i64 (nr : Int), .int .i64 (ns : Int), .bool pf, .int .i64 0, .string ⟨#[]⟩] 65) = W0 at *
      generalize w1.heap.size = mm at *
      have HA1 := Lib.hid (HA.out.pid (.int .i64 X)).drew
      obtain ⟨⟨b0, z0, bl⟩, ⟨b1, z1, -⟩, ⟨b2, z2, -⟩, ⟨b3, z3, -⟩, ⟨b4, z4, -⟩, ⟨b5, z5, -⟩, ⟨b6, z6, -⟩, ⟨b7, z7, -⟩, ⟨b8, z8, -⟩, ⟨b9, z9, -⟩, ⟨b10, z10, -⟩, ⟨b11, z11, -⟩, ⟨b12, z12, -⟩⟩ := HA.out.box
      clear HA
      refine wp_region_any (by kernel_rfl) ?_
      try (change wpAny _ _ _ _ _ _ _ (World.drew _))
      refine wpAny_take (i := 0) (v := ?_) rfl (by kernel_rfl) (by kernel_rfl) (by kernel_rfl) (fun _ _ _ h => h) (Or.inl ⟨by rfl, ?_⟩) ?_
      rotate_left
      · intro w; go_simp; with_reducible rfl
      refine wpAny_take (i := 1) (v := ?_) rfl (by kernel_rfl) (by kernel_rfl) (by kernel_rfl) (fun _ _ _ h => h) (Or.inl ⟨by rfl, ?_⟩) ?_
      rotate_left
      · intro w; go_simp; with_reducible rfl
      refine wpAny_take (i := 2) (v := ?_) rfl (by kernel_rfl) (by kernel_rfl) (by kernel_rfl) (fun _ _ _ h => h) (Or.inl ⟨by rfl, ?_⟩) ?_
      rotate_left
      · intro w; go_simp; with_reducible rfl
      refine wpAny_take (i := 3) (v := ?_) rfl (by kernel_rfl) (by kernel_rfl) (by kernel_rfl) (fun _ _ _ h => h) (Or.inl ⟨by rfl, ?_⟩) ?_
      rotate_left
      · intro w; go_simp; with_reducible rfl
      refine wpAny_take (i := 4) (v := ?_) rfl (by kernel_rfl) (by kernel_rfl) (by kernel_rfl) (fun _ _ _ h => h) (Or.inl ⟨by rfl, ?_⟩) ?_
      rotate_left
      · intro w; go_simp; with_reducible rfl
      refine wpAny_take (i := 5) (v := ?_) rfl (by kernel_rfl) (by kernel_rfl) (by kernel_rfl) (fun _ _ _ h => h) (Or.inl ⟨by rfl, ?_⟩) ?_
      rotate_left
      · intro w; go_simp; with_reducible rfl
      refine wpAny_ready (rs := [6]) (by kernel_rfl) (by simp) ?_
      refine AllReady.cons rfl (fun K hK => ?_) AllReady.nil
      go_simp
      refine hK _ _ ?_
      clear hK K
      refine wpAny_ready (rs := [7]) (by kernel_rfl) (by simp) ?_
      refine AllReady.cons rfl (fun K hK => ?_) AllReady.nil
      go_simp
      refine hK _ _ ?_
      clear hK K
      refine wpAny_done (by kernel_rfl) ?_ _
      clear b0 z0 bl b1 z1 b2 z2 b3 z3 b4 z4 b5 z5 b6 z6 b7 z7 b8 z8 b9 z9 b10 z10 b11 z11 b12 z12
      generalize (W0.setCell ⟨mm, 11, none⟩ (.int .i64 X)).drew = W1 at *
      have HA3 := Lib.hid (HA1.out.info (.string I2))
      obtain ⟨⟨b0, z0, bl⟩, ⟨b1, z1, -⟩, ⟨b2, z2, -⟩, ⟨b3, z3, -⟩, ⟨b4, z4, -⟩, ⟨b5, z5, -⟩, ⟨b6, z6, -⟩, ⟨b7, z7, -⟩, ⟨b8, z8, -⟩, ⟨b9, z9, -⟩, ⟨b10, z10, -⟩, ⟨b11, z11, -⟩, ⟨b12, z12, -⟩⟩ := HA1.out.box
      go_wp2_with (go_at_call 43; (with_reducible refine (HIN.out xb yb xn yn xm ym D da dc _).mono ?_); rintro e w3 ⟨rfl, hb⟩; have HA := Lib.hid (HA3.out.below hb); clear hb; clear b0 z0 bl b1 z1 b2 z2 b3 z3 b4 z4 b5 z5 b6 z6 b7 z7 b8 z8 b9 z9 b10 z10 b11 z11 b12 z12; have HR := Lib.hid HA.out.res; have HBR := Lib.hid HA.out.bel; obtain ⟨⟨p0, q0, pl⟩, ⟨p1, q1, -⟩, ⟨p2, q2, -⟩, ⟨p3, q3, -⟩, ⟨p4, q4, -⟩, ⟨p5, q5, -⟩, ⟨p6, q6, -⟩, ⟨p7, q7, -⟩, ⟨p8, q8, -⟩, ⟨p9, q9, -⟩, ⟨p10, q10, -⟩, ⟨p11, q11, -⟩, ⟨p12, q12, -⟩⟩ := HA.out.res)
      have S9 := F13.stored HR.out (.string ⟨#[]⟩) (.int .i64 0) (.string ⟨#[]⟩) (.int .i64 0) (.bool false) (.bool false) (.slice none 0 0) (.int .i64 0) (.int .i64 0) (.int .i64 0) (.bool false) (.int .i64 0) (.string ⟨#[]⟩)
      have HBF := Lib.hid (set13_below HBR.out (Nat.le_refl _) (.string ⟨#[]⟩) (.int .i64 0) (.string ⟨#[]⟩) (.int .i64 0) (.bool false) (.bool false) (.slice none 0 0) (.int .i64 0) (.int .i64 0) (.int .i64 0) (.bool false) (.int .i64 0) (.string ⟨#[]⟩))
      exact bodyPost_ret (v := .tuple #[zeroF, .int .i64 (E : Int)]) (by simp [results, Tryd.results24, go_sem, zeroF, S9.k0.cell, S9.k1.cell, S9.k2.cell, S9.k3.cell, S9.k4.cell, S9.k5.cell, S9.k6.cell, S9.k7.cell, S9.k8.cell, S9.k9.cell, S9.k10.cell, S9.k11.cell, S9.k12.cell]) rfl ⟨fun _ => rfl, fun h => absurd h HNZ.out, HBF.out⟩
theorem fdecx_any (s : ByteArray) (wide : Bool) (w : World) (hs : s.size ≤ 100000) (hC : CodesOk w) :
    Calls Tryd.prog 24 #[.string s, .bool wide] w fun e w' => FDecTo s.data.toList wide w e w' := by
  by_cases h : begE s.data.toList wide = 0
  · cases hp : pidD ((ctlOf s.data.toList wide).1 : Int) with
    | false => exact fdecx_bare s wide w hs hC h hp
    | true => exact fdecx_pid s wide w hs hC h hp
  · exact fdecx_beg s wide w hs hC h
end Go.Proofs.YtadhiknmkiogjaaDoor
