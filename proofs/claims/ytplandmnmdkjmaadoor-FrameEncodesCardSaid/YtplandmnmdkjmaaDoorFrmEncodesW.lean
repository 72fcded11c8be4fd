/-
Walk of the statement FrameEncodes.
-/
import Derived.Test.YtplandmnmdkjmaaDoorFrmPlainC
import Derived.Test.YtplandmnmdkjmaaDoorFrmREnc
import Derived.Test.YtplandmnmdkjmaaDoorFrmCDec
import Derived.Test.YtplandmnmdkjmaaDoorFrmAwake
namespace Go.Proofs.YtplandmnmdkjmaaDoor
open Go.RowKit Go.Sort
set_option maxRecDepth 20000
set_option maxHeartbeats 1000000 in
theorem fencodes_great (tb fb : ByteArray) (tn fn : Int) (tm fm : Bool) (a : Option Addr) (n cap : Nat) (k nr ns : Int) (pf : Bool) (pid : Int) (info : ByteArray) (wide : Bool) (w : World) (hC : CodesOk w) (hN : NamesOk w) (h : 30 < n ∨ 2000 < info.size) :
    Calls Tryd.prog 3 #[.agg #[.string tb, .int .i64 tn, .string fb, .int .i64 fn, .bool tm, .bool fm, .slice a n cap, .int .i64 k, .int .i64 nr, .int .i64 ns, .bool pf, .int .i64 pid, .string info], .bool wide] w fun e w' => e = .returned (.bool true) ∧ Below w.heap.size w w' := by
  have HB0 := Lib.hid ((Below.refl _ w).alloc (Nat.le_refl _) (.cells #[.string tb, .int .i64 tn, .string fb, .int .i64 fn, .bool tm, .bool fm, .slice a n cap, .int .i64 k, .int .i64 nr, .int .i64 ns, .bool pf, .int .i64 pid, .string info] 30))
  have HF0 := Lib.hid (F13.new w w.heap.size rfl (.string tb) (.int .i64 tn) (.string fb) (.int .i64 fn) (.bool tm) (.bool fm) (.slice a n cap) (.int .i64 k) (.int .i64 nr) (.int .i64 ns) (.bool pf) (.int .i64 pid) (.string info) 30)
  have HAW := Lib.hid (fun W (h : Below w.heap.size w W) => fawake_any W (hC.below h) (hN.below h))
  have hg := fun W => fgreat_any tb fb tn fn tm fm a n cap k nr ns pf pid info W
  rw [show (decide (30 < n) || decide (2000 < info.size)) = true from by simpa using h] at hg
  have HG := Lib.hid hg
  clear hg h hC hN
  go_enter Tryd.func3, Tryd.ntmps3
  go_wp2_with (first
    | (go_at_call 6; (with_reducible refine (HAW.out _ HB0.out).mono ?_); rintro e w1 ⟨rfl, hb⟩; have HB := Lib.hid (HB0.out.trans (hb.mono HB0.out.size)); have HF := Lib.hid (HF0.out.below hb); clear hb; obtain ⟨⟨p0, -, pl⟩, ⟨p1, -, -⟩, ⟨p2, -, -⟩, ⟨p3, -, -⟩, ⟨p4, -, -⟩, ⟨p5, -, -⟩, ⟨p6, -, -⟩, ⟨p7, -, -⟩, ⟨p8, -, -⟩, ⟨p9, -, -⟩, ⟨p10, -, -⟩, ⟨p11, -, -⟩, ⟨p12, -, -⟩⟩ := HF.out)
    | (go_at_call 7; (with_reducible refine (HG.out _).mono ?_); rintro e w2 ⟨rfl, hb⟩; replace HB := Lib.hid (HB.out.trans (hb.mono HB.out.size)); clear hb))
  go_ret
  exact ⟨rfl, HB.out⟩
theorem bytesF_size (L : List Ent) (k nr ns : Int) (pf wide : Bool) (pid : Int) (info : List UInt8) {n : Nat} (hw : wrongF L k nr ns wide pid n = 0) (hn : info.length = n) : (bytesF L k nr ns pf wide pid info).length ≤ 331 := by
  obtain ⟨h1, h2, h3, h4⟩ := right_frame hw
  have hi := (inf_facts h4).1
  have hll := right_len h1
  have hbl := bytesP_len' L L.length (Nat.le_refl _)
  have hpl := putB_le k.toNat nr.toNat ns.toNat pf wide
  have hpb : (pidB k pid).length ≤ 1 := by unfold pidB; split <;> simp
  unfold bytesF
  rw [List.length_append, List.length_append, List.length_append, hbl, hn]
  omega
set_option maxHeartbeats 2000000 in
theorem fencodes_no (tb fb : ByteArray) (tn fn : Int) (tm fm : Bool) (a : Option Addr) (cap : Nat) (D : List Ent) (k nr ns : Int) (pf : Bool) (pid : Int) (info : ByteArray) (wide : Bool) (w : World) (hC : CodesOk w) (hN : NamesOk w) (hD : D.length ≤ 30) (hi : info.size ≤ 2000) (hE : EntsAt w a cap D) (hw : wrongF ((tb, tn, tm) :: (fb, fn, fm) :: D) k nr ns wide pid info.size ≠ 0) :
    Calls Tryd.prog 3 #[.agg #[.string tb, .int .i64 tn, .string fb, .int .i64 fn, .bool tm, .bool fm, .slice a D.length cap, .int .i64 k, .int .i64 nr, .int .i64 ns, .bool pf, .int .i64 pid, .string info], .bool wide] w fun e w' => e = .returned (.bool true) ∧ Below w.heap.size w w' := by
  have HB0 := Lib.hid ((Below.refl _ w).alloc (Nat.le_refl _) (.cells #[.string tb, .int .i64 tn, .string fb, .int .i64 fn, .bool tm, .bool fm, .slice a D.length cap, .int .i64 k, .int .i64 nr, .int .i64 ns, .bool pf, .int .i64 pid, .string info] 30))
  have HF0 := Lib.hid (F13.new w w.heap.size rfl (.string tb) (.int .i64 tn) (.string fb) (.int .i64 fn) (.bool tm) (.bool fm) (.slice a D.length cap) (.int .i64 k) (.int .i64 nr) (.int .i64 ns) (.bool pf) (.int .i64 pid) (.string info) 30)
  have HAW := Lib.hid (fun W (h : Below w.heap.size w W) => fawake_any W (hC.below h) (hN.below h))
  have hg := fun W => fgreat_any tb fb tn fn tm fm a D.length cap k nr ns pf pid info W
  rw [show (decide (30 < D.length) || decide (2000 < info.size)) = false from by simp; omega] at hg
  have HG := Lib.hid hg
  have hpl := fun W (h : Below w.heap.size w W) => fplain_any tb fb tn fn tm fm a cap D k nr ns pf pid info W (by omega) (hE.below h)
  have hen := fun W (h : Below w.heap.size w W) => enc_no tb fb tn fn tm fm a cap D k nr ns pf pid info wide W (by omega) (hE.below h) hw
  have hri := fun W (h : Below w.heap.size w W) => fright_any tb fb tn fn tm fm a cap D k nr ns pf pid info wide W (by omega) (hE.below h)
  rw [decide_eq_false hw] at hri
  obtain ⟨L, hL⟩ : ∃ L, L = ((tb, tn, tm) :: (fb, fn, fm) :: D) := ⟨_, rfl⟩
  have hll : L.length ≤ 40 := by rw [hL]; simp; omega
  rw [← hL] at hpl hen hw
  have hwr := fun va vc W (h : EntsAt W va vc L) => rwrong_any va vc L k nr ns pf pid info wide W (by omega) h
  generalize wrongF L k nr ns wide pid info.size = G at *
  obtain ⟨X, hX⟩ : ∃ X : Int, X = (G : Int) := ⟨_, rfl⟩
  rw [← hX] at hen hwr
  have x1 : (X != X) = false := by simp
  have x2 : (X == 0) = false := by rw [beq_eq_false_iff_ne]; omega
  have x3 : (X != 0) = true := by rw [bne_iff_ne]; omega
  have HPL := Lib.hid hpl
  have HEN := Lib.hid hen
  have HRI := Lib.hid hri
  have HWR := Lib.hid hwr
  clear hg hpl hen hri hwr hC hN hE hw hL hX
  go_enter Tryd.func3, Tryd.ntmps3
  go_wp2_with (first
    | (go_at_call 6; (with_reducible refine (HAW.out _ HB0.out).mono ?_); rintro e w1 ⟨rfl, hb⟩; have HB := Lib.hid (HB0.out.trans (hb.mono HB0.out.size)); have HF := Lib.hid (HF0.out.below hb); clear hb; obtain ⟨⟨p0, -, pl⟩, ⟨p1, -, -⟩, ⟨p2, -, -⟩, ⟨p3, -, -⟩, ⟨p4, -, -⟩, ⟨p5, -, -⟩, ⟨p6, -, -⟩, ⟨p7, -, -⟩, ⟨p8, -, -⟩, ⟨p9, -, -⟩, ⟨p10, -, -⟩, ⟨p11, -, -⟩, ⟨p12, -, -⟩⟩ := HF.out)
    | (go_at_call 7; (with_reducible refine (HG.out _).mono ?_); rintro e w2 ⟨rfl, hb⟩; replace HB := Lib.hid (HB.out.trans (hb.mono HB.out.size)); replace HF := Lib.hid (HF.out.below hb); clear hb; clear p0 pl p1 p2 p3 p4 p5 p6 p7 p8 p9 p10 p11 p12; obtain ⟨⟨p0, -, pl⟩, ⟨p1, -, -⟩, ⟨p2, -, -⟩, ⟨p3, -, -⟩, ⟨p4, -, -⟩, ⟨p5, -, -⟩, ⟨p6, -, -⟩, ⟨p7, -, -⟩, ⟨p8, -, -⟩, ⟨p9, -, -⟩, ⟨p10, -, -⟩, ⟨p11, -, -⟩, ⟨p12, -, -⟩⟩ := HF.out)
    | (go_at_call 8; (with_reducible refine (HPL.out _ HB.out).mono ?_); rintro e w3 ⟨⟨va, vc, rfl, hV⟩, hb⟩; have hb2 := HB.out.trans (hb.mono HB.out.size); replace HB := Lib.hid (hb2.alloc hb2.size (.cells #[.slice va L.length vc, .int .i64 k, .int .i64 nr, .int .i64 ns, .bool pf, .int .i64 pid, .string info] 38)); replace HF := Lib.hid ((HF.out.below hb).alloc (.cells #[.slice va L.length vc, .int .i64 k, .int .i64 nr, .int .i64 ns, .bool pf, .int .i64 pid, .string info] 38)); have HW := Lib.hid (P7.new w3 w3.heap.size rfl (.slice va L.length vc) (.int .i64 k) (.int .i64 nr) (.int .i64 ns) (.bool pf) (.int .i64 pid) (.string info) 38); have HV := Lib.hid (hV.alloc (.cells #[.slice va L.length vc, .int .i64 k, .int .i64 nr, .int .i64 ns, .bool pf, .int .i64 pid, .string info] 38)); clear hb hb2 hV; clear p0 pl p1 p2 p3 p4 p5 p6 p7 p8 p9 p10 p11 p12; obtain ⟨⟨q0, -, ql⟩, ⟨q1, -, -⟩, ⟨q2, -, -⟩, ⟨q3, -, -⟩, ⟨q4, -, -⟩, ⟨q5, -, -⟩, ⟨q6, -, -⟩⟩ := HW.out)
    | (go_at_call 9; (with_reducible refine (HWR.out va vc _ HV.out).mono ?_); rintro e w4 ⟨rfl, hb⟩; replace HB := Lib.hid (HB.out.trans (hb.mono HB.out.size)); replace HF := Lib.hid (HF.out.below hb); replace HW := Lib.hid (HW.out.below hb); replace HV := Lib.hid (HV.out.below hb); clear hb; clear q0 ql q1 q2 q3 q4 q5 q6; obtain ⟨⟨p0, -, pl⟩, ⟨p1, -, -⟩, ⟨p2, -, -⟩, ⟨p3, -, -⟩, ⟨p4, -, -⟩, ⟨p5, -, -⟩, ⟨p6, -, -⟩, ⟨p7, -, -⟩, ⟨p8, -, -⟩, ⟨p9, -, -⟩, ⟨p10, -, -⟩, ⟨p11, -, -⟩, ⟨p12, -, -⟩⟩ := HF.out)
    | (go_at_call 10; (with_reducible refine (HEN.out _ HB.out).mono ?_); rintro e w5 ⟨rfl, hb⟩; replace HB := Lib.hid (HB.out.trans (hb.mono HB.out.size)); replace HF := Lib.hid (HF.out.below hb); replace HW := Lib.hid (HW.out.below hb); replace HV := Lib.hid (HV.out.below hb); clear hb; clear p0 pl p1 p2 p3 p4 p5 p6 p7 p8 p9 p10 p11 p12; obtain ⟨⟨p0, -, pl⟩, ⟨p1, -, -⟩, ⟨p2, -, -⟩, ⟨p3, -, -⟩, ⟨p4, -, -⟩, ⟨p5, -, -⟩, ⟨p6, -, -⟩, ⟨p7, -, -⟩, ⟨p8, -, -⟩, ⟨p9, -, -⟩, ⟨p10, -, -⟩, ⟨p11, -, -⟩, ⟨p12, -, -⟩⟩ := HF.out)
    | (go_at_call 11; (with_reducible refine (HRI.out _ HB.out).mono ?_); rintro e w6 ⟨rfl, hb⟩; replace HB := Lib.hid (HB.out.trans (hb.mono HB.out.size)); replace HF := Lib.hid (HF.out.below hb); replace HW := Lib.hid (HW.out.below hb); replace HV := Lib.hid (HV.out.below hb); clear hb; clear p0 pl p1 p2 p3 p4 p5 p6 p7 p8 p9 p10 p11 p12))
  go_ret
  exact ⟨rfl, HB.out⟩
set_option maxHeartbeats 4000000 in
theorem fencodes_yes (tb fb : ByteArray) (tn fn : Int) (tm fm : Bool) (a : Option Addr) (cap : Nat) (D : List Ent) (k nr ns : Int) (pf : Bool) (pid : Int) (info : ByteArray) (wide : Bool) (w : World) (hC : CodesOk w) (hN : NamesOk w) (hD : D.length ≤ 30) (hi : info.size ≤ 2000) (hE : EntsAt w a cap D) (hw : wrongF ((tb, tn, tm) :: (fb, fn, fm) :: D) k nr ns wide pid info.size = 0) :
    Calls Tryd.prog 3 #[.agg #[.string tb, .int .i64 tn, .string fb, .int .i64 fn, .bool tm, .bool fm, .slice a D.length cap, .int .i64 k, .int .i64 nr, .int .i64 ns, .bool pf, .int .i64 pid, .string info], .bool wide] w fun e w' => e = .returned (.bool true) ∧ Below w.heap.size w w' := by
  have HB0 := Lib.hid ((Below.refl _ w).alloc (Nat.le_refl _) (.cells #[.string tb, .int .i64 tn, .string fb, .int .i64 fn, .bool tm, .bool fm, .slice a D.length cap, .int .i64 k, .int .i64 nr, .int .i64 ns, .bool pf, .int .i64 pid, .string info] 30))
  have HF0 := Lib.hid (F13.new w w.heap.size rfl (.string tb) (.int .i64 tn) (.string fb) (.int .i64 fn) (.bool tm) (.bool fm) (.slice a D.length cap) (.int .i64 k) (.int .i64 nr) (.int .i64 ns) (.bool pf) (.int .i64 pid) (.string info) 30)
  have HAW := Lib.hid (fun W (h : Below w.heap.size w W) => fawake_any W (hC.below h) (hN.below h))
  have hg := fun W => fgreat_any tb fb tn fn tm fm a D.length cap k nr ns pf pid info W
  rw [show (decide (30 < D.length) || decide (2000 < info.size)) = false from by simp; omega] at hg
  have HG := Lib.hid hg
  have hpl := fun a cap W (h : EntsAt W a cap D) => fplain_any tb fb tn fn tm fm a cap D k nr ns pf pid info W (by omega) h
  have hen := fun W (h : Below w.heap.size w W) => enc_yes tb fb tn fn tm fm a cap D k nr ns pf pid info wide W (hC.below h) (by omega) (hE.below h) hw
  have hri := fun W (h : Below w.heap.size w W) => fright_any tb fb tn fn tm fm a cap D k nr ns pf pid info wide W (by omega) (hE.below h)
  rw [decide_eq_true hw] at hri
  have hde := fun s W (h : Below w.heap.size w W) (hh : s.data.toList = bytesF ((tb, tn, tm) :: (fb, fn, fm) :: D) k nr ns pf wide pid info.data.toList) => fdec_right tb fb tn fn tm fm D k nr ns pf wide pid info s W (hC.below h) hw hh
  have hsz := bytesF_size ((tb, tn, tm) :: (fb, fn, fm) :: D) k nr ns pf wide pid info.data.toList hw (by simp)
  obtain ⟨L, hL⟩ : ∃ L, L = ((tb, tn, tm) :: (fb, fn, fm) :: D) := ⟨_, rfl⟩
  have hll : L.length ≤ 40 := by rw [hL]; simp; omega
  rw [← hL] at hpl hen hde hw hsz
  have hwr := fun va vc W (h : EntsAt W va vc L) => rwrong_any va vc L k nr ns pf pid info wide W (by omega) h
  rw [hw] at hwr
  have hrn := fun va vc W (h : EntsAt W va vc L) => renc_any va vc L k nr ns pf pid info wide W h hw
  obtain ⟨S, hS⟩ : ∃ S : ByteArray, S = ⟨(bytesF L k nr ns pf wide pid info.data.toList).toArray⟩ := ⟨_, rfl⟩
  rw [← hS] at hen hrn
  have hSs : S.size ≤ 331 := by rw [hS]; show (bytesF L k nr ns pf wide pid info.data.toList).toArray.size ≤ 331; simpa using hsz
  have dS : decide ((S.size : Int) ≤ 331) = true := decide_eq_true (by omega)
  have hqs : (S.toList == S.toList) = true := by simp
  have HPL := Lib.hid (fun W (h : Below w.heap.size w W) => hpl a cap W (hE.below h))
  have HPG := Lib.hid hpl
  have HEN := Lib.hid hen
  have HRI := Lib.hid hri
  have HWR := Lib.hid (show ∀ va vc W, EntsAt W va vc L → Calls Tryd.prog 9 #[.agg #[.slice va L.length vc, .int .i64 k, .int .i64 nr, .int .i64 ns, .bool pf, .int .i64 pid, .string info], .bool wide] W fun e w' => e = .returned (.int .i64 0) ∧ Below W.heap.size W w' from hwr)
  have HRN := Lib.hid hrn
  have HDE := Lib.hid (fun W (h : Below w.heap.size w W) => hde S W h (by rw [hS]))
  have HSA := Lib.hid (fun va wa vc wc W (hv : EntsAt W va vc L) (hu : EntsAt W wa wc L) => fsame_yes va wa vc wc L k nr ns pf pid info W (by omega) hv hu)
  clear hg hpl hen hri hwr hrn hde hC hN hE hw hL hS hsz hSs
  go_enter Tryd.func3, Tryd.ntmps3
  go_wp2_with (first
    | (go_at_call 6; (with_reducible refine (HAW.out _ HB0.out).mono ?_); rintro e w1 ⟨rfl, hb⟩; have HB := Lib.hid (HB0.out.trans (hb.mono HB0.out.size)); have HF := Lib.hid (HF0.out.below hb); clear hb; obtain ⟨⟨p0, -, pl⟩, ⟨p1, -, -⟩, ⟨p2, -, -⟩, ⟨p3, -, -⟩, ⟨p4, -, -⟩, ⟨p5, -, -⟩, ⟨p6, -, -⟩, ⟨p7, -, -⟩, ⟨p8, -, -⟩, ⟨p9, -, -⟩, ⟨p10, -, -⟩, ⟨p11, -, -⟩, ⟨p12, -, -⟩⟩ := HF.out)
    | (go_at_call 7; (with_reducible refine (HG.out _).mono ?_); rintro e w2 ⟨rfl, hb⟩; replace HB := Lib.hid (HB.out.trans (hb.mono HB.out.size)); replace HF := Lib.hid (HF.out.below hb); clear hb; clear p0 pl p1 p2 p3 p4 p5 p6 p7 p8 p9 p10 p11 p12; obtain ⟨⟨p0, -, pl⟩, ⟨p1, -, -⟩, ⟨p2, -, -⟩, ⟨p3, -, -⟩, ⟨p4, -, -⟩, ⟨p5, -, -⟩, ⟨p6, -, -⟩, ⟨p7, -, -⟩, ⟨p8, -, -⟩, ⟨p9, -, -⟩, ⟨p10, -, -⟩, ⟨p11, -, -⟩, ⟨p12, -, -⟩⟩ := HF.out)
    | (go_at_call 8; (with_reducible refine (HPL.out _ HB.out).mono ?_); rintro e w3 ⟨⟨va, vc, rfl, hV⟩, hb⟩; have hb2 := HB.out.trans (hb.mono HB.out.size); replace HB := Lib.hid (hb2.alloc hb2.size (.cells #[.slice va L.length vc, .int .i64 k, .int .i64 nr, .int .i64 ns, .bool pf, .int .i64 pid, .string info] 38)); replace HF := Lib.hid ((HF.out.below hb).alloc (.cells #[.slice va L.length vc, .int .i64 k, .int .i64 nr, .int .i64 ns, .bool pf, .int .i64 pid, .string info] 38)); have HW := Lib.hid (P7.new w3 w3.heap.size rfl (.slice va L.length vc) (.int .i64 k) (.int .i64 nr) (.int .i64 ns) (.bool pf) (.int .i64 pid) (.string info) 38); have HV := Lib.hid (hV.alloc (.cells #[.slice va L.length vc, .int .i64 k, .int .i64 nr, .int .i64 ns, .bool pf, .int .i64 pid, .string info] 38)); clear hb hb2 hV; clear p0 pl p1 p2 p3 p4 p5 p6 p7 p8 p9 p10 p11 p12; obtain ⟨⟨q0, -, ql⟩, ⟨q1, -, -⟩, ⟨q2, -, -⟩, ⟨q3, -, -⟩, ⟨q4, -, -⟩, ⟨q5, -, -⟩, ⟨q6, -, -⟩⟩ := HW.out)
    | (go_at_call 9; (with_reducible refine (HWR.out va vc _ HV.out).mono ?_); rintro e w4 ⟨rfl, hb⟩; replace HB := Lib.hid (HB.out.trans (hb.mono HB.out.size)); replace HF := Lib.hid (HF.out.below hb); replace HW := Lib.hid (HW.out.below hb); replace HV := Lib.hid (HV.out.below hb); clear hb; clear q0 ql q1 q2 q3 q4 q5 q6; obtain ⟨⟨p0, -, pl⟩, ⟨p1, -, -⟩, ⟨p2, -, -⟩, ⟨p3, -, -⟩, ⟨p4, -, -⟩, ⟨p5, -, -⟩, ⟨p6, -, -⟩, ⟨p7, -, -⟩, ⟨p8, -, -⟩, ⟨p9, -, -⟩, ⟨p10, -, -⟩, ⟨p11, -, -⟩, ⟨p12, -, -⟩⟩ := HF.out)
    | (go_at_call 10; (with_reducible refine (HEN.out _ HB.out).mono ?_); rintro e w5 ⟨rfl, hb⟩; replace HB := Lib.hid (HB.out.trans (hb.mono HB.out.size)); replace HF := Lib.hid (HF.out.below hb); replace HW := Lib.hid (HW.out.below hb); replace HV := Lib.hid (HV.out.below hb); clear hb; clear p0 pl p1 p2 p3 p4 p5 p6 p7 p8 p9 p10 p11 p12; obtain ⟨⟨p0, -, pl⟩, ⟨p1, -, -⟩, ⟨p2, -, -⟩, ⟨p3, -, -⟩, ⟨p4, -, -⟩, ⟨p5, -, -⟩, ⟨p6, -, -⟩, ⟨p7, -, -⟩, ⟨p8, -, -⟩, ⟨p9, -, -⟩, ⟨p10, -, -⟩, ⟨p11, -, -⟩, ⟨p12, -, -⟩⟩ := HF.out)
    | (go_at_call 11; (with_reducible refine (HRI.out _ HB.out).mono ?_); rintro e w6 ⟨rfl, hb⟩; replace HB := Lib.hid (HB.out.trans (hb.mono HB.out.size)); replace HF := Lib.hid (HF.out.below hb); replace HW := Lib.hid (HW.out.below hb); replace HV := Lib.hid (HV.out.below hb); clear hb; clear p0 pl p1 p2 p3 p4 p5 p6 p7 p8 p9 p10 p11 p12)
    | (go_at_call 12; (with_reducible refine (HDE.out _ HB.out).mono ?_); rintro e w7 ⟨⟨da, dc, rfl, hG⟩, hb⟩; have hb2 := HB.out.trans (hb.mono HB.out.size); replace HB := Lib.hid (hb2.alloc hb2.size (.cells #[.string tb, .int .i64 tn, .string fb, .int .i64 fn, .bool tm, .bool fm, .slice da D.length dc, .int .i64 k, .int .i64 nr, .int .i64 ns, .bool pf, .int .i64 pid, .string info] 30)); replace HW := Lib.hid ((HW.out.below hb).alloc (.cells #[.string tb, .int .i64 tn, .string fb, .int .i64 fn, .bool tm, .bool fm, .slice da D.length dc, .int .i64 k, .int .i64 nr, .int .i64 ns, .bool pf, .int .i64 pid, .string info] 30)); replace HV := Lib.hid ((HV.out.below hb).alloc (.cells #[.string tb, .int .i64 tn, .string fb, .int .i64 fn, .bool tm, .bool fm, .slice da D.length dc, .int .i64 k, .int .i64 nr, .int .i64 ns, .bool pf, .int .i64 pid, .string info] 30)); have HGB := Lib.hid (F13.new w7 w7.heap.size rfl (.string tb) (.int .i64 tn) (.string fb) (.int .i64 fn) (.bool tm) (.bool fm) (.slice da D.length dc) (.int .i64 k) (.int .i64 nr) (.int .i64 ns) (.bool pf) (.int .i64 pid) (.string info) 30); have HGE := Lib.hid (hG.alloc (.cells #[.string tb, .int .i64 tn, .string fb, .int .i64 fn, .bool tm, .bool fm, .slice da D.length dc, .int .i64 k, .int .i64 nr, .int .i64 ns, .bool pf, .int .i64 pid, .string info] 30)); clear hb hb2 hG HF))
  generalize w7.alloc (.cells #[.string tb, .int .i64 tn, .string fb, .int .i64 fn, .bool tm, .bool fm, .slice da D.length dc, .int .i64 k, .int .i64 nr, .int .i64 ns, .bool pf, .int .i64 pid, .string info] 30) = W at *
  have HBO := HB
  clear HB
  have HB1 := Lib.hid ((Below.refl W.heap.size W).drew)
  refine wp_region_held (S := fun W' => Below W.heap.size W W') (by kernel_rfl) ?_
  change wpAnyH _ _ _ _ _ _ _ _ W.drew
  have HB := Lib.hid ((Below.refl W.heap.size W).drew)
  refine wpAnyH_take (i := 0) (v := ?_) rfl (by kernel_rfl) (by kernel_rfl) (by kernel_rfl) (fun _ _ _ h => h) (Or.inl ⟨by rfl, ?_⟩) HB.out ?_
  rotate_left
  · intro w' hw'
    go_simp
    with_reducible rfl
  go_simp
  refine wpAnyH_take (i := 2) (v := ?_) rfl (by kernel_rfl) (by kernel_rfl) (by kernel_rfl) (fun _ _ _ h => h) (Or.inl ⟨by rfl, ?_⟩) HB.out ?_
  rotate_left
  · intro w' hw'
    go_simp
    with_reducible rfl
  go_simp
  refine wpAnyH_take (i := 1) (v := ?_) rfl (by kernel_rfl) (by kernel_rfl) (by kernel_rfl) (fun _ _ _ h => h) (Or.inl ⟨by rfl, ?_⟩) HB.out ?_
  rotate_left
  · intro w' hw'
    obtain ⟨⟨q0, -, ql⟩, ⟨q1, -, -⟩, ⟨q2, -, -⟩, ⟨q3, -, -⟩, ⟨q4, -, -⟩, ⟨q5, -, -⟩, ⟨q6, -, -⟩⟩ := HW.out.below hw'
    go_simp
    with_reducible rfl
  go_simp
  refine wpAnyH_ready (rs := [3]) (by kernel_rfl) (by simp) ?_
  refine AllReadyH.cons rfl (fun K hK => ?_) AllReadyH.nil
  go_simp
  go_at_call 13
  refine (HRN.out va vc _ HV.out.drew).mono ?_
  rintro e w8 ⟨rfl, hb⟩
  have HB := Lib.hid (show Below W.heap.size W w8 from HB1.out.trans (hb.mono (Nat.le_refl _)))
  clear hb
  change K _ _
  refine hK.out _ _ HB.out (fun _ => ?_)
  clear hK K
  refine wpAnyH_take (i := 4) (v := ?_) rfl (by kernel_rfl) (by kernel_rfl) (by kernel_rfl) (fun _ _ _ h => h) (Or.inl ⟨by rfl, ?_⟩) HB.out ?_
  rotate_left
  · intro w' hw'
    go_simp
    with_reducible rfl
  go_simp
  refine wpAnyH_take (i := 5) (v := ?_) rfl (by kernel_rfl) (by kernel_rfl) (by kernel_rfl) (fun _ _ _ h => h) (Or.inl ⟨by rfl, ?_⟩) HB.out ?_
  rotate_left
  · intro w' hw'
    go_simp
    with_reducible rfl
  go_simp
  refine wpAnyH_take (i := 6) (v := ?_) rfl (by kernel_rfl) (by kernel_rfl) (by kernel_rfl) (fun _ _ _ h => h) (Or.inl ⟨by rfl, ?_⟩) HB.out ?_
  rotate_left
  · intro w' hw'
    go_simp
    with_reducible rfl
  go_simp
  refine wpAnyH_take (i := 7) (v := ?_) rfl (by kernel_rfl) (by kernel_rfl) (by kernel_rfl) (fun _ _ _ h => h) (Or.inl ⟨by rfl, ?_⟩) HB.out ?_
  rotate_left
  · intro w' hw'
    go_simp
    with_reducible rfl
  go_simp
  refine wpAnyH_take (i := 8) (v := ?_) rfl (by kernel_rfl) (by kernel_rfl) (by kernel_rfl) (fun _ _ _ h => h) (Or.inl ⟨by rfl, ?_⟩) HB.out ?_
  rotate_left
  · intro w' hw'
    go_simp
    with_reducible rfl
  go_simp
  refine wpAnyH_take (i := 9) (v := ?_) rfl (by kernel_rfl) (by kernel_rfl) (by kernel_rfl) (fun _ _ _ h => h) (Or.inl ⟨by rfl, ?_⟩) HB.out ?_
  rotate_left
  · intro w' hw'
    go_simp
    with_reducible rfl
  go_simp
  refine wpAnyH_take (i := 10) (v := ?_) rfl (by kernel_rfl) (by kernel_rfl) (by kernel_rfl) (fun _ _ _ h => h) (Or.inl ⟨by rfl, ?_⟩) HB.out ?_
  rotate_left
  · intro w' hw'
    obtain ⟨⟨p0, -, pl⟩, ⟨p1, -, -⟩, ⟨p2, -, -⟩, ⟨p3, -, -⟩, ⟨p4, -, -⟩, ⟨p5, -, -⟩, ⟨p6, -, -⟩, ⟨p7, -, -⟩, ⟨p8, -, -⟩, ⟨p9, -, -⟩, ⟨p10, -, -⟩, ⟨p11, -, -⟩, ⟨p12, -, -⟩⟩ := HGB.out.below hw'
    go_simp
    with_reducible rfl
  go_simp
  refine wpAnyH_take (i := 12) (v := ?_) rfl (by kernel_rfl) (by kernel_rfl) (by kernel_rfl) (fun _ _ _ h => h) (Or.inl ⟨by rfl, ?_⟩) HB.out ?_
  rotate_left
  · intro w' hw'
    obtain ⟨⟨q0, -, ql⟩, ⟨q1, -, -⟩, ⟨q2, -, -⟩, ⟨q3, -, -⟩, ⟨q4, -, -⟩, ⟨q5, -, -⟩, ⟨q6, -, -⟩⟩ := HW.out.below hw'
    go_simp
    with_reducible rfl
  go_simp
  refine wpAnyH_ready (rs := [11]) (by kernel_rfl) (by simp) ?_
  refine AllReadyH.cons rfl (fun K hK => ?_) AllReadyH.nil
  go_simp
  go_at_call 8
  refine (HPG.out da dc _ (HGE.out.below HB.out)).mono ?_
  rintro e w9 ⟨⟨ua, uc, rfl, hU⟩, hb⟩
  replace HB := Lib.hid (show Below W.heap.size W w9 from HB.out.trans (hb.mono HB.out.size))
  have HU := Lib.hid hU
  clear hb hU
  change K _ _
  refine hK.out _ _ HB.out (fun _ => ?_)
  clear hK K
  refine wpAnyH_ready (rs := [13]) (by kernel_rfl) (by simp) ?_
  refine AllReadyH.cons rfl (fun K hK => ?_) AllReadyH.nil
  go_simp
  go_at_call 14
  refine (HSA.out ua va uc vc _ HU.out (HV.out.below HB.out)).mono ?_
  rintro e w10 ⟨rfl, hb⟩
  replace HB := Lib.hid (show Below W.heap.size W w10 from HB.out.trans (hb.mono HB.out.size))
  clear hb
  change K _ _
  refine hK.out _ _ HB.out (fun _ => ?_)
  clear hK K
  refine wpAnyH_take (i := 14) (v := ?_) rfl (by kernel_rfl) (by kernel_rfl) (by kernel_rfl) (fun _ _ _ h => h) (Or.inl ⟨by rfl, ?_⟩) HB.out ?_
  rotate_left
  · intro w' hw'
    go_simp
    with_reducible rfl
  go_simp
  refine wpAnyH_take (i := 15) (v := ?_) rfl (by kernel_rfl) (by kernel_rfl) (by kernel_rfl) (fun _ _ _ h => h) (Or.inl ⟨by rfl, ?_⟩) HB.out ?_
  rotate_left
  · intro w' hw'
    go_simp
    with_reducible rfl
  go_simp
  refine wpAnyH_take (i := 16) (v := ?_) rfl (by kernel_rfl) (by kernel_rfl) (by kernel_rfl) (fun _ _ _ h => h) (Or.inl ⟨by rfl, ?_⟩) HB.out ?_
  rotate_left
  · intro w' hw'
    go_simp
    with_reducible rfl
  go_simp
  refine wpAnyH_take (i := 17) (v := ?_) rfl (by kernel_rfl) (by kernel_rfl) (by kernel_rfl) (fun _ _ _ h => h) (Or.inl ⟨by rfl, ?_⟩) HB.out ?_
  rotate_left
  · intro w' hw'
    go_simp
    with_reducible rfl
  go_simp
  refine wpAnyH_take (i := 18) (v := ?_) rfl (by kernel_rfl) (by kernel_rfl) (by kernel_rfl) (fun _ _ _ h => h) (Or.inl ⟨by rfl, ?_⟩) HB.out ?_
  rotate_left
  · intro w' hw'
    go_simp
    with_reducible rfl
  go_simp
  refine wpAnyH_take (i := 19) (v := ?_) rfl (by kernel_rfl) (by kernel_rfl) (by kernel_rfl) (fun _ _ _ h => h) (Or.inl ⟨by rfl, ?_⟩) HB.out ?_
  rotate_left
  · intro w' hw'
    go_simp
    with_reducible rfl
  go_simp
  refine wpAnyH_ready (rs := [20]) (by kernel_rfl) (by simp) ?_
  refine AllReadyH.cons rfl (fun K hK => ?_) AllReadyH.nil
  go_simp
  refine hK.out _ _ HB.out (fun _ => ?_)
  clear hK K
  refine wpAnyH_done (by kernel_rfl) ?_ _
  go_wp2_with fail
  go_ret
  exact ⟨rfl, HBO.out.trans (HB.out.mono HBO.out.size)⟩
theorem fencodes_any (tb fb : ByteArray) (tn fn : Int) (tm fm : Bool) (a : Option Addr) (cap : Nat) (D : List Ent) (k nr ns : Int) (pf : Bool) (pid : Int) (info : ByteArray) (wide : Bool) (w : World) (hC : CodesOk w) (hN : NamesOk w) (hE : EntsAt w a cap D) :
    Calls Tryd.prog 3 #[.agg #[.string tb, .int .i64 tn, .string fb, .int .i64 fn, .bool tm, .bool fm, .slice a D.length cap, .int .i64 k, .int .i64 nr, .int .i64 ns, .bool pf, .int .i64 pid, .string info], .bool wide] w fun e w' => e = .returned (.bool true) ∧ Below w.heap.size w w' := by
  by_cases h : 30 < D.length ∨ 2000 < info.size
  · exact fencodes_great tb fb tn fn tm fm a D.length cap k nr ns pf pid info wide w hC hN h
  · by_cases hw : wrongF ((tb, tn, tm) :: (fb, fn, fm) :: D) k nr ns wide pid info.size = 0
    · exact fencodes_yes tb fb tn fn tm fm a cap D k nr ns pf pid info wide w hC hN (by omega) (by omega) hE hw
    · exact fencodes_no tb fb tn fn tm fm a cap D k nr ns pf pid info wide w hC hN (by omega) (by omega) hE hw
end Go.Proofs.YtplandmnmdkjmaaDoor
