/-
The document's own Decode of any bytes: what it reads.
-/
import Derived.Test.YtadhiknmkiogjaaDoorDigRDec
import Derived.Test.YtadhiknmkiogjaaDoorFrmCDecX
namespace Go.Proofs.YtadhiknmkiogjaaDoor
open Go.RowKit Go.Sort
set_option maxRecDepth 20000
/-- what it answers: the error, and, if it is none, all that it read -/
def RDecY (s : List UInt8) (wide : Bool) (w : World) (e : Ending) (w' : World) : Prop :=
  (∃ (a : Option Addr) (n c : Nat) (k nr ns : Nat) (pf : Bool) (pid : Int) (info : ByteArray) (er : Nat), e = .returned (.tuple #[.agg #[.slice a n c, .int .i64 (k : Int), .int .i64 (nr : Int), .int .i64 (ns : Int), .bool pf, .int .i64 pid, .string info], .int .i64 (er : Int)]) ∧ er = decE s wide ∧ (er = 0 → n = (getP 10 [] s).2.length ∧ k = (ctlOf s wide).1 ∧ EntsAt w' a c (getP 10 [] s).2 ∧ PidInf s wide pid info.data.toList)) ∧ Below w.heap.size w w'
set_option maxHeartbeats 4000000 in
theorem rdecy_yes (s : ByteArray) (wide : Bool) (w : World) (hs : s.size ≤ 100000) (h : (getP 10 [] s.data.toList).1 = 0) (he : (ctlOf s.data.toList wide).2.2.2.2.2 = 0) (h00 : decE s.data.toList wide = 0) :
    Calls Tryd.prog 25 #[.string s, .bool wide] w fun e w' => RDecY s.data.toList wide w e w' := by
  have HB0 := Lib.hid ((Below.refl _ w).alloc (Nat.le_refl _) (.cells #[.slice none 0 0, .int .i64 0, .int .i64 0, .int .i64 0, .bool false, .int .i64 0, .string ⟨#[]⟩] 73))
  have HF0 := Lib.hid (P7.new w w.heap.size rfl (.slice none 0 0) (.int .i64 0) (.int .i64 0) (.int .i64 0) (.bool false) (.int .i64 0) (.string ⟨#[]⟩) 73)
  have hde : decE s.data.toList wide = if pidD ((ctlOf s.data.toList wide).1 : Int) = true then (if s.size ≤ 7 * (getP 10 [] s.data.toList).2.length + (ctlOf s.data.toList wide).2.2.2.2.1 then 4 else infE ((ctlOf s.data.toList wide).1 : Int) (s.size - (7 * (getP 10 [] s.data.toList).2.length + (ctlOf s.data.toList wide).2.2.2.2.1 + 1)))
    else infE ((ctlOf s.data.toList wide).1 : Int) (s.size - (7 * (getP 10 [] s.data.toList).2.length + (ctlOf s.data.toList wide).2.2.2.2.1)) := by
    have e : begE s.data.toList wide = 0 := by unfold begE; rw [if_neg (fun q => q h)]; exact he
    have el : s.data.toList.length = s.size := by simp
    unfold decE
    rw [e, if_neg (fun q => q rfl), el]
  rw [h00] at hde
  have hlen := getP_bytes s.data.toList h
  have hsl : s.data.toList.length = s.size := by simp
  obtain ⟨T, hT⟩ : ∃ T : ByteArray, T = ⟨(s.data.toList.drop (7 * (getP 10 [] s.data.toList).2.length)).toArray⟩ := ⟨_, rfl⟩
  obtain ⟨N, hN⟩ : ∃ N : Nat, N = 7 * (getP 10 [] s.data.toList).2.length := ⟨_, rfl⟩
  have hcut := fun (W : World) => run_slice_string_l (P := Tryd.prog) (w := W) 9 s Tryd.underlying9 .i64 (N : Int) (by omega) (by omega)
  rw [show s.extract ((N : Int)).toNat s.size = T from by
    apply bytes_ext'
    rw [Lib.extract_to_end, hT, show ((N : Int)).toNat = N from by omega, hN]] at hcut
  have hcg := fun W => r6get_any T wide W
  rw [show T.data.toList = s.data.toList.drop (7 * (getP 10 [] s.data.toList).2.length) from by rw [hT]] at hcg
  have hg := fun W => (rpget_own s W)
  unfold RGetO at hg
  obtain ⟨LL, hLL⟩ : ∃ L, L = (getP 10 [] s.data.toList).2 := ⟨_, rfl⟩
  have hg2 := fun W => (hg W).mono fun e w' hq => show (∃ ga gc, e = .returned (.tuple #[.agg #[.slice ga LL.length gc], .int .i64 ((7 * LL.length : Nat) : Int), .int .i64 0]) ∧ OwnE 67 w' W.heap.size (.slice ga LL.length gc) LL) ∧ Below W.heap.size W w' from by
    obtain ⟨⟨v, h1, ho, _⟩, h4⟩ := hq
    obtain ⟨ga, gc, hv⟩ := ho.len
    rw [if_pos h, h, hv] at h1
    rw [hv] at ho
    rw [hLL]
    exact ⟨⟨ga, gc, h1, ho⟩, h4⟩
  have hco : ctlOf s.data.toList wide = refGet (s.data.toList.drop (7 * (getP 10 [] s.data.toList).2.length)) wide := rfl
  have hml : (ctlOf s.data.toList wide).2.2.2.2.1 ≤ (s.data.toList.drop (7 * (getP 10 [] s.data.toList).2.length)).length := by rw [hco]; exact refget_len _ _
  have hml2 : (ctlOf s.data.toList wide).2.2.2.2.1 ≤ 2 := by rw [hco]; exact ref_len _ _
  have hhd : headN s.data.toList wide = N + (ctlOf s.data.toList wide).2.2.2.2.1 := by unfold headN; rw [hN]
  rw [List.length_drop, hsl, ← hN] at hml
  rw [← hco] at hcg
  rw [← hN] at hde
  rw [← hLL] at hN hlen
  rw [← hN] at hg2
  have hpi : ∀ (pid : Int) (info : List UInt8), PidInf s.data.toList wide pid info ↔ ((pidD ((ctlOf s.data.toList wide).1 : Int) = false → pid = 0 ∧ info = s.data.toList.drop (N + (ctlOf s.data.toList wide).2.2.2.2.1)) ∧ (pidD ((ctlOf s.data.toList wide).1 : Int) = true → ∃ b : UInt8, s.data.toList.drop (N + (ctlOf s.data.toList wide).2.2.2.2.1) = b :: info ∧ pid = (b.toNat : Int))) := fun pid info => by unfold PidInf; rw [hhd]
  unfold RDecY
  rw [← hLL, h00]
  generalize PidInf s.data.toList wide = PI at *
  generalize ctlOf s.data.toList wide = C at *
  obtain ⟨k, nr, ns, pf, m, er⟩ := C
  unfold gotU at hcg
  dsimp only at hcg he hml hml2 hde hpi
  have HD := Lib.hid hde
  clear hde
  subst he
  have hNs : N ≤ s.size := by omega
  obtain ⟨A, hA⟩ : ∃ A : Nat, A = N + m := ⟨_, rfl⟩
  have hAs : A ≤ s.size := by omega
  rw [← hA] at HD
  have HPJ := Lib.hid hpi
  rw [← hA] at HPJ
  have hwr : wrap64 ((N : Int) + (m : Int)) = (A : Int) := by rw [IntWalk.wrap64_in _ (by omega)]; omega
  have hpd := fun W => rhaspid_any (k : Int) W
  have HG := Lib.hid hg2
  have HCG := Lib.hid hcg
  clear hg hg2 hcg hco hT hN h hlen hsl hml hml2 hA hNs hLL hpi hhd h00
  cases hp : pidD (k : Int)
  · rw [hp] at hpd HD
    have HPD := Lib.hid hpd
    obtain ⟨J, hJ, hcutA⟩ := slice_rest s A hAs
    have hJs : J.size = s.size - A := by
      have h1 : J.data.toList.length = J.size := by simp
      rw [← h1, hJ, List.length_drop]
      simp
    rw [if_neg Bool.false_ne_true, ← hJs] at HD
    have HPI := Lib.hid (show PI 0 J.data.toList from (HPJ.out 0 J.data.toList).2 ⟨fun _ => ⟨rfl, hJ⟩, fun q => absurd (hp.symm.trans q) (by decide)⟩)
    clear hpd hp hJ hJs HPJ
    have hin := fun ga n gc W => rinfo_any ga n gc (k : Int) (nr : Int) (ns : Int) pf 0 J W
    rw [← HD.out] at hin
    have HIN := Lib.hid hin
    clear hin HD
    go_enter Tryd.func25, Tryd.ntmps25
    go_wp2_with (first
      | (go_at_call 44; (with_reducible refine (HG.out _).mono ?_); rintro e w1 ⟨⟨ga, gc, rfl, ho⟩, hb⟩; have hb1 := HB0.out.trans (hb.mono HB0.out.size); have HO := Lib.hid ((ho.base (B' := w.heap.size + 1) (by simp)).alloc (.cells #[.slice ga LL.length gc] 70)); have HB := Lib.hid (hb1.alloc hb1.size (.cells #[.slice ga LL.length gc] 70)); have HF := Lib.hid ((HF0.out.below hb).alloc (.cells #[.slice ga LL.length gc] 70)); have HP := Lib.hid (show KeepAt (w1.alloc (.cells #[.slice ga LL.length gc] 70)) w1.heap.size 0 (.slice ga LL.length gc) from ⟨World.cell?_alloc_at _ _ _ _ rfl, World.frozen?_alloc_at _ _ _ _ rfl, by simp⟩); clear hb hb1 ho)
      | (go_at_call 45; (with_reducible refine (HCG.out _).mono ?_); rintro e w2 ⟨rfl, hb⟩; have HO2 := Lib.hid (HO.out.below hb); have HB2 := Lib.hid (HB.out.trans (hb.mono HB.out.size)); have HF2 := Lib.hid (HF.out.below hb); have HP2 := Lib.hid (HP.out.below hb); clear hb HB HF HP HO; obtain ⟨⟨p0, q0, pl⟩, ⟨p1, q1, -⟩, ⟨p2, q2, -⟩, ⟨p3, q3, -⟩, ⟨p4, q4, -⟩, ⟨p5, q5, -⟩, ⟨p6, q6, -⟩⟩ := HF2.out; obtain ⟨r0, -, rl⟩ := HP2.out)
      | (go_at_call 37; (with_reducible refine (HPD.out _).mono ?_); rintro e w3 ⟨rfl, rfl⟩)
      | (go_at_call 38; (with_reducible refine (HIN.out ga LL.length gc _).mono ?_); rintro e w4 ⟨rfl, hb⟩; have HO4 := Lib.hid (((HO2.out.alloc (.cells #[.int .i64 (k : Int), .int .i64 (nr : Int), .int .i64 (ns : Int), .bool pf] 71)).alloc (.cells #[.slice ga LL.length gc, .int .i64 (k : Int), .int .i64 (nr : Int), .int .i64 (ns : Int), .bool pf, .int .i64 0, .string J] 73)).below hb); have hb2 := (HB2.out.alloc HB2.out.size (.cells #[.int .i64 (k : Int), .int .i64 (nr : Int), .int .i64 (ns : Int), .bool pf] 71)); have hb3 := hb2.alloc hb2.size (.cells #[.slice ga LL.length gc, .int .i64 (k : Int), .int .i64 (nr : Int), .int .i64 (ns : Int), .bool pf, .int .i64 0, .string J] 73); have HB4 := Lib.hid (hb3.trans (hb.mono hb3.size)); have HF4 := Lib.hid (((HF2.out.alloc (.cells #[.int .i64 (k : Int), .int .i64 (nr : Int), .int .i64 (ns : Int), .bool pf] 71)).alloc (.cells #[.slice ga LL.length gc, .int .i64 (k : Int), .int .i64 (nr : Int), .int .i64 (ns : Int), .bool pf, .int .i64 0, .string J] 73)).below hb); have HQ4 := Lib.hid ((P7.new (w2.alloc (.cells #[.int .i64 (k : Int), .int .i64 (nr : Int), .int .i64 (ns : Int), .bool pf] 71)) (w2.heap.size + 1) (by simp) (.slice ga LL.length gc) (.int .i64 (k : Int)) (.int .i64 (nr : Int)) (.int .i64 (ns : Int)) (.bool pf) (.int .i64 0) (.string J) 73).below hb); clear hb hb2 hb3 HB2 HF2 HO2; clear p0 q0 pl p1 q1 p2 q2 p3 q3 p4 q4 p5 q5 p6 q6; obtain ⟨⟨p0, q0, pl⟩, ⟨p1, q1, -⟩, ⟨p2, q2, -⟩, ⟨p3, q3, -⟩, ⟨p4, q4, -⟩, ⟨p5, q5, -⟩, ⟨p6, q6, -⟩⟩ := HF4.out; obtain ⟨⟨o0, -, ol⟩, ⟨o1, -, -⟩, ⟨o2, -, -⟩, ⟨o3, -, -⟩, ⟨o4, -, -⟩, ⟨o5, -, -⟩, ⟨o6, -, -⟩⟩ := HQ4.out))
    have S7 := stored7 (.slice ga LL.length gc) (.int .i64 (k : Int)) (.int .i64 (nr : Int)) (.int .i64 (ns : Int)) (.bool pf) (.int .i64 0) (.string J) HF4.out
    have HBF := Lib.hid (set7_below HB4.out (Nat.le_refl _) (.slice ga LL.length gc) (.int .i64 (k : Int)) (.int .i64 (nr : Int)) (.int .i64 (ns : Int)) (.bool pf) (.int .i64 0) (.string J))
    have HOF := Lib.hid (own7 (m := w.heap.size) HO4.out (by omega) (.slice ga LL.length gc) (.int .i64 (k : Int)) (.int .i64 (nr : Int)) (.int .i64 (ns : Int)) (.bool pf) (.int .i64 0) (.string J))
    exact bodyPost_ret (v := .tuple #[.agg #[.slice ga LL.length gc, .int .i64 (k : Int), .int .i64 (nr : Int), .int .i64 (ns : Int), .bool pf, .int .i64 0, .string J], .int .i64 0]) (by simp [results, Tryd.results25, go_sem, S7.k0.cell, S7.k1.cell, S7.k2.cell, S7.k3.cell, S7.k4.cell, S7.k5.cell, S7.k6.cell]) rfl ⟨⟨ga, LL.length, gc, k, nr, ns, pf, 0, J, 0, rfl, rfl, fun _ => ⟨rfl, rfl, ents_of_own HOF.out, HPI.out⟩⟩, HBF.out⟩
  · rw [hp] at hpd HD
    rw [if_pos rfl] at HD
    have HPD := Lib.hid hpd
    clear hpd
    by_cases hend : A < s.size
    · have dA : decide ((s.size : Int) ≤ (A : Int)) = false := decide_eq_false (by omega)
      obtain ⟨J, hJ, hcutA⟩ := slice_rest s (A + 1) (by omega)
      have hJs : J.size = s.size - (A + 1) := by
        have h1 : J.data.toList.length = J.size := by simp
        rw [← h1, hJ, List.length_drop]
        simp
      rw [if_neg (Nat.not_le.2 hend), ← hJs] at HD
      have hA1 : wrap64 ((A : Int) + 1) = (A : Int) + 1 := IntWalk.wrap64_in _ (by omega)
      have hcutB : ∀ W, (Instr.slice 9 (.string s) (some (.int .i64 ((A : Int) + 1))) none none).run Tryd.prog W = .ok (.string J) W := hcutA
      obtain ⟨Q, hQ⟩ : ∃ Q : Int, Q = ((s[A].toNat : Nat) : Int) := ⟨_, rfl⟩
      have hq1 : ((s[A].toNat : Nat) : Int) = Q := hQ.symm
      have hq2 : wrap64 Q = Q := by rw [hQ]; exact wrap_num _ (blt' _)
      have hdr : s.data.toList.drop A = s[A] :: J.data.toList := by
        have hl : A < s.data.toList.length := by simpa using hend
        rw [List.drop_eq_getElem_cons hl, hJ]
        rfl
      have HPI := Lib.hid (show PI Q J.data.toList from (HPJ.out Q J.data.toList).2 ⟨fun q => absurd (hp.symm.trans q) (by decide), fun _ => ⟨s[A], hdr, hQ⟩⟩)
      clear hdr
      clear hQ hp hJ hJs HPJ
      have hin := fun ga n gc W => rinfo_any ga n gc (k : Int) (nr : Int) (ns : Int) pf Q J W
      rw [← HD.out] at hin
      have HIN := Lib.hid hin
      clear hin HD
      go_enter Tryd.func25, Tryd.ntmps25
      go_wp2_with (first
        | (go_at_call 44; (with_reducible refine (HG.out _).mono ?_); rintro e w1 ⟨⟨ga, gc, rfl, ho⟩, hb⟩; have hb1 := HB0.out.trans (hb.mono HB0.out.size); have HO := Lib.hid ((ho.base (B' := w.heap.size + 1) (by simp)).alloc (.cells #[.slice ga LL.length gc] 70)); have HB := Lib.hid (hb1.alloc hb1.size (.cells #[.slice ga LL.length gc] 70)); have HF := Lib.hid ((HF0.out.below hb).alloc (.cells #[.slice ga LL.length gc] 70)); have HP := Lib.hid (show KeepAt (w1.alloc (.cells #[.slice ga LL.length gc] 70)) w1.heap.size 0 (.slice ga LL.length gc) from ⟨World.cell?_alloc_at _ _ _ _ rfl, World.frozen?_alloc_at _ _ _ _ rfl, by simp⟩); clear hb hb1 ho)
        | (go_at_call 45; (with_reducible refine (HCG.out _).mono ?_); rintro e w2 ⟨rfl, hb⟩; have HO2 := Lib.hid (HO.out.below hb); have HB2 := Lib.hid (HB.out.trans (hb.mono HB.out.size)); have HF2 := Lib.hid (HF.out.below hb); have HP2 := Lib.hid (HP.out.below hb); clear hb HB HF HP HO; obtain ⟨⟨p0, q0, pl⟩, ⟨p1, q1, -⟩, ⟨p2, q2, -⟩, ⟨p3, q3, -⟩, ⟨p4, q4, -⟩, ⟨p5, q5, -⟩, ⟨p6, q6, -⟩⟩ := HF2.out; obtain ⟨r0, -, rl⟩ := HP2.out)
        | (go_at_call 37; (with_reducible refine (HPD.out _).mono ?_); rintro e w3 ⟨rfl, rfl⟩)
        | (go_at_call 38; (with_reducible refine (HIN.out ga LL.length gc _).mono ?_); rintro e w4 ⟨rfl, hb⟩; have HO4 := Lib.hid (((HO2.out.alloc (.cells #[.int .i64 (k : Int), .int .i64 (nr : Int), .int .i64 (ns : Int), .bool pf] 71)).alloc (.cells #[.slice ga LL.length gc, .int .i64 (k : Int), .int .i64 (nr : Int), .int .i64 (ns : Int), .bool pf, .int .i64 Q, .string J] 73)).below hb); have hb2 := (HB2.out.alloc HB2.out.size (.cells #[.int .i64 (k : Int), .int .i64 (nr : Int), .int .i64 (ns : Int), .bool pf] 71)); have hb3 := hb2.alloc hb2.size (.cells #[.slice ga LL.length gc, .int .i64 (k : Int), .int .i64 (nr : Int), .int .i64 (ns : Int), .bool pf, .int .i64 Q, .string J] 73); have HB4 := Lib.hid (hb3.trans (hb.mono hb3.size)); have HF4 := Lib.hid (((HF2.out.alloc (.cells #[.int .i64 (k : Int), .int .i64 (nr : Int), .int .i64 (ns : Int), .bool pf] 71)).alloc (.cells #[.slice ga LL.length gc, .int .i64 (k : Int), .int .i64 (nr : Int), .int .i64 (ns : Int), .bool pf, .int .i64 Q, .string J] 73)).below hb); have HQ4 := Lib.hid ((P7.new (w2.alloc (.cells #[.int .i64 (k : Int), .int .i64 (nr : Int), .int .i64 (ns : Int), .bool pf] 71)) (w2.heap.size + 1) (by simp) (.slice ga LL.length gc) (.int .i64 (k : Int)) (.int .i64 (nr : Int)) (.int .i64 (ns : Int)) (.bool pf) (.int .i64 Q) (.string J) 73).below hb); clear hb hb2 hb3 HB2 HF2 HO2; clear p0 q0 pl p1 q1 p2 q2 p3 q3 p4 q4 p5 q5 p6 q6; obtain ⟨⟨p0, q0, pl⟩, ⟨p1, q1, -⟩, ⟨p2, q2, -⟩, ⟨p3, q3, -⟩, ⟨p4, q4, -⟩, ⟨p5, q5, -⟩, ⟨p6, q6, -⟩⟩ := HF4.out; obtain ⟨⟨o0, -, ol⟩, ⟨o1, -, -⟩, ⟨o2, -, -⟩, ⟨o3, -, -⟩, ⟨o4, -, -⟩, ⟨o5, -, -⟩, ⟨o6, -, -⟩⟩ := HQ4.out))
      have S7 := stored7 (.slice ga LL.length gc) (.int .i64 (k : Int)) (.int .i64 (nr : Int)) (.int .i64 (ns : Int)) (.bool pf) (.int .i64 Q) (.string J) HF4.out
      have HBF := Lib.hid (set7_below HB4.out (Nat.le_refl _) (.slice ga LL.length gc) (.int .i64 (k : Int)) (.int .i64 (nr : Int)) (.int .i64 (ns : Int)) (.bool pf) (.int .i64 Q) (.string J))
      have HOF := Lib.hid (own7 (m := w.heap.size) HO4.out (by omega) (.slice ga LL.length gc) (.int .i64 (k : Int)) (.int .i64 (nr : Int)) (.int .i64 (ns : Int)) (.bool pf) (.int .i64 Q) (.string J))
      exact bodyPost_ret (v := .tuple #[.agg #[.slice ga LL.length gc, .int .i64 (k : Int), .int .i64 (nr : Int), .int .i64 (ns : Int), .bool pf, .int .i64 Q, .string J], .int .i64 0]) (by simp [results, Tryd.results25, go_sem, S7.k0.cell, S7.k1.cell, S7.k2.cell, S7.k3.cell, S7.k4.cell, S7.k5.cell, S7.k6.cell]) rfl ⟨⟨ga, LL.length, gc, k, nr, ns, pf, Q, J, 0, rfl, rfl, fun _ => ⟨rfl, rfl, ents_of_own HOF.out, HPI.out⟩⟩, HBF.out⟩
    · rw [if_pos (Nat.not_lt.1 hend)] at HD
      exact absurd HD.out (by decide)
theorem rdecy_any (s : ByteArray) (wide : Bool) (w : World) (hs : s.size ≤ 100000) :
    Calls Tryd.prog 25 #[.string s, .bool wide] w fun e w' => RDecY s.data.toList wide w e w' := by
  by_cases h0 : decE s.data.toList wide = 0
  · have hb : begE s.data.toList wide = 0 := by
      by_cases hb : begE s.data.toList wide = 0
      · exact hb
      · unfold decE at h0
        rw [if_pos hb] at h0
        exact h0
    have h1 : (getP 10 [] s.data.toList).1 = 0 := by
      by_cases h1 : (getP 10 [] s.data.toList).1 = 0
      · exact h1
      · unfold begE at hb
        rw [if_pos h1] at hb
        exact hb
    have h2 : (ctlOf s.data.toList wide).2.2.2.2.2 = 0 := by
      unfold begE at hb
      rw [if_neg (fun q => q h1)] at hb
      exact hb
    exact rdecy_yes s wide w hs h1 h2 h0
  · refine (rdecx_any s wide w hs).mono ?_
    rintro e w' ⟨⟨a, n, c, k, nr, ns, pf, pid, info, er, h1, h2⟩, h3⟩
    exact ⟨⟨a, n, c, k, nr, ns, pf, pid, info, er, h1, h2, fun q => absurd (h2.symm.trans q) h0⟩, h3⟩
end Go.Proofs.YtadhiknmkiogjaaDoor
