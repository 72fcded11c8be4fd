/-
The document's own Decode of frames: which kind it tells, where it tells one.
-/
import Derived.Test.YtadhiknmkiogjaaDoorMix17
import Derived.Test.YtadhiknmkiogjaaDoorFrmCBegin
import Derived.Test.YtadhiknmkiogjaaDoorCtlRGet
namespace Go.Proofs.YtadhiknmkiogjaaDoor
open Go.RowKit Go.Sort
set_option maxRecDepth 20000
/-- which error Decode tells; 0: none -/
def decE (s : List UInt8) (wide : Bool) : Nat :=
  if begE s wide ≠ 0 then begE s wide
  else if pidD ((ctlOf s wide).1 : Int) = true then (if s.length ≤ 7 * (getP 10 [] s).2.length + (ctlOf s wide).2.2.2.2.1 then 4 else infE ((ctlOf s wide).1 : Int) (s.length - (7 * (getP 10 [] s).2.length + (ctlOf s wide).2.2.2.2.1 + 1)))
  else infE ((ctlOf s wide).1 : Int) (s.length - (7 * (getP 10 [] s).2.length + (ctlOf s wide).2.2.2.2.1))
/-- what it answers -/
def RDecX (s : List UInt8) (wide : Bool) (w : World) (e : Ending) (w' : World) : Prop :=
  (∃ (a : Option Addr) (n c : Nat) (k nr ns : Nat) (pf : Bool) (pid : Int) (info : ByteArray) (er : Nat), e = .returned (.tuple #[.agg #[.slice a n c, .int .i64 (k : Int), .int .i64 (nr : Int), .int .i64 (ns : Int), .bool pf, .int .i64 pid, .string info], .int .i64 (er : Int)]) ∧ er = decE s wide) ∧ Below w.heap.size w w'
set_option maxHeartbeats 2000000 in
theorem rdecx_path (s : ByteArray) (wide : Bool) (w : World) (h : (getP 10 [] s.data.toList).1 ≠ 0) :
    Calls Tryd.prog 25 #[.string s, .bool wide] w fun e w' => RDecX s.data.toList wide w e w' := by
  have HB0 := Lib.hid ((Below.refl _ w).alloc (Nat.le_refl _) (.cells #[.slice none 0 0, .int .i64 0, .int .i64 0, .int .i64 0, .bool false, .int .i64 0, .string ⟨#[]⟩] 73))
  have HF0 := Lib.hid (P7.new w w.heap.size rfl (.slice none 0 0) (.int .i64 0) (.int .i64 0) (.int .i64 0) (.bool false) (.int .i64 0) (.string ⟨#[]⟩) 73)
  have hde : decE s.data.toList wide = (getP 10 [] s.data.toList).1 := by unfold decE begE; rw [if_pos h, if_pos h]
  have hg := fun W => (rpget_any s W)
  unfold RGetTo at hg
  unfold RDecX
  generalize getP 10 [] s.data.toList = R at *
  obtain ⟨E, L⟩ := R
  dsimp only at h hg hde
  have HDE := Lib.hid hde.symm
  clear hde
  simp only [if_neg h] at hg
  have hz : ((E : Int) != 0) = true := by rw [bne_iff_ne]; omega
  have HG := Lib.hid (fun W => (hg W).mono fun e w' hq => show e = .returned (.tuple #[.agg #[.slice none 0 0], .int .i64 0, .int .i64 (E : Int)]) ∧ Below W.heap.size W w' from by
    obtain ⟨⟨v, h1, _, h3⟩, h4⟩ := hq
    rw [h3 h] at h1
    exact ⟨h1, h4⟩)
  clear hg h
  go_enter Tryd.func25, Tryd.ntmps25
  go_wp2_with (go_at_call 44; (with_reducible refine (HG.out _).mono ?_); rintro e w1 ⟨rfl, hb⟩; have HB := Lib.hid (HB0.out.trans (hb.mono HB0.out.size)); have HF := Lib.hid (HF0.out.below hb); clear hb; obtain ⟨⟨p0, q0, pl⟩, ⟨p1, q1, -⟩, ⟨p2, q2, -⟩, ⟨p3, q3, -⟩, ⟨p4, q4, -⟩, ⟨p5, q5, -⟩, ⟨p6, q6, -⟩⟩ := HF.out)
  have S7 := (stored7 (.slice none 0 0) (.int .i64 0) (.int .i64 0) (.int .i64 0) (.bool false) (.int .i64 0) (.string ⟨#[]⟩) HF.out).alloc (.cells #[.slice none 0 0] 70)
  have HB1 := set7_below HB.out (Nat.le_refl _) (.slice none 0 0) (.int .i64 0) (.int .i64 0) (.int .i64 0) (.bool false) (.int .i64 0) (.string ⟨#[]⟩)
  have HBF := Lib.hid (HB1.alloc HB1.size (.cells #[.slice none 0 0] 70))
  exact bodyPost_ret (v := .tuple #[.agg #[.slice none 0 0, .int .i64 0, .int .i64 0, .int .i64 0, .bool false, .int .i64 0, .string ⟨#[]⟩], .int .i64 (E : Int)]) (by simp [results, Tryd.results25, go_sem, S7.k0.cell, S7.k1.cell, S7.k2.cell, S7.k3.cell, S7.k4.cell, S7.k5.cell, S7.k6.cell]) rfl ⟨⟨none, 0, 0, 0, 0, 0, false, 0, ⟨#[]⟩, E, rfl, HDE.out⟩, HBF.out⟩
set_option maxHeartbeats 2000000 in
theorem rdecx_ctl (s : ByteArray) (wide : Bool) (w : World) (_hs : s.size ≤ 100000) (h : (getP 10 [] s.data.toList).1 = 0) (he : (ctlOf s.data.toList wide).2.2.2.2.2 ≠ 0) :
    Calls Tryd.prog 25 #[.string s, .bool wide] w fun e w' => RDecX s.data.toList wide w e w' := by
  have HB0 := Lib.hid ((Below.refl _ w).alloc (Nat.le_refl _) (.cells #[.slice none 0 0, .int .i64 0, .int .i64 0, .int .i64 0, .bool false, .int .i64 0, .string ⟨#[]⟩] 73))
  have HF0 := Lib.hid (P7.new w w.heap.size rfl (.slice none 0 0) (.int .i64 0) (.int .i64 0) (.int .i64 0) (.bool false) (.int .i64 0) (.string ⟨#[]⟩) 73)
  have hde : (ctlOf s.data.toList wide).2.2.2.2.2 = decE s.data.toList wide := by
    have e : begE s.data.toList wide = (ctlOf s.data.toList wide).2.2.2.2.2 := by unfold begE; rw [if_neg (fun q => q h)]
    unfold decE
    rw [e, if_pos he]
  have hlen := getP_bytes s.data.toList h
  have hsl : s.data.toList.length = s.size := by simp
  obtain ⟨T, hT⟩ : ∃ T : ByteArray, T = ⟨(s.data.toList.drop (7 * (getP 10 [] s.data.toList).2.length)).toArray⟩ := ⟨_, rfl⟩
  obtain ⟨N, hN⟩ : ∃ N : Nat, N = 7 * (getP 10 [] s.data.toList).2.length := ⟨_, rfl⟩
  have hcut := fun (W : World) => run_slice_string_l (P := Tryd.prog) (w := W) 9 s Tryd.underlying9 .i64 (N : Int) (by omega) (by omega)
  rw [show s.extract ((N : Int)).toNat s.size = T from by
    apply bytes_ext'
    rw [Lib.extract_to_end, hT, show ((N : Int)).toNat = N from by omega, hN]] at hcut
  have hcg := fun W => r6get_any T wide W
  rw [show T.data.toList = s.data.toList.drop (7 * (getP 10 [] s.data.toList).2.length) from by rw [hT]] at hcg
  have hg := fun W => (rpget_any s W)
  unfold RGetTo at hg
  have hg2 := fun W => (hg W).mono fun e w' hq => show (∃ ga gc, e = .returned (.tuple #[.agg #[.slice ga (getP 10 [] s.data.toList).2.length gc], .int .i64 ((7 * (getP 10 [] s.data.toList).2.length : Nat) : Int), .int .i64 0])) ∧ Below W.heap.size W w' from by
    obtain ⟨⟨v, h1, ⟨ga, gc, hv, _⟩, _⟩, h4⟩ := hq
    rw [if_pos h, h, hv] at h1
    exact ⟨⟨ga, gc, h1⟩, h4⟩
  rw [← hN] at hg2
  have hco : ctlOf s.data.toList wide = refGet (s.data.toList.drop (7 * (getP 10 [] s.data.toList).2.length)) wide := rfl
  rw [← hco] at hcg
  unfold RDecX
  generalize ctlOf s.data.toList wide = C at *
  obtain ⟨k, nr, ns, pf, m, er⟩ := C
  unfold gotU at hcg
  dsimp only at hcg he hde
  have HDE := Lib.hid hde
  clear hde
  generalize (getP 10 [] s.data.toList).2.length = n at *
  have HG := Lib.hid hg2
  have HCG := Lib.hid hcg
  have hz : ((er : Int) != 0) = true := by rw [bne_iff_ne]; omega
  clear hg hg2 hcg hco hT hN h hlen hsl he
  go_enter Tryd.func25, Tryd.ntmps25
  go_wp2_with (first
    | (go_at_call 44; (with_reducible refine (HG.out _).mono ?_); rintro e w1 ⟨⟨ga, gc, rfl⟩, hb⟩; have hb1 := HB0.out.trans (hb.mono HB0.out.size); have HB := Lib.hid (hb1.alloc hb1.size (.cells #[.slice ga n gc] 70)); have HF := Lib.hid ((HF0.out.below hb).alloc (.cells #[.slice ga n gc] 70)); have HP := Lib.hid (show KeepAt (w1.alloc (.cells #[.slice ga n gc] 70)) w1.heap.size 0 (.slice ga n gc) from ⟨World.cell?_alloc_at _ _ _ _ rfl, World.frozen?_alloc_at _ _ _ _ rfl, by simp⟩); clear hb hb1)
    | (go_at_call 45; (with_reducible refine (HCG.out _).mono ?_); rintro e w2 ⟨rfl, hb⟩; have HB2 := Lib.hid (HB.out.trans (hb.mono HB.out.size)); have HF2 := Lib.hid (HF.out.below hb); clear hb HB HF; obtain ⟨⟨p0, q0, pl⟩, ⟨p1, q1, -⟩, ⟨p2, q2, -⟩, ⟨p3, q3, -⟩, ⟨p4, q4, -⟩, ⟨p5, q5, -⟩, ⟨p6, q6, -⟩⟩ := HF2.out))
  have S7 := (stored7 (.slice none 0 0) (.int .i64 0) (.int .i64 0) (.int .i64 0) (.bool false) (.int .i64 0) (.string ⟨#[]⟩) HF2.out).alloc (.cells #[.int .i64 (k : Int), .int .i64 (nr : Int), .int .i64 (ns : Int), .bool pf] 71)
  have HB1 := set7_below HB2.out (Nat.le_refl _) (.slice none 0 0) (.int .i64 0) (.int .i64 0) (.int .i64 0) (.bool false) (.int .i64 0) (.string ⟨#[]⟩)
  have HBF := Lib.hid (HB1.alloc HB1.size (.cells #[.int .i64 (k : Int), .int .i64 (nr : Int), .int .i64 (ns : Int), .bool pf] 71))
  exact bodyPost_ret (v := .tuple #[.agg #[.slice none 0 0, .int .i64 0, .int .i64 0, .int .i64 0, .bool false, .int .i64 0, .string ⟨#[]⟩], .int .i64 (er : Int)]) (by simp [results, Tryd.results25, go_sem, S7.k0.cell, S7.k1.cell, S7.k2.cell, S7.k3.cell, S7.k4.cell, S7.k5.cell, S7.k6.cell]) rfl ⟨⟨none, 0, 0, 0, 0, 0, false, 0, ⟨#[]⟩, er, rfl, HDE.out⟩, HBF.out⟩
theorem slice_rest (s : ByteArray) (A : Nat) (h : A ≤ s.size) : ∃ T : ByteArray, T.data.toList = s.data.toList.drop A ∧ ∀ W, (Instr.slice 9 (.string s) (some (.int .i64 (A : Int))) none none).run Tryd.prog W = .ok (.string T) W := by
  refine ⟨s.extract A s.size, ?_, fun W => ?_⟩
  · rw [Lib.extract_to_end]
  · have k := run_slice_string_l (P := Tryd.prog) (w := W) 9 s Tryd.underlying9 .i64 (A : Int) (by omega) (by omega)
    rw [show ((A : Int)).toNat = A from by omega] at k
    exact k
theorem refget_len (s : List UInt8) (w : Bool) : (refGet s w).2.2.2.2.1 ≤ s.length := by
  cases s with
  | nil => simp [refGet]
  | cons b t =>
    unfold refGet
    dsimp only
    split
    · simp
    · rename_i h
      split
      · simp
      · rename_i k p hk
        dsimp only
        cases t with
        | cons y t => simp only [List.length_cons]; split <;> omega
        | nil =>
          rw [if_neg]
          · simp
          · intro hw
            have hw1 : w = true := by cases w; · simp at hw
                                      · rfl
            subst hw1
            have hk5 : k ≤ 5 := by simpa using hw
            have hb : b.toNat % 4 = 3 := by simpa using h
            have e := wide_seek1 ⟨b.toNat, b.toNat_lt⟩ hb
            dsimp only at e
            rw [hk] at e
            obtain ⟨e1, e2, _⟩ := e
            by_cases h0 : findD (b.toNat : Int) true = 0
            · rw [if_pos h0] at e1; cases e1
            · rw [if_neg h0] at e1
              have := e2 h0
              simp only [Option.some.injEq, Prod.mk.injEq] at e1
              omega
set_option maxHeartbeats 4000000 in
theorem rdecx_rest (s : ByteArray) (wide : Bool) (w : World) (hs : s.size ≤ 100000) (h : (getP 10 [] s.data.toList).1 = 0) (he : (ctlOf s.data.toList wide).2.2.2.2.2 = 0) :
    Calls Tryd.prog 25 #[.string s, .bool wide] w fun e w' => RDecX s.data.toList wide w e w' := by
  have HB0 := Lib.hid ((Below.refl _ w).alloc (Nat.le_refl _) (.cells #[.slice none 0 0, .int .i64 0, .int .i64 0, .int .i64 0, .bool false, .int .i64 0, .string ⟨#[]⟩] 73))
  have HF0 := Lib.hid (P7.new w w.heap.size rfl (.slice none 0 0) (.int .i64 0) (.int .i64 0) (.int .i64 0) (.bool false) (.int .i64 0) (.string ⟨#[]⟩) 73)
  have hde : decE s.data.toList wide = if pidD ((ctlOf s.data.toList wide).1 : Int) = true then (if s.size ≤ 7 * (getP 10 [] s.data.toList).2.length + (ctlOf s.data.toList wide).2.2.2.2.1 then 4 else infE ((ctlOf s.data.toList wide).1 : Int) (s.size - (7 * (getP 10 [] s.data.toList).2.length + (ctlOf s.data.toList wide).2.2.2.2.1 + 1)))
    else infE ((ctlOf s.data.toList wide).1 : Int) (s.size - (7 * (getP 10 [] s.data.toList).2.length + (ctlOf s.data.toList wide).2.2.2.2.1)) := by
    have e : begE s.data.toList wide = 0 := by unfold begE; rw [if_neg (fun q => q h)]; exact he
    have el : s.data.toList.length = s.size := by simp
    unfold decE
    rw [e, if_neg (fun q => q rfl), el]
  have hlen := getP_bytes s.data.toList h
  have hsl : s.data.toList.length = s.size := by simp
  obtain ⟨T, hT⟩ : ∃ T : ByteArray, T = ⟨(s.data.toList.drop (7 * (getP 10 [] s.data.toList).2.length)).toArray⟩ := ⟨_, rfl⟩
  obtain ⟨N, hN⟩ : ∃ N : Nat, N = 7 * (getP 10 [] s.data.toList).2.length := ⟨_, rfl⟩
  have hcut := fun (W : World) => run_slice_string_l (P := Tryd.prog) (w := W) 9 s Tryd.underlying9 .i64 (N : Int) (by omega) (by omega)
  rw [show s.extract ((N : Int)).toNat s.size = T from by
    apply bytes_ext'
    rw [Lib.extract_to_end, hT, show ((N : Int)).toNat = N from by omega, hN]] at hcut
  have hcg := fun W => r6get_any T wide W
  rw [show T.data.toList = s.data.toList.drop (7 * (getP 10 [] s.data.toList).2.length) from by rw [hT]] at hcg
  have hg := fun W => (rpget_any s W)
  unfold RGetTo at hg
  have hg2 := fun W => (hg W).mono fun e w' hq => show (∃ ga gc, e = .returned (.tuple #[.agg #[.slice ga (getP 10 [] s.data.toList).2.length gc], .int .i64 ((7 * (getP 10 [] s.data.toList).2.length : Nat) : Int), .int .i64 0])) ∧ Below W.heap.size W w' from by
    obtain ⟨⟨v, h1, ⟨ga, gc, hv, _⟩, _⟩, h4⟩ := hq
    rw [if_pos h, h, hv] at h1
    exact ⟨⟨ga, gc, h1⟩, h4⟩
  rw [← hN] at hg2
  have hco : ctlOf s.data.toList wide = refGet (s.data.toList.drop (7 * (getP 10 [] s.data.toList).2.length)) wide := rfl
  have hml : (ctlOf s.data.toList wide).2.2.2.2.1 ≤ (s.data.toList.drop (7 * (getP 10 [] s.data.toList).2.length)).length := by rw [hco]; exact refget_len _ _
  rw [List.length_drop, hsl, ← hN] at hml
  have hml2 : (ctlOf s.data.toList wide).2.2.2.2.1 ≤ 2 := by rw [hco]; exact ref_len _ _
  rw [← hco] at hcg
  rw [← hN] at hde
  unfold RDecX
  generalize ctlOf s.data.toList wide = C at *
  obtain ⟨k, nr, ns, pf, m, er⟩ := C
  unfold gotU at hcg
  dsimp only at hcg he hml hml2 hde
  have HD := Lib.hid hde
  clear hde
  subst he
  have hNs : N ≤ s.size := by omega
  generalize (getP 10 [] s.data.toList).2.length = n at *
  obtain ⟨A, hA⟩ : ∃ A : Nat, A = N + m := ⟨_, rfl⟩
  have hAs : A ≤ s.size := by omega
  rw [← hA] at HD
  have hwr : wrap64 ((N : Int) + (m : Int)) = (A : Int) := by rw [IntWalk.wrap64_in _ (by omega)]; omega
  have hpd := fun W => rhaspid_any (k : Int) W
  have HG := Lib.hid hg2
  have HCG := Lib.hid hcg
  clear hg hg2 hcg hco hT hN h hlen hsl hml hml2 hA hNs
  cases hp : pidD (k : Int)
  · rw [hp] at hpd HD
    have HPD := Lib.hid hpd
    obtain ⟨J, hJ, hcutA⟩ := slice_rest s A hAs
    have hJs : J.size = s.size - A := by
      have h1 : J.data.toList.length = J.size := by simp
      rw [← h1, hJ, List.length_drop]
      simp
    rw [if_neg Bool.false_ne_true, ← hJs] at HD
    clear hpd hp hJ hJs
    have hin := fun ga gc W => rinfo_any ga n gc (k : Int) (nr : Int) (ns : Int) pf 0 J W
    generalize infE (k : Int) J.size = I at *
    have HIN := Lib.hid hin
    have HDE := Lib.hid HD.out.symm
    clear hin HD
    by_cases hi : I = 0
    · subst hi
      go_enter Tryd.func25, Tryd.ntmps25
      go_wp2_with (first
      | (go_at_call 44; (with_reducible refine (HG.out _).mono ?_); rintro e w1 ⟨⟨ga, gc, rfl⟩, hb⟩; have hb1 := HB0.out.trans (hb.mono HB0.out.size); have HB := Lib.hid (hb1.alloc hb1.size (.cells #[.slice ga n gc] 70)); have HF := Lib.hid ((HF0.out.below hb).alloc (.cells #[.slice ga n gc] 70)); have HP := Lib.hid (show KeepAt (w1.alloc (.cells #[.slice ga n gc] 70)) w1.heap.size 0 (.slice ga n gc) from ⟨World.cell?_alloc_at _ _ _ _ rfl, World.frozen?_alloc_at _ _ _ _ rfl, by simp⟩); clear hb hb1)
      | (go_at_call 45; (with_reducible refine (HCG.out _).mono ?_); rintro e w2 ⟨rfl, hb⟩; have HB2 := Lib.hid (HB.out.trans (hb.mono HB.out.size)); have HF2 := Lib.hid (HF.out.below hb); have HP2 := Lib.hid (HP.out.below hb); clear hb HB HF HP; obtain ⟨⟨p0, q0, pl⟩, ⟨p1, q1, -⟩, ⟨p2, q2, -⟩, ⟨p3, q3, -⟩, ⟨p4, q4, -⟩, ⟨p5, q5, -⟩, ⟨p6, q6, -⟩⟩ := HF2.out; obtain ⟨r0, -, rl⟩ := HP2.out)
      | (go_at_call 37; (with_reducible refine (HPD.out _).mono ?_); rintro e w3 ⟨rfl, rfl⟩)
      | (go_at_call 38; (with_reducible refine (HIN.out ga gc _).mono ?_); rintro e w4 ⟨rfl, hb⟩; have hb2 := (HB2.out.alloc HB2.out.size (.cells #[.int .i64 (k : Int), .int .i64 (nr : Int), .int .i64 (ns : Int), .bool pf] 71)); have hb3 := hb2.alloc hb2.size (.cells #[.slice ga n gc, .int .i64 (k : Int), .int .i64 (nr : Int), .int .i64 (ns : Int), .bool pf, .int .i64 0, .string J] 73); have HB4 := Lib.hid (hb3.trans (hb.mono hb3.size)); have HF4 := Lib.hid (((HF2.out.alloc (.cells #[.int .i64 (k : Int), .int .i64 (nr : Int), .int .i64 (ns : Int), .bool pf] 71)).alloc (.cells #[.slice ga n gc, .int .i64 (k : Int), .int .i64 (nr : Int), .int .i64 (ns : Int), .bool pf, .int .i64 0, .string J] 73)).below hb); have HO4 := Lib.hid ((P7.new (w2.alloc (.cells #[.int .i64 (k : Int), .int .i64 (nr : Int), .int .i64 (ns : Int), .bool pf] 71)) (w2.heap.size + 1) (by simp) (.slice ga n gc) (.int .i64 (k : Int)) (.int .i64 (nr : Int)) (.int .i64 (ns : Int)) (.bool pf) (.int .i64 0) (.string J) 73).below hb); clear hb hb2 hb3 HB2 HF2; clear p0 q0 pl p1 q1 p2 q2 p3 q3 p4 q4 p5 q5 p6 q6; obtain ⟨⟨p0, q0, pl⟩, ⟨p1, q1, -⟩, ⟨p2, q2, -⟩, ⟨p3, q3, -⟩, ⟨p4, q4, -⟩, ⟨p5, q5, -⟩, ⟨p6, q6, -⟩⟩ := HF4.out; obtain ⟨⟨o0, -, ol⟩, ⟨o1, -, -⟩, ⟨o2, -, -⟩, ⟨o3, -, -⟩, ⟨o4, -, -⟩, ⟨o5, -, -⟩, ⟨o6, -, -⟩⟩ := HO4.out))
      have S7 := stored7 (.slice ga n gc) (.int .i64 (k : Int)) (.int .i64 (nr : Int)) (.int .i64 (ns : Int)) (.bool pf) (.int .i64 0) (.string J) HF4.out
      have HBF := Lib.hid (set7_below HB4.out (Nat.le_refl _) (.slice ga n gc) (.int .i64 (k : Int)) (.int .i64 (nr : Int)) (.int .i64 (ns : Int)) (.bool pf) (.int .i64 0) (.string J))
      exact bodyPost_ret (v := .tuple #[.agg #[.slice ga n gc, .int .i64 (k : Int), .int .i64 (nr : Int), .int .i64 (ns : Int), .bool pf, .int .i64 0, .string J], .int .i64 0]) (by simp [results, Tryd.results25, go_sem, S7.k0.cell, S7.k1.cell, S7.k2.cell, S7.k3.cell, S7.k4.cell, S7.k5.cell, S7.k6.cell]) rfl ⟨⟨ga, n, gc, k, nr, ns, pf, 0, J, 0, rfl, HDE.out⟩, HBF.out⟩
    · have hz : ((I : Int) != 0) = true := by rw [bne_iff_ne]; omega
      clear hi
      go_enter Tryd.func25, Tryd.ntmps25
      go_wp2_with (first
      | (go_at_call 44; (with_reducible refine (HG.out _).mono ?_); rintro e w1 ⟨⟨ga, gc, rfl⟩, hb⟩; have hb1 := HB0.out.trans (hb.mono HB0.out.size); have HB := Lib.hid (hb1.alloc hb1.size (.cells #[.slice ga n gc] 70)); have HF := Lib.hid ((HF0.out.below hb).alloc (.cells #[.slice ga n gc] 70)); have HP := Lib.hid (show KeepAt (w1.alloc (.cells #[.slice ga n gc] 70)) w1.heap.size 0 (.slice ga n gc) from ⟨World.cell?_alloc_at _ _ _ _ rfl, World.frozen?_alloc_at _ _ _ _ rfl, by simp⟩); clear hb hb1)
      | (go_at_call 45; (with_reducible refine (HCG.out _).mono ?_); rintro e w2 ⟨rfl, hb⟩; have HB2 := Lib.hid (HB.out.trans (hb.mono HB.out.size)); have HF2 := Lib.hid (HF.out.below hb); have HP2 := Lib.hid (HP.out.below hb); clear hb HB HF HP; obtain ⟨⟨p0, q0, pl⟩, ⟨p1, q1, -⟩, ⟨p2, q2, -⟩, ⟨p3, q3, -⟩, ⟨p4, q4, -⟩, ⟨p5, q5, -⟩, ⟨p6, q6, -⟩⟩ := HF2.out; obtain ⟨r0, -, rl⟩ := HP2.out)
      | (go_at_call 37; (with_reducible refine (HPD.out _).mono ?_); rintro e w3 ⟨rfl, rfl⟩)
      | (go_at_call 38; (with_reducible refine (HIN.out ga gc _).mono ?_); rintro e w4 ⟨rfl, hb⟩; have hb2 := (HB2.out.alloc HB2.out.size (.cells #[.int .i64 (k : Int), .int .i64 (nr : Int), .int .i64 (ns : Int), .bool pf] 71)); have hb3 := hb2.alloc hb2.size (.cells #[.slice ga n gc, .int .i64 (k : Int), .int .i64 (nr : Int), .int .i64 (ns : Int), .bool pf, .int .i64 0, .string J] 73); have HB4 := Lib.hid (hb3.trans (hb.mono hb3.size)); have HF4 := Lib.hid (((HF2.out.alloc (.cells #[.int .i64 (k : Int), .int .i64 (nr : Int), .int .i64 (ns : Int), .bool pf] 71)).alloc (.cells #[.slice ga n gc, .int .i64 (k : Int), .int .i64 (nr : Int), .int .i64 (ns : Int), .bool pf, .int .i64 0, .string J] 73)).below hb); have HO4 := Lib.hid ((P7.new (w2.alloc (.cells #[.int .i64 (k : Int), .int .i64 (nr : Int), .int .i64 (ns : Int), .bool pf] 71)) (w2.heap.size + 1) (by simp) (.slice ga n gc) (.int .i64 (k : Int)) (.int .i64 (nr : Int)) (.int .i64 (ns : Int)) (.bool pf) (.int .i64 0) (.string J) 73).below hb); clear hb hb2 hb3 HB2 HF2; clear p0 q0 pl p1 q1 p2 q2 p3 q3 p4 q4 p5 q5 p6 q6; obtain ⟨⟨p0, q0, pl⟩, ⟨p1, q1, -⟩, ⟨p2, q2, -⟩, ⟨p3, q3, -⟩, ⟨p4, q4, -⟩, ⟨p5, q5, -⟩, ⟨p6, q6, -⟩⟩ := HF4.out; obtain ⟨⟨o0, -, ol⟩, ⟨o1, -, -⟩, ⟨o2, -, -⟩, ⟨o3, -, -⟩, ⟨o4, -, -⟩, ⟨o5, -, -⟩, ⟨o6, -, -⟩⟩ := HO4.out))
      have S7 := stored7 (.slice none 0 0) (.int .i64 0) (.int .i64 0) (.int .i64 0) (.bool false) (.int .i64 0) (.string ⟨#[]⟩) HF4.out
      have HBF := Lib.hid (set7_below HB4.out (Nat.le_refl _) (.slice none 0 0) (.int .i64 0) (.int .i64 0) (.int .i64 0) (.bool false) (.int .i64 0) (.string ⟨#[]⟩))
      exact bodyPost_ret (v := .tuple #[.agg #[.slice none 0 0, .int .i64 0, .int .i64 0, .int .i64 0, .bool false, .int .i64 0, .string ⟨#[]⟩], .int .i64 (I : Int)]) (by simp [results, Tryd.results25, go_sem, S7.k0.cell, S7.k1.cell, S7.k2.cell, S7.k3.cell, S7.k4.cell, S7.k5.cell, S7.k6.cell]) rfl ⟨⟨none, 0, 0, 0, 0, 0, false, 0, ⟨#[]⟩, I, rfl, HDE.out⟩, HBF.out⟩
  · rw [hp] at hpd HD
    rw [if_pos rfl] at HD
    have HPD := Lib.hid hpd
    clear hpd hp
    by_cases hend : A < s.size
    · have dA : decide ((s.size : Int) ≤ (A : Int)) = false := decide_eq_false (by omega)
      obtain ⟨J, hJ, hcutA⟩ := slice_rest s (A + 1) (by omega)
      have hJs : J.size = s.size - (A + 1) := by
        have h1 : J.data.toList.length = J.size := by simp
        rw [← h1, hJ, List.length_drop]
        simp
      rw [if_neg (Nat.not_le.2 hend), ← hJs] at HD
      clear hJ hJs
      have hA1 : wrap64 ((A : Int) + 1) = (A : Int) + 1 := IntWalk.wrap64_in _ (by omega)
      have hcutB : ∀ W, (Instr.slice 9 (.string s) (some (.int .i64 ((A : Int) + 1))) none none).run Tryd.prog W = .ok (.string J) W := hcutA
      obtain ⟨Q, hQ⟩ : ∃ Q : Int, Q = ((s[A].toNat : Nat) : Int) := ⟨_, rfl⟩
      have hq1 : ((s[A].toNat : Nat) : Int) = Q := hQ.symm
      have hq2 : wrap64 Q = Q := by rw [hQ]; exact wrap_num _ (blt' _)
      clear hQ
      have hin := fun ga gc W => rinfo_any ga n gc (k : Int) (nr : Int) (ns : Int) pf Q J W
      generalize infE (k : Int) J.size = I at *
      have HIN := Lib.hid hin
      have HDE := Lib.hid HD.out.symm
      clear hin HD
      by_cases hi : I = 0
      · subst hi
        go_enter Tryd.func25, Tryd.ntmps25
        go_wp2_with (first
        | (go_at_call 44; (with_reducible refine (HG.out _).mono ?_); rintro e w1 ⟨⟨ga, gc, rfl⟩, hb⟩; have hb1 := HB0.out.trans (hb.mono HB0.out.size); have HB := Lib.hid (hb1.alloc hb1.size (.cells #[.slice ga n gc] 70)); have HF := Lib.hid ((HF0.out.below hb).alloc (.cells #[.slice ga n gc] 70)); have HP := Lib.hid (show KeepAt (w1.alloc (.cells #[.slice ga n gc] 70)) w1.heap.size 0 (.slice ga n gc) from ⟨World.cell?_alloc_at _ _ _ _ rfl, World.frozen?_alloc_at _ _ _ _ rfl, by simp⟩); clear hb hb1)
        | (go_at_call 45; (with_reducible refine (HCG.out _).mono ?_); rintro e w2 ⟨rfl, hb⟩; have HB2 := Lib.hid (HB.out.trans (hb.mono HB.out.size)); have HF2 := Lib.hid (HF.out.below hb); have HP2 := Lib.hid (HP.out.below hb); clear hb HB HF HP; obtain ⟨⟨p0, q0, pl⟩, ⟨p1, q1, -⟩, ⟨p2, q2, -⟩, ⟨p3, q3, -⟩, ⟨p4, q4, -⟩, ⟨p5, q5, -⟩, ⟨p6, q6, -⟩⟩ := HF2.out; obtain ⟨r0, -, rl⟩ := HP2.out)
        | (go_at_call 37; (with_reducible refine (HPD.out _).mono ?_); rintro e w3 ⟨rfl, rfl⟩)
        | (go_at_call 38; (with_reducible refine (HIN.out ga gc _).mono ?_); rintro e w4 ⟨rfl, hb⟩; have hb2 := (HB2.out.alloc HB2.out.size (.cells #[.int .i64 (k : Int), .int .i64 (nr : Int), .int .i64 (ns : Int), .bool pf] 71)); have hb3 := hb2.alloc hb2.size (.cells #[.slice ga n gc, .int .i64 (k : Int), .int .i64 (nr : Int), .int .i64 (ns : Int), .bool pf, .int .i64 Q, .string J] 73); have HB4 := Lib.hid (hb3.trans (hb.mono hb3.size)); have HF4 := Lib.hid (((HF2.out.alloc (.cells #[.int .i64 (k : Int), .int .i64 (nr : Int), .int .i64 (ns : Int), .bool pf] 71)).alloc (.cells #[.slice ga n gc, .int .i64 (k : Int), .int .i64 (nr : Int), .int .i64 (ns : Int), .bool pf, .int .i64 Q, .string J] 73)).below hb); have HO4 := Lib.hid ((P7.new (w2.alloc (.cells #[.int .i64 (k : Int), .int .i64 (nr : Int), .int .i64 (ns : Int), .bool pf] 71)) (w2.heap.size + 1) (by simp) (.slice ga n gc) (.int .i64 (k : Int)) (.int .i64 (nr : Int)) (.int .i64 (ns : Int)) (.bool pf) (.int .i64 Q) (.string J) 73).below hb); clear hb hb2 hb3 HB2 HF2; clear p0 q0 pl p1 q1 p2 q2 p3 q3 p4 q4 p5 q5 p6 q6; obtain ⟨⟨p0, q0, pl⟩, ⟨p1, q1, -⟩, ⟨p2, q2, -⟩, ⟨p3, q3, -⟩, ⟨p4, q4, -⟩, ⟨p5, q5, -⟩, ⟨p6, q6, -⟩⟩ := HF4.out; obtain ⟨⟨o0, -, ol⟩, ⟨o1, -, -⟩, ⟨o2, -, -⟩, ⟨o3, -, -⟩, ⟨o4, -, -⟩, ⟨o5, -, -⟩, ⟨o6, -, -⟩⟩ := HO4.out))
        have S7 := stored7 (.slice ga n gc) (.int .i64 (k : Int)) (.int .i64 (nr : Int)) (.int .i64 (ns : Int)) (.bool pf) (.int .i64 Q) (.string J) HF4.out
        have HBF := Lib.hid (set7_below HB4.out (Nat.le_refl _) (.slice ga n gc) (.int .i64 (k : Int)) (.int .i64 (nr : Int)) (.int .i64 (ns : Int)) (.bool pf) (.int .i64 Q) (.string J))
        exact bodyPost_ret (v := .tuple #[.agg #[.slice ga n gc, .int .i64 (k : Int), .int .i64 (nr : Int), .int .i64 (ns : Int), .bool pf, .int .i64 Q, .string J], .int .i64 0]) (by simp [results, Tryd.results25, go_sem, S7.k0.cell, S7.k1.cell, S7.k2.cell, S7.k3.cell, S7.k4.cell, S7.k5.cell, S7.k6.cell]) rfl ⟨⟨ga, n, gc, k, nr, ns, pf, Q, J, 0, rfl, HDE.out⟩, HBF.out⟩
      · have hz : ((I : Int) != 0) = true := by rw [bne_iff_ne]; omega
        clear hi
        go_enter Tryd.func25, Tryd.ntmps25
        go_wp2_with (first
        | (go_at_call 44; (with_reducible refine (HG.out _).mono ?_); rintro e w1 ⟨⟨ga, gc, rfl⟩, hb⟩; have hb1 := HB0.out.trans (hb.mono HB0.out.size); have HB := Lib.hid (hb1.alloc hb1.size (.cells #[.slice ga n gc] 70)); have HF := Lib.hid ((HF0.out.below hb).alloc (.cells #[.slice ga n gc] 70)); have HP := Lib.hid (show KeepAt (w1.alloc (.cells #[.slice ga n gc] 70)) w1.heap.size 0 (.slice ga n gc) from ⟨World.cell?_alloc_at _ _ _ _ rfl, World.frozen?_alloc_at _ _ _ _ rfl, by simp⟩); clear hb hb1)
        | (go_at_call 45; (with_reducible refine (HCG.out _).mono ?_); rintro e w2 ⟨rfl, hb⟩; have HB2 := Lib.hid (HB.out.trans (hb.mono HB.out.size)); have HF2 := Lib.hid (HF.out.below hb); have HP2 := Lib.hid (HP.out.below hb); clear hb HB HF HP; obtain ⟨⟨p0, q0, pl⟩, ⟨p1, q1, -⟩, ⟨p2, q2, -⟩, ⟨p3, q3, -⟩, ⟨p4, q4, -⟩, ⟨p5, q5, -⟩, ⟨p6, q6, -⟩⟩ := HF2.out; obtain ⟨r0, -, rl⟩ := HP2.out)
        | (go_at_call 37; (with_reducible refine (HPD.out _).mono ?_); rintro e w3 ⟨rfl, rfl⟩)
        | (go_at_call 38; (with_reducible refine (HIN.out ga gc _).mono ?_); rintro e w4 ⟨rfl, hb⟩; have hb2 := (HB2.out.alloc HB2.out.size (.cells #[.int .i64 (k : Int), .int .i64 (nr : Int), .int .i64 (ns : Int), .bool pf] 71)); have hb3 := hb2.alloc hb2.size (.cells #[.slice ga n gc, .int .i64 (k : Int), .int .i64 (nr : Int), .int .i64 (ns : Int), .bool pf, .int .i64 Q, .string J] 73); have HB4 := Lib.hid (hb3.trans (hb.mono hb3.size)); have HF4 := Lib.hid (((HF2.out.alloc (.cells #[.int .i64 (k : Int), .int .i64 (nr : Int), .int .i64 (ns : Int), .bool pf] 71)).alloc (.cells #[.slice ga n gc, .int .i64 (k : Int), .int .i64 (nr : Int), .int .i64 (ns : Int), .bool pf, .int .i64 Q, .string J] 73)).below hb); have HO4 := Lib.hid ((P7.new (w2.alloc (.cells #[.int .i64 (k : Int), .int .i64 (nr : Int), .int .i64 (ns : Int), .bool pf] 71)) (w2.heap.size + 1) (by simp) (.slice ga n gc) (.int .i64 (k : Int)) (.int .i64 (nr : Int)) (.int .i64 (ns : Int)) (.bool pf) (.int .i64 Q) (.string J) 73).below hb); clear hb hb2 hb3 HB2 HF2; clear p0 q0 pl p1 q1 p2 q2 p3 q3 p4 q4 p5 q5 p6 q6; obtain ⟨⟨p0, q0, pl⟩, ⟨p1, q1, -⟩, ⟨p2, q2, -⟩, ⟨p3, q3, -⟩, ⟨p4, q4, -⟩, ⟨p5, q5, -⟩, ⟨p6, q6, -⟩⟩ := HF4.out; obtain ⟨⟨o0, -, ol⟩, ⟨o1, -, -⟩, ⟨o2, -, -⟩, ⟨o3, -, -⟩, ⟨o4, -, -⟩, ⟨o5, -, -⟩, ⟨o6, -, -⟩⟩ := HO4.out))
        have S7 := stored7 (.slice none 0 0) (.int .i64 0) (.int .i64 0) (.int .i64 0) (.bool false) (.int .i64 0) (.string ⟨#[]⟩) HF4.out
        have HBF := Lib.hid (set7_below HB4.out (Nat.le_refl _) (.slice none 0 0) (.int .i64 0) (.int .i64 0) (.int .i64 0) (.bool false) (.int .i64 0) (.string ⟨#[]⟩))
        exact bodyPost_ret (v := .tuple #[.agg #[.slice none 0 0, .int .i64 0, .int .i64 0, .int .i64 0, .bool false, .int .i64 0, .string ⟨#[]⟩], .int .i64 (I : Int)]) (by simp [results, Tryd.results25, go_sem, S7.k0.cell, S7.k1.cell, S7.k2.cell, S7.k3.cell, S7.k4.cell, S7.k5.cell, S7.k6.cell]) rfl ⟨⟨none, 0, 0, 0, 0, 0, false, 0, ⟨#[]⟩, I, rfl, HDE.out⟩, HBF.out⟩
    · have dA : decide ((s.size : Int) ≤ (A : Int)) = true := decide_eq_true (by omega)
      rw [if_pos (Nat.not_lt.1 hend)] at HD
      have HDE := Lib.hid HD.out.symm
      clear HD
      go_enter Tryd.func25, Tryd.ntmps25
      go_wp2_with (first
        | (go_at_call 44; (with_reducible refine (HG.out _).mono ?_); rintro e w1 ⟨⟨ga, gc, rfl⟩, hb⟩; have hb1 := HB0.out.trans (hb.mono HB0.out.size); have HB := Lib.hid (hb1.alloc hb1.size (.cells #[.slice ga n gc] 70)); have HF := Lib.hid ((HF0.out.below hb).alloc (.cells #[.slice ga n gc] 70)); have HP := Lib.hid (show KeepAt (w1.alloc (.cells #[.slice ga n gc] 70)) w1.heap.size 0 (.slice ga n gc) from ⟨World.cell?_alloc_at _ _ _ _ rfl, World.frozen?_alloc_at _ _ _ _ rfl, by simp⟩); clear hb hb1)
        | (go_at_call 45; (with_reducible refine (HCG.out _).mono ?_); rintro e w2 ⟨rfl, hb⟩; have HB2 := Lib.hid (HB.out.trans (hb.mono HB.out.size)); have HF2 := Lib.hid (HF.out.below hb); have HP2 := Lib.hid (HP.out.below hb); clear hb HB HF HP; obtain ⟨⟨p0, q0, pl⟩, ⟨p1, q1, -⟩, ⟨p2, q2, -⟩, ⟨p3, q3, -⟩, ⟨p4, q4, -⟩, ⟨p5, q5, -⟩, ⟨p6, q6, -⟩⟩ := HF2.out; obtain ⟨r0, -, rl⟩ := HP2.out)
        | (go_at_call 37; (with_reducible refine (HPD.out _).mono ?_); rintro e w3 ⟨rfl, rfl⟩))
      have S7 := ((stored7 (.slice none 0 0) (.int .i64 0) (.int .i64 0) (.int .i64 0) (.bool false) (.int .i64 0) (.string ⟨#[]⟩) HF2.out).alloc (.cells #[.int .i64 (k : Int), .int .i64 (nr : Int), .int .i64 (ns : Int), .bool pf] 71)).alloc (.cells #[.slice ga n gc, .int .i64 (k : Int), .int .i64 (nr : Int), .int .i64 (ns : Int), .bool pf, .int .i64 0, .string ⟨#[]⟩] 73)
      have HB1 := set7_below HB2.out (Nat.le_refl _) (.slice none 0 0) (.int .i64 0) (.int .i64 0) (.int .i64 0) (.bool false) (.int .i64 0) (.string ⟨#[]⟩)
      have HB3 := HB1.alloc HB1.size (.cells #[.int .i64 (k : Int), .int .i64 (nr : Int), .int .i64 (ns : Int), .bool pf] 71)
      have HBF := Lib.hid (HB3.alloc HB3.size (.cells #[.slice ga n gc, .int .i64 (k : Int), .int .i64 (nr : Int), .int .i64 (ns : Int), .bool pf, .int .i64 0, .string ⟨#[]⟩] 73))
      exact bodyPost_ret (v := .tuple #[.agg #[.slice none 0 0, .int .i64 0, .int .i64 0, .int .i64 0, .bool false, .int .i64 0, .string ⟨#[]⟩], .int .i64 4]) (by simp [results, Tryd.results25, go_sem, S7.k0.cell, S7.k1.cell, S7.k2.cell, S7.k3.cell, S7.k4.cell, S7.k5.cell, S7.k6.cell]) rfl ⟨⟨none, 0, 0, 0, 0, 0, false, 0, ⟨#[]⟩, 4, rfl, HDE.out⟩, HBF.out⟩
theorem rdecx_any (s : ByteArray) (wide : Bool) (w : World) (hs : s.size ≤ 100000) :
    Calls Tryd.prog 25 #[.string s, .bool wide] w fun e w' => RDecX s.data.toList wide w e w' := by
  by_cases h : (getP 10 [] s.data.toList).1 = 0
  · by_cases he : (ctlOf s.data.toList wide).2.2.2.2.2 = 0
    · exact rdecx_rest s wide w hs h he
    · exact rdecx_ctl s wide w hs h he
  · exact rdecx_path s wide w h
end Go.Proofs.YtadhiknmkiogjaaDoor
