/-
The landed code's reading of a path and a control; the kind of bytes.
-/
import Derived.Test.YtadhiknmkiogjaaDoorMix04
import Derived.Test.YtadhiknmkiogjaaDoorMix07
import Derived.Test.YtadhiknmkiogjaaDoorCtlBase
import Derived.Test.YtadhiknmkiogjaaDoorCtlRGetP
namespace Go.Proofs.YtadhiknmkiogjaaDoor
open Go.RowKit Go.Sort
set_option maxRecDepth 20000
/-- how many bytes a path takes at least -/
theorem getP_need : ∀ (k : Nat) (l : List Ent) (s : List UInt8), (getP k l s).1 = 0 → 7 * (getP k l s).2.length ≤ 7 * l.length + s.length
  | 0, l, s, h => by
    unfold getP at h
    split at h
    · cases h
    · split at h <;> cases h
  | k + 1, l, s, h => by
    unfold getP at h ⊢
    split
    · simp
    · rename_i h7
      rw [if_neg h7] at h
      split
      · rename_i hg
        rw [if_pos hg] at h
        split
        · rename_i hla
          rw [if_pos hla] at h
          split
          · simp
          · split
            · simp; omega
            · simp
        · rename_i hla
          rw [if_neg hla] at h
          have ih := getP_need k (l ++ [entD (s.take 7)]) (s.drop 7) h
          rw [List.length_append, List.length_drop] at ih
          simp only [List.length_cons, List.length_nil] at ih
          omega
      · simp
theorem ref_len (s : List UInt8) (w : Bool) : (refGet s w).2.2.2.2.1 ≤ 2 := by
  cases s with
  | nil => simp [refGet]
  | cons b t =>
    unfold refGet
    dsimp only
    split
    · simp
    · split
      · simp
      · dsimp only; split <;> omega
theorem getP_bytes (s : List UInt8) (h : (getP 10 [] s).1 = 0) : 7 * (getP 10 [] s).2.length ≤ s.length := by
  have k := getP_need 10 [] s h
  simpa using k
/-- the control behind the path -/
def ctlOf (s : List UInt8) (wide : Bool) : Nat × Nat × Nat × Bool × Nat × Nat := refGet (s.drop (7 * (getP 10 [] s).2.length)) wide
/-- what is wrong -/
def begE (s : List UInt8) (wide : Bool) : Nat := if (getP 10 [] s).1 ≠ 0 then (getP 10 [] s).1 else (ctlOf s wide).2.2.2.2.2
def zeroF : Value := .agg #[.string ⟨#[]⟩, .int .i64 0, .string ⟨#[]⟩, .int .i64 0, .bool false, .bool false, .slice none 0 0, .int .i64 0, .int .i64 0, .int .i64 0, .bool false, .int .i64 0, .string ⟨#[]⟩]
/-- what it answers -/
def BegTo (s : List UInt8) (wide : Bool) (w : World) (e : Ending) (w' : World) : Prop :=
  (begE s wide ≠ 0 → e = .returned (.tuple #[zeroF, .int .i64 0, .int .i64 (begE s wide : Nat)])) ∧
  (begE s wide = 0 → ∃ (x y : Ent) (D : List Ent) (da : Option Addr) (dc : Nat), (getP 10 [] s).2 = x :: y :: D ∧ e = .returned (.tuple #[.agg #[.string x.1, .int .i64 x.2.1, .string y.1, .int .i64 y.2.1, .bool x.2.2, .bool y.2.2, .slice da D.length dc, .int .i64 ((ctlOf s wide).1 : Nat), .int .i64 ((ctlOf s wide).2.1 : Nat), .int .i64 ((ctlOf s wide).2.2.1 : Nat), .bool (ctlOf s wide).2.2.2.1, .int .i64 0, .string ⟨#[]⟩], .int .i64 ((7 * (getP 10 [] s).2.length + (ctlOf s wide).2.2.2.2.1 : Nat) : Int), .int .i64 0]) ∧ OwnE 79 w' w.heap.size (.slice da D.length dc) D) ∧ Below w.heap.size w w'
set_option maxHeartbeats 2000000 in
theorem begin_path (s : ByteArray) (wide : Bool) (w : World) (hs : s.size ≤ 100000) (h : (getP 10 [] s.data.toList).1 ≠ 0) :
    Calls Tryd.prog 42 #[.string s, .bool wide] w fun e w' => BegTo s.data.toList wide w e w' := by
  have hb : begE s.data.toList wide = (getP 10 [] s.data.toList).1 := by unfold begE; rw [if_pos h]
  unfold BegTo
  rw [hb]
  have HB0 := Lib.hid ((Below.refl _ w).alloc (Nat.le_refl _) (.cells #[.string ⟨#[]⟩, .int .i64 0, .string ⟨#[]⟩, .int .i64 0, .bool false, .bool false, .slice none 0 0, .int .i64 0, .int .i64 0, .int .i64 0, .bool false, .int .i64 0, .string ⟨#[]⟩] 65))
  have HF0 := Lib.hid (F13.new w w.heap.size rfl (.string ⟨#[]⟩) (.int .i64 0) (.string ⟨#[]⟩) (.int .i64 0) (.bool false) (.bool false) (.slice none 0 0) (.int .i64 0) (.int .i64 0) (.int .i64 0) (.bool false) (.int .i64 0) (.string ⟨#[]⟩) 65)
  have hg := fun W => (pget_any s W hs).mono fun e w' hq => And.intro (hq.1 h) hq.2.2
  unfold zeroPath at hg
  generalize (getP 10 [] s.data.toList).1 = E at *
  have hz : ((E : Int) != 0) = true := by rw [bne_iff_ne]; omega
  have HG := Lib.hid hg
  have HNZ := Lib.hid h
  clear hg h hb
  go_enter Tryd.func42, Tryd.ntmps42
  go_wp2_with (go_at_call 58; (with_reducible refine (HG.out _).mono ?_); rintro e w1 ⟨rfl, hb⟩; have HB := Lib.hid (HB0.out.trans (hb.mono HB0.out.size)); have HF := Lib.hid (HF0.out.below hb); clear hb; obtain ⟨⟨p0, q0, pl⟩, ⟨p1, q1, -⟩, ⟨p2, q2, -⟩, ⟨p3, q3, -⟩, ⟨p4, q4, -⟩, ⟨p5, q5, -⟩, ⟨p6, q6, -⟩, ⟨p7, q7, -⟩, ⟨p8, q8, -⟩, ⟨p9, q9, -⟩, ⟨p10, q10, -⟩, ⟨p11, q11, -⟩, ⟨p12, q12, -⟩⟩ := HF.out)
  have S9 := (F13.stored HF.out (.string ⟨#[]⟩) (.int .i64 0) (.string ⟨#[]⟩) (.int .i64 0) (.bool false) (.bool false) (.slice none 0 0) (.int .i64 0) (.int .i64 0) (.int .i64 0) (.bool false) (.int .i64 0) (.string ⟨#[]⟩)).alloc (.cells #[.string ⟨#[]⟩, .int .i64 0, .string ⟨#[]⟩, .int .i64 0, .bool false, .bool false, .slice none 0 0] 58)
  have HB1 := set13_below HB.out (Nat.le_refl _) (.string ⟨#[]⟩) (.int .i64 0) (.string ⟨#[]⟩) (.int .i64 0) (.bool false) (.bool false) (.slice none 0 0) (.int .i64 0) (.int .i64 0) (.int .i64 0) (.bool false) (.int .i64 0) (.string ⟨#[]⟩)
  have HBF := Lib.hid (HB1.alloc HB1.size (.cells #[.string ⟨#[]⟩, .int .i64 0, .string ⟨#[]⟩, .int .i64 0, .bool false, .bool false, .slice none 0 0] 58))
  exact bodyPost_ret (v := .tuple #[zeroF, .int .i64 0, .int .i64 (E : Int)]) (by simp [results, Tryd.results42, go_sem, zeroF, S9.k0.cell, S9.k1.cell, S9.k2.cell, S9.k3.cell, S9.k4.cell, S9.k5.cell, S9.k6.cell, S9.k7.cell, S9.k8.cell, S9.k9.cell, S9.k10.cell, S9.k11.cell, S9.k12.cell]) rfl ⟨fun _ => rfl, fun h => absurd h HNZ.out, HBF.out⟩
set_option maxHeartbeats 2000000 in
theorem begin_rest (s : ByteArray) (wide : Bool) (w : World) (hs : s.size ≤ 100000) (hC : CodesOk w) (h : (getP 10 [] s.data.toList).1 = 0) :
    Calls Tryd.prog 42 #[.string s, .bool wide] w fun e w' => BegTo s.data.toList wide w e w' := by
  have hb : begE s.data.toList wide = (ctlOf s.data.toList wide).2.2.2.2.2 := by unfold begE; rw [if_neg (fun q => q h)]
  have HB0 := Lib.hid ((Below.refl _ w).alloc (Nat.le_refl _) (.cells #[.string ⟨#[]⟩, .int .i64 0, .string ⟨#[]⟩, .int .i64 0, .bool false, .bool false, .slice none 0 0, .int .i64 0, .int .i64 0, .int .i64 0, .bool false, .int .i64 0, .string ⟨#[]⟩] 65))
  have HF0 := Lib.hid (F13.new w w.heap.size rfl (.string ⟨#[]⟩) (.int .i64 0) (.string ⟨#[]⟩) (.int .i64 0) (.bool false) (.bool false) (.slice none 0 0) (.int .i64 0) (.int .i64 0) (.int .i64 0) (.bool false) (.int .i64 0) (.string ⟨#[]⟩) 65)
  have hlen := getP_bytes s.data.toList h
  have hsl : s.data.toList.length = s.size := by simp
  obtain ⟨T, hT⟩ : ∃ T : ByteArray, T = ⟨(s.data.toList.drop (7 * (getP 10 [] s.data.toList).2.length)).toArray⟩ := ⟨_, rfl⟩
  obtain ⟨N, hN⟩ : ∃ N : Nat, N = 7 * (getP 10 [] s.data.toList).2.length := ⟨_, rfl⟩
  have hcut := fun (W : World) => run_slice_string_l (P := Tryd.prog) (w := W) 9 s Tryd.underlying9 .i64 (N : Int) (by omega) (by omega)
  rw [show s.extract ((N : Int)).toNat s.size = T from by
    apply bytes_ext'
    rw [Lib.extract_to_end, hT, show ((N : Int)).toNat = N from by omega, hN]] at hcut
  have hcg := fun W (hb : Below w.heap.size w W) => ctlget_any (s.data.toList.drop (7 * (getP 10 [] s.data.toList).2.length)) wide W (hC.below hb)
  rw [← hT, ref_get] at hcg
  have hg := fun W => (pget_own s W hs).mono fun e w' hq => And.intro (hq.2.1 h) hq.2.2
  unfold BegTo
  rw [hb]
  rw [← hN] at hg ⊢
  have hco : ctlOf s.data.toList wide = refGet (s.data.toList.drop (7 * (getP 10 [] s.data.toList).2.length)) wide := rfl
  rw [← hco] at hcg
  have hml : (ctlOf s.data.toList wide).2.2.2.2.1 ≤ 2 := by rw [hco]; exact ref_len _ _
  generalize ctlOf s.data.toList wide = C at *
  obtain ⟨k, nr, ns, pf, m, er⟩ := C
  unfold gotU at hcg
  dsimp only at hcg hml ⊢
  generalize (getP 10 [] s.data.toList).2 = L at *
  have HG := Lib.hid hg
  have HCG := Lib.hid hcg
  have hwr : wrap64 ((N : Int) + (m : Int)) = (N : Int) + (m : Int) := IntWalk.wrap64_in _ (by omega)
  clear hg hcg hco hT hN hb h hlen hsl hC
  by_cases he : er = 0
  · subst he
    go_enter Tryd.func42, Tryd.ntmps42
    go_wp2_with (first
      | (go_at_call 58; (with_reducible refine (HG.out _).mono ?_); rintro e w1 ⟨⟨⟨xb, xn, xm⟩, ⟨yb, yn, ym⟩, D, da, dc, hx, rfl, hE⟩, hb⟩; go_loud (have HB := Lib.hid ((HB0.out.trans (hb.mono HB0.out.size)).alloc (Nat.le_trans HB0.out.size hb.size) (.cells #[.string xb, .int .i64 xn, .string yb, .int .i64 yn, .bool xm, .bool ym, .slice da D.length dc] 58)); have HF := Lib.hid ((HF0.out.below hb).alloc (.cells #[.string xb, .int .i64 xn, .string yb, .int .i64 yn, .bool xm, .bool ym, .slice da D.length dc] 58)); have HP := Lib.hid (P7.new w1 w1.heap.size rfl (.string xb) (.int .i64 xn) (.string yb) (.int .i64 yn) (.bool xm) (.bool ym) (.slice da D.length dc) 58); have HE := Lib.hid (hE.alloc (.cells #[.string xb, .int .i64 xn, .string yb, .int .i64 yn, .bool xm, .bool ym, .slice da D.length dc] 58)); have HL := Lib.hid hx; clear hb hE hx))
      | (go_at_call 59; (with_reducible refine (HCG.out _ HB.out).mono ?_); rintro e w2 ⟨rfl, hb⟩; have HB2 := Lib.hid ((HB.out.trans (hb.mono HB.out.size)).alloc (Nat.le_trans HB.out.size hb.size) (.cells #[.int .i64 (k : Int), .int .i64 (nr : Int), .int .i64 (ns : Int), .bool pf] 63)); have HF2 := Lib.hid ((HF.out.below hb).alloc (.cells #[.int .i64 (k : Int), .int .i64 (nr : Int), .int .i64 (ns : Int), .bool pf] 63)); have HP2 := Lib.hid ((HP.out.below hb).alloc (.cells #[.int .i64 (k : Int), .int .i64 (nr : Int), .int .i64 (ns : Int), .bool pf] 63)); have HE2 := Lib.hid ((HE.out.below hb).alloc (.cells #[.int .i64 (k : Int), .int .i64 (nr : Int), .int .i64 (ns : Int), .bool pf] 63)); have HC2 := Lib.hid (C4.new w2 w2.heap.size rfl (.int .i64 (k : Int)) (.int .i64 (nr : Int)) (.int .i64 (ns : Int)) (.bool pf) 63); clear hb HB HF HP HE; obtain ⟨⟨p0, q0, pl⟩, ⟨p1, q1, -⟩, ⟨p2, q2, -⟩, ⟨p3, q3, -⟩, ⟨p4, q4, -⟩, ⟨p5, q5, -⟩, ⟨p6, q6, -⟩, ⟨p7, q7, -⟩, ⟨p8, q8, -⟩, ⟨p9, q9, -⟩, ⟨p10, q10, -⟩, ⟨p11, q11, -⟩, ⟨p12, q12, -⟩⟩ := HF2.out; obtain ⟨⟨r0, -, rl⟩, ⟨r1, -, -⟩, ⟨r2, -, -⟩, ⟨r3, -, -⟩, ⟨r4, -, -⟩, ⟨r5, -, -⟩, ⟨r6, -, -⟩⟩ := HP2.out; obtain ⟨t0, t1, t2, t3, -, -, -, -, tl⟩ := HC2.out))
    have S9 := F13.stored HF2.out (.string xb) (.int .i64 xn) (.string yb) (.int .i64 yn) (.bool xm) (.bool ym) (.slice da D.length dc) (.int .i64 (k : Int)) (.int .i64 (nr : Int)) (.int .i64 (ns : Int)) (.bool pf) (.int .i64 0) (.string ⟨#[]⟩)
    have HBF := Lib.hid (set13_below HB2.out (Nat.le_refl _) (.string xb) (.int .i64 xn) (.string yb) (.int .i64 yn) (.bool xm) (.bool ym) (.slice da D.length dc) (.int .i64 (k : Int)) (.int .i64 (nr : Int)) (.int .i64 (ns : Int)) (.bool pf) (.int .i64 0) (.string ⟨#[]⟩))
    have HEF := Lib.hid (own13 HE2.out (Nat.lt_of_lt_of_le (Nat.lt_succ_self w.heap.size) (by simp)) (.string xb) (.int .i64 xn) (.string yb) (.int .i64 yn) (.bool xm) (.bool ym) (.slice da D.length dc) (.int .i64 (k : Int)) (.int .i64 (nr : Int)) (.int .i64 (ns : Int)) (.bool pf) (.int .i64 0) (.string ⟨#[]⟩))
    exact bodyPost_ret (v := .tuple #[.agg #[.string xb, .int .i64 xn, .string yb, .int .i64 yn, .bool xm, .bool ym, .slice da D.length dc, .int .i64 (k : Int), .int .i64 (nr : Int), .int .i64 (ns : Int), .bool pf, .int .i64 0, .string ⟨#[]⟩], .int .i64 ((N + m : Nat) : Int), .int .i64 0]) (by simp [hwr, results, Tryd.results42, go_sem, S9.k0.cell, S9.k1.cell, S9.k2.cell, S9.k3.cell, S9.k4.cell, S9.k5.cell, S9.k6.cell, S9.k7.cell, S9.k8.cell, S9.k9.cell, S9.k10.cell, S9.k11.cell, S9.k12.cell]) rfl ⟨fun h => absurd rfl h, fun _ => ⟨(xb, xn, xm), (yb, yn, ym), D, da, dc, HL.out, rfl, HEF.out.base (by simp)⟩, HBF.out⟩
  · have HNZ := Lib.hid he
    have hz : ((er : Int) != 0) = true := by rw [bne_iff_ne]; omega
    go_enter Tryd.func42, Tryd.ntmps42
    go_wp2_with (first
      | (go_at_call 58; (with_reducible refine (HG.out _).mono ?_); rintro e w1 ⟨⟨⟨xb, xn, xm⟩, ⟨yb, yn, ym⟩, D, da, dc, hx, rfl, hE⟩, hb⟩; go_loud (have HB := Lib.hid ((HB0.out.trans (hb.mono HB0.out.size)).alloc (Nat.le_trans HB0.out.size hb.size) (.cells #[.string xb, .int .i64 xn, .string yb, .int .i64 yn, .bool xm, .bool ym, .slice da D.length dc] 58)); have HF := Lib.hid ((HF0.out.below hb).alloc (.cells #[.string xb, .int .i64 xn, .string yb, .int .i64 yn, .bool xm, .bool ym, .slice da D.length dc] 58)); have HP := Lib.hid (P7.new w1 w1.heap.size rfl (.string xb) (.int .i64 xn) (.string yb) (.int .i64 yn) (.bool xm) (.bool ym) (.slice da D.length dc) 58); have HE := Lib.hid (hE.alloc (.cells #[.string xb, .int .i64 xn, .string yb, .int .i64 yn, .bool xm, .bool ym, .slice da D.length dc] 58)); have HL := Lib.hid hx; clear hb hE hx))
      | (go_at_call 59; (with_reducible refine (HCG.out _ HB.out).mono ?_); rintro e w2 ⟨rfl, hb⟩; have HB2 := Lib.hid ((HB.out.trans (hb.mono HB.out.size)).alloc (Nat.le_trans HB.out.size hb.size) (.cells #[.int .i64 (k : Int), .int .i64 (nr : Int), .int .i64 (ns : Int), .bool pf] 63)); have HF2 := Lib.hid ((HF.out.below hb).alloc (.cells #[.int .i64 (k : Int), .int .i64 (nr : Int), .int .i64 (ns : Int), .bool pf] 63)); have HP2 := Lib.hid ((HP.out.below hb).alloc (.cells #[.int .i64 (k : Int), .int .i64 (nr : Int), .int .i64 (ns : Int), .bool pf] 63)); have HE2 := Lib.hid ((HE.out.below hb).alloc (.cells #[.int .i64 (k : Int), .int .i64 (nr : Int), .int .i64 (ns : Int), .bool pf] 63)); have HC2 := Lib.hid (C4.new w2 w2.heap.size rfl (.int .i64 (k : Int)) (.int .i64 (nr : Int)) (.int .i64 (ns : Int)) (.bool pf) 63); clear hb HB HF HP HE; obtain ⟨⟨p0, q0, pl⟩, ⟨p1, q1, -⟩, ⟨p2, q2, -⟩, ⟨p3, q3, -⟩, ⟨p4, q4, -⟩, ⟨p5, q5, -⟩, ⟨p6, q6, -⟩, ⟨p7, q7, -⟩, ⟨p8, q8, -⟩, ⟨p9, q9, -⟩, ⟨p10, q10, -⟩, ⟨p11, q11, -⟩, ⟨p12, q12, -⟩⟩ := HF2.out; obtain ⟨⟨r0, -, rl⟩, ⟨r1, -, -⟩, ⟨r2, -, -⟩, ⟨r3, -, -⟩, ⟨r4, -, -⟩, ⟨r5, -, -⟩, ⟨r6, -, -⟩⟩ := HP2.out; obtain ⟨t0, t1, t2, t3, -, -, -, -, tl⟩ := HC2.out))
    have S9 := F13.stored HF2.out (.string ⟨#[]⟩) (.int .i64 0) (.string ⟨#[]⟩) (.int .i64 0) (.bool false) (.bool false) (.slice none 0 0) (.int .i64 0) (.int .i64 0) (.int .i64 0) (.bool false) (.int .i64 0) (.string ⟨#[]⟩)
    have HBF := Lib.hid (set13_below HB2.out (Nat.le_refl _) (.string ⟨#[]⟩) (.int .i64 0) (.string ⟨#[]⟩) (.int .i64 0) (.bool false) (.bool false) (.slice none 0 0) (.int .i64 0) (.int .i64 0) (.int .i64 0) (.bool false) (.int .i64 0) (.string ⟨#[]⟩))
    exact bodyPost_ret (v := .tuple #[zeroF, .int .i64 0, .int .i64 (er : Int)]) (by simp [results, Tryd.results42, go_sem, zeroF, S9.k0.cell, S9.k1.cell, S9.k2.cell, S9.k3.cell, S9.k4.cell, S9.k5.cell, S9.k6.cell, S9.k7.cell, S9.k8.cell, S9.k9.cell, S9.k10.cell, S9.k11.cell, S9.k12.cell]) rfl ⟨fun _ => rfl, fun h => absurd h HNZ.out, HBF.out⟩
theorem begin_any (s : ByteArray) (wide : Bool) (w : World) (hs : s.size ≤ 100000) (hC : CodesOk w) :
    Calls Tryd.prog 42 #[.string s, .bool wide] w fun e w' => BegTo s.data.toList wide w e w' := by
  by_cases h : (getP 10 [] s.data.toList).1 = 0
  · exact begin_rest s wide w hs hC h
  · exact begin_path s wide w hs h
end Go.Proofs.YtadhiknmkiogjaaDoor
