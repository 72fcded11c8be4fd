/-
Walk of the statement CtlPuts.
-/
import Derived.Test.YtfmcngchcalcmaaDoorCtlLawB
namespace Go.Proofs.YtfmcngchcalcmaaDoor
open Go.RowKit
set_option maxRecDepth 20000
theorem cputs_long (k nr ns : Int) (pf wide : Bool) (s : ByteArray) (w : World) (hC : CodesOk w) (hs : 300 < s.size) :
    Calls Tryd.prog 9 #[.agg #[.int .i64 k, .int .i64 nr, .int .i64 ns, .bool pf], .bool wide, .string s] w fun e w' => e = .returned (.bool true) ∧ Below w.heap.size w w' := by
  have HAW := Lib.hid (fun W (h : Below w.heap.size w W) => cawake_any W (hC.below h))
  have HB := Lib.hid ((Below.refl _ w).alloc (Nat.le_refl _) (.cells #[.int .i64 k, .int .i64 nr, .int .i64 ns, .bool pf] 65))
  have HA := Lib.hid (C4.new w w.heap.size rfl (.int .i64 k) (.int .i64 nr) (.int .i64 ns) (.bool pf) 65)
  have d : decide ((300 : Int) < (s.size : Int)) = true := decide_eq_true (by omega)
  go_enter Tryd.func9, Tryd.ntmps9
  go_wp2_with (first
    | (go_at_call 36; (with_reducible refine (HAW.out _ HB.out).mono ?_); rintro e w1 ⟨rfl, hb⟩; have HB1 := Lib.hid (HB.out.trans (hb.mono HB.out.size)); have HA1 := Lib.hid (HA.out.below hb); clear hb; obtain ⟨a0, a1, a2, a3, -, -, -, -, al⟩ := HA1.out))
  go_ret
  exact ⟨rfl, HB1.out⟩
set_option maxHeartbeats 1000000 in
theorem cputs_none (k nr ns : Int) (pf wide : Bool) (s : ByteArray) (w : World) (hC : CodesOk w) (hs : s.size ≤ 300) (hr : rightC k nr ns wide = false) :
    Calls Tryd.prog 9 #[.agg #[.int .i64 k, .int .i64 nr, .int .i64 ns, .bool pf], .bool wide, .string s] w fun e w' => e = .returned (.bool true) ∧ Below w.heap.size w w' := by
  have HAW := Lib.hid (fun W (h : Below w.heap.size w W) => cawake_any W (hC.below h))
  have HB := Lib.hid ((Below.refl _ w).alloc (Nat.le_refl _) (.cells #[.int .i64 k, .int .i64 nr, .int .i64 ns, .bool pf] 65))
  have HA := Lib.hid (C4.new w w.heap.size rfl (.int .i64 k) (.int .i64 nr) (.int .i64 ns) (.bool pf) 65)
  have d : decide ((300 : Int) < (s.size : Int)) = false := decide_eq_false (by omega)
  have hP := fun W (h : Below w.heap.size w W) => ctlput_any k nr ns pf wide W (hC.below h)
  have hR := fun W => ccright_any k nr ns pf wide W
  have hRR := fun W => rright6_any k nr ns pf wide W
  unfold cputE at hP
  rw [hr] at hP hR hRR
  have HP := Lib.hid (show ∀ W, Below w.heap.size w W → Calls Tryd.prog 38 #[.agg #[.int .i64 k, .int .i64 nr, .int .i64 ns, .bool pf], .bool wide] W fun e w' => e = .returned (.tuple #[.string ⟨#[]⟩, .int .i64 1]) ∧ Below W.heap.size W w' from hP)
  have HR := Lib.hid hR
  have HRR := Lib.hid hRR
  clear hP hR hRR hr
  go_enter Tryd.func9, Tryd.ntmps9
  go_wp2_with (first
    | (go_at_call 36; (with_reducible refine (HAW.out _ HB.out).mono ?_); rintro e w1 ⟨rfl, hb⟩; have HB1 := Lib.hid (HB.out.trans (hb.mono HB.out.size)); have HA1 := Lib.hid (HA.out.below hb); clear hb; obtain ⟨a0, a1, a2, a3, -, -, -, -, al⟩ := HA1.out)
    | (go_at_call 37; (with_reducible refine (HRR.out _).mono ?_); rintro e w2 ⟨rfl, hb⟩; have hb1 := HB1.out.alloc HB1.out.size (.cells #[.int .i64 k, .int .i64 nr, .int .i64 ns, .bool pf] 66); have HB2 := Lib.hid (hb1.trans (hb.mono hb1.size)); have HA2 := Lib.hid ((HA1.out.alloc (.cells #[.int .i64 k, .int .i64 nr, .int .i64 ns, .bool pf] 66)).below hb); have HW2 := Lib.hid ((C4.new w1 w1.heap.size rfl (.int .i64 k) (.int .i64 nr) (.int .i64 ns) (.bool pf) 66).below hb); clear hb hb1; clear a0 a1 a2 a3 al; obtain ⟨a0, a1, a2, a3, -, -, -, -, al⟩ := HA2.out; obtain ⟨u0, u1, u2, u3, -, -, -, -, ul⟩ := HW2.out)
    | (go_at_call 38; (with_reducible refine (HP.out _ HB2.out).mono ?_); rintro e w3 ⟨rfl, hb⟩; have HB3 := Lib.hid (HB2.out.trans (hb.mono HB2.out.size)); have HA3 := Lib.hid (HA2.out.below hb); have HW3 := Lib.hid (HW2.out.below hb); clear hb; clear a0 a1 a2 a3 al; clear u0 u1 u2 u3 ul; obtain ⟨a0, a1, a2, a3, -, -, -, -, al⟩ := HA3.out; obtain ⟨u0, u1, u2, u3, -, -, -, -, ul⟩ := HW3.out)
    | (go_at_call 39; (with_reducible refine (HR.out _).mono ?_); rintro e w4 ⟨rfl, hb⟩; have HB4 := Lib.hid (HB3.out.trans (hb.mono HB3.out.size)); have HA4 := Lib.hid (HA3.out.below hb); have HW4 := Lib.hid (HW3.out.below hb); clear hb; clear a0 a1 a2 a3 al; clear u0 u1 u2 u3 ul; obtain ⟨a0, a1, a2, a3, -, -, -, -, al⟩ := HA4.out; obtain ⟨u0, u1, u2, u3, -, -, -, -, ul⟩ := HW4.out))
  go_ret
  exact ⟨rfl, HB4.out⟩
set_option maxHeartbeats 2000000 in
theorem cputs_yes (K R X : Nat) (pf wide : Bool) (s : ByteArray) (w : World) (hC : CodesOk w) (hs : s.size ≤ 300) (hr : rightC K R X wide = true) :
    Calls Tryd.prog 9 #[.agg #[.int .i64 (K : Int), .int .i64 (R : Int), .int .i64 (X : Int), .bool pf], .bool wide, .string s] w fun e w' => e = .returned (.bool true) ∧ Below w.heap.size w w' := by
  have HAW := Lib.hid (fun W (h : Below w.heap.size w W) => cawake_any W (hC.below h))
  have HB := Lib.hid ((Below.refl _ w).alloc (Nat.le_refl _) (.cells #[.int .i64 (K : Int), .int .i64 (R : Int), .int .i64 (X : Int), .bool pf] 65))
  have HA := Lib.hid (C4.new w w.heap.size rfl (.int .i64 (K : Int)) (.int .i64 (R : Int)) (.int .i64 (X : Int)) (.bool pf) 65)
  have d : decide ((300 : Int) < (s.size : Int)) = false := decide_eq_false (by omega)
  have hP := fun W (h : Below w.heap.size w W) => ctlput_any K R X pf wide W (hC.below h)
  have hR := fun W => ccright_any K R X pf wide W
  have hRR := fun W => rright6_any K R X pf wide W
  obtain ⟨g1, g2, g3, g4, g5, g6, g7, g8⟩ := (rightC_iff K R X wide).1 hr
  have hm : modD wide ≤ 128 := by cases wide <;> decide
  obtain ⟨e1, e2, e3⟩ := get_put K R X pf wide s.data.toList hr
  have hRP : ∀ W, Calls Tryd.prog 42 #[.agg #[.int .i64 (K : Int), .int .i64 (R : Int), .int .i64 (X : Int), .bool pf], .bool wide] W fun e w' => Put6To W (docN K R X pf wide) e w' := fun W => by
    by_cases h5 : 5 < K
    · obtain rfl : R = 0 := by omega
      obtain rfl : X = 0 := by omega
      exact rput6_high K pf wide W h5 (by omega)
    · by_cases h1 : 1 < K
      · obtain rfl : X = 0 := by omega
        exact rput6_sup K R pf wide W h1 (by omega) (by omega)
      · obtain rfl : K = 1 := by omega
        exact rput6_i R X pf wide W (by omega) (by omega)
  unfold cputE at hP
  rw [hr] at hP hR hRR
  simp only [Int.toNat_natCast] at hP
  have HP := Lib.hid (show ∀ W, Below w.heap.size w W → Calls Tryd.prog 38 #[.agg #[.int .i64 (K : Int), .int .i64 (R : Int), .int .i64 (X : Int), .bool pf], .bool wide] W fun e w' => e = .returned (.tuple #[.string ⟨(putB K R X pf wide).toArray⟩, .int .i64 0]) ∧ Below W.heap.size W w' from hP)
  have HR := Lib.hid hR
  have HRR := Lib.hid hRR
  have HG := Lib.hid (show ∀ W, Below w.heap.size w W → Calls Tryd.prog 40 #[.string ((⟨(putB K R X pf wide).toArray⟩ : ByteArray) ++ s), .bool wide] W fun e w' => e = .returned (.tuple #[.agg #[.int .i64 (K : Int), .int .i64 (R : Int), .int .i64 (X : Int), .bool pf], .int .i64 ((⟨(putB K R X pf wide).toArray⟩ : ByteArray).size : Int), .int .i64 0]) ∧ Below W.heap.size W w' from fun W h => by
    rw [cat_bytes _ _ s rfl]
    have q := ctlget_any (putB K R X pf wide ++ s.data.toList) wide W (hC.below h)
    rw [e1] at q
    exact q)
  have HTX := Lib.hid (show ∀ W g c, IntsAt W g (docN K R X pf wide) → Calls Tryd.prog 41 #[.slice (some ⟨g, 0, none⟩) (docN K R X pf wide).length c] W fun e w' => e = .returned (.string ⟨(putB K R X pf wide).toArray⟩) ∧ Below W.heap.size W w' from fun W g c h => by
    have hl : (docN K R X pf wide).length ≤ 1000 := by
      have := congrArg List.length e2
      rw [List.length_map] at this
      rw [this]
      unfold putB
      split <;> simp
    have q := text6_any g c _ W e3 hl h
    rw [e2] at q
    exact q)
  unfold Put6To at hRP
  have HRP := Lib.hid hRP
  have hz : ((⟨(putB K R X pf wide).toArray⟩ : ByteArray).size : Int) ≤ 2 := by
    have : (putB K R X pf wide).length ≤ 2 := by unfold putB; split <;> simp
    have e : (⟨(putB K R X pf wide).toArray⟩ : ByteArray).size = (putB K R X pf wide).length := rfl
    omega
  clear hP hR hRR hr g1 g2 g3 g4 g5 g6 g7 g8 e1 e2 e3 hm hRP
  generalize (⟨(putB K R X pf wide).toArray⟩ : ByteArray) = S at *
  generalize docN K R X pf wide = D at *
  have heq := fun W => run_eq_ctl K R X K R X pf pf W true (by simp)
  have hss : (S.toList == S.toList) = true := beq_self_eq_true _
  have hzz : ((S.size : Int) == (S.size : Int)) = true := beq_self_eq_true _
  go_enter Tryd.func9, Tryd.ntmps9
  go_wp2_with (first
    | (go_at_call 36; (with_reducible refine (HAW.out _ HB.out).mono ?_); rintro e w1 ⟨rfl, hb⟩; have HB1 := Lib.hid (HB.out.trans (hb.mono HB.out.size)); have HA1 := Lib.hid (HA.out.below hb); clear hb; obtain ⟨a0, a1, a2, a3, -, -, -, -, al⟩ := HA1.out)
    | (go_at_call 37; (with_reducible refine (HRR.out _).mono ?_); rintro e w2 ⟨rfl, hb⟩; have hb1 := HB1.out.alloc HB1.out.size (.cells #[.int .i64 (K : Int), .int .i64 (R : Int), .int .i64 (X : Int), .bool pf] 66); have HB2 := Lib.hid (hb1.trans (hb.mono hb1.size)); have HA2 := Lib.hid ((HA1.out.alloc (.cells #[.int .i64 (K : Int), .int .i64 (R : Int), .int .i64 (X : Int), .bool pf] 66)).below hb); have HW2 := Lib.hid ((C4.new w1 w1.heap.size rfl (.int .i64 (K : Int)) (.int .i64 (R : Int)) (.int .i64 (X : Int)) (.bool pf) 66).below hb); clear hb hb1; clear a0 a1 a2 a3 al; obtain ⟨a0, a1, a2, a3, -, -, -, -, al⟩ := HA2.out; obtain ⟨u0, u1, u2, u3, -, -, -, -, ul⟩ := HW2.out)
    | (go_at_call 38; (with_reducible refine (HP.out _ HB2.out).mono ?_); rintro e w3 ⟨rfl, hb⟩; have HB3 := Lib.hid (HB2.out.trans (hb.mono HB2.out.size)); have HA3 := Lib.hid (HA2.out.below hb); have HW3 := Lib.hid (HW2.out.below hb); clear hb; clear a0 a1 a2 a3 al; clear u0 u1 u2 u3 ul; obtain ⟨a0, a1, a2, a3, -, -, -, -, al⟩ := HA3.out; obtain ⟨u0, u1, u2, u3, -, -, -, -, ul⟩ := HW3.out)
    | (go_at_call 39; (with_reducible refine (HR.out _).mono ?_); rintro e w4 ⟨rfl, hb⟩; have HB4 := Lib.hid (HB3.out.trans (hb.mono HB3.out.size)); have HA4 := Lib.hid (HA3.out.below hb); have HW4 := Lib.hid (HW3.out.below hb); clear hb; clear a0 a1 a2 a3 al; clear u0 u1 u2 u3 ul; obtain ⟨a0, a1, a2, a3, -, -, -, -, al⟩ := HA4.out; obtain ⟨u0, u1, u2, u3, -, -, -, -, ul⟩ := HW4.out)
    | (go_at_call 40; (with_reducible refine (HG.out _ HB4.out).mono ?_); rintro e w5 ⟨rfl, hb⟩; have hb1 := HB4.out.trans (hb.mono HB4.out.size); have HB5 := Lib.hid (hb1.alloc hb1.size (.cells #[.int .i64 (K : Int), .int .i64 (R : Int), .int .i64 (X : Int), .bool pf] 65)); have HA5 := Lib.hid ((HA4.out.below hb).alloc (.cells #[.int .i64 (K : Int), .int .i64 (R : Int), .int .i64 (X : Int), .bool pf] 65)); have HW5 := Lib.hid ((HW4.out.below hb).alloc (.cells #[.int .i64 (K : Int), .int .i64 (R : Int), .int .i64 (X : Int), .bool pf] 65)); have HX5 := Lib.hid (C4.new w5 w5.heap.size rfl (.int .i64 (K : Int)) (.int .i64 (R : Int)) (.int .i64 (X : Int)) (.bool pf) 65); clear hb hb1; clear a0 a1 a2 a3 al; clear u0 u1 u2 u3 ul; obtain ⟨a0, a1, a2, a3, -, -, -, -, al⟩ := HA5.out; obtain ⟨u0, u1, u2, u3, -, -, -, -, ul⟩ := HW5.out; obtain ⟨x0, x1, x2, x3, -, -, -, -, xl⟩ := HX5.out)
    | (go_at_call 42; (with_reducible refine (HRP.out _).mono ?_); rintro e w6 ⟨⟨g, c, rfl, hg⟩, hb⟩; have HB6 := Lib.hid (HB5.out.trans (hb.mono HB5.out.size)); have HA6 := Lib.hid (HA5.out.below hb); have HW6 := Lib.hid (HW5.out.below hb); have HX6 := Lib.hid (HX5.out.below hb); have HG6 := Lib.hid hg; clear hg; clear x0 x1 x2 x3 xl; obtain ⟨x0, x1, x2, x3, -, -, -, -, xl⟩ := HX6.out; clear hb; clear a0 a1 a2 a3 al; clear u0 u1 u2 u3 ul; obtain ⟨a0, a1, a2, a3, -, -, -, -, al⟩ := HA6.out; obtain ⟨u0, u1, u2, u3, -, -, -, -, ul⟩ := HW6.out)
    | (go_at_call 41; (with_reducible refine (HTX.out _ g c HG6.out).mono ?_); rintro e w7 ⟨rfl, hb⟩; have HB7 := Lib.hid (HB6.out.trans (hb.mono HB6.out.size)); have HA7 := Lib.hid (HA6.out.below hb); have HW7 := Lib.hid (HW6.out.below hb); have HX7 := Lib.hid (HX6.out.below hb); clear x0 x1 x2 x3 xl; obtain ⟨x0, x1, x2, x3, -, -, -, -, xl⟩ := HX7.out; clear hb; clear a0 a1 a2 a3 al; clear u0 u1 u2 u3 ul; obtain ⟨a0, a1, a2, a3, -, -, -, -, al⟩ := HA7.out; obtain ⟨u0, u1, u2, u3, -, -, -, -, ul⟩ := HW7.out))
  go_ret
  exact ⟨rfl, HB7.out⟩
theorem cputs_any (k nr ns : Int) (pf wide : Bool) (s : ByteArray) (w : World) (hC : CodesOk w) :
    Calls Tryd.prog 9 #[.agg #[.int .i64 k, .int .i64 nr, .int .i64 ns, .bool pf], .bool wide, .string s] w fun e w' => e = .returned (.bool true) ∧ Below w.heap.size w w' := by
  by_cases hs : 300 < s.size
  · exact cputs_long k nr ns pf wide s w hC hs
  cases hr : rightC k nr ns wide
  · exact cputs_none k nr ns pf wide s w hC (by omega) hr
  · obtain ⟨K, R, X, rfl, rfl, rfl, -⟩ := rightC_facts hr
    exact cputs_yes K R X pf wide s w hC (by omega) hr
end Go.Proofs.YtfmcngchcalcmaaDoor
