/-
Walk of the statement CtlModes.
-/
import Derived.Test.YtfmcngchcalcmaaDoorCtlLawA
namespace Go.Proofs.YtfmcngchcalcmaaDoor
open Go.RowKit
set_option maxRecDepth 20000
theorem cat_bytes (a b : List UInt8) (s : ByteArray) (h : b = s.data.toList) : (⟨a.toArray⟩ : ByteArray) ++ s = ⟨(a ++ b).toArray⟩ := by
  subst h
  apply bytes_ext'
  simp
theorem cmodes_long (k nr ns : Int) (pf : Bool) (s : ByteArray) (w : World) (hC : CodesOk w) (hs : 300 < s.size) :
    Calls Tryd.prog 12 #[.agg #[.int .i64 k, .int .i64 nr, .int .i64 ns, .bool pf], .string s] w fun e w' => e = .returned (.bool true) ∧ Below w.heap.size w w' := by
  have HAW := Lib.hid (fun W (h : Below w.heap.size w W) => cawake_any W (hC.below h))
  have HB := Lib.hid ((Below.refl _ w).alloc (Nat.le_refl _) (.cells #[.int .i64 k, .int .i64 nr, .int .i64 ns, .bool pf] 65))
  have HA := Lib.hid (C4.new w w.heap.size rfl (.int .i64 k) (.int .i64 nr) (.int .i64 ns) (.bool pf) 65)
  have d : decide ((300 : Int) < (s.size : Int)) = true := decide_eq_true (by omega)
  go_enter Tryd.func12, Tryd.ntmps12
  go_wp2_with (first
    | (go_at_call 36; (with_reducible refine (HAW.out _ HB.out).mono ?_); rintro e w1 ⟨rfl, hb⟩; have HB1 := Lib.hid (HB.out.trans (hb.mono HB.out.size)); have HA1 := Lib.hid (HA.out.below hb); clear hb; obtain ⟨a0, a1, a2, a3, -, -, -, -, al⟩ := HA1.out))
  go_ret
  exact ⟨rfl, HB1.out⟩
set_option maxHeartbeats 1000000 in
theorem cmodes_none (k nr ns : Int) (pf : Bool) (s : ByteArray) (w : World) (hC : CodesOk w) (hs : s.size ≤ 300) (hr : rightC k nr ns false = false) :
    Calls Tryd.prog 12 #[.agg #[.int .i64 k, .int .i64 nr, .int .i64 ns, .bool pf], .string s] w fun e w' => e = .returned (.bool true) ∧ Below w.heap.size w w' := by
  have HAW := Lib.hid (fun W (h : Below w.heap.size w W) => cawake_any W (hC.below h))
  have HB := Lib.hid ((Below.refl _ w).alloc (Nat.le_refl _) (.cells #[.int .i64 k, .int .i64 nr, .int .i64 ns, .bool pf] 65))
  have HA := Lib.hid (C4.new w w.heap.size rfl (.int .i64 k) (.int .i64 nr) (.int .i64 ns) (.bool pf) 65)
  have d : decide ((300 : Int) < (s.size : Int)) = false := decide_eq_false (by omega)
  have hP := fun W (h : Below w.heap.size w W) => ctlput_any k nr ns pf false W (hC.below h)
  have hQ := fun W (h : Below w.heap.size w W) => ctlput_any k nr ns pf true W (hC.below h)
  unfold cputE at hP hQ
  rw [hr] at hP
  have HP := Lib.hid (show ∀ W, Below w.heap.size w W → Calls Tryd.prog 38 #[.agg #[.int .i64 k, .int .i64 nr, .int .i64 ns, .bool pf], .bool false] W fun e w' => e = .returned (.tuple #[.string ⟨#[]⟩, .int .i64 1]) ∧ Below W.heap.size W w' from hP)
  cases hr' : rightC k nr ns true
  · rw [hr'] at hQ
    have HQ := Lib.hid (show ∀ W, Below w.heap.size w W → Calls Tryd.prog 38 #[.agg #[.int .i64 k, .int .i64 nr, .int .i64 ns, .bool pf], .bool true] W fun e w' => e = .returned (.tuple #[.string ⟨#[]⟩, .int .i64 1]) ∧ Below W.heap.size W w' from hQ)
    clear hP hQ hr hr'
    go_enter Tryd.func12, Tryd.ntmps12
    go_wp2_with (first
      | (go_at_call 36; (with_reducible refine (HAW.out _ HB.out).mono ?_); rintro e w1 ⟨rfl, hb⟩; have HB1 := Lib.hid (HB.out.trans (hb.mono HB.out.size)); have HA1 := Lib.hid (HA.out.below hb); clear hb; obtain ⟨a0, a1, a2, a3, -, -, -, -, al⟩ := HA1.out)
      | (go_at_call 38; (with_reducible refine (HP.out _ HB1.out).mono ?_); rintro e w2 ⟨rfl, hb⟩; have HB2 := Lib.hid (HB1.out.trans (hb.mono HB1.out.size)); have HA2 := Lib.hid (HA1.out.below hb); clear hb a0 a1 a2 a3 al; obtain ⟨a0, a1, a2, a3, -, -, -, -, al⟩ := HA2.out)
      | (go_at_call 38; (with_reducible refine (HQ.out _ HB2.out).mono ?_); rintro e w3 ⟨rfl, hb⟩; have HB3 := Lib.hid (HB2.out.trans (hb.mono HB2.out.size)); have HA3 := Lib.hid (HA2.out.below hb); clear hb a0 a1 a2 a3 al; obtain ⟨a0, a1, a2, a3, -, -, -, -, al⟩ := HA3.out))
    go_ret
    exact ⟨rfl, HB3.out⟩
  · rw [hr'] at hQ
    have HQ := Lib.hid (show ∀ W, Below w.heap.size w W → Calls Tryd.prog 38 #[.agg #[.int .i64 k, .int .i64 nr, .int .i64 ns, .bool pf], .bool true] W fun e w' => e = .returned (.tuple #[.string ⟨(putB k.toNat nr.toNat ns.toNat pf true).toArray⟩, .int .i64 0]) ∧ Below W.heap.size W w' from hQ)
    have he : ((⟨(putB k.toNat nr.toNat ns.toNat pf true).toArray⟩ : ByteArray).toList == (⟨#[]⟩ : ByteArray).toList) = false := seq_bytes _ [] _ (by
      unfold putB
      split <;> exact (decide_eq_false (by simp)).symm)
    have he2 : (⟨(putB k.toNat nr.toNat ns.toNat pf true).toArray⟩ : ByteArray).toList.isEmpty = false := by
      rw [ByteArray.toList_eq]
      unfold putB
      split <;> rfl
    clear hP hQ hr hr'
    generalize (⟨(putB k.toNat nr.toNat ns.toNat pf true).toArray⟩ : ByteArray) = S at *
    go_enter Tryd.func12, Tryd.ntmps12
    go_wp2_with (first
      | (go_at_call 36; (with_reducible refine (HAW.out _ HB.out).mono ?_); rintro e w1 ⟨rfl, hb⟩; have HB1 := Lib.hid (HB.out.trans (hb.mono HB.out.size)); have HA1 := Lib.hid (HA.out.below hb); clear hb; obtain ⟨a0, a1, a2, a3, -, -, -, -, al⟩ := HA1.out)
      | (go_at_call 38; (with_reducible refine (HP.out _ HB1.out).mono ?_); rintro e w2 ⟨rfl, hb⟩; have HB2 := Lib.hid (HB1.out.trans (hb.mono HB1.out.size)); have HA2 := Lib.hid (HA1.out.below hb); clear hb a0 a1 a2 a3 al; obtain ⟨a0, a1, a2, a3, -, -, -, -, al⟩ := HA2.out)
      | (go_at_call 38; (with_reducible refine (HQ.out _ HB2.out).mono ?_); rintro e w3 ⟨rfl, hb⟩; have HB3 := Lib.hid (HB2.out.trans (hb.mono HB2.out.size)); have HA3 := Lib.hid (HA2.out.below hb); clear hb a0 a1 a2 a3 al; obtain ⟨a0, a1, a2, a3, -, -, -, -, al⟩ := HA3.out))
    go_ret
    exact ⟨rfl, HB3.out⟩
set_option maxHeartbeats 1000000 in
theorem cmodes_low (k nr ns : Int) (pf : Bool) (s : ByteArray) (w : World) (hC : CodesOk w) (hs : s.size ≤ 300) (hr : rightC k nr ns false = true) (hk : k < 6) :
    Calls Tryd.prog 12 #[.agg #[.int .i64 k, .int .i64 nr, .int .i64 ns, .bool pf], .string s] w fun e w' => e = .returned (.bool true) ∧ Below w.heap.size w w' := by
  have HAW := Lib.hid (fun W (h : Below w.heap.size w W) => cawake_any W (hC.below h))
  have HB := Lib.hid ((Below.refl _ w).alloc (Nat.le_refl _) (.cells #[.int .i64 k, .int .i64 nr, .int .i64 ns, .bool pf] 65))
  have HA := Lib.hid (C4.new w w.heap.size rfl (.int .i64 k) (.int .i64 nr) (.int .i64 ns) (.bool pf) 65)
  have d : decide ((300 : Int) < (s.size : Int)) = false := decide_eq_false (by omega)
  have dk : decide (k < 6) = true := decide_eq_true hk
  have hP := fun W (h : Below w.heap.size w W) => ctlput_any k nr ns pf false W (hC.below h)
  have hQ := fun W (h : Below w.heap.size w W) => ctlput_any k nr ns pf true W (hC.below h)
  obtain ⟨g1, g2, g3, g4, g5, g6, g7, g8⟩ := (rightC_iff k nr ns false).1 hr
  rw [show modD false = 8 from rfl] at g5 g6
  have hr' : rightC k nr ns true = true := (rightC_iff k nr ns true).2 ⟨g1, g2, g3, g4, by show nr < 128; omega, by show ns < 128; omega, g7, g8⟩
  unfold cputE at hP hQ
  rw [hr] at hP
  rw [hr'] at hQ
  have HP := Lib.hid (show ∀ W, Below w.heap.size w W → Calls Tryd.prog 38 #[.agg #[.int .i64 k, .int .i64 nr, .int .i64 ns, .bool pf], .bool false] W fun e w' => e = .returned (.tuple #[.string ⟨(putB k.toNat nr.toNat ns.toNat pf false).toArray⟩, .int .i64 0]) ∧ Below W.heap.size W w' from hP)
  have HQ := Lib.hid (show ∀ W, Below w.heap.size w W → Calls Tryd.prog 38 #[.agg #[.int .i64 k, .int .i64 nr, .int .i64 ns, .bool pf], .bool true] W fun e w' => e = .returned (.tuple #[.string ⟨(putB k.toNat nr.toNat ns.toNat pf true).toArray⟩, .int .i64 0]) ∧ Below W.heap.size W w' from hQ)
  have z1 : (⟨(putB k.toNat nr.toNat ns.toNat pf false).toArray⟩ : ByteArray).size = 1 := rfl
  have z2 : (⟨(putB k.toNat nr.toNat ns.toNat pf true).toArray⟩ : ByteArray).size = 2 := by
    have hh : hasD (k.toNat : Nat) = true := by
      rw [show ((k.toNat : Nat) : Int) = k from by omega]
      simp only [hasD, supD, Bool.or_eq_true, Bool.and_eq_true, decide_eq_true_eq]
      omega
    unfold putB
    rw [if_pos (by rw [hh]; rfl)]
    rfl
  clear hP hQ hr hr' g1 g2 g3 g4 g5 g6 g7 g8
  generalize (⟨(putB k.toNat nr.toNat ns.toNat pf false).toArray⟩ : ByteArray) = S at *
  generalize (⟨(putB k.toNat nr.toNat ns.toNat pf true).toArray⟩ : ByteArray) = T at *
  have y1 : (S.size : Int) = 1 := by omega
  have y2 : (T.size : Int) = 2 := by omega
  clear z1 z2
  go_enter Tryd.func12, Tryd.ntmps12
  go_wp2_with (first
    | (go_at_call 36; (with_reducible refine (HAW.out _ HB.out).mono ?_); rintro e w1 ⟨rfl, hb⟩; have HB1 := Lib.hid (HB.out.trans (hb.mono HB.out.size)); have HA1 := Lib.hid (HA.out.below hb); clear hb; obtain ⟨a0, a1, a2, a3, -, -, -, -, al⟩ := HA1.out)
    | (go_at_call 38; (with_reducible refine (HP.out _ HB1.out).mono ?_); rintro e w2 ⟨rfl, hb⟩; have HB2 := Lib.hid (HB1.out.trans (hb.mono HB1.out.size)); have HA2 := Lib.hid (HA1.out.below hb); clear hb a0 a1 a2 a3 al; obtain ⟨a0, a1, a2, a3, -, -, -, -, al⟩ := HA2.out)
    | (go_at_call 38; (with_reducible refine (HQ.out _ HB2.out).mono ?_); rintro e w3 ⟨rfl, hb⟩; have HB3 := Lib.hid (HB2.out.trans (hb.mono HB2.out.size)); have HA3 := Lib.hid (HA2.out.below hb); clear hb a0 a1 a2 a3 al; obtain ⟨a0, a1, a2, a3, -, -, -, -, al⟩ := HA3.out))
  go_ret
  exact ⟨rfl, HB3.out⟩
set_option maxHeartbeats 1000000 in
theorem cmodes_high (K R X : Nat) (pf : Bool) (s : ByteArray) (w : World) (hC : CodesOk w) (hs : s.size ≤ 300) (hr : rightC K R X false = true) (hk : 6 ≤ K) :
    Calls Tryd.prog 12 #[.agg #[.int .i64 (K : Int), .int .i64 (R : Int), .int .i64 (X : Int), .bool pf], .string s] w fun e w' => e = .returned (.bool true) ∧ Below w.heap.size w w' := by
  have HAW := Lib.hid (fun W (h : Below w.heap.size w W) => cawake_any W (hC.below h))
  have HB := Lib.hid ((Below.refl _ w).alloc (Nat.le_refl _) (.cells #[.int .i64 (K : Int), .int .i64 (R : Int), .int .i64 (X : Int), .bool pf] 65))
  have HA := Lib.hid (C4.new w w.heap.size rfl (.int .i64 (K : Int)) (.int .i64 (R : Int)) (.int .i64 (X : Int)) (.bool pf) 65)
  have d : decide ((300 : Int) < (s.size : Int)) = false := decide_eq_false (by omega)
  have dk : decide ((K : Int) < 6) = false := decide_eq_false (by omega)
  have hP := fun W (h : Below w.heap.size w W) => ctlput_any K R X pf false W (hC.below h)
  have hQ := fun W (h : Below w.heap.size w W) => ctlput_any K R X pf true W (hC.below h)
  obtain ⟨g1, g2, g3, g4, g5, g6, g7, g8⟩ := (rightC_iff K R X false).1 hr
  rw [show modD false = 8 from rfl] at g5 g6
  have hr' : rightC K R X true = true := (rightC_iff K R X true).2 ⟨g1, g2, g3, g4, by show (R : Int) < 128; omega, by show (X : Int) < 128; omega, g7, g8⟩
  unfold cputE at hP hQ
  rw [hr] at hP
  rw [hr'] at hQ
  have hh : hasD (K : Nat) = false := by
    rw [Bool.eq_false_iff]
    intro h
    simp only [hasD, supD, Bool.or_eq_true, Bool.and_eq_true, decide_eq_true_eq] at h
    omega
  have hT : putB K R X pf true = putB K R X pf false := if_neg (by rw [hh]; simp)
  simp only [Int.toNat_natCast, hT] at hP hQ
  have HP := Lib.hid (show ∀ W, Below w.heap.size w W → Calls Tryd.prog 38 #[.agg #[.int .i64 (K : Int), .int .i64 (R : Int), .int .i64 (X : Int), .bool pf], .bool false] W fun e w' => e = .returned (.tuple #[.string ⟨(putB K R X pf false).toArray⟩, .int .i64 0]) ∧ Below W.heap.size W w' from hP)
  have HQ := Lib.hid (show ∀ W, Below w.heap.size w W → Calls Tryd.prog 38 #[.agg #[.int .i64 (K : Int), .int .i64 (R : Int), .int .i64 (X : Int), .bool pf], .bool true] W fun e w' => e = .returned (.tuple #[.string ⟨(putB K R X pf false).toArray⟩, .int .i64 0]) ∧ Below W.heap.size W w' from hQ)
  have z1 : (⟨(putB K R X pf false).toArray⟩ : ByteArray).size = 1 := rfl
  have e1 := (get_put K R X pf false s.data.toList hr).1
  have e2 := (get_put K R X pf true s.data.toList hr').1
  rw [hT] at e2
  rw [show (putB K R X pf false).length = 1 from rfl] at e1 e2
  have HG := Lib.hid (show ∀ W, Below w.heap.size w W → Calls Tryd.prog 40 #[.string ((⟨(putB K R X pf false).toArray⟩ : ByteArray) ++ s), .bool false] W fun e w' => e = .returned (.tuple #[.agg #[.int .i64 (K : Int), .int .i64 (R : Int), .int .i64 (X : Int), .bool pf], .int .i64 1, .int .i64 0]) ∧ Below W.heap.size W w' from fun W h => by
    rw [cat_bytes _ _ s rfl]
    have q := ctlget_any (putB K R X pf false ++ s.data.toList) false W (hC.below h)
    rw [e1] at q
    exact q)
  have HH := Lib.hid (show ∀ W, Below w.heap.size w W → Calls Tryd.prog 40 #[.string ((⟨(putB K R X pf false).toArray⟩ : ByteArray) ++ s), .bool true] W fun e w' => e = .returned (.tuple #[.agg #[.int .i64 (K : Int), .int .i64 (R : Int), .int .i64 (X : Int), .bool pf], .int .i64 1, .int .i64 0]) ∧ Below W.heap.size W w' from fun W h => by
    rw [cat_bytes _ _ s rfl]
    have q := ctlget_any (putB K R X pf false ++ s.data.toList) true W (hC.below h)
    rw [e2] at q
    exact q)
  clear hP hQ hr hr' g1 g2 g3 g4 g5 g6 g7 g8 e1 e2 hT hh
  generalize (⟨(putB K R X pf false).toArray⟩ : ByteArray) = S at *
  have y1 : (S.size : Int) = 1 := by omega
  have heq := fun W => run_eq_ctl K R X K R X pf pf W true (by simp)
  have hss : (S.toList == S.toList) = true := beq_self_eq_true _
  go_enter Tryd.func12, Tryd.ntmps12
  go_wp2_with (first
    | (go_at_call 36; (with_reducible refine (HAW.out _ HB.out).mono ?_); rintro e w1 ⟨rfl, hb⟩; have HB1 := Lib.hid (HB.out.trans (hb.mono HB.out.size)); have HA1 := Lib.hid (HA.out.below hb); clear hb; obtain ⟨a0, a1, a2, a3, -, -, -, -, al⟩ := HA1.out)
    | (go_at_call 38; (with_reducible refine (HP.out _ HB1.out).mono ?_); rintro e w2 ⟨rfl, hb⟩; have HB2 := Lib.hid (HB1.out.trans (hb.mono HB1.out.size)); have HA2 := Lib.hid (HA1.out.below hb); clear hb a0 a1 a2 a3 al; obtain ⟨a0, a1, a2, a3, -, -, -, -, al⟩ := HA2.out)
    | (go_at_call 38; (with_reducible refine (HQ.out _ HB2.out).mono ?_); rintro e w3 ⟨rfl, hb⟩; have HB3 := Lib.hid (HB2.out.trans (hb.mono HB2.out.size)); have HA3 := Lib.hid (HA2.out.below hb); clear hb a0 a1 a2 a3 al; obtain ⟨a0, a1, a2, a3, -, -, -, -, al⟩ := HA3.out)
    | (go_at_call 40; (with_reducible refine (HG.out _ HB3.out).mono ?_); rintro e w4 ⟨rfl, hb⟩; have HB4 := Lib.hid ((HB3.out.trans (hb.mono HB3.out.size)).alloc (by have := HB3.out.size; have := hb.size; omega) (.cells #[.int .i64 (K : Int), .int .i64 (R : Int), .int .i64 (X : Int), .bool pf] 65)); have HA4 := Lib.hid ((HA3.out.below hb).alloc (.cells #[.int .i64 (K : Int), .int .i64 (R : Int), .int .i64 (X : Int), .bool pf] 65)); have HD4 := Lib.hid (C4.new w4 w4.heap.size rfl (.int .i64 (K : Int)) (.int .i64 (R : Int)) (.int .i64 (X : Int)) (.bool pf) 65); clear hb a0 a1 a2 a3 al; obtain ⟨a0, a1, a2, a3, -, -, -, -, al⟩ := HA4.out)
    | (go_at_call 40; (with_reducible refine (HH.out _ HB4.out).mono ?_); rintro e w5 ⟨rfl, hb⟩; have HB5 := Lib.hid ((HB4.out.trans (hb.mono HB4.out.size)).alloc (by have := HB4.out.size; have := hb.size; omega) (.cells #[.int .i64 (K : Int), .int .i64 (R : Int), .int .i64 (X : Int), .bool pf] 65)); have HA5 := Lib.hid ((HA4.out.below hb).alloc (.cells #[.int .i64 (K : Int), .int .i64 (R : Int), .int .i64 (X : Int), .bool pf] 65)); have HD5 := Lib.hid ((HD4.out.below hb).alloc (.cells #[.int .i64 (K : Int), .int .i64 (R : Int), .int .i64 (X : Int), .bool pf] 65)); have HF5 := Lib.hid (C4.new w5 w5.heap.size rfl (.int .i64 (K : Int)) (.int .i64 (R : Int)) (.int .i64 (X : Int)) (.bool pf) 65); obtain ⟨d0, d1, d2, d3, -, -, -, -, dl⟩ := HD5.out; obtain ⟨f0, f1, f2, f3, -, -, -, -, fl⟩ := HF5.out; clear hb a0 a1 a2 a3 al; obtain ⟨a0, a1, a2, a3, -, -, -, -, al⟩ := HA5.out))
  go_ret
  exact ⟨rfl, HB5.out⟩
theorem cmodes_any (k nr ns : Int) (pf : Bool) (s : ByteArray) (w : World) (hC : CodesOk w) :
    Calls Tryd.prog 12 #[.agg #[.int .i64 k, .int .i64 nr, .int .i64 ns, .bool pf], .string s] w fun e w' => e = .returned (.bool true) ∧ Below w.heap.size w w' := by
  by_cases hs : 300 < s.size
  · exact cmodes_long k nr ns pf s w hC hs
  cases hr : rightC k nr ns false
  · exact cmodes_none k nr ns pf s w hC (by omega) hr
  by_cases hk : k < 6
  · exact cmodes_low k nr ns pf s w hC (by omega) hr hk
  · obtain ⟨K, R, X, rfl, rfl, rfl, -⟩ := rightC_facts hr
    exact cmodes_high K R X pf s w hC (by omega) hr (by omega)
end Go.Proofs.YtfmcngchcalcmaaDoor
