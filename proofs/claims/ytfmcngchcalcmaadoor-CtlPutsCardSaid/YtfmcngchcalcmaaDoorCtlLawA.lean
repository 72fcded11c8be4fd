/-
Walks of the statements CtlUnlike and CtlModes.
-/
import Derived.Test.YtfmcngchcalcmaaDoorCtlText
import Derived.Test.YtfmcngchcalcmaaDoorCtlRef
namespace Go.Proofs.YtfmcngchcalcmaaDoor
open Go.RowKit
set_option maxRecDepth 20000
/-- == on controls -/
theorem run_eq_ctl (k nr ns k' nr' ns' : Int) (pf pf' : Bool) (w : World) (E : Bool) (h : E = decide (k = k' ∧ nr = nr' ∧ ns = ns' ∧ pf = pf')) :
    (Op.equalIn 10000 65 (.agg #[.int .i64 k, .int .i64 nr, .int .i64 ns, .bool pf]) (.agg #[.int .i64 k', .int .i64 nr', .int .i64 ns', .bool pf'])).run Tryd.prog w = .ok E w := by
  have e1 : (k == k') = decide (k = k') := rfl
  have e2 : (nr == nr') = decide (nr = nr') := rfl
  have e3 : (ns == ns') = decide (ns = ns') := rfl
  have e4 : (pf == pf') = decide (pf = pf') := by cases pf <;> cases pf' <;> rfl
  by_cases h1 : k = k'
  · by_cases h2 : nr = nr'
    · by_cases h3 : ns = ns'
      · by_cases h4 : pf = pf'
        · rw [decide_eq_true ⟨h1, h2, h3, h4⟩] at h
          rw [decide_eq_true h1] at e1
          rw [decide_eq_true h2] at e2
          rw [decide_eq_true h3] at e3
          rw [decide_eq_true h4] at e4
          subst h
          go_simp
        · rw [decide_eq_false (fun x => h4 x.2.2.2)] at h
          rw [decide_eq_true h1] at e1
          rw [decide_eq_true h2] at e2
          rw [decide_eq_true h3] at e3
          rw [decide_eq_false h4] at e4
          subst h
          go_simp
      · rw [decide_eq_false (fun x => h3 x.2.2.1)] at h
        rw [decide_eq_true h1] at e1
        rw [decide_eq_true h2] at e2
        rw [decide_eq_false h3] at e3
        subst h
        go_simp
    · rw [decide_eq_false (fun x => h2 x.2.1)] at h
      rw [decide_eq_true h1] at e1
      rw [decide_eq_false h2] at e2
      subst h
      go_simp
  · rw [decide_eq_false (fun x => h1 x.1)] at h
    rw [decide_eq_false h1] at e1
    subst h
    go_simp
theorem seq_bytes (a b : List UInt8) (E : Bool) (h : E = decide (a = b)) : ((⟨a.toArray⟩ : ByteArray).toList == (⟨b.toArray⟩ : ByteArray).toList) = E := by
  subst h
  rw [ByteArray.toList_eq, ByteArray.toList_eq, Bool.eq_iff_iff, beq_iff_eq, decide_eq_true_eq]
set_option maxHeartbeats 1000000 in
theorem cunlike_any (k nr ns k' nr' ns' : Int) (pf pf' wide : Bool) (w : World) (hC : CodesOk w) :
    Calls Tryd.prog 11 #[.agg #[.int .i64 k, .int .i64 nr, .int .i64 ns, .bool pf], .agg #[.int .i64 k', .int .i64 nr', .int .i64 ns', .bool pf'], .bool wide] w fun e w' => e = .returned (.bool true) ∧ Below w.heap.size w w' := by
  have HAW := Lib.hid (fun W (h : Below w.heap.size w W) => cawake_any W (hC.below h))
  have hP := fun W (h : Below w.heap.size w W) => ctlput_any k nr ns pf wide W (hC.below h)
  have hQ := fun W (h : Below w.heap.size w W) => ctlput_any k' nr' ns' pf' wide W (hC.below h)
  have HB := Lib.hid (((Below.refl _ w).alloc (Nat.le_refl _) (.cells #[.int .i64 k, .int .i64 nr, .int .i64 ns, .bool pf] 65)).alloc (by simp) (.cells #[.int .i64 k', .int .i64 nr', .int .i64 ns', .bool pf'] 65))
  have HA := Lib.hid ((C4.new w w.heap.size rfl (.int .i64 k) (.int .i64 nr) (.int .i64 ns) (.bool pf) 65).alloc (.cells #[.int .i64 k', .int .i64 nr', .int .i64 ns', .bool pf'] 65))
  have HD := Lib.hid (C4.new (w.alloc (.cells #[.int .i64 k, .int .i64 nr, .int .i64 ns, .bool pf] 65)) (w.heap.size + 1) (by simp) (.int .i64 k') (.int .i64 nr') (.int .i64 ns') (.bool pf') 65)
  unfold cputE at hP hQ
  have hi := fun (h : rightC k nr ns wide = true) (h' : rightC k' nr' ns' wide = true) => show decide (putB k.toNat nr.toNat ns.toNat pf wide = putB k'.toNat nr'.toNat ns'.toNat pf' wide) = decide (k = k' ∧ nr = nr' ∧ ns = ns' ∧ pf = pf') from by
    obtain ⟨K, R, S, rfl, rfl, rfl, -⟩ := rightC_facts h
    obtain ⟨K', R', S', rfl, rfl, rfl, -⟩ := rightC_facts h'
    simp only [Int.toNat_natCast]
    refine decide_eq_decide.2 ⟨fun e => ?_, fun e => ?_⟩
    · obtain ⟨e1, e2, e3, e4⟩ := put_inj K R S K' R' S' pf pf' wide h h' e
      exact ⟨by omega, by omega, by omega, e4⟩
    · obtain ⟨e1, e2, e3, rfl⟩ := e
      rw [show K = K' by omega, show R = R' by omega, show S = S' by omega]
  have hQV : ∃ (b : ByteArray) (x : Int), (if rightC k' nr' ns' wide = true then Value.tuple #[.string ⟨(putB k'.toNat nr'.toNat ns'.toNat pf' wide).toArray⟩, .int .i64 0] else .tuple #[.string ⟨#[]⟩, .int .i64 1]) = .tuple #[.string b, .int .i64 x] := by
    split
    · exact ⟨_, _, rfl⟩
    · exact ⟨_, _, rfl⟩
  cases hr : rightC k nr ns wide
  · rw [hr] at hP
    have HP := Lib.hid (show ∀ W, Below w.heap.size w W → Calls Tryd.prog 38 #[.agg #[.int .i64 k, .int .i64 nr, .int .i64 ns, .bool pf], .bool wide] W fun e w' => e = .returned (.tuple #[.string ⟨#[]⟩, .int .i64 1]) ∧ Below W.heap.size W w' from hP)
    obtain ⟨b, x, hV⟩ := hQV
    rw [hV] at hQ
    have HQ := Lib.hid hQ
    clear hP hQ hi hV hr
    go_enter Tryd.func11, Tryd.ntmps11
    go_wp2_with (first
      | (go_at_call 36; (with_reducible refine (HAW.out _ HB.out).mono ?_); rintro e w1 ⟨rfl, hb⟩; have HB1 := Lib.hid (HB.out.trans (hb.mono HB.out.size)); have HA1 := Lib.hid (HA.out.below hb); have HD1 := Lib.hid (HD.out.below hb); clear hb; obtain ⟨a0, a1, a2, a3, -, -, -, -, al⟩ := HA1.out; obtain ⟨d0, d1, d2, d3, -, -, -, -, dl⟩ := HD1.out)
      | (go_at_call 38; (with_reducible refine (HP.out _ HB1.out).mono ?_); rintro e w2 ⟨rfl, hb⟩; have HB2 := Lib.hid (HB1.out.trans (hb.mono HB1.out.size)); have HA2 := Lib.hid (HA1.out.below hb); have HD2 := Lib.hid (HD1.out.below hb); clear hb a0 a1 a2 a3 al d0 d1 d2 d3 dl; obtain ⟨a0, a1, a2, a3, -, -, -, -, al⟩ := HA2.out; obtain ⟨d0, d1, d2, d3, -, -, -, -, dl⟩ := HD2.out)
      | (go_at_call 38; (with_reducible refine (HQ.out _ HB2.out).mono ?_); rintro e w3 ⟨rfl, hb⟩; have HB3 := Lib.hid (HB2.out.trans (hb.mono HB2.out.size)); have HA3 := Lib.hid (HA2.out.below hb); have HD3 := Lib.hid (HD2.out.below hb); clear hb a0 a1 a2 a3 al d0 d1 d2 d3 dl; obtain ⟨a0, a1, a2, a3, -, -, -, -, al⟩ := HA3.out; obtain ⟨d0, d1, d2, d3, -, -, -, -, dl⟩ := HD3.out))
    go_ret
    exact ⟨rfl, HB3.out⟩
  · rw [hr] at hP
    have HP := Lib.hid (show ∀ W, Below w.heap.size w W → Calls Tryd.prog 38 #[.agg #[.int .i64 k, .int .i64 nr, .int .i64 ns, .bool pf], .bool wide] W fun e w' => e = .returned (.tuple #[.string ⟨(putB k.toNat nr.toNat ns.toNat pf wide).toArray⟩, .int .i64 0]) ∧ Below W.heap.size W w' from hP)
    cases hr' : rightC k' nr' ns' wide
    · rw [hr'] at hQ
      have HQ := Lib.hid (show ∀ W, Below w.heap.size w W → Calls Tryd.prog 38 #[.agg #[.int .i64 k', .int .i64 nr', .int .i64 ns', .bool pf'], .bool wide] W fun e w' => e = .returned (.tuple #[.string ⟨#[]⟩, .int .i64 1]) ∧ Below W.heap.size W w' from hQ)
      clear hQ hP hi hQV hr hr'
      generalize (⟨(putB k.toNat nr.toNat ns.toNat pf wide).toArray⟩ : ByteArray) = S at *
      go_enter Tryd.func11, Tryd.ntmps11
      go_wp2_with (first
      | (go_at_call 36; (with_reducible refine (HAW.out _ HB.out).mono ?_); rintro e w1 ⟨rfl, hb⟩; have HB1 := Lib.hid (HB.out.trans (hb.mono HB.out.size)); have HA1 := Lib.hid (HA.out.below hb); have HD1 := Lib.hid (HD.out.below hb); clear hb; obtain ⟨a0, a1, a2, a3, -, -, -, -, al⟩ := HA1.out; obtain ⟨d0, d1, d2, d3, -, -, -, -, dl⟩ := HD1.out)
      | (go_at_call 38; (with_reducible refine (HP.out _ HB1.out).mono ?_); rintro e w2 ⟨rfl, hb⟩; have HB2 := Lib.hid (HB1.out.trans (hb.mono HB1.out.size)); have HA2 := Lib.hid (HA1.out.below hb); have HD2 := Lib.hid (HD1.out.below hb); clear hb a0 a1 a2 a3 al d0 d1 d2 d3 dl; obtain ⟨a0, a1, a2, a3, -, -, -, -, al⟩ := HA2.out; obtain ⟨d0, d1, d2, d3, -, -, -, -, dl⟩ := HD2.out)
      | (go_at_call 38; (with_reducible refine (HQ.out _ HB2.out).mono ?_); rintro e w3 ⟨rfl, hb⟩; have HB3 := Lib.hid (HB2.out.trans (hb.mono HB2.out.size)); have HA3 := Lib.hid (HA2.out.below hb); have HD3 := Lib.hid (HD2.out.below hb); clear hb a0 a1 a2 a3 al d0 d1 d2 d3 dl; obtain ⟨a0, a1, a2, a3, -, -, -, -, al⟩ := HA3.out; obtain ⟨d0, d1, d2, d3, -, -, -, -, dl⟩ := HD3.out))
      go_ret
      exact ⟨rfl, HB3.out⟩
    · rw [hr'] at hQ
      have HQ := Lib.hid (show ∀ W, Below w.heap.size w W → Calls Tryd.prog 38 #[.agg #[.int .i64 k', .int .i64 nr', .int .i64 ns', .bool pf'], .bool wide] W fun e w' => e = .returned (.tuple #[.string ⟨(putB k'.toNat nr'.toNat ns'.toNat pf' wide).toArray⟩, .int .i64 0]) ∧ Below W.heap.size W w' from hQ)
      have hse := seq_bytes _ _ _ (hi hr hr').symm
      have heq := fun W => run_eq_ctl k nr ns k' nr' ns' pf pf' W _ rfl
      clear hQ hP hi hQV hr hr'
      generalize (⟨(putB k.toNat nr.toNat ns.toNat pf wide).toArray⟩ : ByteArray) = S at *
      generalize (⟨(putB k'.toNat nr'.toNat ns'.toNat pf' wide).toArray⟩ : ByteArray) = S' at *
      generalize decide (k = k' ∧ nr = nr' ∧ ns = ns' ∧ pf = pf') = E at *
      have hEE : (E == E) = true := beq_self_eq_true _
      go_enter Tryd.func11, Tryd.ntmps11
      go_wp2_with (first
      | (go_at_call 36; (with_reducible refine (HAW.out _ HB.out).mono ?_); rintro e w1 ⟨rfl, hb⟩; have HB1 := Lib.hid (HB.out.trans (hb.mono HB.out.size)); have HA1 := Lib.hid (HA.out.below hb); have HD1 := Lib.hid (HD.out.below hb); clear hb; obtain ⟨a0, a1, a2, a3, -, -, -, -, al⟩ := HA1.out; obtain ⟨d0, d1, d2, d3, -, -, -, -, dl⟩ := HD1.out)
      | (go_at_call 38; (with_reducible refine (HP.out _ HB1.out).mono ?_); rintro e w2 ⟨rfl, hb⟩; have HB2 := Lib.hid (HB1.out.trans (hb.mono HB1.out.size)); have HA2 := Lib.hid (HA1.out.below hb); have HD2 := Lib.hid (HD1.out.below hb); clear hb a0 a1 a2 a3 al d0 d1 d2 d3 dl; obtain ⟨a0, a1, a2, a3, -, -, -, -, al⟩ := HA2.out; obtain ⟨d0, d1, d2, d3, -, -, -, -, dl⟩ := HD2.out)
      | (go_at_call 38; (with_reducible refine (HQ.out _ HB2.out).mono ?_); rintro e w3 ⟨rfl, hb⟩; have HB3 := Lib.hid (HB2.out.trans (hb.mono HB2.out.size)); have HA3 := Lib.hid (HA2.out.below hb); have HD3 := Lib.hid (HD2.out.below hb); clear hb a0 a1 a2 a3 al d0 d1 d2 d3 dl; obtain ⟨a0, a1, a2, a3, -, -, -, -, al⟩ := HA3.out; obtain ⟨d0, d1, d2, d3, -, -, -, -, dl⟩ := HD3.out))
      go_ret
      exact ⟨rfl, HB3.out⟩
end Go.Proofs.YtfmcngchcalcmaaDoor
