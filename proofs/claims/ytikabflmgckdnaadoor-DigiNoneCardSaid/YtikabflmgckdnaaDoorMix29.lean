/-
The document's digipeater: Decodes, On, For.
The document's digipeater: On.
-/
import Derived.Test.YtikabflmgckdnaaDoorMix26
import Derived.Test.YtikabflmgckdnaaDoorPathRPut
import Derived.Test.YtikabflmgckdnaaDoorPathCVia
import Derived.Deep.DeepCutAuto
import Derived.Lib.QuietBelow
import Derived.Deep.QuietTactic
namespace Go.Proofs.YtikabflmgckdnaaDoor
open Go.RowKit Go.Sort
set_option maxRecDepth 20000
theorem run_eq_call18 (a b : ByteArray) (n m : Int) (w : World) (E : Bool) (h : E = decide ((a, n) = (b, m))) : (Op.equalIn 10000 23 (.agg #[.string a, .int .i64 n]) (.agg #[.string b, .int .i64 m])).run Tryd.prog w = .ok E w := by
  have hs : (a.toList == b.toList) = decide (a = b) := by
    rw [ByteArray.toList_eq, ByteArray.toList_eq, Bool.eq_iff_iff, beq_iff_eq, decide_eq_true_eq]
    exact ⟨fun e => bytes_ext' e, fun e => by rw [e]⟩
  have hn : (n == m) = decide (n = m) := rfl
  by_cases h1 : a = b
  · by_cases h2 : n = m
    · rw [decide_eq_true (by rw [h1, h2])] at h
      rw [decide_eq_true h1] at hs
      rw [decide_eq_true h2] at hn
      subst h
      go_simp
    · rw [decide_eq_false (fun x => h2 (Prod.mk.inj x).2)] at h
      rw [decide_eq_true h1] at hs
      rw [decide_eq_false h2] at hn
      subst h
      go_simp
  · rw [decide_eq_false (fun x => h1 (Prod.mk.inj x).1)] at h
    rw [decide_eq_false h1] at hs
    subst h
    go_simp
set_option maxHeartbeats 1000000 in
theorem rdecs18 (s : ByteArray) (w : World) (hs : s.size ≤ 100000) : Calls Tryd.prog 17 #[.string s] w fun e w' => e = .returned (.bool (decB s.data.toList)) ∧ Below w.heap.size w w' := by
  have hd0 := fun W => rdecx_any s false W hs
  have hd1 := fun W => rdecx_any s true W hs
  unfold RDecX at hd0 hd1
  unfold decB
  generalize decE s.data.toList false = E0 at *
  generalize decE s.data.toList true = E1 at *
  have HD0 := Lib.hid hd0
  have HD1 := Lib.hid hd1
  obtain ⟨r, hr⟩ : ∃ r, r = (decide (E0 = 0) || decide (E1 = 0)) := ⟨_, rfl⟩
  rw [← hr]
  clear hd0 hd1
  have d0 : ((E0 : Int) == 0) = decide (E0 = 0) := by
    rw [Bool.eq_iff_iff, beq_iff_eq, decide_eq_true_eq]
    omega
  have d1 : ((E1 : Int) == 0) = decide (E1 = 0) := by
    rw [Bool.eq_iff_iff, beq_iff_eq, decide_eq_true_eq]
    omega
  cases h0 : decide (E0 = 0) with
  | true =>
    rw [h0] at d0 hr
    rw [Bool.true_or] at hr
    clear h0
    go_enter Tryd.func17, Tryd.ntmps17
    go_wp2_with (first
      | (go_at_call 33; (with_reducible refine (HD0.out _).mono ?_); rintro e w1 ⟨⟨a, n, c, k, nr, ns, pf, pid, info, er, rfl, rfl⟩, hb⟩; have HB1 := Lib.hid (hb.alloc hb.size (.cells #[.slice a n c, .int .i64 (k : Int), .int .i64 (nr : Int), .int .i64 (ns : Int), .bool pf, .int .i64 pid, .string info] 83)); clear hb)
      | (go_at_call 33; (with_reducible refine (HD1.out _).mono ?_); rintro e w2 ⟨⟨a2, n2, c2, k2, nr2, ns2, pf2, pid2, info2, er2, rfl, rfl⟩, hb⟩; have hb2 := HB1.out.trans (hb.mono HB1.out.size); have HB2 := Lib.hid (hb2.alloc hb2.size (.cells #[.slice a2 n2 c2, .int .i64 (k2 : Int), .int .i64 (nr2 : Int), .int .i64 (ns2 : Int), .bool pf2, .int .i64 pid2, .string info2] 83)); clear hb hb2))
    exact bodyPost_ret (v := .bool r) (by simp [results, Tryd.results17, go_sem, hr]) rfl ⟨rfl, HB2.out⟩
  | false =>
    rw [h0] at d0 hr
    rw [Bool.false_or, ← d1] at hr
    clear h0 d1
    go_enter Tryd.func17, Tryd.ntmps17
    go_wp2_with (first
      | (go_at_call 33; (with_reducible refine (HD0.out _).mono ?_); rintro e w1 ⟨⟨a, n, c, k, nr, ns, pf, pid, info, er, rfl, rfl⟩, hb⟩; have HB1 := Lib.hid (hb.alloc hb.size (.cells #[.slice a n c, .int .i64 (k : Int), .int .i64 (nr : Int), .int .i64 (ns : Int), .bool pf, .int .i64 pid, .string info] 83)); clear hb)
      | (go_at_call 33; (with_reducible refine (HD1.out _).mono ?_); rintro e w2 ⟨⟨a2, n2, c2, k2, nr2, ns2, pf2, pid2, info2, er2, rfl, rfl⟩, hb⟩; have hb2 := HB1.out.trans (hb.mono HB1.out.size); have HB2 := Lib.hid (hb2.alloc hb2.size (.cells #[.slice a2 n2 c2, .int .i64 (k2 : Int), .int .i64 (nr2 : Int), .int .i64 (ns2 : Int), .bool pf2, .int .i64 pid2, .string info2] 83)); clear hb hb2))
    exact bodyPost_ret (v := .bool r) (by simp [results, Tryd.results17, go_sem, hr]) rfl ⟨rfl, HB2.out⟩
end Go.Proofs.YtikabflmgckdnaaDoor
namespace Go.Proofs.YtikabflmgckdnaaDoor
open Go.RowKit Go.Sort
set_option maxRecDepth 20000
theorem belowN18 {B : Nat} {a w : World} (h : Below B a w) (n : Nat) : Below B a (w.drewN n) := ⟨h.os, h.tape, h.output, h.size, h.block⟩
theorem sentL_cons (x y : Ent) (D : List Ent) : sentL (x :: y :: D) = x :: y :: sentD D := by
  unfold sentL sentD markD
  have e : (x :: y :: D).drop 2 = D := rfl
  rw [e, Nat.add_comm 2 (fstD D)]
  show (match D[fstD D]? with | some e => (x :: y :: D).set (fstD D + 2) (e.1, e.2.1, true) | none => x :: y :: D) = _
  cases D[fstD D]? <;> rfl
theorem sentL_right (L : List Ent) (h : rightP L = true) : rightP (sentL L) = true := by
  obtain ⟨h1, h2, h3, h4⟩ := right_path L h
  match L, h2 with
  | x :: y :: D, _ =>
    rw [sentL_cons]
    by_cases hf : fstD D < D.length
    · exact sent_right x y D hf h
    · have : sentD D = D := by
        unfold sentD markD
        rw [List.getElem?_eq_none (by omega)]
      rw [this]
      exact h
theorem sentL_len (L : List Ent) : (sentL L).length = L.length := mark_len L _
theorem mine_next (C : List Cl) (c : Cl) (k : Nat) (hk : k < C.length) : mineB (C.take (k + 1)) c = (mineB (C.take k) c || decide (C[k] = c)) := by
  unfold mineB
  rw [List.take_succ_eq_append_getElem hk, List.any_append]
  simp
/-- Get of what can be decoded -/
theorem rget18 (s : ByteArray) (h : decB s.data.toList = true) (W : World) : Calls Tryd.prog 18 #[.string s] W fun e w' => (∃ ga gc, e = .returned (.tuple #[.agg #[.slice ga (pathL s.data.toList).length gc], .int .i64 ((7 * (pathL s.data.toList).length : Nat) : Int), .int .i64 0]) ∧ EntsAt w' ga gc (pathL s.data.toList)) ∧ Below W.heap.size W w' := by
  have hg := decB_get h
  refine (rpget_any s W).mono ?_
  rintro e w' ⟨⟨v, h1, ⟨ga, gc, hv, hE⟩, _⟩, h4⟩
  refine ⟨⟨ga, gc, ?_, hE⟩, h4⟩
  rw [if_pos hg, hg, hv] at h1
  exact h1
theorem nxt_no (L : List Ent) (h : L[2 + fstD (L.drop 2)]? = none) (h2 : 2 ≤ L.length) : nxtD L = -1 := by
  unfold nxtD
  rw [if_neg]
  rw [List.getElem?_eq_none_iff] at h
  rw [List.length_drop]
  omega
theorem nxt_yes (L : List Ent) (e : Ent) (h : L[2 + fstD (L.drop 2)]? = some e) : nxtD L = ((2 + fstD (L.drop 2) : Nat) : Int) := by
  unfold nxtD
  rw [if_pos]
  have := (List.getElem?_eq_some_iff.1 h).1
  rw [List.length_drop]
  omega
/-- what On answers -/
abbrev onV (r : List UInt8 × Nat) : Value := .tuple #[.string ⟨r.1.toArray⟩, .int .i64 (r.2 : Nat)]
set_option maxHeartbeats 2000000 in
theorem ron18 (a : Option Addr) (n c : Nat) (C : List Cl) (s : ByteArray) (w : World) (hs : s.size ≤ 100000) (hn : C.length = n) (hC : CallsAt w a C) (hl : n ≤ 1000) :
    Calls Tryd.prog 11 #[.slice a n c, .string s] w fun e w' => e = .returned (onV (onD C s.data.toList)) ∧ Below w.heap.size w w' := by
  have HDE := Lib.hid (fun W => rdecs18 s W hs)
  cases hd : decB s.data.toList with
  | false =>
    have e : onD C s.data.toList = ([], 2) := by unfold onD; rw [if_pos hd]
    rw [e]
    rw [hd] at HDE
    clear hd e hC hn
    go_enter Tryd.func11, Tryd.ntmps11
    go_wp2_with (go_at_call 17; (with_reducible refine (HDE.out _).mono ?_); rintro e w1 ⟨rfl, hb⟩)
    exact bodyPost_ret (v := onV ([], 2)) (by simp [results, Tryd.results11, go_sem]) rfl ⟨rfl, hb⟩
  | true =>
    have HG := Lib.hid (fun W => rget18 s hd W)
    obtain ⟨hr, hby⟩ := read_path s.data.toList (decB_get hd)
    obtain ⟨hr1, hr2, hr3, -⟩ := right_path _ hr
    have hre := (right_path _ (sentL_right _ hr)).1
    have hsl := sentL_len (pathL s.data.toList)
    have hNs : 7 * (pathL s.data.toList).length ≤ s.size := by
      have h1 : s.data.toList.length = s.size := by simp
      have h2 : s.data.toList.length = (bytesP (pathL s.data.toList) (pathL s.data.toList).length ++ s.data.toList.drop (7 * (pathL s.data.toList).length)).length := congrArg List.length hby
      rw [List.length_append, bytesP_len' _ _ (Nat.le_refl _)] at h2
      omega
    rw [hd] at HDE
    cases hx : (pathL s.data.toList)[2 + fstD ((pathL s.data.toList).drop 2)]? with
    | none =>
      have e : onD C s.data.toList = ([], 1) := by unfold onD; rw [hd, if_neg (by decide), hx]
      have hnx := nxt_no _ hx hr2
      rw [e]
      have HNX := Lib.hid (fun ga gc W hE => rnext_any ga gc (pathL s.data.toList) W (by omega) hr2 hE)
      rw [hnx] at HNX
      clear hd e hC hn hx hnx hr hby hr1 hre hsl hNs
      generalize pathL s.data.toList = L at *
      go_enter Tryd.func11, Tryd.ntmps11
      go_wp2_with (first
        | (go_at_call 17; (with_reducible refine (HDE.out _).mono ?_); rintro e w1 ⟨rfl, hb⟩; have HB1 := Lib.hid hb; clear hb)
        | (go_at_call 18; (with_reducible refine (HG.out _).mono ?_); rintro e w2 ⟨⟨ga, gc, rfl, hE⟩, hb⟩; have hb2 := HB1.out.trans (hb.mono HB1.out.size); have HB2 := Lib.hid (hb2.alloc hb2.size (.cells #[.slice ga L.length gc] 46)); have HE := Lib.hid (hE.alloc (.cells #[.slice ga L.length gc] 46)); clear hb hb2 hE)
        | (go_at_call 19; (with_reducible refine (HNX.out ga gc _ HE.out).mono ?_); rintro e w3 ⟨rfl, hb⟩; have HB3 := Lib.hid (HB2.out.trans (hb.mono HB2.out.size)); clear hb))
      exact bodyPost_ret (v := onV ([], 1)) (by simp [results, Tryd.results11, go_sem]) rfl ⟨rfl, HB3.out⟩
    | some x =>
      have hnx := nxt_yes _ x hx
      have HNX := Lib.hid (fun ga gc W hE => rnext_any ga gc (pathL s.data.toList) W (by omega) hr2 hE)
      have HSE := Lib.hid (fun ga gc W hE => rsent_any ga gc (pathL s.data.toList) W (by omega) hr2 hE)
      have HPU := Lib.hid (fun ga gc W hE => rpput_any ga gc (sentL (pathL s.data.toList)) W (by omega) hE hre)
      rw [hnx] at HNX HSE
      obtain ⟨r, hrr⟩ : ∃ r, onD C s.data.toList = r := ⟨_, rfl⟩
      have HON := Lib.hid (show r = if mineB C (x.1, x.2.1) = true then (bytesP (sentL (pathL s.data.toList)) (pathL s.data.toList).length ++ s.data.toList.drop (7 * (pathL s.data.toList).length), 0) else ([], 1) from by
        rw [← hrr]
        unfold onD
        rw [hd, if_neg (by decide), hx])
      rw [hrr]
      obtain ⟨J, hJ, hcut⟩ := slice_rest s (7 * (pathL s.data.toList).length) hNs
      obtain ⟨N, hN⟩ : ∃ N, N = 7 * (pathL s.data.toList).length := ⟨_, rfl⟩
      rw [← hN] at HG HON hJ hcut
      obtain ⟨S1, hS1⟩ : ∃ S1 : ByteArray, S1 = ⟨(bytesP (sentL (pathL s.data.toList)) (sentL (pathL s.data.toList)).length).toArray⟩ := ⟨_, rfl⟩
      rw [← hS1] at HPU
      have hb1 : (bytesP (sentL (pathL s.data.toList)) (sentL (pathL s.data.toList)).length).length = 7 * (sentL (pathL s.data.toList)).length := bytesP_len' _ _ (Nat.le_refl _)
      have hz1 : S1.size = 7 * (sentL (pathL s.data.toList)).length := by
        rw [← hb1, hS1]
        show (bytesP (sentL (pathL s.data.toList)) (sentL (pathL s.data.toList)).length).toArray.size = _
        rw [List.size_toArray]
      have hz2 : J.size ≤ s.size := by
        have h1 : J.data.toList.length = J.size := by simp
        have h2 : s.data.toList.length = s.size := by simp
        rw [← h1, hJ, List.length_drop]
        omega
      have c1 := fun (w : World) => run_string_add_sum (P := Tryd.prog) (w := w) S1 J (by omega)
      obtain ⟨S3, hS3⟩ : ∃ S3 : ByteArray, S3 = S1 ++ J := ⟨_, rfl⟩
      rw [← hS3] at c1
      have HS3 := Lib.hid (show S3 = ⟨(bytesP (sentL (pathL s.data.toList)) (pathL s.data.toList).length ++ s.data.toList.drop N).toArray⟩ from by
        rw [hS3]
        apply bytes_ext'
        rw [ByteArray.data_append, Array.toList_append, hJ, hS1, hsl])
      clear hb1 hz1 hz2 hS1 hS3 hN
      have HX := Lib.hid hx
      have hxl := (List.getElem?_eq_some_iff.1 hx).1
      have HJ := Lib.hid hJ
      have HCA := Lib.hid hC
      have HNC := Lib.hid hn
      clear hd hC hn hx hnx hr hby hr1 hre hrr hJ
      generalize 2 + fstD ((pathL s.data.toList).drop 2) = X at *
      generalize hSL : sentL (pathL s.data.toList) = SL at *
      generalize pathL s.data.toList = L at *
      obtain ⟨xb, xn, xm⟩ := x
      simp only at HON
      have HSL := Lib.hid hsl
      clear hsl
      go_enter Tryd.func11, Tryd.ntmps11
      go_wp2_with (first
        | (go_at_call 17; (with_reducible refine (HDE.out _).mono ?_); rintro e w1 ⟨rfl, hb⟩; have HB1 := Lib.hid hb; clear hb)
        | (go_at_call 18; (with_reducible refine (HG.out _).mono ?_); rintro e w2 ⟨⟨ga, gc, rfl, hE⟩, hb⟩; have hb2 := HB1.out.trans (hb.mono HB1.out.size); have HB2 := Lib.hid (hb2.alloc hb2.size (.cells #[.slice ga L.length gc] 46)); have HE := Lib.hid (hE.alloc (.cells #[.slice ga L.length gc] 46)); have HK := Lib.hid (show KeepAt (w2.alloc (.cells #[.slice ga L.length gc] 46)) w2.heap.size 0 (.slice ga L.length gc) from ⟨World.cell?_alloc_at _ _ _ _ rfl, World.frozen?_alloc_at _ _ _ _ rfl, by simp⟩); clear hb hb2 hE)
        | (go_at_call 19; (with_reducible refine (HNX.out ga gc _ HE.out).mono ?_); rintro e w3 ⟨rfl, hb⟩; have HB3 := Lib.hid (HB2.out.trans (hb.mono HB2.out.size)); have HE3 := Lib.hid (HE.out.below hb); have HK3 := Lib.hid (HK.out.below hb); clear hb))
      go_loopw [10, 11] (fun mv kv wx => ∃ k : Nat, k ≤ n ∧ kv = .int .i64 k ∧ mv = .bool (mineB (C.take k) (xb, xn)) ∧ Hid (Below w3.heap.size w3 wx)) (fun _ kv _ => n - (intOf kv).toNat)
      case atStart => exact ⟨0, Nat.zero_le _, rfl, rfl, Lib.hid (Below.refl _ _)⟩
      case round =>
        obtain ⟨k, hk, rfl, rfl, HW⟩ := hrel
        by_cases hlk : k < n
        · have dk : decide (k < n) = true := decide_eq_true hlk
          have HZK := Lib.hid (show wrap64 ((k : Int) + 1) = (k : Int) + 1 from IntWalk.wrap64_in _ (by omega))
          have hLk : k < C.length := by rw [HNC.out]; exact hlk
          have HMN := Lib.hid (mine_next C (xb, xn) k hLk)
          obtain ⟨gc0, oc0, rfl, hgc, c0, c1⟩ := (CallsAt.below HCA.out (HB3.out.trans (HW.out.mono HB3.out.size))) k hLk
          have k0 := (HK3.out.below HW.out).cell
          obtain ⟨ge, oe, rfl, hge, d0, d1, d2⟩ := (HE3.out.below HW.out).at_ X hxl
          have hxe : L[X] = (xb, xn, xm) := (List.getElem?_eq_some_iff.1 HX.out).2
          rw [hxe] at d0 d1
          generalize C[k] = cc at *
          obtain ⟨cb, cn⟩ := cc
          simp only at c0 c1 d0 d1
          have heq := fun W => run_eq_call18 cb xb cn xn W _ rfl
          have HBW := Lib.hid HW.out
          clear hxe d2 HW
          cases hm : mineB (C.take k) (xb, xn) with
          | true =>
            rw [hm, Bool.true_or] at HMN
            clear hm heq
            go_upto_region 11 with (fail)
            go_quiet (fail)
            go_wp2_with fail
            go_roundw
            case rel => exact ⟨k + 1, by omega, (by (try rw [HZK.out]); rfl), by rw [HMN.out], Lib.hid (belowN18 HBW.out _)⟩
            case measure =>
              try rw [HZK.out]
              simp [intOf]
              omega
          | false =>
            rw [hm, Bool.false_or] at HMN
            clear hm
            generalize decide ((cb, cn) = (xb, xn)) = q at *
            go_upto_region 11 with (fail)
            go_quiet (fail)
            go_wp2_with fail
            go_roundw
            case rel => exact ⟨k + 1, by omega, (by (try rw [HZK.out]); rfl), by rw [HMN.out], Lib.hid (belowN18 HBW.out _)⟩
            case measure =>
              try rw [HZK.out]
              simp [intOf]
              omega
        · have dk : decide (k < n) = false := decide_eq_false hlk
          have e : C.take k = C := List.take_of_length_le (by have := HNC.out; omega)
          rw [e]
          have k0 := (HK3.out.below HW.out).cell
          have HE4 := Lib.hid (HE3.out.below HW.out)
          have HB4 := Lib.hid (HB3.out.trans (HW.out.mono HB3.out.size))
          clear e HW
          cases hm : mineB C (xb, xn) with
          | false =>
            have hon := HON.out
            rw [hm, if_neg Bool.false_ne_true] at hon
            subst hon
            clear hm HON
            go_wp2_with fail
            exact bodyPost_ret (v := onV ([], 1)) (by simp [results, Tryd.results11, go_sem]) rfl ⟨rfl, HB4.out⟩
          | true =>
            have hon := HON.out
            rw [hm, if_pos rfl] at hon
            have HON2 := Lib.hid hon
            clear hm HON hon
            go_upto_region 15 with (go_at_call 29; (with_reducible refine (HSE.out ga gc _ HE4.out).mono ?_); rintro e w5 ⟨⟨v5, rfl, ⟨sa, sc, hv5, hE5⟩⟩, hb⟩; subst hv5; have hb5 := HB4.out.trans (hb.mono HB4.out.size); have HB5 := Lib.hid (hb5.alloc hb5.size (.cells #[.slice sa SL.length sc] 46)); have HE5 := Lib.hid (hE5.alloc (.cells #[.slice sa SL.length sc] 46)); clear hb hb5 hE5)
            have HPX := Lib.hid (fun d os => HPU.out sa sc (grow (redrawn (w5.alloc (.cells #[.slice sa SL.length sc] 46)) d) os) (HE5.out.below (below_regrown _ d os)))
            have z0 := fun d os => cell_regrown (show (w5.alloc (.cells #[.slice sa SL.length sc] 46)).cell? ⟨w5.heap.size, 0, none⟩ = some (.slice sa SL.length sc) from World.cell?_alloc_at _ _ _ _ rfl) d os
            refine wp_region_quiet_below (by kernel_rfl) (by kernel_rfl) ?_
            repeat (quiet_step (first
              | (go_at_call 30; with_reducible exact Calls.regrown_of (HPX.out _ _))))
            refine wpQuiet_nil ?_
            intro _ hw'
            obtain ⟨pg, hw''⟩ := hw'
            subst hw''
            have HBE := Lib.hid (HB5.out.trans ((below_regrown (w5.alloc (.cells #[.slice sa SL.length sc] 46)) pg.d pg.os).mono HB5.out.size))
            generalize grow (redrawn (w5.alloc (.cells #[.slice sa SL.length sc] 46)) pg.d) pg.os = w9 at *
            go_wp2_with fail
            rw [HON2.out]
            exact bodyPost_ret (v := .tuple #[.string S3, .int .i64 0]) (by simp [results, Tryd.results11, go_sem]) rfl ⟨by rw [HS3.out]; rfl, HBE.out⟩
end Go.Proofs.YtikabflmgckdnaaDoor
