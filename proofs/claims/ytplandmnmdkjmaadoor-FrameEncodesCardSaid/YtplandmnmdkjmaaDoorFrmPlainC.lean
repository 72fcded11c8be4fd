/-
The law's own reading of a frame as the document has it; two frames that are alike, by the document's own Same.
-/
import Derived.Test.YtplandmnmdkjmaaDoorFrmCells
import Derived.Test.YtplandmnmdkjmaaDoorPathPlain
import Derived.Test.YtplandmnmdkjmaaDoorCtlEq
import Derived.OrdersHeld
import Derived.Deep.RegionHeld
namespace Go.Proofs.YtplandmnmdkjmaaDoor
open Go.RowKit Go.Sort
set_option maxRecDepth 20000
set_option maxHeartbeats 2000000 in
theorem fplain_any (tb fb : ByteArray) (tn fn : Int) (tm fm : Bool) (a : Option Addr) (cap : Nat) (D : List Ent) (k nr ns : Int) (pf : Bool) (pid : Int) (info : ByteArray) (w : World) (hD : D.length ≤ 1000) (hE : EntsAt w a cap D) :
    Calls Tryd.prog 8 #[.agg #[.string tb, .int .i64 tn, .string fb, .int .i64 fn, .bool tm, .bool fm, .slice a D.length cap, .int .i64 k, .int .i64 nr, .int .i64 ns, .bool pf, .int .i64 pid, .string info]] w fun e w' => (∃ va vc, e = .returned (.agg #[.slice va (((tb, tn, tm) :: (fb, fn, fm) :: D)).length vc, .int .i64 k, .int .i64 nr, .int .i64 ns, .bool pf, .int .i64 pid, .string info]) ∧ EntsAt w' va vc ((tb, tn, tm) :: (fb, fn, fm) :: D)) ∧ Below w.heap.size w w' := by
  obtain ⟨W, hW⟩ : ∃ W, W = (w.alloc (.cells #[.string tb, .int .i64 tn, .string fb, .int .i64 fn, .bool tm, .bool fm, .slice a D.length cap, .int .i64 k, .int .i64 nr, .int .i64 ns, .bool pf, .int .i64 pid, .string info] 30)).alloc (.cells #[.slice none 0 0, .int .i64 0, .int .i64 0, .int .i64 0, .bool false, .int .i64 0, .string ⟨#[]⟩] 38) := ⟨_, rfl⟩
  have hb0 := (Below.refl _ w).alloc (Nat.le_refl _) (.cells #[.string tb, .int .i64 tn, .string fb, .int .i64 fn, .bool tm, .bool fm, .slice a D.length cap, .int .i64 k, .int .i64 nr, .int .i64 ns, .bool pf, .int .i64 pid, .string info] 30)
  have HB0 := Lib.hid (show Below w.heap.size w W from by rw [hW]; exact hb0.alloc hb0.size _)
  have HF0 := Lib.hid (show F13 W w.heap.size (.string tb) (.int .i64 tn) (.string fb) (.int .i64 fn) (.bool tm) (.bool fm) (.slice a D.length cap) (.int .i64 k) (.int .i64 nr) (.int .i64 ns) (.bool pf) (.int .i64 pid) (.string info) from by rw [hW]; exact (F13.new w w.heap.size rfl _ _ _ _ _ _ _ _ _ _ _ _ _ _).alloc _)
  have HR0 := Lib.hid (show P7 W (w.heap.size + 1) (.slice none 0 0) (.int .i64 0) (.int .i64 0) (.int .i64 0) (.bool false) (.int .i64 0) (.string ⟨#[]⟩) from by rw [hW]; exact P7.new _ _ (by simp) _ _ _ _ _ _ _ _)
  have HZ := Lib.hid (show W.heap.size = w.heap.size + 2 from by rw [hW]; simp)
  have HPL := Lib.hid (fun W (h : Below w.heap.size w W) => plainP_any tb fb tn fn tm fm a cap D W hD (hE.below h))
  obtain ⟨L, hL⟩ : ∃ L, L = ((tb, tn, tm) :: (fb, fn, fm) :: D) := ⟨_, rfl⟩
  rw [← hL] at HPL ⊢
  have HB1 := Lib.hid ((Below.refl (w.heap.size + 1) W).drew)
  have HB2 := Lib.hid ((Below.refl W.heap.size W).drew)
  clear hb0 hE hL
  go_enter Tryd.func8, Tryd.ntmps8
  go_wp2_with fail
  rw [← hW]
  clear hW
  refine wp_region_held (S := fun W' => Below (w.heap.size + 1) W W') (by kernel_rfl) ?_
  change wpAnyH _ _ _ _ _ _ _ _ W.drew
  have HB := Lib.hid ((Below.refl (w.heap.size + 1) W).drew)
  refine wpAnyH_take (i := 0) (v := ?_) rfl (by kernel_rfl) (by kernel_rfl) (by kernel_rfl) (fun _ _ _ h => h) (Or.inl ⟨by rfl, ?_⟩) HB.out ?_
  rotate_left
  · intro w' hw'
    go_simp
    with_reducible rfl
  go_simp
  refine wpAnyH_take (i := 3) (v := ?_) rfl (by kernel_rfl) (by kernel_rfl) (by kernel_rfl) (fun _ _ _ h => h) (Or.inl ⟨by rfl, ?_⟩) HB.out ?_
  rotate_left
  · intro w' hw'
    go_simp
    with_reducible rfl
  go_simp
  refine wpAnyH_take (i := 5) (v := ?_) rfl (by kernel_rfl) (by kernel_rfl) (by kernel_rfl) (fun _ _ _ h => h) (Or.inl ⟨by rfl, ?_⟩) HB.out ?_
  rotate_left
  · intro w' hw'
    go_simp
    with_reducible rfl
  go_simp
  refine wpAnyH_take (i := 7) (v := ?_) rfl (by kernel_rfl) (by kernel_rfl) (by kernel_rfl) (fun _ _ _ h => h) (Or.inl ⟨by rfl, ?_⟩) HB.out ?_
  rotate_left
  · intro w' hw'
    go_simp
    with_reducible rfl
  go_simp
  refine wpAnyH_take (i := 1) (v := ?_) rfl (by kernel_rfl) (by kernel_rfl) (by kernel_rfl) (fun _ _ _ h => h) (Or.inl ⟨by rfl, ?_⟩) HB.out ?_
  rotate_left
  · intro w' hw'
    obtain ⟨⟨p0, -, pl⟩, ⟨p1, -, -⟩, ⟨p2, -, -⟩, ⟨p3, -, -⟩, ⟨p4, -, -⟩, ⟨p5, -, -⟩, ⟨p6, -, -⟩, ⟨p7, -, -⟩, ⟨p8, -, -⟩, ⟨p9, -, -⟩, ⟨p10, -, -⟩, ⟨p11, -, -⟩, ⟨p12, -, -⟩⟩ := HF0.out.block (hw'.block _ (Nat.lt_succ_self _)) hw'.size
    go_simp
    with_reducible rfl
  go_simp
  refine wpAnyH_take (i := 4) (v := ?_) rfl (by kernel_rfl) (by kernel_rfl) (by kernel_rfl) (fun _ _ _ h => h) (Or.inl ⟨by rfl, ?_⟩) HB.out ?_
  rotate_left
  · intro w' hw'
    obtain ⟨⟨p0, -, pl⟩, ⟨p1, -, -⟩, ⟨p2, -, -⟩, ⟨p3, -, -⟩, ⟨p4, -, -⟩, ⟨p5, -, -⟩, ⟨p6, -, -⟩, ⟨p7, -, -⟩, ⟨p8, -, -⟩, ⟨p9, -, -⟩, ⟨p10, -, -⟩, ⟨p11, -, -⟩, ⟨p12, -, -⟩⟩ := HF0.out.block (hw'.block _ (Nat.lt_succ_self _)) hw'.size
    go_simp
    with_reducible rfl
  go_simp
  refine wpAnyH_take (i := 6) (v := ?_) rfl (by kernel_rfl) (by kernel_rfl) (by kernel_rfl) (fun _ _ _ h => h) (Or.inl ⟨by rfl, ?_⟩) HB.out ?_
  rotate_left
  · intro w' hw'
    obtain ⟨⟨p0, -, pl⟩, ⟨p1, -, -⟩, ⟨p2, -, -⟩, ⟨p3, -, -⟩, ⟨p4, -, -⟩, ⟨p5, -, -⟩, ⟨p6, -, -⟩, ⟨p7, -, -⟩, ⟨p8, -, -⟩, ⟨p9, -, -⟩, ⟨p10, -, -⟩, ⟨p11, -, -⟩, ⟨p12, -, -⟩⟩ := HF0.out.block (hw'.block _ (Nat.lt_succ_self _)) hw'.size
    go_simp
    with_reducible rfl
  go_simp
  refine wpAnyH_take (i := 8) (v := ?_) rfl (by kernel_rfl) (by kernel_rfl) (by kernel_rfl) (fun _ _ _ h => h) (Or.inl ⟨by rfl, ?_⟩) HB.out ?_
  rotate_left
  · intro w' hw'
    obtain ⟨⟨p0, -, pl⟩, ⟨p1, -, -⟩, ⟨p2, -, -⟩, ⟨p3, -, -⟩, ⟨p4, -, -⟩, ⟨p5, -, -⟩, ⟨p6, -, -⟩, ⟨p7, -, -⟩, ⟨p8, -, -⟩, ⟨p9, -, -⟩, ⟨p10, -, -⟩, ⟨p11, -, -⟩, ⟨p12, -, -⟩⟩ := HF0.out.block (hw'.block _ (Nat.lt_succ_self _)) hw'.size
    go_simp
    with_reducible rfl
  go_simp
  refine wpAnyH_ready (rs := [2]) (by kernel_rfl) (by simp) ?_
  refine AllReadyH.cons rfl (fun K hK => ?_) AllReadyH.nil
  go_simp
  go_at_call 21
  refine (HPL.out _ HB0.out.drew).mono ?_
  rintro e w1 ⟨v, rfl, hv, hb⟩
  obtain ⟨va, vc, rfl⟩ := hv.len
  have HB := Lib.hid (show Below (w.heap.size + 1) W w1 from HB1.out.trans (hb.mono (by show w.heap.size + 1 ≤ W.heap.size; rw [HZ.out]; omega)))
  have HBW := Lib.hid (show Below W.heap.size W w1 from HB2.out.trans (hb.mono (Nat.le_refl _)))
  have HO := Lib.hid (show OwnE 90 w1 W.heap.size (.slice va L.length vc) L from hv)
  clear hb hv
  change K _ _
  refine hK.out _ _ HB.out (fun _ => ?_)
  clear hK K
  refine wpAnyH_take (i := 9) (v := ?_) rfl (by kernel_rfl) (by kernel_rfl) (by kernel_rfl) (fun _ _ _ h => h) (Or.inl ⟨by rfl, ?_⟩) HB.out ?_
  rotate_left
  · intro w' hw'
    go_simp
    with_reducible rfl
  go_simp
  have HR1 := Lib.hid (HR0.out.below HBW.out)
  obtain ⟨⟨r0, x0, rl⟩, ⟨r1, x1, -⟩, ⟨r2, x2, -⟩, ⟨r3, x3, -⟩, ⟨r4, x4, -⟩, ⟨r5, x5, -⟩, ⟨r6, x6, -⟩⟩ := HR1.out
  have S7 := stored7 (.slice va L.length vc) (.int .i64 k) (.int .i64 nr) (.int .i64 ns) (.bool pf) (.int .i64 pid) (.string info) HR1.out
  have HBT := HB0.out.trans (HBW.out.mono HB0.out.size)
  have HBF := Lib.hid (set7_below (m := w.heap.size + 1) HBT (Nat.le_succ _) (.slice va L.length vc) (.int .i64 k) (.int .i64 nr) (.int .i64 ns) (.bool pf) (.int .i64 pid) (.string info))
  have HBH := Lib.hid (set7_below (m := w.heap.size + 1) HB.out (Nat.le_refl _) (.slice va L.length vc) (.int .i64 k) (.int .i64 nr) (.int .i64 ns) (.bool pf) (.int .i64 pid) (.string info))
  have HOF := Lib.hid (ents_of_own (own7 (m := w.heap.size + 1) HO.out (by rw [HZ.out]; omega) (.slice va L.length vc) (.int .i64 k) (.int .i64 nr) (.int .i64 ns) (.bool pf) (.int .i64 pid) (.string info)))
  refine wpAnyH_ready (rs := [10]) (by kernel_rfl) (by simp) ?_
  refine AllReadyH.cons rfl (fun K hK => ?_) AllReadyH.nil
  go_simp
  refine hK.out _ _ HBH.out (fun _ => ?_)
  clear hK K
  refine wpAnyH_done (by kernel_rfl) ?_ _
  go_wp2_with fail
  exact bodyPost_ret (v := .agg #[.slice va L.length vc, .int .i64 k, .int .i64 nr, .int .i64 ns, .bool pf, .int .i64 pid, .string info]) (by simp [results, Tryd.results8, go_sem, S7.k0.cell, S7.k1.cell, S7.k2.cell, S7.k3.cell, S7.k4.cell, S7.k5.cell, S7.k6.cell]) rfl ⟨⟨va, vc, rfl, HOF.out⟩, HBF.out⟩
theorem run_eq_ctl2 (k nr ns k' nr' ns' : Int) (pf pf' : Bool) (w : World) (E : Bool) (h : E = decide (k = k' ∧ nr = nr' ∧ ns = ns' ∧ pf = pf')) :
    (Op.equalIn 10000 36 (.agg #[.int .i64 k, .int .i64 nr, .int .i64 ns, .bool pf]) (.agg #[.int .i64 k', .int .i64 nr', .int .i64 ns', .bool pf'])).run Tryd.prog w = .ok E w := by
  have e1 : (k == k') = decide (k = k') := rfl
  have e2 : (nr == nr') = decide (nr = nr') := rfl
  have e3 : (ns == ns') = decide (ns = ns') := rfl
  have e4 : (pf == pf') = decide (pf = pf') := by cases pf <;> cases pf' <;> rfl
  by_cases h1 : k = k'
  · by_cases h2 : nr = nr'
    · by_cases h3 : ns = ns'
      · by_cases h4 : pf = pf'
        · rw [decide_eq_true ⟨h1, h2, h3, h4⟩] at h
          rw [decide_eq_true h1] at e1
          rw [decide_eq_true h2] at e2
          rw [decide_eq_true h3] at e3
          rw [decide_eq_true h4] at e4
          subst h
          go_simp
        · rw [decide_eq_false (fun x => h4 x.2.2.2)] at h
          rw [decide_eq_true h1] at e1
          rw [decide_eq_true h2] at e2
          rw [decide_eq_true h3] at e3
          rw [decide_eq_false h4] at e4
          subst h
          go_simp
      · rw [decide_eq_false (fun x => h3 x.2.2.1)] at h
        rw [decide_eq_true h1] at e1
        rw [decide_eq_true h2] at e2
        rw [decide_eq_false h3] at e3
        subst h
        go_simp
    · rw [decide_eq_false (fun x => h2 x.2.1)] at h
      rw [decide_eq_true h1] at e1
      rw [decide_eq_false h2] at e2
      subst h
      go_simp
  · rw [decide_eq_false (fun x => h1 x.1)] at h
    rw [decide_eq_false h1] at e1
    subst h
    go_simp
set_option maxHeartbeats 2000000 in
theorem fsame_yes (va wa : Option Addr) (vc wc : Nat) (L : List Ent) (k nr ns : Int) (pf : Bool) (pid : Int) (info : ByteArray) (w : World) (hL : L.length ≤ 1000) (hv : EntsAt w va vc L) (hu : EntsAt w wa wc L) :
    Calls Tryd.prog 14 #[.agg #[.slice va L.length vc, .int .i64 k, .int .i64 nr, .int .i64 ns, .bool pf, .int .i64 pid, .string info], .agg #[.slice wa L.length wc, .int .i64 k, .int .i64 nr, .int .i64 ns, .bool pf, .int .i64 pid, .string info]] w fun e w' => e = .returned (.bool true) ∧ Below w.heap.size w w' := by
  have hb0 := (Below.refl _ w).alloc (Nat.le_refl _) (.cells #[.slice va L.length vc, .int .i64 k, .int .i64 nr, .int .i64 ns, .bool pf, .int .i64 pid, .string info] 38)
  have HB0 := Lib.hid (hb0.alloc hb0.size (.cells #[.slice wa L.length wc, .int .i64 k, .int .i64 nr, .int .i64 ns, .bool pf, .int .i64 pid, .string info] 38))
  have HF := Lib.hid ((P7.new w w.heap.size rfl (.slice va L.length vc) (.int .i64 k) (.int .i64 nr) (.int .i64 ns) (.bool pf) (.int .i64 pid) (.string info) 38).alloc (.cells #[.slice wa L.length wc, .int .i64 k, .int .i64 nr, .int .i64 ns, .bool pf, .int .i64 pid, .string info] 38))
  have HG := Lib.hid (P7.new (w.alloc (.cells #[.slice va L.length vc, .int .i64 k, .int .i64 nr, .int .i64 ns, .bool pf, .int .i64 pid, .string info] 38)) (w.heap.size + 1) (by simp) (.slice wa L.length wc) (.int .i64 k) (.int .i64 nr) (.int .i64 ns) (.bool pf) (.int .i64 pid) (.string info) 38)
  have HSA := Lib.hid (fun W (h : Below w.heap.size w W) => sameP_yes (.slice va L.length vc) (.slice wa L.length wc) L W hL ⟨va, vc, rfl, hv.below h⟩ ⟨wa, wc, rfl, hu.below h⟩)
  have hq := fun W => run_eq_ctl2 k nr ns k nr ns pf pf W true (by simp)
  have hqi : (pid == pid) = true := by simp
  have hqs : (info.toList == info.toList) = true := by simp
  clear hv hu hb0
  go_enter Tryd.func14, Tryd.ntmps14
  go_wp2_with (go_at_call 38; (with_reducible refine (HSA.out _ HB0.out).mono ?_); rintro e w1 ⟨rfl, hb⟩; have HB := Lib.hid (HB0.out.trans (hb.mono HB0.out.size)); replace HF := Lib.hid (HF.out.below hb); replace HG := Lib.hid (HG.out.below hb); clear hb; obtain ⟨⟨p0, -, pl⟩, ⟨p1, -, -⟩, ⟨p2, -, -⟩, ⟨p3, -, -⟩, ⟨p4, -, -⟩, ⟨p5, -, -⟩, ⟨p6, -, -⟩⟩ := HF.out; obtain ⟨⟨q0, -, ql⟩, ⟨q1, -, -⟩, ⟨q2, -, -⟩, ⟨q3, -, -⟩, ⟨q4, -, -⟩, ⟨q5, -, -⟩, ⟨q6, -, -⟩⟩ := HG.out)
  go_ret
  exact ⟨rfl, HB.out⟩
end Go.Proofs.YtplandmnmdkjmaaDoor
