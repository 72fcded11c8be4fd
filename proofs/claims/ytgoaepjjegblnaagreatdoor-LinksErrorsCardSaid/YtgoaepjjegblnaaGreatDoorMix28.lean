/-
The landed link: what it sends and takes by, made anew; the parameters that hold.
-/
import Derived.Test.YtgoaepjjegblnaaGreatDoorMix27
namespace Go.Proofs.YtgoaepjjegblnaaGreatDoor
open Go.RowKit
set_option maxRecDepth 20000
theorem cmod20 (b : Bool) (w : World) : Calls Tryz.prog 214 #[.bool b] w fun e w' => e = .returned (.int .i64 (if b then 128 else 8)) ∧ w' = w := by
  cases b
  · go_enter Tryz.func214, Tryz.ntmps214
    go_wp2_with fail
    exact bodyPost_ret (v := .int .i64 8) (by simp [results, Tryz.results214, go_sem]) rfl ⟨rfl, rfl⟩
  · go_enter Tryz.func214, Tryz.ntmps214
    go_wp2_with fail
    exact bodyPost_ret (v := .int .i64 128) (by simp [results, Tryz.results214, go_sem]) rfl ⟨rfl, rfl⟩
/-- what a new sender is -/
def SnTo (p : Xq) (w : World) (e : Ending) (w' : World) : Prop := ∃ b ou m, e = .returned (.agg #[ptr20 b, ptr20 ou, .map (some m), .bool false, .bool false]) ∧ ∃ FB FO n1 n2, boL w' b p.n1 noB FB ∧ OutL w' ou (modX p) p.k ⟨0, 0⟩ FO ∧ MapAt eltP w' m (fun _ => none) ∧
  (∀ k, FB k → w.heap.size ≤ k ∧ k < n1) ∧ (∀ k, FO k → n1 ≤ k ∧ k < n2) ∧ n2 ≤ m ∧ w.heap.size ≤ n1 ∧ n1 ≤ n2 ∧ Below w.heap.size w w'
set_option maxHeartbeats 1000000 in
theorem csender20 (p : Xq) (w : World) (hp : p.ok = true) : Calls Tryz.prog 178 #[xV p] w (SnTo p w) := by
  have hx := rightX_facts hp
  have hk : p.k ≤ 7 ∨ p.wide = true := by
    unfold Xq.ok rightX at hp
    simp only [Bool.and_eq_true] at hp
    have h2 := (inD_yes hp.2.1).2
    cases hw : p.wide
    · rw [hw] at h2
      refine Or.inl (Int.le_trans h2 ?_)
      cases p.srej <;> decide
    · exact Or.inr rfl
  obtain ⟨w1, hw1⟩ : ∃ w1, w1 = (w.alloc (.cells #[.bool p.wide, .bool p.srej, .int .i64 p.n1, .int .i64 p.k, .int .i64 p.t1, .int .i64 p.n2] 23)).alloc (.cells #[.pointer none, .pointer none, .map none, .bool false, .bool false] 142) := ⟨_, rfl⟩
  have hb1 : Below w.heap.size w w1 := by rw [hw1]; exact ((Below.refl _ w).alloc (Nat.le_refl _) _).alloc (by simp) _
  have hr1 : RowAt w1 w.heap.size [.bool p.wide, .bool p.srej, .int .i64 p.n1, .int .i64 p.k, .int .i64 p.t1, .int .i64 p.n2] := by rw [hw1]; exact (RowAt.new w w.heap.size rfl [.bool p.wide, .bool p.srej, .int .i64 p.n1, .int .i64 p.k, .int .i64 p.t1, .int .i64 p.n2] 23).alloc _
  have hr2 : RowAt w1 (w.heap.size + 1) [.pointer none, .pointer none, .map none, .bool false, .bool false] := by rw [hw1]; exact RowAt.new _ _ (by simp) [.pointer none, .pointer none, .map none, .bool false, .bool false] 142
  have HR1 := Lib.hid hr1
  have HR2 := Lib.hid hr2
  have HB1 := Lib.hid hb1
  have HS1 := Lib.hid (show w1.heap.size = w.heap.size + 2 by rw [hw1]; simp)
  have HBN := Lib.hid (cnew19_yes p.n1 w1 (by omega))
  have HON := Lib.hid (fun W => out_new (modX p) p.k W (by unfold modX; cases p.wide <;> simp) (by
    unfold modX
    rcases hk with hk | hk
    · cases p.wide
      · simp only [Bool.false_eq_true, if_false]; omega
      · simp only [if_true]; omega
    · rw [hk]
      simp only [if_true]
      omega))
  have HMD := Lib.hid (fun W => cmod20 p.wide W)
  have hmx : (if p.wide = true then (128 : Int) else 8) = modX p := rfl
  rw [hmx] at HMD
  clear hmx
  have c2 := hr1.cell 2 rfl
  clear hp hx hk hb1 hr1 hr2
  unfold SnTo
  go_enter Tryz.func178, Tryz.ntmps178
  go_upto_region 1 with fail
  rw [← hw1]
  clear hw1
  go_upto_region 2 with (go_at_call 212; (with_reducible refine HBN.out.mono ?_); rintro e w2 ⟨b, rfl, FB, q1, q2, q3⟩; have HBX := Lib.hid q1; have HFB := Lib.hid q2; have HB2 := Lib.hid q3; clear q1 q2 q3 c2)
  have HRP := Lib.hid (HR1.out.below HB2.out)
  have HRR := Lib.hid (HR2.out.below HB2.out)
  refine wp_region_held (S := fun W' => RowAt W' w.heap.size [.bool p.wide, .bool p.srej, .int .i64 p.n1, .int .i64 p.k, .int .i64 p.t1, .int .i64 p.n2]) (by kernel_rfl) ?_
  change wpAnyH _ _ _ _ _ _ _ _ (World.drew _)
  have HB := Lib.hid HRP.out.drew
  refine wpAnyH_take (i := 0) (v := ?_) rfl (by kernel_rfl) (by kernel_rfl) (by kernel_rfl) (fun _ _ _ h => h) (Or.inl ⟨by rfl, ?_⟩) HB.out ?_
  rotate_left
  · intro w' hw'
    go_simp
    with_reducible rfl
  go_simp
  refine wpAnyH_take (i := 3) (v := ?_) rfl (by kernel_rfl) (by kernel_rfl) (by kernel_rfl) (fun _ _ _ h => h) (Or.inl ⟨by rfl, ?_⟩) HB.out ?_
  rotate_left
  · intro w' hw'
    go_simp
    with_reducible rfl
  go_simp
  refine wpAnyH_take (i := 1) (v := ?_) rfl (by kernel_rfl) (by kernel_rfl) (by kernel_rfl) (fun _ _ _ h => h) (Or.inl ⟨by rfl, ?_⟩) HB.out ?_
  rotate_left
  · intro w' hw'
    have xx := hw'.cell 0 rfl
    go_simp
    with_reducible rfl
  go_simp
  refine wpAnyH_take (i := 4) (v := ?_) rfl (by kernel_rfl) (by kernel_rfl) (by kernel_rfl) (fun _ _ _ h => h) (Or.inl ⟨by rfl, ?_⟩) HB.out ?_
  rotate_left
  · intro w' hw'
    have xx := hw'.cell 3 rfl
    go_simp
    with_reducible rfl
  go_simp
  refine wpAnyH_ready (rs := [2]) (by kernel_rfl) (by simp) ?_
  refine AllReadyH.cons rfl (fun K hK => ?_) AllReadyH.nil
  go_simp
  go_at_call 214
  refine (HMD.out _).mono ?_
  rintro e w3 ⟨rfl, rfl⟩
  change K _ _
  refine hK.out _ _ HB.out (fun _ => ?_)
  clear hK K
  refine wpAnyH_ready (rs := [5]) (by kernel_rfl) (by simp) ?_
  refine AllReadyH.cons rfl (fun K hK => ?_) AllReadyH.nil
  go_simp
  go_at_call 213
  refine (HON.out _).mono ?_
  rintro e w3 ⟨ou, FO, rfl, q1, q2, q3⟩
  have q3' : Below w2.heap.size w2 w3 := (Below.refl _ w2).drew.trans q3
  have HOX := Lib.hid q1
  have HFO := Lib.hid (show ∀ k, FO k → w2.heap.size ≤ k from q2)
  have HB3 := Lib.hid q3'
  replace HB := Lib.hid (HRP.out.below q3')
  clear q1 q2 q3 q3'
  change K _ _
  refine hK.out _ _ HB.out (fun _ => ?_)
  clear hK K
  refine wpAnyH_take (i := 6) (v := ?_) rfl (by kernel_rfl) (by kernel_rfl) (by kernel_rfl) (fun _ _ _ h => h) (Or.inl ⟨by rfl, ?_⟩) HB.out ?_
  rotate_left
  · intro w' hw'
    go_simp
    with_reducible rfl
  go_simp
  refine wpAnyH_take (i := 7) (v := ?_) rfl (by kernel_rfl) (by kernel_rfl) (by kernel_rfl) (fun _ _ _ h => h) (Or.inl ⟨by rfl, ?_⟩) HB.out ?_
  rotate_left
  · intro w' hw'
    go_simp
    with_reducible rfl
  go_simp
  refine wpAnyH_take (i := 8) (v := ?_) rfl (by kernel_rfl) (by kernel_rfl) (by kernel_rfl) (fun _ _ _ h => h) (Or.inl ⟨by rfl, ?_⟩) HB.out ?_
  rotate_left
  · intro w' hw'
    go_simp
    with_reducible rfl
  go_simp
  refine wpAnyH_take (i := 9) (v := ?_) rfl (by kernel_rfl) (by kernel_rfl) (by kernel_rfl) (fun _ _ _ h => h) (Or.inl ⟨by rfl, ?_⟩) HB.out ?_
  rotate_left
  · intro w' hw'
    go_simp
    with_reducible rfl
  go_simp
  refine wpAnyH_take (i := 10) (v := ?_) rfl (by kernel_rfl) (by kernel_rfl) (by kernel_rfl) (fun _ _ _ h => h) (Or.inl ⟨by rfl, ?_⟩) HB.out ?_
  rotate_left
  · intro w' hw'
    go_simp
    with_reducible rfl
  go_simp
  refine wpAnyH_done (by kernel_rfl) ?_ _
  have HR4 := Lib.hid ((HRR.out.below HB3.out).alloc (.map #[] 0))
  obtain ⟨r0, s0, -⟩ := HR4.out.get 0 rfl
  obtain ⟨r1, s1, -⟩ := HR4.out.get 1 rfl
  obtain ⟨r2, s2, -⟩ := HR4.out.get 2 rfl
  obtain ⟨r3, s3, -⟩ := HR4.out.get 3 rfl
  obtain ⟨r4, s4, -⟩ := HR4.out.get 4 rfl
  have hmm := @run_makeMap Tryz.prog
  go_wp2_with fail
  clear r0 r1 r2 r3 r4 s0 s1 s2 s3 s4
  have hR := (((((Rw.start HR4.out).set 0 (ptr20 b)).set 1 (ptr20 ou)).set 2 (.map (some w3.heap.size))).set 3 (.bool false)).set 4 (.bool false)
  have hsz := HS1.out
  have hz2 := HB2.out.size
  have hz3 := HB3.out.size
  have hFBm := bo_mem HBX.out
  have hFOm := out_mem HOX.out
  have hse : (((((((w3.alloc (.map #[] 0)).setCell ⟨(w.heap.size + 1), 0, none⟩ (ptr20 b)).setCell ⟨(w.heap.size + 1), 1, none⟩ (ptr20 ou)).setCell ⟨(w.heap.size + 1), 2, none⟩ (.map (some w3.heap.size))).setCell ⟨(w.heap.size + 1), 3, none⟩ (.bool false)).setCell ⟨(w.heap.size + 1), 4, none⟩ (.bool false))).heap.size = (w3.alloc (.map #[] 0)).heap.size := by simp [World.setCell]
  have off : ∀ k, k < w.heap.size + 1 ∨ w.heap.size + 1 < k → (((((((w3.alloc (.map #[] 0)).setCell ⟨(w.heap.size + 1), 0, none⟩ (ptr20 b)).setCell ⟨(w.heap.size + 1), 1, none⟩ (ptr20 ou)).setCell ⟨(w.heap.size + 1), 2, none⟩ (.map (some w3.heap.size))).setCell ⟨(w.heap.size + 1), 3, none⟩ (.bool false)).setCell ⟨(w.heap.size + 1), 4, none⟩ (.bool false))).heap[k]? = (w3.alloc (.map #[] 0)).heap[k]? := fun k hk => by
    by_cases hkl : k < (w3.alloc (.map #[] 0)).heap.size
    · exact hR.turn.block k hkl fun e => by omega
    · rw [Array.getElem?_eq_none (by rw [hse]; omega), Array.getElem?_eq_none (by omega)]
  refine bodyPost_ret (v := .agg #[ptr20 b, ptr20 ou, .map (some w3.heap.size), .bool false, .bool false]) (by simp [results, Tryz.results178, go_sem, hR.row.cell 0 rfl, hR.row.cell 1 rfl, hR.row.cell 2 rfl, hR.row.cell 3 rfl, hR.row.cell 4 rfl]) rfl ⟨b, ou, w3.heap.size, rfl, FB, FO, w2.heap.size, w3.heap.size, ?_, ?_, ?_, ?_, ?_, Nat.le_refl _, by omega, hz3, ?_⟩
  · exact bo_stay (bo_stay HBX.out (SameOn.of_below (HB3.out.alloc hz3 _) hFBm)) ⟨hR.turn.size, fun k hk => off k (Or.inr (by have := HFB.out k hk; omega))⟩
  · exact out_stay (out_stay HOX.out (SameOn.of_below ((Below.refl _ w3).alloc (Nat.le_refl _) _) hFOm)) ⟨hR.turn.size, fun k hk => off k (Or.inr (by have := HFO.out k hk; omega))⟩
  · exact (MapAt.made eltP w3).same (off _ (Or.inr (by omega)))
  · exact fun k hk => ⟨by have := HFB.out k hk; omega, hFBm k hk⟩
  · exact fun k hk => ⟨HFO.out k hk, hFOm k hk⟩
  · exact hR.turn.below' ((HB1.out.trans (HB2.out.mono HB1.out.size)).trans ((HB3.out.alloc hz3 _).mono (by omega))) (by omega)
/-- what a new taker is -/
def TkTo (p : Xq) (held : Bool) (w : World) (e : Ending) (w' : World) : Prop := ∃ i m1 m2 g, e = .returned (.agg #[ptr20 i, .map (some m1), .map (some m2), .bool false, ptr20 g, .bool held]) ∧ ∃ FI n1, InL w' i (modX p) (aheadX p) ⟨0, List.replicate 128 false⟩ FI ∧ MapAt eltP w' m1 (fun _ => none) ∧ MapAt eltU w' m2 (fun _ => none) ∧ RowAt w' g (csV zeroG) ∧
  (∀ k, FI k → w.heap.size ≤ k ∧ k < n1) ∧ w.heap.size ≤ n1 ∧ n1 ≤ m1 ∧ m1 < m2 ∧ m2 < g ∧ Below w.heap.size w w'
set_option maxHeartbeats 1000000 in
theorem ctaker20 (p : Xq) (held : Bool) (w : World) : Calls Tryz.prog 179 #[xV p, .bool held] w (TkTo p held w) := by
  obtain ⟨w1, hw1⟩ : ∃ w1, w1 = (w.alloc (.cells #[.bool p.wide, .bool p.srej, .int .i64 p.n1, .int .i64 p.k, .int .i64 p.t1, .int .i64 p.n2] 23)).alloc (.cells #[.pointer none, .map none, .map none, .bool false, .pointer none, .bool false] 147) := ⟨_, rfl⟩
  have hb1 : Below w.heap.size w w1 := by rw [hw1]; exact ((Below.refl _ w).alloc (Nat.le_refl _) _).alloc (by simp) _
  have hr1 : RowAt w1 w.heap.size [.bool p.wide, .bool p.srej, .int .i64 p.n1, .int .i64 p.k, .int .i64 p.t1, .int .i64 p.n2] := by rw [hw1]; exact (RowAt.new w w.heap.size rfl [.bool p.wide, .bool p.srej, .int .i64 p.n1, .int .i64 p.k, .int .i64 p.t1, .int .i64 p.n2] 23).alloc _
  have hr2 : RowAt w1 (w.heap.size + 1) [.pointer none, .map none, .map none, .bool false, .pointer none, .bool false] := by rw [hw1]; exact RowAt.new _ _ (by simp) [.pointer none, .map none, .map none, .bool false, .pointer none, .bool false] 147
  have HR2 := Lib.hid hr2
  have HB1 := Lib.hid hb1
  have HS1 := Lib.hid (show w1.heap.size = w.heap.size + 2 by rw [hw1]; simp)
  have HIN := Lib.hid (cnewin_yes (modX p) (aheadX p) w1 (by unfold modX; cases p.wide <;> simp) (by unfold modX aheadX; cases p.wide <;> simp))
  have HMD := Lib.hid (fun W => cmod20 p.wide W)
  have hmx : (if p.wide = true then (128 : Int) else 8) = modX p := rfl
  rw [hmx] at HMD
  have HNW := Lib.hid (fun W => cnew10 W)
  have HAH := Lib.hid (show aheadX p = if p.wide then 64 else 1 from rfl)
  have c0 := hr1.cell 0 rfl
  have hmm := @run_makeMap Tryz.prog
  clear hmx hb1 hr1 hr2
  unfold TkTo
  generalize modX p = mx at *
  generalize aheadX p = ax at *
  go_enter Tryz.func179, Tryz.ntmps179
  go_upto_region 1 with fail
  rw [← hw1]
  clear hw1
  generalize hbw : p.wide = b at *
  clear hbw
  cases b
  · simp only [Bool.false_eq_true, if_false] at HAH
    have ha : ax = 1 := HAH.out
    subst ha
    go_upto_region 5 with (first
      | (go_at_call 214; (with_reducible refine (HMD.out _).mono ?_); rintro e w2 ⟨rfl, rfl⟩)
      | (go_at_call 215; (with_reducible refine HIN.out.mono ?_); rintro e w2 ⟨i, FI, rfl, q1, q2, q3⟩; have HIX := Lib.hid q1; have HFI := Lib.hid q2; have HB2 := Lib.hid q3; clear q1 q2 q3 c0))
    have HR4 := Lib.hid ((((HR2.out.below HB2.out).alloc (.map #[] 0)).alloc (.map #[] 0)).alloc (.cells #[.int .i64 0, .int .i64 0, .string ⟨#[]⟩] 316))
    have HM1 := Lib.hid (((MapAt.made eltP w2).below ((Below.refl _ _).alloc (Nat.le_refl _) (.map #[] 0))).below ((Below.refl _ _).alloc (Nat.le_refl _) (.cells #[.int .i64 0, .int .i64 0, .string ⟨#[]⟩] 316)))
    have hz1 : (w2.alloc (.map #[] 0)).heap.size = w2.heap.size + 1 := by simp
    have hz2 : ((w2.alloc (.map #[] 0)).alloc (.map #[] 0)).heap.size = w2.heap.size + 1 + 1 := by simp
    have HM2 := Lib.hid ((MapAt.made eltU (w2.alloc (.map #[] 0))).below ((Below.refl _ _).alloc (Nat.le_refl _) (.cells #[.int .i64 0, .int .i64 0, .string ⟨#[]⟩] 316)))
    have HGA := Lib.hid (show RowAt (((w2.alloc (.map #[] 0)).alloc (.map #[] 0)).alloc (.cells #[.int .i64 0, .int .i64 0, .string ⟨#[]⟩] 316)) ((w2.alloc (.map #[] 0)).alloc (.map #[] 0)).heap.size (csV zeroG) from RowAt.new ((w2.alloc (.map #[] 0)).alloc (.map #[] 0)) _ rfl (csV zeroG) 316)
    rw [hz1] at HM2
    rw [hz2] at HGA
    have HZ4 := Lib.hid (show (((w2.alloc (.map #[] 0)).alloc (.map #[] 0)).alloc (.cells #[.int .i64 0, .int .i64 0, .string ⟨#[]⟩] 316)).heap.size = w2.heap.size + 3 by simp)
    have HB4 := Lib.hid (show Below w2.heap.size w2 (((w2.alloc (.map #[] 0)).alloc (.map #[] 0)).alloc (.cells #[.int .i64 0, .int .i64 0, .string ⟨#[]⟩] 316)) from (((Below.refl _ w2).alloc (Nat.le_refl _) _).alloc (by simp) _).alloc (by simp; omega) _)
    obtain ⟨r0, s0, -⟩ := HR4.out.get 0 rfl
    obtain ⟨r1, s1, -⟩ := HR4.out.get 1 rfl
    obtain ⟨r2, s2, -⟩ := HR4.out.get 2 rfl
    obtain ⟨r3, s3, -⟩ := HR4.out.get 3 rfl
    obtain ⟨r4, s4, -⟩ := HR4.out.get 4 rfl
    obtain ⟨r5, s5, -⟩ := HR4.out.get 5 rfl
    go_wp2_with (go_at_call 216; (with_reducible refine (HNW.out _).mono ?_); rintro e w3 ⟨rfl, rfl⟩)
    clear r0 r1 r2 r3 r4 r5 s0 s1 s2 s3 s4 s5
    generalize (((w2.alloc (.map #[] 0)).alloc (.map #[] 0)).alloc (.cells #[.int .i64 0, .int .i64 0, .string ⟨#[]⟩] 316)) = w4 at *
    have hR := ((((((Rw.start HR4.out).set 0 (ptr20 i)).set 1 (.map (some w2.heap.size))).set 2 (.map (some (w2.heap.size + 1)))).set 3 (.bool false)).set 4 (ptr20 (w2.heap.size + 1 + 1))).set 5 (.bool held)
    have hsz := HS1.out
    have hz3 := HB2.out.size
    have hz4 := HZ4.out
    have hFIm := in_mem HIX.out
    have off : ∀ k, k < w4.heap.size → k ≠ w.heap.size + 1 → (((((((w4.setCell ⟨(w.heap.size + 1), 0, none⟩ (ptr20 i)).setCell ⟨(w.heap.size + 1), 1, none⟩ (.map (some w2.heap.size))).setCell ⟨(w.heap.size + 1), 2, none⟩ (.map (some (w2.heap.size + 1)))).setCell ⟨(w.heap.size + 1), 3, none⟩ (.bool false)).setCell ⟨(w.heap.size + 1), 4, none⟩ (ptr20 (w2.heap.size + 1 + 1))).setCell ⟨(w.heap.size + 1), 5, none⟩ (.bool held))).heap[k]? = w4.heap[k]? := fun k hkl hk => hR.turn.block k hkl hk
    refine bodyPost_ret (v := .agg #[ptr20 i, .map (some w2.heap.size), .map (some (w2.heap.size + 1)), .bool false, ptr20 (w2.heap.size + 1 + 1), .bool held]) (by simp [results, Tryz.results179, go_sem, hR.row.cell 0 rfl, hR.row.cell 1 rfl, hR.row.cell 2 rfl, hR.row.cell 3 rfl, hR.row.cell 4 rfl, hR.row.cell 5 rfl]) rfl ⟨i, w2.heap.size, w2.heap.size + 1, w2.heap.size + 1 + 1, rfl, FI, w2.heap.size, ?_, ?_, ?_, ?_, ?_, by omega, Nat.le_refl _, by omega, by omega, ?_⟩
    · exact in_stay (in_stay HIX.out (SameOn.of_below HB4.out hFIm)) ⟨hR.turn.size, fun k hk => off k (by have := hFIm k hk; omega) (by have := HFI.out k hk; omega)⟩
    · exact HM1.out.same (off _ (by omega) (by omega))
    · exact HM2.out.same (off _ (by omega) (by omega))
    · exact HGA.out.block (off _ (by omega) (by omega)) hR.turn.size
    · exact fun k hk => ⟨by have := HFI.out k hk; omega, hFIm k hk⟩
    · exact hR.turn.below' ((HB1.out.trans (HB2.out.mono HB1.out.size)).trans (HB4.out.mono (by omega))) (by omega)
  · simp only [if_true] at HAH
    have ha : ax = 64 := HAH.out
    subst ha
    go_upto_region 5 with (first
      | (go_at_call 214; (with_reducible refine (HMD.out _).mono ?_); rintro e w2 ⟨rfl, rfl⟩)
      | (go_at_call 215; (with_reducible refine HIN.out.mono ?_); rintro e w2 ⟨i, FI, rfl, q1, q2, q3⟩; have HIX := Lib.hid q1; have HFI := Lib.hid q2; have HB2 := Lib.hid q3; clear q1 q2 q3 c0))
    have HR4 := Lib.hid ((((HR2.out.below HB2.out).alloc (.map #[] 0)).alloc (.map #[] 0)).alloc (.cells #[.int .i64 0, .int .i64 0, .string ⟨#[]⟩] 316))
    have HM1 := Lib.hid (((MapAt.made eltP w2).below ((Below.refl _ _).alloc (Nat.le_refl _) (.map #[] 0))).below ((Below.refl _ _).alloc (Nat.le_refl _) (.cells #[.int .i64 0, .int .i64 0, .string ⟨#[]⟩] 316)))
    have hz1 : (w2.alloc (.map #[] 0)).heap.size = w2.heap.size + 1 := by simp
    have hz2 : ((w2.alloc (.map #[] 0)).alloc (.map #[] 0)).heap.size = w2.heap.size + 1 + 1 := by simp
    have HM2 := Lib.hid ((MapAt.made eltU (w2.alloc (.map #[] 0))).below ((Below.refl _ _).alloc (Nat.le_refl _) (.cells #[.int .i64 0, .int .i64 0, .string ⟨#[]⟩] 316)))
    have HGA := Lib.hid (show RowAt (((w2.alloc (.map #[] 0)).alloc (.map #[] 0)).alloc (.cells #[.int .i64 0, .int .i64 0, .string ⟨#[]⟩] 316)) ((w2.alloc (.map #[] 0)).alloc (.map #[] 0)).heap.size (csV zeroG) from RowAt.new ((w2.alloc (.map #[] 0)).alloc (.map #[] 0)) _ rfl (csV zeroG) 316)
    rw [hz1] at HM2
    rw [hz2] at HGA
    have HZ4 := Lib.hid (show (((w2.alloc (.map #[] 0)).alloc (.map #[] 0)).alloc (.cells #[.int .i64 0, .int .i64 0, .string ⟨#[]⟩] 316)).heap.size = w2.heap.size + 3 by simp)
    have HB4 := Lib.hid (show Below w2.heap.size w2 (((w2.alloc (.map #[] 0)).alloc (.map #[] 0)).alloc (.cells #[.int .i64 0, .int .i64 0, .string ⟨#[]⟩] 316)) from (((Below.refl _ w2).alloc (Nat.le_refl _) _).alloc (by simp) _).alloc (by simp; omega) _)
    obtain ⟨r0, s0, -⟩ := HR4.out.get 0 rfl
    obtain ⟨r1, s1, -⟩ := HR4.out.get 1 rfl
    obtain ⟨r2, s2, -⟩ := HR4.out.get 2 rfl
    obtain ⟨r3, s3, -⟩ := HR4.out.get 3 rfl
    obtain ⟨r4, s4, -⟩ := HR4.out.get 4 rfl
    obtain ⟨r5, s5, -⟩ := HR4.out.get 5 rfl
    go_wp2_with (go_at_call 216; (with_reducible refine (HNW.out _).mono ?_); rintro e w3 ⟨rfl, rfl⟩)
    clear r0 r1 r2 r3 r4 r5 s0 s1 s2 s3 s4 s5
    generalize (((w2.alloc (.map #[] 0)).alloc (.map #[] 0)).alloc (.cells #[.int .i64 0, .int .i64 0, .string ⟨#[]⟩] 316)) = w4 at *
    have hR := ((((((Rw.start HR4.out).set 0 (ptr20 i)).set 1 (.map (some w2.heap.size))).set 2 (.map (some (w2.heap.size + 1)))).set 3 (.bool false)).set 4 (ptr20 (w2.heap.size + 1 + 1))).set 5 (.bool held)
    have hsz := HS1.out
    have hz3 := HB2.out.size
    have hz4 := HZ4.out
    have hFIm := in_mem HIX.out
    have off : ∀ k, k < w4.heap.size → k ≠ w.heap.size + 1 → (((((((w4.setCell ⟨(w.heap.size + 1), 0, none⟩ (ptr20 i)).setCell ⟨(w.heap.size + 1), 1, none⟩ (.map (some w2.heap.size))).setCell ⟨(w.heap.size + 1), 2, none⟩ (.map (some (w2.heap.size + 1)))).setCell ⟨(w.heap.size + 1), 3, none⟩ (.bool false)).setCell ⟨(w.heap.size + 1), 4, none⟩ (ptr20 (w2.heap.size + 1 + 1))).setCell ⟨(w.heap.size + 1), 5, none⟩ (.bool held))).heap[k]? = w4.heap[k]? := fun k hkl hk => hR.turn.block k hkl hk
    refine bodyPost_ret (v := .agg #[ptr20 i, .map (some w2.heap.size), .map (some (w2.heap.size + 1)), .bool false, ptr20 (w2.heap.size + 1 + 1), .bool held]) (by simp [results, Tryz.results179, go_sem, hR.row.cell 0 rfl, hR.row.cell 1 rfl, hR.row.cell 2 rfl, hR.row.cell 3 rfl, hR.row.cell 4 rfl, hR.row.cell 5 rfl]) rfl ⟨i, w2.heap.size, w2.heap.size + 1, w2.heap.size + 1 + 1, rfl, FI, w2.heap.size, ?_, ?_, ?_, ?_, ?_, by omega, Nat.le_refl _, by omega, by omega, ?_⟩
    · exact in_stay (in_stay HIX.out (SameOn.of_below HB4.out hFIm)) ⟨hR.turn.size, fun k hk => off k (by have := hFIm k hk; omega) (by have := HFI.out k hk; omega)⟩
    · exact HM1.out.same (off _ (by omega) (by omega))
    · exact HM2.out.same (off _ (by omega) (by omega))
    · exact HGA.out.block (off _ (by omega) (by omega)) hR.turn.size
    · exact fun k hk => ⟨by have := HFI.out k hk; omega, hFIm k hk⟩
    · exact hR.turn.below' ((HB1.out.trans (HB2.out.mono HB1.out.size)).trans (HB4.out.mono (by omega))) (by omega)
end Go.Proofs.YtgoaepjjegblnaaGreatDoor
