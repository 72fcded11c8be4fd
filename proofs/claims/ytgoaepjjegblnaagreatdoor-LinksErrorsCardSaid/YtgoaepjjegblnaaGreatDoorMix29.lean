/-
The landed link: the parameters that hold.
-/
import Derived.Test.YtgoaepjjegblnaaGreatDoorMix28
namespace Go.Proofs.YtgoaepjjegblnaaGreatDoor
open Go.RowKit
set_option maxRecDepth 20000
abbrev fitY (y : Xq) (wide : Bool) : Xq := ⟨wide, wide && y.srej, y.n1, min y.k (mostD wide (wide && y.srej)), y.t1, y.n2⟩
set_option maxHeartbeats 2000000 in
theorem cfit20 (w : World) (p : Nat) (x : Px) (s : Lk) (wide : Bool) (h : RowAt w p (lkRow x s)) : Calls Tryz.prog 177 #[ptr20 p, .bool wide] w fun e w' => e = .returned (xV (fitX s.agreed s.can wide)) ∧ Below w.heap.size w w' := by
  have hlt : p < w.heap.size := RowAt.lt (v := x.an) h
  obtain ⟨w1, hw1⟩ : ∃ w1, w1 = (w.alloc (.cells #[.bool false, .bool false, .int .i64 0, .int .i64 0, .int .i64 0, .int .i64 0] 23)).alloc (.cells #[.bool s.agreed.wide, .bool s.agreed.srej, .int .i64 s.agreed.n1, .int .i64 s.agreed.k, .int .i64 s.agreed.t1, .int .i64 s.agreed.n2] 23) := ⟨_, rfl⟩
  have hb0 : Below w.heap.size w (w.alloc (.cells #[.bool false, .bool false, .int .i64 0, .int .i64 0, .int .i64 0, .int .i64 0] 23)) := (Below.refl _ w).alloc (Nat.le_refl _) _
  have hb1 : Below w.heap.size w w1 := by rw [hw1]; exact hb0.alloc (by simp) _
  have hs1 : w1.heap.size = w.heap.size + 2 := by rw [hw1]; simp
  have hr1 : RowAt w1 w.heap.size [.bool false, .bool false, .int .i64 0, .int .i64 0, .int .i64 0, .int .i64 0] := by rw [hw1]; exact (RowAt.new w w.heap.size rfl [.bool false, .bool false, .int .i64 0, .int .i64 0, .int .i64 0, .int .i64 0] 23).alloc _
  have hr2 : RowAt w1 (w.heap.size + 1) (xCells s.agreed) := by rw [hw1]; exact RowAt.new _ _ (by simp) (xCells s.agreed) 23
  have HR := Lib.hid h
  have HB1 := Lib.hid hb1
  have HS1 := Lib.hid hs1
  have HRR := Lib.hid hr1
  have HRP := Lib.hid hr2
  have HXR := Lib.hid (fun W => xright_any s.agreed.wide s.agreed.srej s.agreed.n1 s.agreed.k s.agreed.t1 s.agreed.n2 W)
  have HMO := Lib.hid (fun b W => most_any wide b W)
  have a0 := (h.below hb0).cell 29 rfl
  have a1 := (h.below hb0).cell 30 rfl
  have a2 := (h.below hb0).cell 31 rfl
  have a3 := (h.below hb0).cell 32 rfl
  have a4 := (h.below hb0).cell 33 rfl
  have a5 := (h.below hb0).cell 34 rfl
  have d0 := hr2.cell 0 rfl
  have d1 := hr2.cell 1 rfl
  have d2 := hr2.cell 2 rfl
  have d3 := hr2.cell 3 rfl
  have d4 := hr2.cell 4 rfl
  have d5 := hr2.cell 5 rfl
  obtain ⟨res, hres⟩ : ∃ res, res = fitX s.agreed s.can wide := ⟨_, rfl⟩
  rw [← hres]
  have hres2 : res = fitY (if s.agreed.ok then s.agreed else s.can) wide := hres
  clear hres hb0 hb1 hs1 hr1 hr2 h
  go_enter Tryz.func177, Tryz.ntmps177
  go_upto_region 2 with fail
  rw [← hw1]
  clear hw1 a0 a1 a2 a3 a4 a5
  by_cases hag : s.agreed.ok = true
  · rw [if_pos hag] at hres2
    unfold Xq.ok at hag
    rw [hag] at HXR
    clear hag
    go_upto_region 4 with (first
      | (go_at_call 66; (with_reducible refine (HXR.out _).mono ?_); rintro e w2 ⟨rfl, hb⟩; have HB2 := Lib.hid (HB1.out.trans (hb.mono HB1.out.size)); have HS2 := Lib.hid (show w.heap.size + 2 ≤ w2.heap.size from HS1.out ▸ hb.size); have HRR2 := Lib.hid (HRR.out.below hb); have HRP2 := Lib.hid (HRP.out.below hb); have HL2 := Lib.hid (HR.out.below (HB1.out.trans (hb.mono HB1.out.size))); clear hb d0 d1 d2 d3 d4 d5))
    have HQP := Lib.hid (show RowAt w2 (w.heap.size + 1) (xCells s.agreed) from HRP2.out)
    have HRR3 := HRR2
    have HB3 := HB2
    have HS3 := HS2
    clear HRR2 HB2 HS2 HRP2 HXR HL2
    generalize s.agreed = y at *
    generalize w2 = w3 at *
    obtain ⟨x0, y0, -⟩ := HQP.out.get 0 rfl
    obtain ⟨x1, y1, -⟩ := HQP.out.get 1 rfl
    obtain ⟨z, hz⟩ : ∃ z, z = (wide && y.srej) := ⟨_, rfl⟩
    have HZ := Lib.hid hz
    have HQ4 := Lib.hid ((((Rw.start HQP.out).set 0 (.bool wide)).set 1 (.bool z)))
    have HR4 := Lib.hid ((HRR3.out.other (g := w.heap.size + 1) (p := 0) (.bool wide) (by omega)).other (g := w.heap.size + 1) (p := 1) (.bool z) (by omega))
    have HRES := Lib.hid hres2
    cases wide
    · have hzf : z = false := by rw [hz]; rfl
      subst hzf
      clear hz
      go_upto_region 5 with fail
      have HB4 := Lib.hid (HQ4.out.turn.below' HB3.out (by omega))
      have HQR4 := Lib.hid (show RowAt _ (w.heap.size + 1) [.bool false, .bool false, .int .i64 y.n1, .int .i64 y.k, .int .i64 y.t1, .int .i64 y.n2] from HQ4.out.row)
      clear x0 y0 x1 y1 hres2 HQ4
      generalize ((w3.setCell ⟨w.heap.size + 1, 0, none⟩ (.bool false)).setCell ⟨w.heap.size + 1, 1, none⟩ (.bool false)) = w4 at *
      refine wp_region_held (S := fun W' => W'.cell? ⟨w.heap.size + 1, 0, none⟩ = some (.bool false) ∧ W'.cell? ⟨w.heap.size + 1, 1, none⟩ = some (.bool false)) (by kernel_rfl) ?_
      change wpAnyH _ _ _ _ _ _ _ _ (World.drew _)
      have HB := Lib.hid (show w4.drew.cell? ⟨w.heap.size + 1, 0, none⟩ = some (.bool false) ∧ w4.drew.cell? ⟨w.heap.size + 1, 1, none⟩ = some (.bool false) from ⟨HQR4.out.drew.cell 0 rfl, HQR4.out.drew.cell 1 rfl⟩)
      refine wpAnyH_take (i := 0) (v := ?_) rfl (by kernel_rfl) (by kernel_rfl) (by kernel_rfl) (fun _ _ _ h => h) (Or.inl ⟨by rfl, ?_⟩) HB.out ?_
      rotate_left
      · intro w' hw'
        go_simp
        with_reducible rfl
      go_simp
      refine wpAnyH_take (i := 2) (v := ?_) rfl (by kernel_rfl) (by kernel_rfl) (by kernel_rfl) (fun _ _ _ h => h) (Or.inl ⟨by rfl, ?_⟩) HB.out ?_
      rotate_left
      · intro w' hw'
        go_simp
        with_reducible rfl
      go_simp
      refine wpAnyH_take (i := 4) (v := ?_) rfl (by kernel_rfl) (by kernel_rfl) (by kernel_rfl) (fun _ _ _ h => h) (Or.inl ⟨by rfl, ?_⟩) HB.out ?_
      rotate_left
      · intro w' hw'
        go_simp
        with_reducible rfl
      go_simp
      refine wpAnyH_take (i := 3) (v := ?_) rfl (by kernel_rfl) (by kernel_rfl) (by kernel_rfl) (fun _ _ _ h => h) (Or.inl ⟨by rfl, ?_⟩) HB.out ?_
      rotate_left
      · intro w' hw'
        have xx := hw'.1
        go_simp
        with_reducible rfl
      go_simp
      refine wpAnyH_take (i := 5) (v := ?_) rfl (by kernel_rfl) (by kernel_rfl) (by kernel_rfl) (fun _ _ _ h => h) (Or.inl ⟨by rfl, ?_⟩) HB.out ?_
      rotate_left
      · intro w' hw'
        have xx := hw'.2
        go_simp
        with_reducible rfl
      go_simp
      refine wpAnyH_ready (rs := [1, 6]) (by kernel_rfl) (by simp) ?_
      refine AllReadyH.cons rfl (fun K hK => ?_) (AllReadyH.cons rfl (fun K hK => ?_) AllReadyH.nil)
      · have xx : w4.drew.cell? ⟨w.heap.size + 1, 3, none⟩ = some (.int .i64 y.k) := HQR4.out.drew.cell 3 rfl
        go_simp
        clear xx
        refine hK.out _ _ HB.out (fun _ => ?_)
        clear hK K
        refine wpAnyH_ready (rs := [6]) (by kernel_rfl) (by simp) ?_
        refine AllReadyH.cons rfl (fun K hK => ?_) AllReadyH.nil
        go_simp
        go_at_call 118
        refine (HMO.out _ _).mono ?_
        rintro e w5 ⟨rfl, rfl⟩
        change K _ _
        refine hK.out _ _ HB.out (fun _ => ?_)
        clear hK K
        have HQD := Lib.hid HQR4.out.drew
        have HRD := Lib.hid HR4.out.drew
        have HBD := Lib.hid HB4.out.drew
        clear HQR4 HR4 HB4
        generalize w4.drew = w5 at *
        refine wpAnyH_ready (rs := [7]) (by kernel_rfl) (by simp) ?_
        refine AllReadyH.cons rfl (fun K hK => ?_) AllReadyH.nil
        go_simp
        refine hK.out _ _ HB.out (fun _ => ?_)
        clear hK K
        refine wpAnyH_take (i := 8) (v := ?_) rfl (by kernel_rfl) (by kernel_rfl) (by kernel_rfl) (fun _ _ _ h => h) (Or.inl ⟨by rfl, ?_⟩) HB.out ?_
        rotate_left
        · intro w' hw'
          go_simp
          with_reducible rfl
        go_simp
        have HQ5 := Lib.hid (HQD.out.put 3 (.int .i64 (min y.k (mostD false false))) [.bool false, .bool false, .int .i64 y.n1, .int .i64 (min y.k (mostD false false)), .int .i64 y.t1, .int .i64 y.n2] rfl)
        have HR5 := Lib.hid (HRD.out.other (g := w.heap.size + 1) (p := 3) (.int .i64 (min y.k (mostD false false))) (by omega))
        have HB5 := Lib.hid (HBD.out.setCell (p := ⟨w.heap.size + 1, 3, none⟩) (by simp) (.int .i64 (min y.k (mostD false false))))
        obtain ⟨xx, xy, -⟩ := HQD.out.get 3 rfl
        refine wpAnyH_ready (rs := [9]) (by kernel_rfl) (by simp) ?_
        refine AllReadyH.cons rfl (fun K hK => ?_) AllReadyH.nil
        go_simp
        clear xx xy HB HQD HRD HBD
        generalize w5.setCell ⟨w.heap.size + 1, 3, none⟩ (.int .i64 (min y.k (mostD false false))) = w6 at *
        have HB := Lib.hid (show w6.cell? ⟨w.heap.size + 1, 0, none⟩ = some (.bool false) ∧ w6.cell? ⟨w.heap.size + 1, 1, none⟩ = some (.bool false) from ⟨HQ5.out.cell 0 rfl, HQ5.out.cell 1 rfl⟩)
        refine hK.out _ _ HB.out (fun _ => ?_)
        clear hK K
        refine wpAnyH_done (by kernel_rfl) ?_ _
        have p0 := HQ5.out.cell 0 rfl
        have p1 := HQ5.out.cell 1 rfl
        have p2 := HQ5.out.cell 2 rfl
        have p3 := HQ5.out.cell 3 rfl
        have p4 := HQ5.out.cell 4 rfl
        have p5 := HQ5.out.cell 5 rfl
        obtain ⟨q0, t0, -⟩ := HR5.out.get 0 rfl
        obtain ⟨q1, t1, -⟩ := HR5.out.get 1 rfl
        obtain ⟨q2, t2, -⟩ := HR5.out.get 2 rfl
        obtain ⟨q3, t3, -⟩ := HR5.out.get 3 rfl
        obtain ⟨q4, t4, -⟩ := HR5.out.get 4 rfl
        obtain ⟨q5, t5, -⟩ := HR5.out.get 5 rfl
        have HRE := Lib.hid (show res = ⟨false, false, y.n1, min y.k (mostD false false), y.t1, y.n2⟩ from HRES.out)
        generalize min y.k (mostD false false) = mk at *
        go_wp2_with fail
        have hS := HR5.out.set6 (.bool false) (.bool false) (.int .i64 y.n1) (.int .i64 mk) (.int .i64 y.t1) (.int .i64 y.n2)
        have hBB := set6_below (m := w.heap.size) HB5.out (Nat.le_refl _) (.bool false) (.bool false) (.int .i64 y.n1) (.int .i64 mk) (.int .i64 y.t1) (.int .i64 y.n2)
        rw [HRE.out]
        exact bodyPost_ret (v := .agg #[.bool false, .bool false, .int .i64 y.n1, .int .i64 mk, .int .i64 y.t1, .int .i64 y.n2]) (by simp [results, Tryz.results177, go_sem, hS.cell 0 rfl, hS.cell 1 rfl, hS.cell 2 rfl, hS.cell 3 rfl, hS.cell 4 rfl, hS.cell 5 rfl]) rfl ⟨rfl, hBB⟩
      · go_simp
        go_at_call 118
        refine (HMO.out _ _).mono ?_
        rintro e w5 ⟨rfl, rfl⟩
        change K _ _
        refine hK.out _ _ HB.out (fun _ => ?_)
        clear hK K
        have xx : w4.drew.cell? ⟨w.heap.size + 1, 3, none⟩ = some (.int .i64 y.k) := HQR4.out.drew.cell 3 rfl
        refine wpAnyH_ready (rs := [1]) (by kernel_rfl) (by simp) ?_
        refine AllReadyH.cons rfl (fun K hK => ?_) AllReadyH.nil
        go_simp
        clear xx
        refine hK.out _ _ HB.out (fun _ => ?_)
        clear hK K
        have HQD := Lib.hid HQR4.out.drew
        have HRD := Lib.hid HR4.out.drew
        have HBD := Lib.hid HB4.out.drew
        clear HQR4 HR4 HB4
        generalize w4.drew = w5 at *
        refine wpAnyH_ready (rs := [7]) (by kernel_rfl) (by simp) ?_
        refine AllReadyH.cons rfl (fun K hK => ?_) AllReadyH.nil
        go_simp
        refine hK.out _ _ HB.out (fun _ => ?_)
        clear hK K
        refine wpAnyH_take (i := 8) (v := ?_) rfl (by kernel_rfl) (by kernel_rfl) (by kernel_rfl) (fun _ _ _ h => h) (Or.inl ⟨by rfl, ?_⟩) HB.out ?_
        rotate_left
        · intro w' hw'
          go_simp
          with_reducible rfl
        go_simp
        have HQ5 := Lib.hid (HQD.out.put 3 (.int .i64 (min y.k (mostD false false))) [.bool false, .bool false, .int .i64 y.n1, .int .i64 (min y.k (mostD false false)), .int .i64 y.t1, .int .i64 y.n2] rfl)
        have HR5 := Lib.hid (HRD.out.other (g := w.heap.size + 1) (p := 3) (.int .i64 (min y.k (mostD false false))) (by omega))
        have HB5 := Lib.hid (HBD.out.setCell (p := ⟨w.heap.size + 1, 3, none⟩) (by simp) (.int .i64 (min y.k (mostD false false))))
        obtain ⟨xx, xy, -⟩ := HQD.out.get 3 rfl
        refine wpAnyH_ready (rs := [9]) (by kernel_rfl) (by simp) ?_
        refine AllReadyH.cons rfl (fun K hK => ?_) AllReadyH.nil
        go_simp
        clear xx xy HB HQD HRD HBD
        generalize w5.setCell ⟨w.heap.size + 1, 3, none⟩ (.int .i64 (min y.k (mostD false false))) = w6 at *
        have HB := Lib.hid (show w6.cell? ⟨w.heap.size + 1, 0, none⟩ = some (.bool false) ∧ w6.cell? ⟨w.heap.size + 1, 1, none⟩ = some (.bool false) from ⟨HQ5.out.cell 0 rfl, HQ5.out.cell 1 rfl⟩)
        refine hK.out _ _ HB.out (fun _ => ?_)
        clear hK K
        refine wpAnyH_done (by kernel_rfl) ?_ _
        have p0 := HQ5.out.cell 0 rfl
        have p1 := HQ5.out.cell 1 rfl
        have p2 := HQ5.out.cell 2 rfl
        have p3 := HQ5.out.cell 3 rfl
        have p4 := HQ5.out.cell 4 rfl
        have p5 := HQ5.out.cell 5 rfl
        obtain ⟨q0, t0, -⟩ := HR5.out.get 0 rfl
        obtain ⟨q1, t1, -⟩ := HR5.out.get 1 rfl
        obtain ⟨q2, t2, -⟩ := HR5.out.get 2 rfl
        obtain ⟨q3, t3, -⟩ := HR5.out.get 3 rfl
        obtain ⟨q4, t4, -⟩ := HR5.out.get 4 rfl
        obtain ⟨q5, t5, -⟩ := HR5.out.get 5 rfl
        have HRE := Lib.hid (show res = ⟨false, false, y.n1, min y.k (mostD false false), y.t1, y.n2⟩ from HRES.out)
        generalize min y.k (mostD false false) = mk at *
        go_wp2_with fail
        have hS := HR5.out.set6 (.bool false) (.bool false) (.int .i64 y.n1) (.int .i64 mk) (.int .i64 y.t1) (.int .i64 y.n2)
        have hBB := set6_below (m := w.heap.size) HB5.out (Nat.le_refl _) (.bool false) (.bool false) (.int .i64 y.n1) (.int .i64 mk) (.int .i64 y.t1) (.int .i64 y.n2)
        rw [HRE.out]
        exact bodyPost_ret (v := .agg #[.bool false, .bool false, .int .i64 y.n1, .int .i64 mk, .int .i64 y.t1, .int .i64 y.n2]) (by simp [results, Tryz.results177, go_sem, hS.cell 0 rfl, hS.cell 1 rfl, hS.cell 2 rfl, hS.cell 3 rfl, hS.cell 4 rfl, hS.cell 5 rfl]) rfl ⟨rfl, hBB⟩
    · have hzt : y.srej = z := by rw [hz]; rfl
      rw [hzt] at x1
      clear hz hzt
      go_upto_region 5 with fail
      have HB4 := Lib.hid (HQ4.out.turn.below' HB3.out (by omega))
      have HQR4 := Lib.hid (show RowAt _ (w.heap.size + 1) [.bool true, .bool z, .int .i64 y.n1, .int .i64 y.k, .int .i64 y.t1, .int .i64 y.n2] from HQ4.out.row)
      clear x0 y0 x1 y1 hres2 HQ4
      generalize ((w3.setCell ⟨w.heap.size + 1, 0, none⟩ (.bool true)).setCell ⟨w.heap.size + 1, 1, none⟩ (.bool z)) = w4 at *
      refine wp_region_held (S := fun W' => W'.cell? ⟨w.heap.size + 1, 0, none⟩ = some (.bool true) ∧ W'.cell? ⟨w.heap.size + 1, 1, none⟩ = some (.bool z)) (by kernel_rfl) ?_
      change wpAnyH _ _ _ _ _ _ _ _ (World.drew _)
      have HB := Lib.hid (show w4.drew.cell? ⟨w.heap.size + 1, 0, none⟩ = some (.bool true) ∧ w4.drew.cell? ⟨w.heap.size + 1, 1, none⟩ = some (.bool z) from ⟨HQR4.out.drew.cell 0 rfl, HQR4.out.drew.cell 1 rfl⟩)
      refine wpAnyH_take (i := 0) (v := ?_) rfl (by kernel_rfl) (by kernel_rfl) (by kernel_rfl) (fun _ _ _ h => h) (Or.inl ⟨by rfl, ?_⟩) HB.out ?_
      rotate_left
      · intro w' hw'
        go_simp
        with_reducible rfl
      go_simp
      refine wpAnyH_take (i := 2) (v := ?_) rfl (by kernel_rfl) (by kernel_rfl) (by kernel_rfl) (fun _ _ _ h => h) (Or.inl ⟨by rfl, ?_⟩) HB.out ?_
      rotate_left
      · intro w' hw'
        go_simp
        with_reducible rfl
      go_simp
      refine wpAnyH_take (i := 4) (v := ?_) rfl (by kernel_rfl) (by kernel_rfl) (by kernel_rfl) (fun _ _ _ h => h) (Or.inl ⟨by rfl, ?_⟩) HB.out ?_
      rotate_left
      · intro w' hw'
        go_simp
        with_reducible rfl
      go_simp
      refine wpAnyH_take (i := 3) (v := ?_) rfl (by kernel_rfl) (by kernel_rfl) (by kernel_rfl) (fun _ _ _ h => h) (Or.inl ⟨by rfl, ?_⟩) HB.out ?_
      rotate_left
      · intro w' hw'
        have xx := hw'.1
        go_simp
        with_reducible rfl
      go_simp
      refine wpAnyH_take (i := 5) (v := ?_) rfl (by kernel_rfl) (by kernel_rfl) (by kernel_rfl) (fun _ _ _ h => h) (Or.inl ⟨by rfl, ?_⟩) HB.out ?_
      rotate_left
      · intro w' hw'
        have xx := hw'.2
        go_simp
        with_reducible rfl
      go_simp
      refine wpAnyH_ready (rs := [1, 6]) (by kernel_rfl) (by simp) ?_
      refine AllReadyH.cons rfl (fun K hK => ?_) (AllReadyH.cons rfl (fun K hK => ?_) AllReadyH.nil)
      · have xx : w4.drew.cell? ⟨w.heap.size + 1, 3, none⟩ = some (.int .i64 y.k) := HQR4.out.drew.cell 3 rfl
        go_simp
        clear xx
        refine hK.out _ _ HB.out (fun _ => ?_)
        clear hK K
        refine wpAnyH_ready (rs := [6]) (by kernel_rfl) (by simp) ?_
        refine AllReadyH.cons rfl (fun K hK => ?_) AllReadyH.nil
        go_simp
        go_at_call 118
        refine (HMO.out _ _).mono ?_
        rintro e w5 ⟨rfl, rfl⟩
        change K _ _
        refine hK.out _ _ HB.out (fun _ => ?_)
        clear hK K
        have HQD := Lib.hid HQR4.out.drew
        have HRD := Lib.hid HR4.out.drew
        have HBD := Lib.hid HB4.out.drew
        clear HQR4 HR4 HB4
        generalize w4.drew = w5 at *
        refine wpAnyH_ready (rs := [7]) (by kernel_rfl) (by simp) ?_
        refine AllReadyH.cons rfl (fun K hK => ?_) AllReadyH.nil
        go_simp
        refine hK.out _ _ HB.out (fun _ => ?_)
        clear hK K
        refine wpAnyH_take (i := 8) (v := ?_) rfl (by kernel_rfl) (by kernel_rfl) (by kernel_rfl) (fun _ _ _ h => h) (Or.inl ⟨by rfl, ?_⟩) HB.out ?_
        rotate_left
        · intro w' hw'
          go_simp
          with_reducible rfl
        go_simp
        have HQ5 := Lib.hid (HQD.out.put 3 (.int .i64 (min y.k (mostD true z))) [.bool true, .bool z, .int .i64 y.n1, .int .i64 (min y.k (mostD true z)), .int .i64 y.t1, .int .i64 y.n2] rfl)
        have HR5 := Lib.hid (HRD.out.other (g := w.heap.size + 1) (p := 3) (.int .i64 (min y.k (mostD true z))) (by omega))
        have HB5 := Lib.hid (HBD.out.setCell (p := ⟨w.heap.size + 1, 3, none⟩) (by simp) (.int .i64 (min y.k (mostD true z))))
        obtain ⟨xx, xy, -⟩ := HQD.out.get 3 rfl
        refine wpAnyH_ready (rs := [9]) (by kernel_rfl) (by simp) ?_
        refine AllReadyH.cons rfl (fun K hK => ?_) AllReadyH.nil
        go_simp
        clear xx xy HB HQD HRD HBD
        generalize w5.setCell ⟨w.heap.size + 1, 3, none⟩ (.int .i64 (min y.k (mostD true z))) = w6 at *
        have HB := Lib.hid (show w6.cell? ⟨w.heap.size + 1, 0, none⟩ = some (.bool true) ∧ w6.cell? ⟨w.heap.size + 1, 1, none⟩ = some (.bool z) from ⟨HQ5.out.cell 0 rfl, HQ5.out.cell 1 rfl⟩)
        refine hK.out _ _ HB.out (fun _ => ?_)
        clear hK K
        refine wpAnyH_done (by kernel_rfl) ?_ _
        have p0 := HQ5.out.cell 0 rfl
        have p1 := HQ5.out.cell 1 rfl
        have p2 := HQ5.out.cell 2 rfl
        have p3 := HQ5.out.cell 3 rfl
        have p4 := HQ5.out.cell 4 rfl
        have p5 := HQ5.out.cell 5 rfl
        obtain ⟨q0, t0, -⟩ := HR5.out.get 0 rfl
        obtain ⟨q1, t1, -⟩ := HR5.out.get 1 rfl
        obtain ⟨q2, t2, -⟩ := HR5.out.get 2 rfl
        obtain ⟨q3, t3, -⟩ := HR5.out.get 3 rfl
        obtain ⟨q4, t4, -⟩ := HR5.out.get 4 rfl
        obtain ⟨q5, t5, -⟩ := HR5.out.get 5 rfl
        have HRE := Lib.hid (show res = ⟨true, z, y.n1, min y.k (mostD true z), y.t1, y.n2⟩ from by rw [HRES.out, HZ.out])
        generalize min y.k (mostD true z) = mk at *
        go_wp2_with fail
        have hS := HR5.out.set6 (.bool true) (.bool z) (.int .i64 y.n1) (.int .i64 mk) (.int .i64 y.t1) (.int .i64 y.n2)
        have hBB := set6_below (m := w.heap.size) HB5.out (Nat.le_refl _) (.bool true) (.bool z) (.int .i64 y.n1) (.int .i64 mk) (.int .i64 y.t1) (.int .i64 y.n2)
        rw [HRE.out]
        exact bodyPost_ret (v := .agg #[.bool true, .bool z, .int .i64 y.n1, .int .i64 mk, .int .i64 y.t1, .int .i64 y.n2]) (by simp [results, Tryz.results177, go_sem, hS.cell 0 rfl, hS.cell 1 rfl, hS.cell 2 rfl, hS.cell 3 rfl, hS.cell 4 rfl, hS.cell 5 rfl]) rfl ⟨rfl, hBB⟩
      · go_simp
        go_at_call 118
        refine (HMO.out _ _).mono ?_
        rintro e w5 ⟨rfl, rfl⟩
        change K _ _
        refine hK.out _ _ HB.out (fun _ => ?_)
        clear hK K
        have xx : w4.drew.cell? ⟨w.heap.size + 1, 3, none⟩ = some (.int .i64 y.k) := HQR4.out.drew.cell 3 rfl
        refine wpAnyH_ready (rs := [1]) (by kernel_rfl) (by simp) ?_
        refine AllReadyH.cons rfl (fun K hK => ?_) AllReadyH.nil
        go_simp
        clear xx
        refine hK.out _ _ HB.out (fun _ => ?_)
        clear hK K
        have HQD := Lib.hid HQR4.out.drew
        have HRD := Lib.hid HR4.out.drew
        have HBD := Lib.hid HB4.out.drew
        clear HQR4 HR4 HB4
        generalize w4.drew = w5 at *
        refine wpAnyH_ready (rs := [7]) (by kernel_rfl) (by simp) ?_
        refine AllReadyH.cons rfl (fun K hK => ?_) AllReadyH.nil
        go_simp
        refine hK.out _ _ HB.out (fun _ => ?_)
        clear hK K
        refine wpAnyH_take (i := 8) (v := ?_) rfl (by kernel_rfl) (by kernel_rfl) (by kernel_rfl) (fun _ _ _ h => h) (Or.inl ⟨by rfl, ?_⟩) HB.out ?_
        rotate_left
        · intro w' hw'
          go_simp
          with_reducible rfl
        go_simp
        have HQ5 := Lib.hid (HQD.out.put 3 (.int .i64 (min y.k (mostD true z))) [.bool true, .bool z, .int .i64 y.n1, .int .i64 (min y.k (mostD true z)), .int .i64 y.t1, .int .i64 y.n2] rfl)
        have HR5 := Lib.hid (HRD.out.other (g := w.heap.size + 1) (p := 3) (.int .i64 (min y.k (mostD true z))) (by omega))
        have HB5 := Lib.hid (HBD.out.setCell (p := ⟨w.heap.size + 1, 3, none⟩) (by simp) (.int .i64 (min y.k (mostD true z))))
        obtain ⟨xx, xy, -⟩ := HQD.out.get 3 rfl
        refine wpAnyH_ready (rs := [9]) (by kernel_rfl) (by simp) ?_
        refine AllReadyH.cons rfl (fun K hK => ?_) AllReadyH.nil
        go_simp
        clear xx xy HB HQD HRD HBD
        generalize w5.setCell ⟨w.heap.size + 1, 3, none⟩ (.int .i64 (min y.k (mostD true z))) = w6 at *
        have HB := Lib.hid (show w6.cell? ⟨w.heap.size + 1, 0, none⟩ = some (.bool true) ∧ w6.cell? ⟨w.heap.size + 1, 1, none⟩ = some (.bool z) from ⟨HQ5.out.cell 0 rfl, HQ5.out.cell 1 rfl⟩)
        refine hK.out _ _ HB.out (fun _ => ?_)
        clear hK K
        refine wpAnyH_done (by kernel_rfl) ?_ _
        have p0 := HQ5.out.cell 0 rfl
        have p1 := HQ5.out.cell 1 rfl
        have p2 := HQ5.out.cell 2 rfl
        have p3 := HQ5.out.cell 3 rfl
        have p4 := HQ5.out.cell 4 rfl
        have p5 := HQ5.out.cell 5 rfl
        obtain ⟨q0, t0, -⟩ := HR5.out.get 0 rfl
        obtain ⟨q1, t1, -⟩ := HR5.out.get 1 rfl
        obtain ⟨q2, t2, -⟩ := HR5.out.get 2 rfl
        obtain ⟨q3, t3, -⟩ := HR5.out.get 3 rfl
        obtain ⟨q4, t4, -⟩ := HR5.out.get 4 rfl
        obtain ⟨q5, t5, -⟩ := HR5.out.get 5 rfl
        have HRE := Lib.hid (show res = ⟨true, z, y.n1, min y.k (mostD true z), y.t1, y.n2⟩ from by rw [HRES.out, HZ.out])
        generalize min y.k (mostD true z) = mk at *
        go_wp2_with fail
        have hS := HR5.out.set6 (.bool true) (.bool z) (.int .i64 y.n1) (.int .i64 mk) (.int .i64 y.t1) (.int .i64 y.n2)
        have hBB := set6_below (m := w.heap.size) HB5.out (Nat.le_refl _) (.bool true) (.bool z) (.int .i64 y.n1) (.int .i64 mk) (.int .i64 y.t1) (.int .i64 y.n2)
        rw [HRE.out]
        exact bodyPost_ret (v := .agg #[.bool true, .bool z, .int .i64 y.n1, .int .i64 mk, .int .i64 y.t1, .int .i64 y.n2]) (by simp [results, Tryz.results177, go_sem, hS.cell 0 rfl, hS.cell 1 rfl, hS.cell 2 rfl, hS.cell 3 rfl, hS.cell 4 rfl, hS.cell 5 rfl]) rfl ⟨rfl, hBB⟩
  · rw [if_neg hag] at hres2
    have hag' : rightX s.agreed.wide s.agreed.srej s.agreed.n1 s.agreed.k s.agreed.t1 s.agreed.n2 = false := by
      unfold Xq.ok at hag
      simpa using hag
    rw [hag'] at HXR
    clear hag hag'
    go_upto_region 3 with (first
      | (go_at_call 66; (with_reducible refine (HXR.out _).mono ?_); rintro e w2 ⟨rfl, hb⟩; have HB2 := Lib.hid (HB1.out.trans (hb.mono HB1.out.size)); have HS2 := Lib.hid (show w.heap.size + 2 ≤ w2.heap.size from HS1.out ▸ hb.size); have HRR2 := Lib.hid (HRR.out.below hb); have HRP2 := Lib.hid (HRP.out.below hb); have HL2 := Lib.hid (HR.out.below (HB1.out.trans (hb.mono HB1.out.size))); clear hb d0 d1 d2 d3 d4 d5))
    have a0 := HL2.out.cell 23 rfl
    have a1 := HL2.out.cell 24 rfl
    have a2 := HL2.out.cell 25 rfl
    have a3 := HL2.out.cell 26 rfl
    have a4 := HL2.out.cell 27 rfl
    have a5 := HL2.out.cell 28 rfl
    obtain ⟨x0, y0, -⟩ := HRP2.out.get 0 rfl
    obtain ⟨x1, y1, -⟩ := HRP2.out.get 1 rfl
    obtain ⟨x2, y2, -⟩ := HRP2.out.get 2 rfl
    obtain ⟨x3, y3, -⟩ := HRP2.out.get 3 rfl
    obtain ⟨x4, y4, -⟩ := HRP2.out.get 4 rfl
    obtain ⟨x5, y5, -⟩ := HRP2.out.get 5 rfl
    go_upto_region 4 with fail
    clear x0 x1 x2 x3 x4 x5 y0 y1 y2 y3 y4 y5 a0 a1 a2 a3 a4 a5
    have HQP := Lib.hid (HRP2.out.set6 (.bool s.can.wide) (.bool s.can.srej) (.int .i64 s.can.n1) (.int .i64 s.can.k) (.int .i64 s.can.t1) (.int .i64 s.can.n2))
    have HRR3 := Lib.hid ((((((HRR2.out.other (g := w.heap.size + 1) (p := 0) (.bool s.can.wide) (by omega)).other (g := w.heap.size + 1) (p := 1) (.bool s.can.srej) (by omega)).other (g := w.heap.size + 1) (p := 2) (.int .i64 s.can.n1) (by omega)).other (g := w.heap.size + 1) (p := 3) (.int .i64 s.can.k) (by omega)).other (g := w.heap.size + 1) (p := 4) (.int .i64 s.can.t1) (by omega)).other (g := w.heap.size + 1) (p := 5) (.int .i64 s.can.n2) (by omega))
    have HB3 := Lib.hid (set6_below (m := w.heap.size + 1) HB2.out (by omega) (.bool s.can.wide) (.bool s.can.srej) (.int .i64 s.can.n1) (.int .i64 s.can.k) (.int .i64 s.can.t1) (.int .i64 s.can.n2))
    have HS3 := Lib.hid (show w.heap.size + 2 ≤ (((((((w2.setCell ⟨(w.heap.size + 1), 0, none⟩ (.bool s.can.wide)).setCell ⟨(w.heap.size + 1), 1, none⟩ (.bool s.can.srej)).setCell ⟨(w.heap.size + 1), 2, none⟩ (.int .i64 s.can.n1)).setCell ⟨(w.heap.size + 1), 3, none⟩ (.int .i64 s.can.k)).setCell ⟨(w.heap.size + 1), 4, none⟩ (.int .i64 s.can.t1)).setCell ⟨(w.heap.size + 1), 5, none⟩ (.int .i64 s.can.n2))).heap.size by have := HS2.out; simpa [World.setCell] using this)
    clear HRR2 HB2 HS2 HRP2 HXR HL2
    generalize ((((((w2.setCell ⟨(w.heap.size + 1), 0, none⟩ (.bool s.can.wide)).setCell ⟨(w.heap.size + 1), 1, none⟩ (.bool s.can.srej)).setCell ⟨(w.heap.size + 1), 2, none⟩ (.int .i64 s.can.n1)).setCell ⟨(w.heap.size + 1), 3, none⟩ (.int .i64 s.can.k)).setCell ⟨(w.heap.size + 1), 4, none⟩ (.int .i64 s.can.t1)).setCell ⟨(w.heap.size + 1), 5, none⟩ (.int .i64 s.can.n2)) = w3 at *
    generalize s.can = y at *
    obtain ⟨x0, y0, -⟩ := HQP.out.get 0 rfl
    obtain ⟨x1, y1, -⟩ := HQP.out.get 1 rfl
    obtain ⟨z, hz⟩ : ∃ z, z = (wide && y.srej) := ⟨_, rfl⟩
    have HZ := Lib.hid hz
    have HQ4 := Lib.hid ((((Rw.start HQP.out).set 0 (.bool wide)).set 1 (.bool z)))
    have HR4 := Lib.hid ((HRR3.out.other (g := w.heap.size + 1) (p := 0) (.bool wide) (by omega)).other (g := w.heap.size + 1) (p := 1) (.bool z) (by omega))
    have HRES := Lib.hid hres2
    cases wide
    · have hzf : z = false := by rw [hz]; rfl
      subst hzf
      clear hz
      go_upto_region 5 with fail
      have HB4 := Lib.hid (HQ4.out.turn.below' HB3.out (by omega))
      have HQR4 := Lib.hid (show RowAt _ (w.heap.size + 1) [.bool false, .bool false, .int .i64 y.n1, .int .i64 y.k, .int .i64 y.t1, .int .i64 y.n2] from HQ4.out.row)
      clear x0 y0 x1 y1 hres2 HQ4
      generalize ((w3.setCell ⟨w.heap.size + 1, 0, none⟩ (.bool false)).setCell ⟨w.heap.size + 1, 1, none⟩ (.bool false)) = w4 at *
      refine wp_region_held (S := fun W' => W'.cell? ⟨w.heap.size + 1, 0, none⟩ = some (.bool false) ∧ W'.cell? ⟨w.heap.size + 1, 1, none⟩ = some (.bool false)) (by kernel_rfl) ?_
      change wpAnyH _ _ _ _ _ _ _ _ (World.drew _)
      have HB := Lib.hid (show w4.drew.cell? ⟨w.heap.size + 1, 0, none⟩ = some (.bool false) ∧ w4.drew.cell? ⟨w.heap.size + 1, 1, none⟩ = some (.bool false) from ⟨HQR4.out.drew.cell 0 rfl, HQR4.out.drew.cell 1 rfl⟩)
      refine wpAnyH_take (i := 0) (v := ?_) rfl (by kernel_rfl) (by kernel_rfl) (by kernel_rfl) (fun _ _ _ h => h) (Or.inl ⟨by rfl, ?_⟩) HB.out ?_
      rotate_left
      · intro w' hw'
        go_simp
        with_reducible rfl
      go_simp
      refine wpAnyH_take (i := 2) (v := ?_) rfl (by kernel_rfl) (by kernel_rfl) (by kernel_rfl) (fun _ _ _ h => h) (Or.inl ⟨by rfl, ?_⟩) HB.out ?_
      rotate_left
      · intro w' hw'
        go_simp
        with_reducible rfl
      go_simp
      refine wpAnyH_take (i := 4) (v := ?_) rfl (by kernel_rfl) (by kernel_rfl) (by kernel_rfl) (fun _ _ _ h => h) (Or.inl ⟨by rfl, ?_⟩) HB.out ?_
      rotate_left
      · intro w' hw'
        go_simp
        with_reducible rfl
      go_simp
      refine wpAnyH_take (i := 3) (v := ?_) rfl (by kernel_rfl) (by kernel_rfl) (by kernel_rfl) (fun _ _ _ h => h) (Or.inl ⟨by rfl, ?_⟩) HB.out ?_
      rotate_left
      · intro w' hw'
        have xx := hw'.1
        go_simp
        with_reducible rfl
      go_simp
      refine wpAnyH_take (i := 5) (v := ?_) rfl (by kernel_rfl) (by kernel_rfl) (by kernel_rfl) (fun _ _ _ h => h) (Or.inl ⟨by rfl, ?_⟩) HB.out ?_
      rotate_left
      · intro w' hw'
        have xx := hw'.2
        go_simp
        with_reducible rfl
      go_simp
      refine wpAnyH_ready (rs := [1, 6]) (by kernel_rfl) (by simp) ?_
      refine AllReadyH.cons rfl (fun K hK => ?_) (AllReadyH.cons rfl (fun K hK => ?_) AllReadyH.nil)
      · have xx : w4.drew.cell? ⟨w.heap.size + 1, 3, none⟩ = some (.int .i64 y.k) := HQR4.out.drew.cell 3 rfl
        go_simp
        clear xx
        refine hK.out _ _ HB.out (fun _ => ?_)
        clear hK K
        refine wpAnyH_ready (rs := [6]) (by kernel_rfl) (by simp) ?_
        refine AllReadyH.cons rfl (fun K hK => ?_) AllReadyH.nil
        go_simp
        go_at_call 118
        refine (HMO.out _ _).mono ?_
        rintro e w5 ⟨rfl, rfl⟩
        change K _ _
        refine hK.out _ _ HB.out (fun _ => ?_)
        clear hK K
        have HQD := Lib.hid HQR4.out.drew
        have HRD := Lib.hid HR4.out.drew
        have HBD := Lib.hid HB4.out.drew
        clear HQR4 HR4 HB4
        generalize w4.drew = w5 at *
        refine wpAnyH_ready (rs := [7]) (by kernel_rfl) (by simp) ?_
        refine AllReadyH.cons rfl (fun K hK => ?_) AllReadyH.nil
        go_simp
        refine hK.out _ _ HB.out (fun _ => ?_)
        clear hK K
        refine wpAnyH_take (i := 8) (v := ?_) rfl (by kernel_rfl) (by kernel_rfl) (by kernel_rfl) (fun _ _ _ h => h) (Or.inl ⟨by rfl, ?_⟩) HB.out ?_
        rotate_left
        · intro w' hw'
          go_simp
          with_reducible rfl
        go_simp
        have HQ5 := Lib.hid (HQD.out.put 3 (.int .i64 (min y.k (mostD false false))) [.bool false, .bool false, .int .i64 y.n1, .int .i64 (min y.k (mostD false false)), .int .i64 y.t1, .int .i64 y.n2] rfl)
        have HR5 := Lib.hid (HRD.out.other (g := w.heap.size + 1) (p := 3) (.int .i64 (min y.k (mostD false false))) (by omega))
        have HB5 := Lib.hid (HBD.out.setCell (p := ⟨w.heap.size + 1, 3, none⟩) (by simp) (.int .i64 (min y.k (mostD false false))))
        obtain ⟨xx, xy, -⟩ := HQD.out.get 3 rfl
        refine wpAnyH_ready (rs := [9]) (by kernel_rfl) (by simp) ?_
        refine AllReadyH.cons rfl (fun K hK => ?_) AllReadyH.nil
        go_simp
        clear xx xy HB HQD HRD HBD
        generalize w5.setCell ⟨w.heap.size + 1, 3, none⟩ (.int .i64 (min y.k (mostD false false))) = w6 at *
        have HB := Lib.hid (show w6.cell? ⟨w.heap.size + 1, 0, none⟩ = some (.bool false) ∧ w6.cell? ⟨w.heap.size + 1, 1, none⟩ = some (.bool false) from ⟨HQ5.out.cell 0 rfl, HQ5.out.cell 1 rfl⟩)
        refine hK.out _ _ HB.out (fun _ => ?_)
        clear hK K
        refine wpAnyH_done (by kernel_rfl) ?_ _
        have p0 := HQ5.out.cell 0 rfl
        have p1 := HQ5.out.cell 1 rfl
        have p2 := HQ5.out.cell 2 rfl
        have p3 := HQ5.out.cell 3 rfl
        have p4 := HQ5.out.cell 4 rfl
        have p5 := HQ5.out.cell 5 rfl
        obtain ⟨q0, t0, -⟩ := HR5.out.get 0 rfl
        obtain ⟨q1, t1, -⟩ := HR5.out.get 1 rfl
        obtain ⟨q2, t2, -⟩ := HR5.out.get 2 rfl
        obtain ⟨q3, t3, -⟩ := HR5.out.get 3 rfl
        obtain ⟨q4, t4, -⟩ := HR5.out.get 4 rfl
        obtain ⟨q5, t5, -⟩ := HR5.out.get 5 rfl
        have HRE := Lib.hid (show res = ⟨false, false, y.n1, min y.k (mostD false false), y.t1, y.n2⟩ from HRES.out)
        generalize min y.k (mostD false false) = mk at *
        go_wp2_with fail
        have hS := HR5.out.set6 (.bool false) (.bool false) (.int .i64 y.n1) (.int .i64 mk) (.int .i64 y.t1) (.int .i64 y.n2)
        have hBB := set6_below (m := w.heap.size) HB5.out (Nat.le_refl _) (.bool false) (.bool false) (.int .i64 y.n1) (.int .i64 mk) (.int .i64 y.t1) (.int .i64 y.n2)
        rw [HRE.out]
        exact bodyPost_ret (v := .agg #[.bool false, .bool false, .int .i64 y.n1, .int .i64 mk, .int .i64 y.t1, .int .i64 y.n2]) (by simp [results, Tryz.results177, go_sem, hS.cell 0 rfl, hS.cell 1 rfl, hS.cell 2 rfl, hS.cell 3 rfl, hS.cell 4 rfl, hS.cell 5 rfl]) rfl ⟨rfl, hBB⟩
      · go_simp
        go_at_call 118
        refine (HMO.out _ _).mono ?_
        rintro e w5 ⟨rfl, rfl⟩
        change K _ _
        refine hK.out _ _ HB.out (fun _ => ?_)
        clear hK K
        have xx : w4.drew.cell? ⟨w.heap.size + 1, 3, none⟩ = some (.int .i64 y.k) := HQR4.out.drew.cell 3 rfl
        refine wpAnyH_ready (rs := [1]) (by kernel_rfl) (by simp) ?_
        refine AllReadyH.cons rfl (fun K hK => ?_) AllReadyH.nil
        go_simp
        clear xx
        refine hK.out _ _ HB.out (fun _ => ?_)
        clear hK K
        have HQD := Lib.hid HQR4.out.drew
        have HRD := Lib.hid HR4.out.drew
        have HBD := Lib.hid HB4.out.drew
        clear HQR4 HR4 HB4
        generalize w4.drew = w5 at *
        refine wpAnyH_ready (rs := [7]) (by kernel_rfl) (by simp) ?_
        refine AllReadyH.cons rfl (fun K hK => ?_) AllReadyH.nil
        go_simp
        refine hK.out _ _ HB.out (fun _ => ?_)
        clear hK K
        refine wpAnyH_take (i := 8) (v := ?_) rfl (by kernel_rfl) (by kernel_rfl) (by kernel_rfl) (fun _ _ _ h => h) (Or.inl ⟨by rfl, ?_⟩) HB.out ?_
        rotate_left
        · intro w' hw'
          go_simp
          with_reducible rfl
        go_simp
        have HQ5 := Lib.hid (HQD.out.put 3 (.int .i64 (min y.k (mostD false false))) [.bool false, .bool false, .int .i64 y.n1, .int .i64 (min y.k (mostD false false)), .int .i64 y.t1, .int .i64 y.n2] rfl)
        have HR5 := Lib.hid (HRD.out.other (g := w.heap.size + 1) (p := 3) (.int .i64 (min y.k (mostD false false))) (by omega))
        have HB5 := Lib.hid (HBD.out.setCell (p := ⟨w.heap.size + 1, 3, none⟩) (by simp) (.int .i64 (min y.k (mostD false false))))
        obtain ⟨xx, xy, -⟩ := HQD.out.get 3 rfl
        refine wpAnyH_ready (rs := [9]) (by kernel_rfl) (by simp) ?_
        refine AllReadyH.cons rfl (fun K hK => ?_) AllReadyH.nil
        go_simp
        clear xx xy HB HQD HRD HBD
        generalize w5.setCell ⟨w.heap.size + 1, 3, none⟩ (.int .i64 (min y.k (mostD false false))) = w6 at *
        have HB := Lib.hid (show w6.cell? ⟨w.heap.size + 1, 0, none⟩ = some (.bool false) ∧ w6.cell? ⟨w.heap.size + 1, 1, none⟩ = some (.bool false) from ⟨HQ5.out.cell 0 rfl, HQ5.out.cell 1 rfl⟩)
        refine hK.out _ _ HB.out (fun _ => ?_)
        clear hK K
        refine wpAnyH_done (by kernel_rfl) ?_ _
        have p0 := HQ5.out.cell 0 rfl
        have p1 := HQ5.out.cell 1 rfl
        have p2 := HQ5.out.cell 2 rfl
        have p3 := HQ5.out.cell 3 rfl
        have p4 := HQ5.out.cell 4 rfl
        have p5 := HQ5.out.cell 5 rfl
        obtain ⟨q0, t0, -⟩ := HR5.out.get 0 rfl
        obtain ⟨q1, t1, -⟩ := HR5.out.get 1 rfl
        obtain ⟨q2, t2, -⟩ := HR5.out.get 2 rfl
        obtain ⟨q3, t3, -⟩ := HR5.out.get 3 rfl
        obtain ⟨q4, t4, -⟩ := HR5.out.get 4 rfl
        obtain ⟨q5, t5, -⟩ := HR5.out.get 5 rfl
        have HRE := Lib.hid (show res = ⟨false, false, y.n1, min y.k (mostD false false), y.t1, y.n2⟩ from HRES.out)
        generalize min y.k (mostD false false) = mk at *
        go_wp2_with fail
        have hS := HR5.out.set6 (.bool false) (.bool false) (.int .i64 y.n1) (.int .i64 mk) (.int .i64 y.t1) (.int .i64 y.n2)
        have hBB := set6_below (m := w.heap.size) HB5.out (Nat.le_refl _) (.bool false) (.bool false) (.int .i64 y.n1) (.int .i64 mk) (.int .i64 y.t1) (.int .i64 y.n2)
        rw [HRE.out]
        exact bodyPost_ret (v := .agg #[.bool false, .bool false, .int .i64 y.n1, .int .i64 mk, .int .i64 y.t1, .int .i64 y.n2]) (by simp [results, Tryz.results177, go_sem, hS.cell 0 rfl, hS.cell 1 rfl, hS.cell 2 rfl, hS.cell 3 rfl, hS.cell 4 rfl, hS.cell 5 rfl]) rfl ⟨rfl, hBB⟩
    · have hzt : y.srej = z := by rw [hz]; rfl
      rw [hzt] at x1
      clear hz hzt
      go_upto_region 5 with fail
      have HB4 := Lib.hid (HQ4.out.turn.below' HB3.out (by omega))
      have HQR4 := Lib.hid (show RowAt _ (w.heap.size + 1) [.bool true, .bool z, .int .i64 y.n1, .int .i64 y.k, .int .i64 y.t1, .int .i64 y.n2] from HQ4.out.row)
      clear x0 y0 x1 y1 hres2 HQ4
      generalize ((w3.setCell ⟨w.heap.size + 1, 0, none⟩ (.bool true)).setCell ⟨w.heap.size + 1, 1, none⟩ (.bool z)) = w4 at *
      refine wp_region_held (S := fun W' => W'.cell? ⟨w.heap.size + 1, 0, none⟩ = some (.bool true) ∧ W'.cell? ⟨w.heap.size + 1, 1, none⟩ = some (.bool z)) (by kernel_rfl) ?_
      change wpAnyH _ _ _ _ _ _ _ _ (World.drew _)
      have HB := Lib.hid (show w4.drew.cell? ⟨w.heap.size + 1, 0, none⟩ = some (.bool true) ∧ w4.drew.cell? ⟨w.heap.size + 1, 1, none⟩ = some (.bool z) from ⟨HQR4.out.drew.cell 0 rfl, HQR4.out.drew.cell 1 rfl⟩)
      refine wpAnyH_take (i := 0) (v := ?_) rfl (by kernel_rfl) (by kernel_rfl) (by kernel_rfl) (fun _ _ _ h => h) (Or.inl ⟨by rfl, ?_⟩) HB.out ?_
      rotate_left
      · intro w' hw'
        go_simp
        with_reducible rfl
      go_simp
      refine wpAnyH_take (i := 2) (v := ?_) rfl (by kernel_rfl) (by kernel_rfl) (by kernel_rfl) (fun _ _ _ h => h) (Or.inl ⟨by rfl, ?_⟩) HB.out ?_
      rotate_left
      · intro w' hw'
        go_simp
        with_reducible rfl
      go_simp
      refine wpAnyH_take (i := 4) (v := ?_) rfl (by kernel_rfl) (by kernel_rfl) (by kernel_rfl) (fun _ _ _ h => h) (Or.inl ⟨by rfl, ?_⟩) HB.out ?_
      rotate_left
      · intro w' hw'
        go_simp
        with_reducible rfl
      go_simp
      refine wpAnyH_take (i := 3) (v := ?_) rfl (by kernel_rfl) (by kernel_rfl) (by kernel_rfl) (fun _ _ _ h => h) (Or.inl ⟨by rfl, ?_⟩) HB.out ?_
      rotate_left
      · intro w' hw'
        have xx := hw'.1
        go_simp
        with_reducible rfl
      go_simp
      refine wpAnyH_take (i := 5) (v := ?_) rfl (by kernel_rfl) (by kernel_rfl) (by kernel_rfl) (fun _ _ _ h => h) (Or.inl ⟨by rfl, ?_⟩) HB.out ?_
      rotate_left
      · intro w' hw'
        have xx := hw'.2
        go_simp
        with_reducible rfl
      go_simp
      refine wpAnyH_ready (rs := [1, 6]) (by kernel_rfl) (by simp) ?_
      refine AllReadyH.cons rfl (fun K hK => ?_) (AllReadyH.cons rfl (fun K hK => ?_) AllReadyH.nil)
      · have xx : w4.drew.cell? ⟨w.heap.size + 1, 3, none⟩ = some (.int .i64 y.k) := HQR4.out.drew.cell 3 rfl
        go_simp
        clear xx
        refine hK.out _ _ HB.out (fun _ => ?_)
        clear hK K
        refine wpAnyH_ready (rs := [6]) (by kernel_rfl) (by simp) ?_
        refine AllReadyH.cons rfl (fun K hK => ?_) AllReadyH.nil
        go_simp
        go_at_call 118
        refine (HMO.out _ _).mono ?_
        rintro e w5 ⟨rfl, rfl⟩
        change K _ _
        refine hK.out _ _ HB.out (fun _ => ?_)
        clear hK K
        have HQD := Lib.hid HQR4.out.drew
        have HRD := Lib.hid HR4.out.drew
        have HBD := Lib.hid HB4.out.drew
        clear HQR4 HR4 HB4
        generalize w4.drew = w5 at *
        refine wpAnyH_ready (rs := [7]) (by kernel_rfl) (by simp) ?_
        refine AllReadyH.cons rfl (fun K hK => ?_) AllReadyH.nil
        go_simp
        refine hK.out _ _ HB.out (fun _ => ?_)
        clear hK K
        refine wpAnyH_take (i := 8) (v := ?_) rfl (by kernel_rfl) (by kernel_rfl) (by kernel_rfl) (fun _ _ _ h => h) (Or.inl ⟨by rfl, ?_⟩) HB.out ?_
        rotate_left
        · intro w' hw'
          go_simp
          with_reducible rfl
        go_simp
        have HQ5 := Lib.hid (HQD.out.put 3 (.int .i64 (min y.k (mostD true z))) [.bool true, .bool z, .int .i64 y.n1, .int .i64 (min y.k (mostD true z)), .int .i64 y.t1, .int .i64 y.n2] rfl)
        have HR5 := Lib.hid (HRD.out.other (g := w.heap.size + 1) (p := 3) (.int .i64 (min y.k (mostD true z))) (by omega))
        have HB5 := Lib.hid (HBD.out.setCell (p := ⟨w.heap.size + 1, 3, none⟩) (by simp) (.int .i64 (min y.k (mostD true z))))
        obtain ⟨xx, xy, -⟩ := HQD.out.get 3 rfl
        refine wpAnyH_ready (rs := [9]) (by kernel_rfl) (by simp) ?_
        refine AllReadyH.cons rfl (fun K hK => ?_) AllReadyH.nil
        go_simp
        clear xx xy HB HQD HRD HBD
        generalize w5.setCell ⟨w.heap.size + 1, 3, none⟩ (.int .i64 (min y.k (mostD true z))) = w6 at *
        have HB := Lib.hid (show w6.cell? ⟨w.heap.size + 1, 0, none⟩ = some (.bool true) ∧ w6.cell? ⟨w.heap.size + 1, 1, none⟩ = some (.bool z) from ⟨HQ5.out.cell 0 rfl, HQ5.out.cell 1 rfl⟩)
        refine hK.out _ _ HB.out (fun _ => ?_)
        clear hK K
        refine wpAnyH_done (by kernel_rfl) ?_ _
        have p0 := HQ5.out.cell 0 rfl
        have p1 := HQ5.out.cell 1 rfl
        have p2 := HQ5.out.cell 2 rfl
        have p3 := HQ5.out.cell 3 rfl
        have p4 := HQ5.out.cell 4 rfl
        have p5 := HQ5.out.cell 5 rfl
        obtain ⟨q0, t0, -⟩ := HR5.out.get 0 rfl
        obtain ⟨q1, t1, -⟩ := HR5.out.get 1 rfl
        obtain ⟨q2, t2, -⟩ := HR5.out.get 2 rfl
        obtain ⟨q3, t3, -⟩ := HR5.out.get 3 rfl
        obtain ⟨q4, t4, -⟩ := HR5.out.get 4 rfl
        obtain ⟨q5, t5, -⟩ := HR5.out.get 5 rfl
        have HRE := Lib.hid (show res = ⟨true, z, y.n1, min y.k (mostD true z), y.t1, y.n2⟩ from by rw [HRES.out, HZ.out])
        generalize min y.k (mostD true z) = mk at *
        go_wp2_with fail
        have hS := HR5.out.set6 (.bool true) (.bool z) (.int .i64 y.n1) (.int .i64 mk) (.int .i64 y.t1) (.int .i64 y.n2)
        have hBB := set6_below (m := w.heap.size) HB5.out (Nat.le_refl _) (.bool true) (.bool z) (.int .i64 y.n1) (.int .i64 mk) (.int .i64 y.t1) (.int .i64 y.n2)
        rw [HRE.out]
        exact bodyPost_ret (v := .agg #[.bool true, .bool z, .int .i64 y.n1, .int .i64 mk, .int .i64 y.t1, .int .i64 y.n2]) (by simp [results, Tryz.results177, go_sem, hS.cell 0 rfl, hS.cell 1 rfl, hS.cell 2 rfl, hS.cell 3 rfl, hS.cell 4 rfl, hS.cell 5 rfl]) rfl ⟨rfl, hBB⟩
      · go_simp
        go_at_call 118
        refine (HMO.out _ _).mono ?_
        rintro e w5 ⟨rfl, rfl⟩
        change K _ _
        refine hK.out _ _ HB.out (fun _ => ?_)
        clear hK K
        have xx : w4.drew.cell? ⟨w.heap.size + 1, 3, none⟩ = some (.int .i64 y.k) := HQR4.out.drew.cell 3 rfl
        refine wpAnyH_ready (rs := [1]) (by kernel_rfl) (by simp) ?_
        refine AllReadyH.cons rfl (fun K hK => ?_) AllReadyH.nil
        go_simp
        clear xx
        refine hK.out _ _ HB.out (fun _ => ?_)
        clear hK K
        have HQD := Lib.hid HQR4.out.drew
        have HRD := Lib.hid HR4.out.drew
        have HBD := Lib.hid HB4.out.drew
        clear HQR4 HR4 HB4
        generalize w4.drew = w5 at *
        refine wpAnyH_ready (rs := [7]) (by kernel_rfl) (by simp) ?_
        refine AllReadyH.cons rfl (fun K hK => ?_) AllReadyH.nil
        go_simp
        refine hK.out _ _ HB.out (fun _ => ?_)
        clear hK K
        refine wpAnyH_take (i := 8) (v := ?_) rfl (by kernel_rfl) (by kernel_rfl) (by kernel_rfl) (fun _ _ _ h => h) (Or.inl ⟨by rfl, ?_⟩) HB.out ?_
        rotate_left
        · intro w' hw'
          go_simp
          with_reducible rfl
        go_simp
        have HQ5 := Lib.hid (HQD.out.put 3 (.int .i64 (min y.k (mostD true z))) [.bool true, .bool z, .int .i64 y.n1, .int .i64 (min y.k (mostD true z)), .int .i64 y.t1, .int .i64 y.n2] rfl)
        have HR5 := Lib.hid (HRD.out.other (g := w.heap.size + 1) (p := 3) (.int .i64 (min y.k (mostD true z))) (by omega))
        have HB5 := Lib.hid (HBD.out.setCell (p := ⟨w.heap.size + 1, 3, none⟩) (by simp) (.int .i64 (min y.k (mostD true z))))
        obtain ⟨xx, xy, -⟩ := HQD.out.get 3 rfl
        refine wpAnyH_ready (rs := [9]) (by kernel_rfl) (by simp) ?_
        refine AllReadyH.cons rfl (fun K hK => ?_) AllReadyH.nil
        go_simp
        clear xx xy HB HQD HRD HBD
        generalize w5.setCell ⟨w.heap.size + 1, 3, none⟩ (.int .i64 (min y.k (mostD true z))) = w6 at *
        have HB := Lib.hid (show w6.cell? ⟨w.heap.size + 1, 0, none⟩ = some (.bool true) ∧ w6.cell? ⟨w.heap.size + 1, 1, none⟩ = some (.bool z) from ⟨HQ5.out.cell 0 rfl, HQ5.out.cell 1 rfl⟩)
        refine hK.out _ _ HB.out (fun _ => ?_)
        clear hK K
        refine wpAnyH_done (by kernel_rfl) ?_ _
        have p0 := HQ5.out.cell 0 rfl
        have p1 := HQ5.out.cell 1 rfl
        have p2 := HQ5.out.cell 2 rfl
        have p3 := HQ5.out.cell 3 rfl
        have p4 := HQ5.out.cell 4 rfl
        have p5 := HQ5.out.cell 5 rfl
        obtain ⟨q0, t0, -⟩ := HR5.out.get 0 rfl
        obtain ⟨q1, t1, -⟩ := HR5.out.get 1 rfl
        obtain ⟨q2, t2, -⟩ := HR5.out.get 2 rfl
        obtain ⟨q3, t3, -⟩ := HR5.out.get 3 rfl
        obtain ⟨q4, t4, -⟩ := HR5.out.get 4 rfl
        obtain ⟨q5, t5, -⟩ := HR5.out.get 5 rfl
        have HRE := Lib.hid (show res = ⟨true, z, y.n1, min y.k (mostD true z), y.t1, y.n2⟩ from by rw [HRES.out, HZ.out])
        generalize min y.k (mostD true z) = mk at *
        go_wp2_with fail
        have hS := HR5.out.set6 (.bool true) (.bool z) (.int .i64 y.n1) (.int .i64 mk) (.int .i64 y.t1) (.int .i64 y.n2)
        have hBB := set6_below (m := w.heap.size) HB5.out (Nat.le_refl _) (.bool true) (.bool z) (.int .i64 y.n1) (.int .i64 mk) (.int .i64 y.t1) (.int .i64 y.n2)
        rw [HRE.out]
        exact bodyPost_ret (v := .agg #[.bool true, .bool z, .int .i64 y.n1, .int .i64 mk, .int .i64 y.t1, .int .i64 y.n2]) (by simp [results, Tryz.results177, go_sem, hS.cell 0 rfl, hS.cell 1 rfl, hS.cell 2 rfl, hS.cell 3 rfl, hS.cell 4 rfl, hS.cell 5 rfl]) rfl ⟨rfl, hBB⟩
end Go.Proofs.YtgoaepjjegblnaaGreatDoor
