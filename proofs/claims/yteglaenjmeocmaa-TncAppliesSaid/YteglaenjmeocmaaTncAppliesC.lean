/-
Of the statement TncApplies: the walk.
-/
import Derived.Test.YteglaenjmeocmaaTncAppliesB
import Derived.Test.YteglaenjmeocmaaTncApplyC
import Derived.Deep.RegionHeld
namespace Go.Proofs.Yteglaenjmeocmaa
open Go.RowKit Go.Sort
theorem free5_new (w : World) (T : TypeId) : Free5 (w.alloc (.cells #[.int .i64 0, .int .i64 0, .int .i64 0, .int .i64 0, .bool false] T)) w.heap.size :=
  ⟨⟨World.cell?_alloc_at _ _ _ _ rfl, World.cell?_alloc_at _ _ _ _ rfl, World.cell?_alloc_at _ _ _ _ rfl, World.cell?_alloc_at _ _ _ _ rfl, World.cell?_alloc_at _ _ _ _ rfl⟩, fun _ => World.frozen?_alloc_at _ _ _ _ rfl⟩
theorem Free5.below {w w' : World} {m : Nat} (h : Free5 w m) (hb : Below w.heap.size w w') : Free5 w' m := by
  obtain ⟨⟨h0, h1, h2, h3, h4⟩, hf⟩ := h
  have hm : m < w.heap.size := World.block_lt_of_cell? w ⟨m, 0, none⟩ h0
  exact ⟨⟨(hb.cell (p := ⟨m, 0, none⟩) hm).trans h0, (hb.cell (p := ⟨m, 1, none⟩) hm).trans h1, (hb.cell (p := ⟨m, 2, none⟩) hm).trans h2, (hb.cell (p := ⟨m, 3, none⟩) hm).trans h3, (hb.cell (p := ⟨m, 4, none⟩) hm).trans h4⟩, fun i => (hb.frozen (p := ⟨m, i, none⟩) hm).trans (hf i)⟩
theorem Free5.laid {w : World} {m : Nat} (h : Free5 w m) : Laid w m := ⟨⟨_, h.1.1⟩, ⟨_, h.1.2.1⟩, ⟨_, h.1.2.2.1⟩, ⟨_, h.1.2.2.2.1⟩, ⟨_, h.1.2.2.2.2⟩⟩
set_option maxHeartbeats 2000000 in
set_option maxRecDepth 100000 in
theorem tapplies_core (hU : UsualOk) (hA : ApplyOk) (hW : WinsOk) (hR : RightOk) (p : Par) (port cmd : Int) (s : ByteArray) (w : World) (hs : s.size ≤ 300) :
    Calls Try.prog 3 #[p.v, .agg #[.int .i64 port, .int .i64 cmd, .string s]] w fun e w' => e = .returned (.bool true) ∧ Below w.heap.size w w' := by
  have HAW := Lib.hid (fun W => tawake_any hU hA hW W)
  have HPL := Lib.hid (fun W => plain_par p W)
  have HAP := Lib.hid (fun W => hA p port cmd s W)
  have HRA := Lib.hid (fun W => rapp_any p port cmd s W)
  have HRI := Lib.hid (fun W => hR p W)
  have HRR := Lib.hid (fun W => rright_any p W)
  have HQ := Lib.hid (fun W => plain_par (appD p port cmd s.data.toList).1 W)
  obtain ⟨⟨q, e0⟩, hq⟩ : ∃ q, q = appD p port cmd s.data.toList := ⟨_, rfl⟩
  rw [← hq] at HAP HRA HQ
  clear hq hU hA hW hR
  obtain ⟨a, b, c, d, f⟩ := p
  obtain ⟨qa, qb, qc, qd, qf⟩ := q
  simp only [Par.v, parE] at HPL HAP HRA HRI HRR HQ
  generalize Par.ok ⟨a, b, c, d, f⟩ = ok at *
  show Calls Try.prog 3 #[.agg #[.int .i64 a, .int .i64 b, .int .i64 c, .int .i64 d, .bool f], .agg #[.int .i64 port, .int .i64 cmd, .string s]] w _
  go_enter Try.func3, Try.ntmps3
  go_wp2_with (first
    | (go_at_call 6; refine (HAW.out _).mono ?_; rintro e w1 ⟨rfl, hb1⟩; obtain ⟨hc1, hf1⟩ := below_cells hb1)
    | (go_at_call 7; refine (HAP.out _).mono ?_; rintro e w2 ⟨rfl, hb2⟩; obtain ⟨hc2, hf2⟩ := below_cells hb2))
  have G := cells_6 (p := ⟨a, b, c, d, f⟩) (q := ⟨qa, qb, qc, qd, qf⟩) (T3 := 23) hb1 hb2
  clear hb1 hb2 hc1 hf1 hc2 hf2
  generalize w2.alloc (.cells #[.int .i64 qa, .int .i64 qb, .int .i64 qc, .int .i64 qd, .bool qf] 23) = W at *
  obtain ⟨G1, ⟨a0, a1, a2, a3, a4⟩, ⟨f0, f1, f2⟩, ⟨q0, q1, q2, q3, q4⟩, l1, l2⟩ := G
  generalize w2.heap.size = nq at *
  obtain ⟨n, hn⟩ : ∃ n, n = w.heap.size := ⟨_, rfl⟩
  rw [← hn] at a0 a1 a2 a3 a4 f0 f1 f2 l1 ⊢
  have HN := Lib.hid hn
  have HG := Lib.hid G1
  clear hn G1
  have C : Hid (Stay W n nq ⟨a, b, c, d, f⟩ ⟨qa, qb, qc, qd, qf⟩ port cmd s) := Lib.hid ⟨⟨⟨a0, a1, a2, a3, a4⟩, ⟨f0, f1, f2⟩, ⟨q0, q1, q2, q3, q4⟩⟩, l1, l2⟩
  have l0 : n < W.heap.size := by omega
  rename_i K₁ hK
  have rest : ∀ (m : Nat) (w' : World), Stay w' n nq ⟨a, b, c, d, f⟩ ⟨qa, qb, qc, qd, qf⟩ port cmd s → ParAt w' m ⟨qa, qb, qc, qd, qf⟩ → Below W.heap.size W w' → K₁ { tmps := #[.agg #[.int .i64 a, .int .i64 b, .int .i64 c, .int .i64 d, .bool f], .agg #[.int .i64 port, .int .i64 cmd, .string s], .pointer (some ⟨n, 0, none⟩), .pointer (some ⟨n + 1, 0, none⟩), .bool false, .pointer (some ⟨nq, 0, none⟩), .int .i64 e0, .pointer (some ⟨m, 0, none⟩), .int .i64 e0, .bool true, .bool false, .pointer (some ⟨n + 1, 2, none⟩), .string s, .int .i64 s.size, .bool (decide ((300 : Int) < (s.size : Int))), .tuple #[.agg #[.int .i64 qa, .int .i64 qb, .int .i64 qc, .int .i64 qd, .bool qf], .int .i64 e0], .agg #[.int .i64 a, .int .i64 b, .int .i64 c, .int .i64 d, .bool f], .agg #[.int .i64 port, .int .i64 cmd, .string s], .tuple #[.agg #[.int .i64 qa, .int .i64 qb, .int .i64 qc, .int .i64 qd, .bool qf], .int .i64 e0], .agg #[.int .i64 qa, .int .i64 qb, .int .i64 qc, .int .i64 qd, .bool qf], .int .i64 e0, .tuple #[.agg #[.int .i64 qa, .int .i64 qb, .int .i64 qc, .int .i64 qd, .bool qf], .int .i64 e0], .agg #[.int .i64 a, .int .i64 b, .int .i64 c, .int .i64 d, .bool f], .agg #[.int .i64 a, .int .i64 b, .int .i64 c, .int .i64 d, .bool f], .agg #[.int .i64 port, .int .i64 cmd, .string s], .tuple #[.agg #[.int .i64 qa, .int .i64 qb, .int .i64 qc, .int .i64 qd, .bool qf], .int .i64 e0], .agg #[.int .i64 qa, .int .i64 qb, .int .i64 qc, .int .i64 qd, .bool qf], .int .i64 e0, undef, undef, undef, undef, undef, undef, undef, undef, undef, undef, undef, undef, undef, undef, undef, undef, undef], defers := [] } w' := by
    intro m w' hst hm hbw
    refine hK _ _ ?_
    clear hK
    obtain ⟨⟨⟨y0, y1, y2, y3, y4⟩, _, ⟨x0, x1, x2, x3, x4⟩⟩, _, _, _⟩ := hst.cells
    obtain ⟨m0, m1, m2, m3, m4⟩ := hm
    have Y0 := fun d' os => cell_regrown y0 d' os
    have Y1 := fun d' os => cell_regrown y1 d' os
    have Y2 := fun d' os => cell_regrown y2 d' os
    have Y3 := fun d' os => cell_regrown y3 d' os
    have Y4 := fun d' os => cell_regrown y4 d' os
    have X0 := fun d' os => cell_regrown x0 d' os
    have X1 := fun d' os => cell_regrown x1 d' os
    have X2 := fun d' os => cell_regrown x2 d' os
    have X3 := fun d' os => cell_regrown x3 d' os
    have X4 := fun d' os => cell_regrown x4 d' os
    have M0 := fun d' os => cell_regrown m0 d' os
    have M1 := fun d' os => cell_regrown m1 d' os
    have M2 := fun d' os => cell_regrown m2 d' os
    have M3 := fun d' os => cell_regrown m3 d' os
    have M4 := fun d' os => cell_regrown m4 d' os
    simp only at Y0 Y1 Y2 Y3 Y4 X0 X1 X2 X3 X4 M0 M1 M2 M3 M4
    have HEQ := run_eq_four qa qb qc qd
    go_wp2
    refine wp_region_quiet_below (by kernel_rfl) (by kernel_rfl) ?_
    repeat (quiet_step (first
      | (go_at_call 9; with_reducible exact Calls.regrown_of (HQ.out _))
      | (go_at_call 9; with_reducible exact Calls.regrown_of (HPL.out _))
      | (go_at_call 10; exact Calls.regrown_of (HRI.out _))
      | (go_at_call 11; exact Calls.regrown_of (HRR.out _))))
    refine wpQuiet_nil ?_
    intro _ hw'
    obtain ⟨pg, hw''⟩ := hw'
    subst hw''
    have HE := Lib.hid (below_regrown w' pg.d pg.os)
    generalize grow (redrawn w' pg.d) pg.os = w9 at *
    go_wp2
    go_ret
    exact ⟨rfl, HG.out.trans ((hbw.trans (HE.out.mono hbw.size)).mono (by have := HG.out.size; omega))⟩
  dsimp only at rest
  have HRE := Lib.hid (fun (m : Nat) (X : World) (hX : Below W.heap.size W X) (hm : W.heap.size ≤ m) (hL : Laid X m) => rest m _ (C.out.below (close6 ⟨qa, qb, qc, qd, qf⟩ hX hm hL).2) (close6 ⟨qa, qb, qc, qd, qf⟩ hX hm hL).1 (close6 ⟨qa, qb, qc, qd, qf⟩ hX hm hL).2)
  clear rest hK
  refine wp_region_held (S := fun W' => Below W.heap.size W W') (by kernel_rfl) ?_
  change wpAnyH _ _ _ _ _ _ _ _ W.drew
  have HB := Lib.hid ((Below.refl W.heap.size W).drew)
  refine wpAnyH_take (i := 0) (v := ?_) rfl (by kernel_rfl) (by kernel_rfl) (by kernel_rfl) (fun _ _ _ h => h) (Or.inl ⟨by rfl, ?_⟩) HB.out ?_
  rotate_left
  · intro w' hw'
    obtain ⟨⟨⟨y0, y1, y2, y3, y4⟩, ⟨z0, z1, z2⟩, _⟩, _, _, _⟩ := (C.out.below hw').cells
    go_simp
    with_reducible rfl
  refine wpAnyH_take (i := 2) (v := ?_) rfl (by kernel_rfl) (by kernel_rfl) (by kernel_rfl) (fun _ _ _ h => h) (Or.inl ⟨by rfl, ?_⟩) HB.out ?_
  rotate_left
  · intro w' hw'
    obtain ⟨⟨⟨y0, y1, y2, y3, y4⟩, ⟨z0, z1, z2⟩, _⟩, _, _, _⟩ := (C.out.below hw').cells
    go_simp
    with_reducible rfl
  refine wpAnyH_ready (rs := [1, 7]) (by kernel_rfl) (by simp) ?_
  refine AllReadyH.cons rfl (fun K hK => ?_) (AllReadyH.cons rfl (fun K hK => ?_) AllReadyH.nil)
  · go_simp
    go_at_call 9
    refine (HPL.out _).mono ?_
    rintro e w3 ⟨rfl, hb⟩
    have HB := Lib.hid (below_next HB.out hb)
    change K _ _
    refine hK.out _ _ HB.out (fun _ => ?_)
    clear hK K hb
    refine wpAnyH_ready (rs := [3, 7]) (by kernel_rfl) (by simp) ?_
    refine AllReadyH.cons rfl (fun K hK => ?_) (AllReadyH.cons rfl (fun K hK => ?_) AllReadyH.nil)
    · go_simp
      go_at_call 8
      refine (HRA.out _).mono ?_
      rintro e w4 ⟨rfl, hb⟩
      have HB := Lib.hid (below_next HB.out hb)
      change K _ _
      refine hK.out _ _ HB.out (fun _ => ?_)
      clear hK K hb
      refine wpAnyH_take (i := 4) (v := ?_) rfl (by kernel_rfl) (by kernel_rfl) (by kernel_rfl) (fun _ _ _ h => h) (Or.inl ⟨by rfl, ?_⟩) HB.out ?_
      rotate_left
      · intro w' hw'
        obtain ⟨⟨⟨y0, y1, y2, y3, y4⟩, ⟨z0, z1, z2⟩, _⟩, _, _, _⟩ := (C.out.below hw').cells
        go_simp
        with_reducible rfl
      refine wpAnyH_take (i := 5) (v := ?_) rfl (by kernel_rfl) (by kernel_rfl) (by kernel_rfl) (fun _ _ _ h => h) (Or.inl ⟨by rfl, ?_⟩) HB.out ?_
      rotate_left
      · intro w' hw'
        obtain ⟨⟨⟨y0, y1, y2, y3, y4⟩, ⟨z0, z1, z2⟩, _⟩, _, _, _⟩ := (C.out.below hw').cells
        go_simp
        with_reducible rfl
      refine wpAnyH_take (i := 6) (v := ?_) rfl (by kernel_rfl) (by kernel_rfl) (by kernel_rfl) (fun _ _ _ h => h) (Or.inl ⟨by rfl, ?_⟩) HB.out ?_
      rotate_left
      · intro w' hw'
        obtain ⟨⟨⟨y0, y1, y2, y3, y4⟩, ⟨z0, z1, z2⟩, _⟩, _, _, _⟩ := (C.out.below hw').cells
        go_simp
        with_reducible rfl
      refine wpAnyH_ready (rs := [7]) (by kernel_rfl) (by simp) ?_
      refine AllReadyH.cons rfl (fun K hK => ?_) AllReadyH.nil
      go_simp
      have HM := Lib.hid (HB.out.size)
      have HL := Lib.hid (free5_new w4 32)
      have HB := Lib.hid (HB.out.alloc HB.out.size (.cells #[.int .i64 0, .int .i64 0, .int .i64 0, .int .i64 0, .bool false] 32))
      refine hK.out _ _ HB.out (fun _ => ?_)
      clear hK K
      generalize (w4.alloc (.cells #[.int .i64 0, .int .i64 0, .int .i64 0, .int .i64 0, .bool false] 32)) = X at *
      refine wpAnyH_ready (rs := [8]) (by kernel_rfl) (by simp) ?_
      refine AllReadyH.cons rfl (fun K hK => ?_) AllReadyH.nil
      obtain ⟨⟨r0, r1, r2, r3, r4⟩, kf⟩ := HL.out
      go_simp
      have HS := Lib.hid (set5_below HB.out HM.out (.int .i64 qa) (.int .i64 qb) (.int .i64 qc) (.int .i64 qd) (.bool qf))
      refine hK.out _ _ HS.out (fun _ => ?_)
      clear hK K
      refine wpAnyH_ready (rs := [9]) (by kernel_rfl) (by simp) ?_
      refine AllReadyH.cons rfl (fun K hK => ?_) AllReadyH.nil
      go_simp
      refine hK.out _ _ HS.out (fun _ => ?_)
      clear hK K
      refine wpAnyH_done (by kernel_rfl) ?_ _
      change K₁ _ _
      with_reducible exact HRE.out _ _ HB.out HM.out HL.out.laid
    · go_simp
      have HM := Lib.hid (HB.out.size)
      have HL := Lib.hid (free5_new w3 32)
      have HB := Lib.hid (HB.out.alloc HB.out.size (.cells #[.int .i64 0, .int .i64 0, .int .i64 0, .int .i64 0, .bool false] 32))
      refine hK.out _ _ HB.out (fun _ => ?_)
      clear hK K
      generalize (w3.alloc (.cells #[.int .i64 0, .int .i64 0, .int .i64 0, .int .i64 0, .bool false] 32)) = X at *
      refine wpAnyH_ready (rs := [3]) (by kernel_rfl) (by simp) ?_
      refine AllReadyH.cons rfl (fun K hK => ?_) AllReadyH.nil
      go_simp
      go_at_call 8
      refine (HRA.out _).mono ?_
      rintro e w4 ⟨rfl, hb⟩
      have HL := Lib.hid (HL.out.below hb)
      have HB := Lib.hid (below_next HB.out hb)
      change K _ _
      refine hK.out _ _ HB.out (fun _ => ?_)
      clear hK K hb
      refine wpAnyH_take (i := 4) (v := ?_) rfl (by kernel_rfl) (by kernel_rfl) (by kernel_rfl) (fun _ _ _ h => h) (Or.inl ⟨by rfl, ?_⟩) HB.out ?_
      rotate_left
      · intro w' hw'
        obtain ⟨⟨⟨y0, y1, y2, y3, y4⟩, ⟨z0, z1, z2⟩, _⟩, _, _, _⟩ := (C.out.below hw').cells
        go_simp
        with_reducible rfl
      refine wpAnyH_take (i := 5) (v := ?_) rfl (by kernel_rfl) (by kernel_rfl) (by kernel_rfl) (fun _ _ _ h => h) (Or.inl ⟨by rfl, ?_⟩) HB.out ?_
      rotate_left
      · intro w' hw'
        obtain ⟨⟨⟨y0, y1, y2, y3, y4⟩, ⟨z0, z1, z2⟩, _⟩, _, _, _⟩ := (C.out.below hw').cells
        go_simp
        with_reducible rfl
      refine wpAnyH_take (i := 6) (v := ?_) rfl (by kernel_rfl) (by kernel_rfl) (by kernel_rfl) (fun _ _ _ h => h) (Or.inl ⟨by rfl, ?_⟩) HB.out ?_
      rotate_left
      · intro w' hw'
        obtain ⟨⟨⟨y0, y1, y2, y3, y4⟩, ⟨z0, z1, z2⟩, _⟩, _, _, _⟩ := (C.out.below hw').cells
        go_simp
        with_reducible rfl
      refine wpAnyH_ready (rs := [8]) (by kernel_rfl) (by simp) ?_
      refine AllReadyH.cons rfl (fun K hK => ?_) AllReadyH.nil
      obtain ⟨⟨r0, r1, r2, r3, r4⟩, kf⟩ := HL.out
      go_simp
      have HS := Lib.hid (set5_below HB.out HM.out (.int .i64 qa) (.int .i64 qb) (.int .i64 qc) (.int .i64 qd) (.bool qf))
      refine hK.out _ _ HS.out (fun _ => ?_)
      clear hK K
      refine wpAnyH_ready (rs := [9]) (by kernel_rfl) (by simp) ?_
      refine AllReadyH.cons rfl (fun K hK => ?_) AllReadyH.nil
      go_simp
      refine hK.out _ _ HS.out (fun _ => ?_)
      clear hK K
      refine wpAnyH_done (by kernel_rfl) ?_ _
      change K₁ _ _
      with_reducible exact HRE.out _ _ HB.out HM.out HL.out.laid
  · go_simp
    have HM := Lib.hid (HB.out.size)
    have HL := Lib.hid (free5_new W.drew 32)
    have HB := Lib.hid (HB.out.alloc HB.out.size (.cells #[.int .i64 0, .int .i64 0, .int .i64 0, .int .i64 0, .bool false] 32))
    refine hK.out _ _ HB.out (fun _ => ?_)
    clear hK K
    replace HM := Lib.hid (Nat.le_refl W.heap.size)
    change Hid (Below W.heap.size W (W.alloc (.cells #[.int .i64 0, .int .i64 0, .int .i64 0, .int .i64 0, .bool false] 32)).drew) at HB
    change Hid (Free5 (W.alloc (.cells #[.int .i64 0, .int .i64 0, .int .i64 0, .int .i64 0, .bool false] 32)).drew W.heap.size) at HL
    generalize (W.alloc (.cells #[.int .i64 0, .int .i64 0, .int .i64 0, .int .i64 0, .bool false] 32)).drew = X at *
    refine wpAnyH_ready (rs := [1]) (by kernel_rfl) (by simp) ?_
    refine AllReadyH.cons rfl (fun K hK => ?_) AllReadyH.nil
    go_simp
    go_at_call 9
    refine (HPL.out _).mono ?_
    rintro e w3 ⟨rfl, hb⟩
    have HL := Lib.hid (HL.out.below hb)
    have HB := Lib.hid (below_next HB.out hb)
    change K _ _
    refine hK.out _ _ HB.out (fun _ => ?_)
    clear hK K hb
    refine wpAnyH_ready (rs := [3]) (by kernel_rfl) (by simp) ?_
    refine AllReadyH.cons rfl (fun K hK => ?_) AllReadyH.nil
    go_simp
    go_at_call 8
    refine (HRA.out _).mono ?_
    rintro e w4 ⟨rfl, hb⟩
    have HL := Lib.hid (HL.out.below hb)
    have HB := Lib.hid (below_next HB.out hb)
    change K _ _
    refine hK.out _ _ HB.out (fun _ => ?_)
    clear hK K hb
    refine wpAnyH_take (i := 4) (v := ?_) rfl (by kernel_rfl) (by kernel_rfl) (by kernel_rfl) (fun _ _ _ h => h) (Or.inl ⟨by rfl, ?_⟩) HB.out ?_
    rotate_left
    · intro w' hw'
      obtain ⟨⟨⟨y0, y1, y2, y3, y4⟩, ⟨z0, z1, z2⟩, _⟩, _, _, _⟩ := (C.out.below hw').cells
      go_simp
      with_reducible rfl
    refine wpAnyH_take (i := 5) (v := ?_) rfl (by kernel_rfl) (by kernel_rfl) (by kernel_rfl) (fun _ _ _ h => h) (Or.inl ⟨by rfl, ?_⟩) HB.out ?_
    rotate_left
    · intro w' hw'
      obtain ⟨⟨⟨y0, y1, y2, y3, y4⟩, ⟨z0, z1, z2⟩, _⟩, _, _, _⟩ := (C.out.below hw').cells
      go_simp
      with_reducible rfl
    refine wpAnyH_take (i := 6) (v := ?_) rfl (by kernel_rfl) (by kernel_rfl) (by kernel_rfl) (fun _ _ _ h => h) (Or.inl ⟨by rfl, ?_⟩) HB.out ?_
    rotate_left
    · intro w' hw'
      obtain ⟨⟨⟨y0, y1, y2, y3, y4⟩, ⟨z0, z1, z2⟩, _⟩, _, _, _⟩ := (C.out.below hw').cells
      go_simp
      with_reducible rfl
    refine wpAnyH_ready (rs := [8]) (by kernel_rfl) (by simp) ?_
    refine AllReadyH.cons rfl (fun K hK => ?_) AllReadyH.nil
    obtain ⟨⟨r0, r1, r2, r3, r4⟩, kf⟩ := HL.out
    go_simp
    have HS := Lib.hid (set5_below HB.out HM.out (.int .i64 qa) (.int .i64 qb) (.int .i64 qc) (.int .i64 qd) (.bool qf))
    refine hK.out _ _ HS.out (fun _ => ?_)
    clear hK K
    refine wpAnyH_ready (rs := [9]) (by kernel_rfl) (by simp) ?_
    refine AllReadyH.cons rfl (fun K hK => ?_) AllReadyH.nil
    go_simp
    refine hK.out _ _ HS.out (fun _ => ?_)
    clear hK K
    refine wpAnyH_done (by kernel_rfl) ?_ _
    change K₁ _ _
    with_reducible exact HRE.out _ _ HB.out HM.out HL.out.laid
end Go.Proofs.Yteglaenjmeocmaa
