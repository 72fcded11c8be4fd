/-
The landed queue: Len, Count, All, Room.
-/
import Derived.Test.YtliamhphpnifaaaTxqCSee
import Derived.Test.YtliamhphpnifaaaTxqRefK
import Derived.Lib.QuietBelow
import Derived.Deep.QuietTactic
namespace Go.Proofs.Ytliamhphpnifaaa
open Go.RowKit Go.Sort
set_option maxRecDepth 20000
set_option maxHeartbeats 1000000 in
theorem clen16_nil (w : World) : Calls Try.prog 17 #[.pointer none] w fun e w' => e = .returned (.int .i64 0) ∧ Below w.heap.size w w' := by
  have HD := Lib.hid (fun W => call16_nil W)
  go_enter Try.func17, Try.ntmps17
  go_wp2_with (go_at_call 28; (with_reducible refine (HD.out _).mono ?_); rintro e w2 ⟨rfl, rfl⟩)
  exact bodyPost_ret (v := .int .i64 0) (by simp [results, Try.results17, go_sem]) rfl ⟨rfl, Below.refl _ _⟩
set_option maxHeartbeats 1000000 in
theorem clen16 (q : Nat) (S : List Ent) (F : Nat → Prop) (w : World) (h : QuL w q S F) : Calls Try.prog 17 #[ptrQ q] w fun e w' => e = .returned (.int .i64 (S.length : Nat)) ∧ Below w.heap.size w w' := by
  have HD := Lib.hid (call16_any q S F w h)
  clear h
  go_enter Try.func17, Try.ntmps17
  go_wp2_with (go_at_call 28; (with_reducible refine HD.out.mono ?_); rintro e w2 ⟨v, rfl, ho, hb⟩; obtain ⟨va, vc, rfl⟩ := ho.form16; clear ho)
  exact bodyPost_ret (v := .int .i64 (S.length : Nat)) (by simp [results, Try.results17, go_sem]) rfl ⟨rfl, hb⟩
set_option maxHeartbeats 1000000 in
theorem ccount16_nil (k : Int) (w : World) : Calls Try.prog 18 #[.pointer none, .int .i64 k] w fun e w' => e = .returned (.int .i64 0) ∧ Below w.heap.size w w' := by
  have HD := Lib.hid (fun W => call16_nil W)
  go_enter Try.func18, Try.ntmps18
  go_wp2_with (go_at_call 28; (with_reducible refine (HD.out _).mono ?_); rintro e w2 ⟨rfl, rfl⟩)
  go_loopw [5, 11] (fun nv iv wx => iv = .int .i64 0 ∧ nv = .int .i64 0 ∧ w2 = wx) (fun _ _ _ => 0)
  case atStart => exact ⟨rfl, rfl, by first | rfl | trivial⟩
  case round =>
    obtain ⟨rfl, rfl, rfl⟩ := hrel
    go_wp2_with fail
    exact bodyPost_ret (v := .int .i64 0) (by simp [results, Try.results18, go_sem]) rfl ⟨rfl, Below.refl _ _⟩
theorem cnt_next (k : Int) (L : List Ent) (i : Nat) (hi : i < L.length) : cntK [k] (L.take (i + 1)) = cntK [k] (L.take i) + if L[i].key = k then 1 else 0 := by
  unfold cntK
  rw [List.take_succ_eq_append_getElem hi, List.countP_append]
  congr 1
  by_cases h : L[i].key = k <;> simp [h]
set_option maxHeartbeats 1000000 in
theorem ccount16 (k : Int) (q : Nat) (S : List Ent) (F : Nat → Prop) (w : World) (h : QuL w q S F) : Calls Try.prog 18 #[ptrQ q, .int .i64 k] w fun e w' => e = .returned (.int .i64 (cntK [k] S : Nat)) ∧ Below w.heap.size w w' := by
  have HD := Lib.hid (call16_any q S F w h)
  obtain ⟨n, hn⟩ : ∃ n, S.length = n := ⟨_, rfl⟩
  have hl : n ≤ 16 := hn ▸ (quL_ok h).many
  have HN := Lib.hid hn
  obtain ⟨r, hr⟩ : ∃ r, cntK [k] S = r := ⟨_, rfl⟩
  have HR := Lib.hid hr
  rw [hr]
  clear h hn hr
  go_enter Try.func18, Try.ntmps18
  go_wp2_with (go_at_call 28; (with_reducible refine HD.out.mono ?_); rintro e w1 ⟨v, rfl, ho, hb⟩; have HO := Lib.hid ho; have HB := Lib.hid hb; obtain ⟨va, vc, rfl⟩ := ho.form16; clear ho hb; rw [HN.out] at HO ⊢)
  go_loopw [5, 11] (fun nv iv wx => ∃ i : Nat, i ≤ n ∧ iv = .int .i64 i ∧ nv = .int .i64 (cntK [k] (S.take i) : Nat) ∧ Hid (Below w1.heap.size w1 wx)) (fun _ iv _ => n - (intOf iv).toNat)
  case atStart => exact ⟨0, Nat.zero_le _, rfl, rfl, Lib.hid (Below.refl _ _)⟩
  case round =>
    obtain ⟨i, hi, rfl, rfl, HK⟩ := hrel
    by_cases hlt : i < n
    · have hL : i < S.length := by rw [HN.out]; exact hlt
      obtain ⟨g, c', hv, -, hg, -⟩ := HO.out.some_ (by omega)
      simp only [Value.slice.injEq] at hv
      obtain ⟨rfl, -, rfl⟩ := hv
      obtain ⟨x0, x1⟩ := OwnW.get (HO.out.below HK.out) i hL
      have HX := Lib.hid (cnt_next k S i hL)
      have hle : cntK [k] (S.take i) ≤ i := Nat.le_trans List.countP_le_length (by rw [List.length_take]; omega)
      have HB2 := Lib.hid (fun o => HK.out.alloc HK.out.size o)
      obtain ⟨m, hm⟩ : ∃ m, m = cntK [k] (S.take i) := ⟨_, rfl⟩
      rw [← hm] at HX hle ⊢
      have HZ := Lib.hid (show wrap64 ((m : Int) + 1) = (m : Int) + 1 from IntWalk.wrap64_in _ (by omega))
      have HZ2 := Lib.hid (show wrap64 ((i : Int) + 1) = (i : Int) + 1 from IntWalk.wrap64_in _ (by omega))
      clear hm
      generalize S[i] = y at *
      obtain ⟨yc, yk, yf⟩ := y
      simp only at HX x0 x1
      by_cases hq : yk = k
      · have dq : (yk == k) = true := beq_iff_eq.2 hq
        rw [if_pos hq] at HX
        clear hq
        go_wp2_with fail
        go_roundw
        case rel => exact ⟨i + 1, by omega, by (try rw [HZ2.out]); rfl, by rw [HX.out]; (try rw [HZ.out]); rfl, Lib.hid (HB2.out _)⟩
        case measure =>
          try rw [HZ2.out]
          simp [intOf]
          omega
      · have dq : (yk == k) = false := beq_eq_false_iff_ne.2 hq
        rw [if_neg hq, Nat.add_zero] at HX
        clear hq
        go_wp2_with fail
        go_roundw
        case rel => exact ⟨i + 1, by omega, by (try rw [HZ2.out]); rfl, by rw [HX.out]; rfl, Lib.hid (HB2.out _)⟩
        case measure =>
          try rw [HZ2.out]
          simp [intOf]
          omega
    · have e : S.take i = S := List.take_of_length_le (by have := HN.out; omega)
      rw [e, HR.out]
      clear e
      go_wp2_with fail
      exact bodyPost_ret (v := .int .i64 (r : Nat)) (by simp [results, Try.results18, go_sem]) rfl ⟨rfl, HB.out.trans (HK.out.mono HB.out.size)⟩
set_option maxHeartbeats 1000000 in
theorem fall16_nil (w : World) : Calls Try.prog 20 #[.pointer none] w fun e w' => e = .returned (.slice none 0 0) ∧ Below w.heap.size w w' := by
  have HD := Lib.hid (fun W => call16_nil W)
  go_enter Try.func20, Try.ntmps20
  go_wp2_with (go_at_call 28; (with_reducible refine (HD.out _).mono ?_); rintro e w2 ⟨rfl, rfl⟩)
  go_loopw [3, 9] (fun nv iv wx => iv = .int .i64 0 ∧ nv = .slice none 0 0 ∧ w2 = wx) (fun _ _ _ => 0)
  case atStart => exact ⟨rfl, rfl, by first | rfl | trivial⟩
  case round =>
    obtain ⟨rfl, rfl, rfl⟩ := hrel
    go_wp2_with fail
    exact bodyPost_ret (v := .slice none 0 0) (by simp [results, Try.results20, go_sem]) rfl ⟨rfl, Below.refl _ _⟩
set_option maxHeartbeats 1000000 in
theorem fall16 (q : Nat) (S : List Ent) (F : Nat → Prop) (w : World) (h : QuL w q S F) : Calls Try.prog 20 #[ptrQ q] w fun e w' => ∃ v, e = .returned v ∧ OwnS16 w' w.heap.size v (frs S) ∧ Below w.heap.size w w' := by
  have HD := Lib.hid (call16_any q S F w h)
  obtain ⟨n, hn⟩ : ∃ n, S.length = n := ⟨_, rfl⟩
  have hl : n ≤ 16 := hn ▸ (quL_ok h).many
  have HN := Lib.hid hn
  clear h hn
  go_enter Try.func20, Try.ntmps20
  go_wp2_with (go_at_call 28; (with_reducible refine HD.out.mono ?_); rintro e w1 ⟨v, rfl, ho, hb⟩; have HO := Lib.hid ho; have HB := Lib.hid hb; obtain ⟨va, vc, rfl⟩ := ho.form16; clear ho hb; rw [HN.out] at HO ⊢)
  go_loopw [3, 9] (fun sv iv wx => ∃ (i : Nat) (tv : Value), i ≤ n ∧ iv = .int .i64 i ∧ tv = sv ∧ Hid (OwnS16 wx w1.heap.size tv (frs (S.take i)) ∧ Below w1.heap.size w1 wx)) (fun _ iv _ => n - (intOf iv).toNat)
  case atStart => exact ⟨0, _, Nat.zero_le _, rfl, rfl, Lib.hid ⟨OwnL.nil _ _ _ _, Below.refl _ _⟩⟩
  case round =>
    obtain ⟨i, tv, hi, rfl, rfl, HK⟩ := hrel
    by_cases hlt : i < n
    · have hL : i < S.length := by rw [HN.out]; exact hlt
      obtain ⟨g, c', hv, -, hg, -⟩ := HO.out.some_ (by omega)
      simp only [Value.slice.injEq] at hv
      obtain ⟨rfl, -, rfl⟩ := hv
      obtain ⟨x0, x1⟩ := OwnW.get (HO.out.below HK.out.2) i hL
      have HT := Lib.hid (show frs (S.take (i + 1)) = frs (S.take i) ++ [S[i].fr] from by unfold frs; rw [List.take_succ_eq_append_getElem hL, List.map_append]; rfl)
      have hlen : (frs (S.take i)).length ≤ 1000 := by unfold frs; rw [List.length_map, List.length_take]; omega
      generalize S[i] = y at *
      obtain ⟨yc, yk, yf⟩ := y
      simp only at HT x0 x1
      have hsz := HK.out.2.size
      have HOT := Lib.hid (OwnL.alloc HK.out.1 (.cells #[.int .i64 yk, .string yf] 57))
      have HB2 := Lib.hid (HK.out.2.alloc HK.out.2.size (.cells #[.int .i64 yk, .string yf] 57))
      clear HK
      go_wp2_with (at_builtin; refine wpList_append_one encS 9 37 Try.underlying37 infoS16 rfl (by decide) _ rfl (.tmp 13) (.tmp 16) rfl w1.heap.size tv _ rfl (OwnL.alloc HOT.out _) (wr.heap.size + 1) 1 rfl yf (AtL.made encS 9 _ (wr.heap.size + 1) yf _ rfl (by simp)) (by omega) (by simp; omega) ?_; intro v2 w3 hown hgr hwh)
      have HK2 := Lib.hid (And.intro hown (OwnL.appended HOT.out HB2.out (Nat.le_refl _) HB2.out.size (grown_trans (World.grownBy_alloc _ _ _) hgr)))
      clear hown hgr hwh
      go_roundw
      case rel => exact ⟨i + 1, v2, by omega, rfl, rfl, Lib.hid ⟨by rw [HT.out]; exact HK2.out.1, HK2.out.2⟩⟩
      case measure => simp [intOf]; omega
    · have e : S.take i = S := List.take_of_length_le (by have := HN.out; omega)
      rw [e] at HK
      clear e
      go_wp2_with fail
      exact bodyPost_ret (v := tv) (by simp [results, Try.results20, go_sem]) rfl ⟨tv, rfl, OwnL.base HK.out.1 HB.out.size, HB.out.trans (HK.out.2.mono HB.out.size)⟩
set_option maxHeartbeats 1000000 in
theorem croom16_nil (c : Int) (w : World) : Calls Try.prog 22 #[.pointer none, .int .i64 c] w fun e w' => e = .returned (.int .i64 0) ∧ Below w.heap.size w w' := by
  have HD := Lib.hid (fun W => ccls16 c W)
  go_enter Try.func22, Try.ntmps22
  go_wp2_with (go_at_call 23; (with_reducible refine (HD.out _).mono ?_); rintro e w2 ⟨rfl, rfl⟩)
  exact bodyPost_ret (v := .int .i64 0) (by simp [results, Try.results22, go_sem]) rfl ⟨rfl, Below.refl _ _⟩
set_option maxHeartbeats 1000000 in
theorem croom16_no (c : Int) (q : Nat) (w : World) (hc : ¬ (0 ≤ c ∧ c ≤ 2)) : Calls Try.prog 22 #[ptrQ q, .int .i64 c] w fun e w' => e = .returned (.int .i64 0) ∧ Below w.heap.size w w' := by
  have HD := Lib.hid (fun W => ccls16 c W)
  have hv : (decide (0 ≤ c) && decide (c ≤ 2)) = false := by
    simp
    omega
  rw [hv] at HD
  clear hv hc
  go_enter Try.func22, Try.ntmps22
  go_wp2_with (go_at_call 23; (with_reducible refine (HD.out _).mono ?_); rintro e w2 ⟨rfl, rfl⟩)
  exact bodyPost_ret (v := .int .i64 0) (by simp [results, Try.results22, go_sem]) rfl ⟨rfl, Below.refl _ _⟩
set_option maxHeartbeats 1000000 in
theorem croom16_yes (i : Nat) (hi : i < 3) (q : Nat) (S : List Ent) (F : Nat → Prop) (w : World) (h : QuL w q S F) : Calls Try.prog 22 #[ptrQ q, .int .i64 i] w fun e w' => e = .returned (.int .i64 (min (8 - ((ofC (i : Int) S).length : Int)) (16 - (S.length : Int)))) ∧ Below w.heap.size w w' := by
  have HD := Lib.hid (fun W => ccls16 i W)
  have hv : (decide (0 ≤ (i : Int)) && decide ((i : Int) ≤ 2)) = true := by
    simp
    omega
  rw [hv] at HD
  clear hv
  have HL := Lib.hid (fun d os => clen16 q S F (grow (redrawn w d) os) (quL_below h (below_regrown w d os)))
  obtain ⟨u, h1, h2, -⟩ := h
  have c0 := h1.cell i hi
  obtain ⟨a, c, hu⟩ := (h1.own i hi).form16
  rw [hu] at c0
  have hm := h2.many
  have hm2 : (ofC (i : Int) S).length ≤ S.length := List.length_filter_le _ _
  have hq := h1.row.lt
  clear h1 h2 hu
  generalize (ofC (i : Int) S).length = n at *
  generalize S.length = m at *
  have hz1 : wrap64 (8 - (n : Int)) = 8 - (n : Int) := by unfold wrap64; omega
  have hz2 : wrap64 (16 - (m : Int)) = 16 - (m : Int) := by unfold wrap64; omega
  have hy1 : IntKind.i64.wrap (8 - (n : Int)) = 8 - (n : Int) := IntWalk.i64_in _ (by omega)
  have hy2 : IntKind.i64.wrap (16 - (m : Int)) = 16 - (m : Int) := IntWalk.i64_in _ (by omega)
  obtain ⟨x, hx⟩ : ∃ x, min (8 - (n : Int)) (16 - (m : Int)) = x := ⟨_, rfl⟩
  rw [hx]
  have hi3 : (i : Int) < 3 := by omega
  have c1 := fun d os => cell_regrown c0 d os
  clear hm hm2
  go_enter Try.func22, Try.ntmps22
  go_wp2_with (go_at_call 23; (with_reducible refine (HD.out _).mono ?_); rintro e w ⟨rfl, rfl⟩)
  refine wp_region_quiet_below (by kernel_rfl) (by kernel_rfl) ?_
  repeat (quiet_step (first
    | (go_at_call 17; with_reducible exact Calls.regrown_of (HL.out _ _))))
  refine wpQuiet_nil ?_
  intro _ hw'
  obtain ⟨pg, hw''⟩ := hw'
  subst hw''
  have HE := Lib.hid (below_regrown w pg.d pg.os)
  generalize grow (redrawn w pg.d) pg.os = w9 at *
  go_wp2_with fail
  exact bodyPost_ret (v := .int .i64 x) (by simp [results, Try.results22, go_sem]) rfl ⟨rfl, HE.out⟩
theorem croom16 (c : Int) (q : Nat) (S : List Ent) (F : Nat → Prop) (w : World) (h : QuL w q S F) : Calls Try.prog 22 #[ptrQ q, .int .i64 c] w fun e w' => e = .returned (.int .i64 (roomE c S)) ∧ Below w.heap.size w w' := by
  unfold roomE
  by_cases hc : 0 ≤ c ∧ c ≤ 2
  · obtain ⟨i, rfl⟩ : ∃ i : Nat, c = i := ⟨c.toNat, by omega⟩
    rw [if_pos hc]
    exact croom16_yes i (by omega) q S F w h
  · rw [if_neg hc]
    exact croom16_no c q w hc
end Go.Proofs.Ytliamhphpnifaaa
