/-
Of the statement CallOrder: the walk over what Less is to answer.
-/
import Derived.Test.YtaaeppembjkelaaDoorCallLaw
import Derived.Lib.QuietBelow
import Derived.BigQuiet
import Derived.Deep.QuietTactic
import Derived.DeepKeys
namespace Go.Proofs.YtaaeppembjkelaaDoor
open Go.RowKit Go.Sort
theorem ltD_self (a : List UInt8) : ltD a a = none := by
  induction a with
  | nil => rfl
  | cons x l ih => simp [ltD, ih]
theorem ltD_none (a b : List UInt8) (h : ltD a b = none) : a = b := by
  induction a generalizing b with
  | nil => cases b with
    | nil => rfl
    | cons y r => simp [ltD] at h
  | cons x l ih => cases b with
    | nil => simp [ltD] at h
    | cons y r =>
      simp only [ltD] at h
      split at h
      · rename_i e; rw [e, ih r h]
      · cases h
theorem ltD_turn (a b : List UInt8) : ltD b a = (ltD a b).map (!·) := by
  induction a generalizing b with
  | nil => cases b <;> rfl
  | cons x l ih => cases b with
    | nil => rfl
    | cons y r =>
      simp only [ltD]
      by_cases e : x = y
      · rw [if_pos e, if_pos e.symm, ih r]
      · rw [if_neg e, if_neg (Ne.symm e)]
        have : x.toNat ≠ y.toNat := fun h => e (UInt8.toNat_inj.1 h)
        simp only [Option.map_some, Option.some.injEq]
        rw [← decide_not, decide_eq_decide]
        omega
theorem ltD_trans (a b c : List UInt8) (h : ltD a b = some true) (k : ltD b c = some true) : ltD a c = some true := by
  induction a generalizing b c with
  | nil => cases c with
    | nil => cases b with
      | nil => simp [ltD] at h
      | cons y r => simp [ltD] at k
    | cons z t => rfl
  | cons x l ih => cases b with
    | nil => simp [ltD] at h
    | cons y r => cases c with
      | nil => simp [ltD] at k
      | cons z t =>
        simp only [ltD] at h k ⊢
        by_cases e1 : x = y
        · subst e1
          rw [if_pos rfl] at h
          by_cases e2 : x = z
          · subst e2; rw [if_pos rfl] at k ⊢; exact ih r t h k
          · rw [if_neg e2] at k ⊢; exact k
        · rw [if_neg e1] at h
          by_cases e2 : y = z
          · subst e2; rw [if_neg e1]; exact h
          · rw [if_neg e2] at k
            simp only [Option.some.injEq, decide_eq_true_eq] at h k
            rw [if_neg (fun e => by rw [e] at h; omega)]
            simp only [Option.some.injEq, decide_eq_true_eq]
            omega
theorem lessD_self (a : List UInt8) (n : Int) : lessD a n a n = false := by simp [lessD, ltD_self]
theorem lessD_turn (a b : List UInt8) (n m : Int) (h : a ≠ b ∨ n ≠ m) : lessD b m a n = !lessD a n b m := by
  unfold lessD
  rw [ltD_turn a b]
  cases e : ltD a b with
  | none =>
    have hab := ltD_none a b e
    have hnm : n ≠ m := by rcases h with h | h; exact absurd hab h; exact h
    simp only [Option.map_none, Option.getD_none]
    rw [← decide_not, decide_eq_decide]
    omega
  | some x => simp
theorem lessD_trans (a b c : List UInt8) (n m k : Int) (h : lessD a n b m = true) (g : lessD b m c k = true) : lessD a n c k = true := by
  unfold lessD at *
  cases e : ltD a b with
  | none =>
    rw [e] at h
    rw [ltD_none a b e]
    cases e2 : ltD b c with
    | none => rw [e2] at g; simp only [Option.getD_none, decide_eq_true_eq] at h g ⊢; omega
    | some x => rw [e2] at g; exact g
  | some x =>
    rw [e] at h
    simp only [Option.getD_some] at h
    subst h
    cases e2 : ltD b c with
    | none => rw [← ltD_none b c e2, e]; rfl
    | some y =>
      rw [e2] at g
      simp only [Option.getD_some] at g
      subst g
      rw [ltD_trans a b c e e2]; rfl
/-- three calls' cells -/
def OAt (w W : World) (a : ByteArray) (n : Int) (b : ByteArray) (m : Int) (c : ByteArray) (k : Int) : Prop := (W.cell? ⟨w.heap.size, 0, none⟩ = some (.string a) ∧ W.cell? ⟨w.heap.size, 1, none⟩ = some (.int .i64 n)) ∧
  (W.cell? ⟨w.heap.size + 1, 0, none⟩ = some (.string b) ∧ W.cell? ⟨w.heap.size + 1, 1, none⟩ = some (.int .i64 m)) ∧ (W.cell? ⟨w.heap.size + 1 + 1, 0, none⟩ = some (.string c) ∧ W.cell? ⟨w.heap.size + 1 + 1, 1, none⟩ = some (.int .i64 k)) ∧ Below w.heap.size w W ∧ w.heap.size + 1 + 1 < W.heap.size
theorem OAt.start (w : World) (a : ByteArray) (n : Int) (b : ByteArray) (m : Int) (c : ByteArray) (k : Int) : OAt w (((w.alloc (.cells #[.string a, .int .i64 n] 23)).alloc (.cells #[.string b, .int .i64 m] 23)).alloc (.cells #[.string c, .int .i64 k] 23)) a n b m c k := by
  obtain ⟨⟨x0, x1⟩, ⟨y0, y1⟩, _⟩ := LAt.start w a n b m
  refine ⟨⟨?_, ?_⟩, ⟨?_, ?_⟩, ⟨?_, ?_⟩, (((Below.refl _ w).alloc (Nat.le_refl _) _).alloc (by simp) _).alloc (by simp; omega) _, by simp⟩
  · exact (World.cell?_alloc_past _ _ _ (by simp; omega)).trans x0
  · exact (World.cell?_alloc_past _ _ _ (by simp; omega)).trans x1
  · exact (World.cell?_alloc_past _ _ _ (by simp)).trans y0
  · exact (World.cell?_alloc_past _ _ _ (by simp)).trans y1
  · exact World.cell?_alloc_at _ _ _ _ (by simp)
  · exact World.cell?_alloc_at _ _ _ _ (by simp)
theorem OAt.below {w W W' : World} {a b c : ByteArray} {n m k : Int} (h : OAt w W a n b m c k) (hb : Below W.heap.size W W') : OAt w W' a n b m c k := by
  obtain ⟨⟨x0, x1⟩, ⟨y0, y1⟩, ⟨z0, z1⟩, hw, hs⟩ := h
  have q := fun (m i : Nat) (hm : m < W.heap.size) => hb.cell (p := ⟨m, i, none⟩) hm
  exact ⟨⟨(q _ _ (by omega)).trans x0, (q _ _ (by omega)).trans x1⟩, ⟨(q _ _ (by omega)).trans y0, (q _ _ (by omega)).trans y1⟩, ⟨(q _ _ hs).trans z0, (q _ _ hs).trans z1⟩, hw.trans (hb.mono hw.size), Nat.lt_of_lt_of_le hs hb.size⟩
theorem run_eq_call (a b : ByteArray) (n m : Int) (w : World) (E : Bool) (h : E = decide (a = b ∧ n = m)) : (Op.equalIn 10000 23 (.agg #[.string a, .int .i64 n]) (.agg #[.string b, .int .i64 m])).run Tryd.prog w = .ok E w := by
  have hs : (a.toList == b.toList) = decide (a = b) := by
    rw [ByteArray.toList_eq, ByteArray.toList_eq, Bool.eq_iff_iff, beq_iff_eq, decide_eq_true_eq]
    exact ⟨fun e => bytes_ext' e, fun e => by rw [e]⟩
  have hn : (n == m) = decide (n = m) := rfl
  by_cases h1 : a = b
  · by_cases h2 : n = m
    · rw [decide_eq_true (And.intro h1 h2)] at h
      rw [decide_eq_true h1] at hs
      rw [decide_eq_true h2] at hn
      subst h
      go_simp
    · rw [decide_eq_false (fun x => h2 x.2)] at h
      rw [decide_eq_true h1] at hs
      rw [decide_eq_false h2] at hn
      subst h
      go_simp
  · rw [decide_eq_false (fun x => h1 x.1)] at h
    rw [decide_eq_false h1] at hs
    subst h
    go_simp
set_option maxHeartbeats 2000000 in
set_option maxRecDepth 100000 in
theorem corder_same (hP : CParseOk) (hU : CPutOk) (a b c : ByteArray) (n m k : Int) (w : World) (hV : VarsOk w) (hs : a.size + b.size + c.size ≤ 300) (hE : true = decide (a = b ∧ n = m))
    (hab : ∀ W, Calls Tryd.prog 18 #[.agg #[.string a, .int .i64 n], .agg #[.string b, .int .i64 m]] W fun e w' => e = .returned (.bool false) ∧ Below W.heap.size W w')
    (rab : ∀ W, Calls Tryd.prog 19 #[.agg #[.string a, .int .i64 n], .agg #[.string b, .int .i64 m]] W fun e w' => e = .returned (.bool false) ∧ Below W.heap.size W w')
    (haa : ∀ W, Calls Tryd.prog 18 #[.agg #[.string a, .int .i64 n], .agg #[.string a, .int .i64 n]] W fun e w' => e = .returned (.bool false) ∧ Below W.heap.size W w') :
    Calls Tryd.prog 5 #[.agg #[.string a, .int .i64 n], .agg #[.string b, .int .i64 m], .agg #[.string c, .int .i64 k]] w fun e w' => e = .returned (.bool true) ∧ Below w.heap.size w w' := by
  have HAW := Lib.hid (fun W (hb : Below w.heap.size w W) => cawake_any hP hU W (hV.below hb))
  have HO := Lib.hid (OAt.start w a n b m c k)
  have heq := fun W => run_eq_call a b n m W true hE
  have Hhab := Lib.hid hab
  have Hrab := Lib.hid rab
  have Hhaa := Lib.hid haa
  clear hP hU hV hE hab rab haa
  go_enter Tryd.func5, Tryd.ntmps5
  go_wp2_with (go_at_call 7; go_loud ((first | refine (HAW.out _ HO.out.2.2.2.1).mono ?_ | refine (HAW.out _ (HO.out.2.2.2.1.alloc HO.out.2.2.2.1.size _)).mono ?_); rintro e w1 ⟨rfl, hb⟩; replace HO := Lib.hid (HO.out.below hb); clear hb; obtain ⟨⟨x0, x1⟩, ⟨y0, y1⟩, ⟨z0, z1⟩, hw, hsz⟩ := HO.out))
  have X0 := fun d' os => cell_regrown x0 d' os
  have X1 := fun d' os => cell_regrown x1 d' os
  have Y0 := fun d' os => cell_regrown y0 d' os
  have Y1 := fun d' os => cell_regrown y1 d' os
  clear HAW x0 x1 y0 y1 z0 z1 hw hsz
  refine wp_region_quiet_below (by kernel_rfl) (by kernel_rfl) ?_
  repeat (go_big_quiet_step (first
    | (go_at_call 18; with_reducible exact Calls.regrown_of (Hhab.out _))
    | (go_at_call 19; with_reducible exact Calls.regrown_of (Hrab.out _))
    | (go_at_call 18; with_reducible exact Calls.regrown_of (Hhaa.out _))))
  refine wpQuiet_nil ?_
  intro _ hw'
  obtain ⟨pg, hw''⟩ := hw'
  subst hw''
  replace HO := Lib.hid (HO.out.below (below_regrown w1 pg.d pg.os))
  generalize grow (redrawn w1 pg.d) pg.os = w9 at *
  clear X0 X1 Y0 Y1
  obtain ⟨⟨x0, x1⟩, ⟨y0, y1⟩, ⟨z0, z1⟩, hw, hsz⟩ := HO.out
  go_wp2_with (first
    | (go_at_call 18; ((with_reducible refine (Hhab.out _).mono ?_); rintro e w1 ⟨rfl, hb⟩; replace HO := Lib.hid (HO.out.below hb); clear hb; clear x0 x1 y0 y1 z0 z1 hw hsz; obtain ⟨⟨x0, x1⟩, ⟨y0, y1⟩, ⟨z0, z1⟩, hw, hsz⟩ := HO.out))
    | (go_at_call 18; ((with_reducible refine (Hhaa.out _).mono ?_); rintro e w1 ⟨rfl, hb⟩; replace HO := Lib.hid (HO.out.below hb); clear hb; clear x0 x1 y0 y1 z0 z1 hw hsz; obtain ⟨⟨x0, x1⟩, ⟨y0, y1⟩, ⟨z0, z1⟩, hw, hsz⟩ := HO.out)))
  go_ret
  exact ⟨rfl, hw⟩
set_option maxHeartbeats 2000000 in
set_option maxRecDepth 100000 in
theorem corder_no (hP : CParseOk) (hU : CPutOk) (a b c : ByteArray) (n m k : Int) (w : World) (hV : VarsOk w) (hs : a.size + b.size + c.size ≤ 300) (hE : false = decide (a = b ∧ n = m))
    (hab : ∀ W, Calls Tryd.prog 18 #[.agg #[.string a, .int .i64 n], .agg #[.string b, .int .i64 m]] W fun e w' => e = .returned (.bool false) ∧ Below W.heap.size W w')
    (rab : ∀ W, Calls Tryd.prog 19 #[.agg #[.string a, .int .i64 n], .agg #[.string b, .int .i64 m]] W fun e w' => e = .returned (.bool false) ∧ Below W.heap.size W w')
    (haa : ∀ W, Calls Tryd.prog 18 #[.agg #[.string a, .int .i64 n], .agg #[.string a, .int .i64 n]] W fun e w' => e = .returned (.bool false) ∧ Below W.heap.size W w')
    (hba : ∀ W, Calls Tryd.prog 18 #[.agg #[.string b, .int .i64 m], .agg #[.string a, .int .i64 n]] W fun e w' => e = .returned (.bool true) ∧ Below W.heap.size W w') :
    Calls Tryd.prog 5 #[.agg #[.string a, .int .i64 n], .agg #[.string b, .int .i64 m], .agg #[.string c, .int .i64 k]] w fun e w' => e = .returned (.bool true) ∧ Below w.heap.size w w' := by
  have HAW := Lib.hid (fun W (hb : Below w.heap.size w W) => cawake_any hP hU W (hV.below hb))
  have HO := Lib.hid (OAt.start w a n b m c k)
  have heq := fun W => run_eq_call a b n m W false hE
  have Hhab := Lib.hid hab
  have Hrab := Lib.hid rab
  have Hhaa := Lib.hid haa
  have Hhba := Lib.hid hba
  clear hP hU hV hE hab rab haa hba
  go_enter Tryd.func5, Tryd.ntmps5
  go_wp2_with (go_at_call 7; go_loud ((first | refine (HAW.out _ HO.out.2.2.2.1).mono ?_ | refine (HAW.out _ (HO.out.2.2.2.1.alloc HO.out.2.2.2.1.size _)).mono ?_); rintro e w1 ⟨rfl, hb⟩; replace HO := Lib.hid (HO.out.below hb); clear hb; obtain ⟨⟨x0, x1⟩, ⟨y0, y1⟩, ⟨z0, z1⟩, hw, hsz⟩ := HO.out))
  have X0 := fun d' os => cell_regrown x0 d' os
  have X1 := fun d' os => cell_regrown x1 d' os
  have Y0 := fun d' os => cell_regrown y0 d' os
  have Y1 := fun d' os => cell_regrown y1 d' os
  clear HAW x0 x1 y0 y1 z0 z1 hw hsz
  refine wp_region_quiet_below (by kernel_rfl) (by kernel_rfl) ?_
  repeat (go_big_quiet_step (first
    | (go_at_call 18; with_reducible exact Calls.regrown_of (Hhab.out _))
    | (go_at_call 19; with_reducible exact Calls.regrown_of (Hrab.out _))
    | (go_at_call 18; with_reducible exact Calls.regrown_of (Hhaa.out _))
    | (go_at_call 18; with_reducible exact Calls.regrown_of (Hhba.out _))))
  refine wpQuiet_nil ?_
  intro _ hw'
  obtain ⟨pg, hw''⟩ := hw'
  subst hw''
  replace HO := Lib.hid (HO.out.below (below_regrown w1 pg.d pg.os))
  generalize grow (redrawn w1 pg.d) pg.os = w9 at *
  clear X0 X1 Y0 Y1
  obtain ⟨⟨x0, x1⟩, ⟨y0, y1⟩, ⟨z0, z1⟩, hw, hsz⟩ := HO.out
  go_wp2_with (first
    | (go_at_call 18; ((with_reducible refine (Hhab.out _).mono ?_); rintro e w1 ⟨rfl, hb⟩; replace HO := Lib.hid (HO.out.below hb); clear hb; clear x0 x1 y0 y1 z0 z1 hw hsz; obtain ⟨⟨x0, x1⟩, ⟨y0, y1⟩, ⟨z0, z1⟩, hw, hsz⟩ := HO.out))
    | (go_at_call 18; ((with_reducible refine (Hhaa.out _).mono ?_); rintro e w1 ⟨rfl, hb⟩; replace HO := Lib.hid (HO.out.below hb); clear hb; clear x0 x1 y0 y1 z0 z1 hw hsz; obtain ⟨⟨x0, x1⟩, ⟨y0, y1⟩, ⟨z0, z1⟩, hw, hsz⟩ := HO.out))
    | (go_at_call 18; ((with_reducible refine (Hhba.out _).mono ?_); rintro e w1 ⟨rfl, hb⟩; replace HO := Lib.hid (HO.out.below hb); clear hb; clear x0 x1 y0 y1 z0 z1 hw hsz; obtain ⟨⟨x0, x1⟩, ⟨y0, y1⟩, ⟨z0, z1⟩, hw, hsz⟩ := HO.out)))
  go_ret
  exact ⟨rfl, hw⟩
set_option maxHeartbeats 2000000 in
set_option maxRecDepth 100000 in
theorem corder_bc (hP : CParseOk) (hU : CPutOk) (a b c : ByteArray) (n m k : Int) (w : World) (hV : VarsOk w) (hs : a.size + b.size + c.size ≤ 300) (hE : false = decide (a = b ∧ n = m))
    (hab : ∀ W, Calls Tryd.prog 18 #[.agg #[.string a, .int .i64 n], .agg #[.string b, .int .i64 m]] W fun e w' => e = .returned (.bool true) ∧ Below W.heap.size W w')
    (rab : ∀ W, Calls Tryd.prog 19 #[.agg #[.string a, .int .i64 n], .agg #[.string b, .int .i64 m]] W fun e w' => e = .returned (.bool true) ∧ Below W.heap.size W w')
    (haa : ∀ W, Calls Tryd.prog 18 #[.agg #[.string a, .int .i64 n], .agg #[.string a, .int .i64 n]] W fun e w' => e = .returned (.bool false) ∧ Below W.heap.size W w')
    (hba : ∀ W, Calls Tryd.prog 18 #[.agg #[.string b, .int .i64 m], .agg #[.string a, .int .i64 n]] W fun e w' => e = .returned (.bool false) ∧ Below W.heap.size W w')
    (hbc : ∀ W, Calls Tryd.prog 18 #[.agg #[.string b, .int .i64 m], .agg #[.string c, .int .i64 k]] W fun e w' => e = .returned (.bool false) ∧ Below W.heap.size W w') :
    Calls Tryd.prog 5 #[.agg #[.string a, .int .i64 n], .agg #[.string b, .int .i64 m], .agg #[.string c, .int .i64 k]] w fun e w' => e = .returned (.bool true) ∧ Below w.heap.size w w' := by
  have HAW := Lib.hid (fun W (hb : Below w.heap.size w W) => cawake_any hP hU W (hV.below hb))
  have HO := Lib.hid (OAt.start w a n b m c k)
  have heq := fun W => run_eq_call a b n m W false hE
  have Hhab := Lib.hid hab
  have Hrab := Lib.hid rab
  have Hhaa := Lib.hid haa
  have Hhba := Lib.hid hba
  have Hhbc := Lib.hid hbc
  clear hP hU hV hE hab rab haa hba hbc
  go_enter Tryd.func5, Tryd.ntmps5
  go_wp2_with (go_at_call 7; go_loud ((first | refine (HAW.out _ HO.out.2.2.2.1).mono ?_ | refine (HAW.out _ (HO.out.2.2.2.1.alloc HO.out.2.2.2.1.size _)).mono ?_); rintro e w1 ⟨rfl, hb⟩; replace HO := Lib.hid (HO.out.below hb); clear hb; obtain ⟨⟨x0, x1⟩, ⟨y0, y1⟩, ⟨z0, z1⟩, hw, hsz⟩ := HO.out))
  have X0 := fun d' os => cell_regrown x0 d' os
  have X1 := fun d' os => cell_regrown x1 d' os
  have Y0 := fun d' os => cell_regrown y0 d' os
  have Y1 := fun d' os => cell_regrown y1 d' os
  clear HAW x0 x1 y0 y1 z0 z1 hw hsz
  refine wp_region_quiet_below (by kernel_rfl) (by kernel_rfl) ?_
  repeat (go_big_quiet_step (first
    | (go_at_call 18; with_reducible exact Calls.regrown_of (Hhab.out _))
    | (go_at_call 19; with_reducible exact Calls.regrown_of (Hrab.out _))
    | (go_at_call 18; with_reducible exact Calls.regrown_of (Hhaa.out _))
    | (go_at_call 18; with_reducible exact Calls.regrown_of (Hhba.out _))
    | (go_at_call 18; with_reducible exact Calls.regrown_of (Hhbc.out _))))
  refine wpQuiet_nil ?_
  intro _ hw'
  obtain ⟨pg, hw''⟩ := hw'
  subst hw''
  replace HO := Lib.hid (HO.out.below (below_regrown w1 pg.d pg.os))
  generalize grow (redrawn w1 pg.d) pg.os = w9 at *
  clear X0 X1 Y0 Y1
  obtain ⟨⟨x0, x1⟩, ⟨y0, y1⟩, ⟨z0, z1⟩, hw, hsz⟩ := HO.out
  go_wp2_with (first
    | (go_at_call 18; ((with_reducible refine (Hhab.out _).mono ?_); rintro e w1 ⟨rfl, hb⟩; replace HO := Lib.hid (HO.out.below hb); clear hb; clear x0 x1 y0 y1 z0 z1 hw hsz; obtain ⟨⟨x0, x1⟩, ⟨y0, y1⟩, ⟨z0, z1⟩, hw, hsz⟩ := HO.out))
    | (go_at_call 18; ((with_reducible refine (Hhaa.out _).mono ?_); rintro e w1 ⟨rfl, hb⟩; replace HO := Lib.hid (HO.out.below hb); clear hb; clear x0 x1 y0 y1 z0 z1 hw hsz; obtain ⟨⟨x0, x1⟩, ⟨y0, y1⟩, ⟨z0, z1⟩, hw, hsz⟩ := HO.out))
    | (go_at_call 18; ((with_reducible refine (Hhba.out _).mono ?_); rintro e w1 ⟨rfl, hb⟩; replace HO := Lib.hid (HO.out.below hb); clear hb; clear x0 x1 y0 y1 z0 z1 hw hsz; obtain ⟨⟨x0, x1⟩, ⟨y0, y1⟩, ⟨z0, z1⟩, hw, hsz⟩ := HO.out))
    | (go_at_call 18; ((with_reducible refine (Hhbc.out _).mono ?_); rintro e w1 ⟨rfl, hb⟩; replace HO := Lib.hid (HO.out.below hb); clear hb; clear x0 x1 y0 y1 z0 z1 hw hsz; obtain ⟨⟨x0, x1⟩, ⟨y0, y1⟩, ⟨z0, z1⟩, hw, hsz⟩ := HO.out)))
  go_ret
  exact ⟨rfl, hw⟩
set_option maxHeartbeats 2000000 in
set_option maxRecDepth 100000 in
theorem corder_all (hP : CParseOk) (hU : CPutOk) (a b c : ByteArray) (n m k : Int) (w : World) (hV : VarsOk w) (hs : a.size + b.size + c.size ≤ 300) (hE : false = decide (a = b ∧ n = m))
    (hab : ∀ W, Calls Tryd.prog 18 #[.agg #[.string a, .int .i64 n], .agg #[.string b, .int .i64 m]] W fun e w' => e = .returned (.bool true) ∧ Below W.heap.size W w')
    (rab : ∀ W, Calls Tryd.prog 19 #[.agg #[.string a, .int .i64 n], .agg #[.string b, .int .i64 m]] W fun e w' => e = .returned (.bool true) ∧ Below W.heap.size W w')
    (haa : ∀ W, Calls Tryd.prog 18 #[.agg #[.string a, .int .i64 n], .agg #[.string a, .int .i64 n]] W fun e w' => e = .returned (.bool false) ∧ Below W.heap.size W w')
    (hba : ∀ W, Calls Tryd.prog 18 #[.agg #[.string b, .int .i64 m], .agg #[.string a, .int .i64 n]] W fun e w' => e = .returned (.bool false) ∧ Below W.heap.size W w')
    (hbc : ∀ W, Calls Tryd.prog 18 #[.agg #[.string b, .int .i64 m], .agg #[.string c, .int .i64 k]] W fun e w' => e = .returned (.bool true) ∧ Below W.heap.size W w')
    (hac : ∀ W, Calls Tryd.prog 18 #[.agg #[.string a, .int .i64 n], .agg #[.string c, .int .i64 k]] W fun e w' => e = .returned (.bool true) ∧ Below W.heap.size W w') :
    Calls Tryd.prog 5 #[.agg #[.string a, .int .i64 n], .agg #[.string b, .int .i64 m], .agg #[.string c, .int .i64 k]] w fun e w' => e = .returned (.bool true) ∧ Below w.heap.size w w' := by
  have HAW := Lib.hid (fun W (hb : Below w.heap.size w W) => cawake_any hP hU W (hV.below hb))
  have HO := Lib.hid (OAt.start w a n b m c k)
  have heq := fun W => run_eq_call a b n m W false hE
  have Hhab := Lib.hid hab
  have Hrab := Lib.hid rab
  have Hhaa := Lib.hid haa
  have Hhba := Lib.hid hba
  have Hhbc := Lib.hid hbc
  have Hhac := Lib.hid hac
  clear hP hU hV hE hab rab haa hba hbc hac
  go_enter Tryd.func5, Tryd.ntmps5
  go_wp2_with (go_at_call 7; go_loud ((first | refine (HAW.out _ HO.out.2.2.2.1).mono ?_ | refine (HAW.out _ (HO.out.2.2.2.1.alloc HO.out.2.2.2.1.size _)).mono ?_); rintro e w1 ⟨rfl, hb⟩; replace HO := Lib.hid (HO.out.below hb); clear hb; obtain ⟨⟨x0, x1⟩, ⟨y0, y1⟩, ⟨z0, z1⟩, hw, hsz⟩ := HO.out))
  have X0 := fun d' os => cell_regrown x0 d' os
  have X1 := fun d' os => cell_regrown x1 d' os
  have Y0 := fun d' os => cell_regrown y0 d' os
  have Y1 := fun d' os => cell_regrown y1 d' os
  clear HAW x0 x1 y0 y1 z0 z1 hw hsz
  refine wp_region_quiet_below (by kernel_rfl) (by kernel_rfl) ?_
  repeat (go_big_quiet_step (first
    | (go_at_call 18; with_reducible exact Calls.regrown_of (Hhab.out _))
    | (go_at_call 19; with_reducible exact Calls.regrown_of (Hrab.out _))
    | (go_at_call 18; with_reducible exact Calls.regrown_of (Hhaa.out _))
    | (go_at_call 18; with_reducible exact Calls.regrown_of (Hhba.out _))
    | (go_at_call 18; with_reducible exact Calls.regrown_of (Hhbc.out _))
    | (go_at_call 18; with_reducible exact Calls.regrown_of (Hhac.out _))))
  refine wpQuiet_nil ?_
  intro _ hw'
  obtain ⟨pg, hw''⟩ := hw'
  subst hw''
  replace HO := Lib.hid (HO.out.below (below_regrown w1 pg.d pg.os))
  generalize grow (redrawn w1 pg.d) pg.os = w9 at *
  clear X0 X1 Y0 Y1
  obtain ⟨⟨x0, x1⟩, ⟨y0, y1⟩, ⟨z0, z1⟩, hw, hsz⟩ := HO.out
  go_wp2_with (first
    | (go_at_call 18; ((with_reducible refine (Hhab.out _).mono ?_); rintro e w1 ⟨rfl, hb⟩; replace HO := Lib.hid (HO.out.below hb); clear hb; clear x0 x1 y0 y1 z0 z1 hw hsz; obtain ⟨⟨x0, x1⟩, ⟨y0, y1⟩, ⟨z0, z1⟩, hw, hsz⟩ := HO.out))
    | (go_at_call 18; ((with_reducible refine (Hhaa.out _).mono ?_); rintro e w1 ⟨rfl, hb⟩; replace HO := Lib.hid (HO.out.below hb); clear hb; clear x0 x1 y0 y1 z0 z1 hw hsz; obtain ⟨⟨x0, x1⟩, ⟨y0, y1⟩, ⟨z0, z1⟩, hw, hsz⟩ := HO.out))
    | (go_at_call 18; ((with_reducible refine (Hhba.out _).mono ?_); rintro e w1 ⟨rfl, hb⟩; replace HO := Lib.hid (HO.out.below hb); clear hb; clear x0 x1 y0 y1 z0 z1 hw hsz; obtain ⟨⟨x0, x1⟩, ⟨y0, y1⟩, ⟨z0, z1⟩, hw, hsz⟩ := HO.out))
    | (go_at_call 18; ((with_reducible refine (Hhbc.out _).mono ?_); rintro e w1 ⟨rfl, hb⟩; replace HO := Lib.hid (HO.out.below hb); clear hb; clear x0 x1 y0 y1 z0 z1 hw hsz; obtain ⟨⟨x0, x1⟩, ⟨y0, y1⟩, ⟨z0, z1⟩, hw, hsz⟩ := HO.out))
    | (go_at_call 18; ((with_reducible refine (Hhac.out _).mono ?_); rintro e w1 ⟨rfl, hb⟩; replace HO := Lib.hid (HO.out.below hb); clear hb; clear x0 x1 y0 y1 z0 z1 hw hsz; obtain ⟨⟨x0, x1⟩, ⟨y0, y1⟩, ⟨z0, z1⟩, hw, hsz⟩ := HO.out)))
  go_ret
  exact ⟨rfl, hw⟩
set_option maxHeartbeats 1000000 in
theorem corder_long (hP : CParseOk) (hU : CPutOk) (a b c : ByteArray) (n m k : Int) (w : World) (hV : VarsOk w) (hs : 300 < a.size + b.size + c.size) (ha : a.size ≤ 140737488351232) (hb2 : b.size ≤ 140737488351232) (hc : c.size ≤ 140737488351232) :
    Calls Tryd.prog 5 #[.agg #[.string a, .int .i64 n], .agg #[.string b, .int .i64 m], .agg #[.string c, .int .i64 k]] w fun e w' => e = .returned (.bool true) ∧ Below w.heap.size w w' := by
  have HAW := Lib.hid (fun W (hb : Below w.heap.size w W) => cawake_any hP hU W (hV.below hb))
  have HO := Lib.hid (OAt.start w a n b m c k)
  clear hP hU hV
  go_enter Tryd.func5, Tryd.ntmps5
  go_wp2_with (go_at_call 7; go_loud ((first | refine (HAW.out _ HO.out.2.2.2.1).mono ?_ | refine (HAW.out _ (HO.out.2.2.2.1.alloc HO.out.2.2.2.1.size _)).mono ?_); rintro e w1 ⟨rfl, hb⟩; replace HO := Lib.hid (HO.out.below hb); clear hb; obtain ⟨⟨x0, x1⟩, ⟨y0, y1⟩, ⟨z0, z1⟩, hw, hsz⟩ := HO.out))
  go_ret
  exact ⟨rfl, hw⟩
theorem corder_any (hP : CParseOk) (hU : CPutOk) (hL : CLessOk) (a b c : ByteArray) (n m k : Int) (w : World) (hV : VarsOk w) (ha : a.size ≤ 140737488351232) (hb : b.size ≤ 140737488351232) (hc : c.size ≤ 140737488351232) :
    Calls Tryd.prog 5 #[.agg #[.string a, .int .i64 n], .agg #[.string b, .int .i64 m], .agg #[.string c, .int .i64 k]] w fun e w' => e = .returned (.bool true) ∧ Below w.heap.size w w' := by
  by_cases hs : a.size + b.size + c.size ≤ 300
  · have l := fun (x y : ByteArray) (i j : Int) (hx : x.size ≤ 300) (hy : y.size ≤ 300) W => hL x y i j W hx hy
    have r := fun W => rless_any a b n m W (by omega) (by omega)
    have haa := l a a n n (by omega) (by omega)
    rw [lessD_self] at haa
    have hab := l a b n m (by omega) (by omega)
    have hba := l b a m n (by omega) (by omega)
    have hbc := l b c m k (by omega) (by omega)
    have hac := l a c n k (by omega) (by omega)
    by_cases he : a = b ∧ n = m
    · have e : lessD a.data.toList n b.data.toList m = false := by rw [he.1, he.2, lessD_self]
      rw [e] at hab r
      exact corder_same hP hU a b c n m k w hV hs (decide_eq_true he).symm hab r haa
    · have hne : a.data.toList ≠ b.data.toList ∨ n ≠ m := by
        by_cases h1 : n = m
        · exact Or.inl (fun h => he ⟨bytes_ext' h, h1⟩)
        · exact Or.inr h1
      have ht := lessD_turn a.data.toList b.data.toList n m hne
      rw [ht] at hba
      have hE : false = decide (a = b ∧ n = m) := (decide_eq_false he).symm
      cases e : lessD a.data.toList n b.data.toList m
      · rw [e] at hab r hba
        exact corder_no hP hU a b c n m k w hV hs hE hab r haa hba
      · rw [e] at hab r hba
        cases e2 : lessD b.data.toList m c.data.toList k
        · rw [e2] at hbc
          exact corder_bc hP hU a b c n m k w hV hs hE hab r haa hba hbc
        · rw [e2] at hbc
          rw [lessD_trans _ _ _ _ _ _ e e2] at hac
          exact corder_all hP hU a b c n m k w hV hs hE hab r haa hba hbc hac
  · exact corder_long hP hU a b c n m k w hV (by omega) ha hb hc
end Go.Proofs.YtaaeppembjkelaaDoor
