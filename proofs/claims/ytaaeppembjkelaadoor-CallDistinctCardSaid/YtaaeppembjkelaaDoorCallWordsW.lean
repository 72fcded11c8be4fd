/-
Of the statement CallWords: the walk over what Right, Text and Parse are to answer.
-/
import Derived.Test.YtaaeppembjkelaaDoorCallPure
import Derived.Test.YtaaeppembjkelaaDoorCallOrderW
namespace Go.Proofs.YtaaeppembjkelaaDoor
open Go.RowKit Go.Sort
/-- a call's cells -/
def NAt (w W : World) (b : ByteArray) (n : Int) : Prop := (W.cell? ⟨w.heap.size, 0, none⟩ = some (.string b) ∧ W.cell? ⟨w.heap.size, 1, none⟩ = some (.int .i64 n)) ∧ Below w.heap.size w W ∧ w.heap.size < W.heap.size
theorem NAt.start (w : World) (b : ByteArray) (n : Int) : NAt w (w.alloc (.cells #[.string b, .int .i64 n] 23)) b n :=
  ⟨⟨World.cell?_alloc_at _ _ _ _ rfl, World.cell?_alloc_at _ _ _ _ rfl⟩, (Below.refl _ w).alloc (Nat.le_refl _) _, by simp⟩
theorem NAt.below {w W W' : World} {b : ByteArray} {n : Int} (h : NAt w W b n) (hb : Below W.heap.size W W') : NAt w W' b n := by
  obtain ⟨⟨x0, x1⟩, hw, hs⟩ := h
  have q := fun (m i : Nat) (hm : m < W.heap.size) => hb.cell (p := ⟨m, i, none⟩) hm
  exact ⟨⟨(q _ _ hs).trans x0, (q _ _ hs).trans x1⟩, hw.trans (hb.mono hw.size), Nat.lt_of_lt_of_le hs hb.size⟩
set_option maxHeartbeats 2000000 in
set_option maxRecDepth 100000 in
theorem cwords_nx (hP : CParseOk) (hU : CPutOk) (b : ByteArray) (n : Int) (s : ByteArray) (w : World) (hV : VarsOk w) (hb : b.size ≤ 100) (hs : s.size ≤ 100) (G : ByteArray) (N : Int)
    (hcr : ∀ W, Calls Tryd.prog 9 #[.agg #[.string b, .int .i64 n]] W fun e w' => e = .returned (.bool false) ∧ Below W.heap.size W w')
    (hrr : ∀ W, Calls Tryd.prog 8 #[.agg #[.string b, .int .i64 n]] W fun e w' => e = .returned (.bool false) ∧ Below W.heap.size W w')
    (htx : ∀ W, Calls Tryd.prog 10 #[.agg #[.string b, .int .i64 n]] W fun e w' => e = .returned (.string ⟨#[]⟩) ∧ Below W.heap.size W w')
    (hps : ∀ W, Below w.heap.size w W → Calls Tryd.prog 11 #[.string s] W fun e w' => e = .returned (.tuple #[.agg #[.string G, .int .i64 N], .int .i64 12]) ∧ Below W.heap.size W w')
    (hrs : ∀ W, Calls Tryd.prog 13 #[.string s] W fun e w' => e = .returned (.tuple #[.agg #[.string G, .int .i64 N], .bool false]) ∧ Below W.heap.size W w') :
    Calls Tryd.prog 3 #[.agg #[.string b, .int .i64 n], .string s] w fun e w' => e = .returned (.bool true) ∧ Below w.heap.size w w' := by
  have HAW := Lib.hid (fun W (hb : Below w.heap.size w W) => cawake_any hP hU W (hV.below hb))
  have HM := Lib.hid (NAt.start w b n)
  have HCR := Lib.hid hcr
  have HRR := Lib.hid hrr
  have HTX := Lib.hid htx
  have HPS := Lib.hid hps
  have HRS := Lib.hid hrs
  have heq := fun W => run_eq_call G G N N W true (by simp)
  clear hP hU hV hcr hrr htx hps hrs
  go_enter Tryd.func3, Tryd.ntmps3
  go_wp2_with (first
    | (go_at_call 7; go_loud ((first | refine (HAW.out _ HM.out.2.1).mono ?_ | refine (HAW.out _ (HM.out.2.1.alloc HM.out.2.1.size _)).mono ?_); rintro e w1 ⟨rfl, hb⟩; replace HM := Lib.hid (HM.out.below hb); clear hb; obtain ⟨⟨x0, x1⟩, hw, hsz⟩ := HM.out))
    | (go_at_call 9; ((with_reducible refine (HCR.out _).mono ?_); rintro e w1 ⟨rfl, hb⟩; (first | replace HM := Lib.hid (HM.out.below hb) | replace HM := Lib.hid ((HM.out.below ((Below.refl _ _).alloc (Nat.le_refl _) _)).below hb)); clear hb x0 x1 hw hsz; obtain ⟨⟨x0, x1⟩, hw, hsz⟩ := HM.out))
    | (go_at_call 8; ((with_reducible refine (HRR.out _).mono ?_); rintro e w1 ⟨rfl, hb⟩; (first | replace HM := Lib.hid (HM.out.below hb) | replace HM := Lib.hid ((HM.out.below ((Below.refl _ _).alloc (Nat.le_refl _) _)).below hb)); clear hb x0 x1 hw hsz; obtain ⟨⟨x0, x1⟩, hw, hsz⟩ := HM.out))
    | (go_at_call 10; ((with_reducible refine (HTX.out _).mono ?_); rintro e w1 ⟨rfl, hb⟩; (first | replace HM := Lib.hid (HM.out.below hb) | replace HM := Lib.hid ((HM.out.below ((Below.refl _ _).alloc (Nat.le_refl _) _)).below hb)); clear hb x0 x1 hw hsz; obtain ⟨⟨x0, x1⟩, hw, hsz⟩ := HM.out))
    | (go_at_call 11; ((with_reducible first | refine (HPS.out _ hw).mono ?_ | refine (HPS.out _ (hw.alloc hw.size _)).mono ?_); rintro e w1 ⟨rfl, hb⟩; (first | replace HM := Lib.hid (HM.out.below hb) | replace HM := Lib.hid ((HM.out.below ((Below.refl _ _).alloc (Nat.le_refl _) _)).below hb)); clear hb x0 x1 hw hsz; obtain ⟨⟨x0, x1⟩, hw, hsz⟩ := HM.out))
    | (go_at_call 13; go_loud (refine (HRS.out _).mono ?_; rintro e w2 ⟨rfl, hb⟩; have q0 : w2.cell? ⟨w1.heap.size, 0, none⟩ = some (.string G) := (hb.cell (p := ⟨w1.heap.size, 0, none⟩) (by simp)).trans (by rw [World.cell?_alloc_new]; rfl); have q1 : w2.cell? ⟨w1.heap.size, 1, none⟩ = some (.int .i64 N) := (hb.cell (p := ⟨w1.heap.size, 1, none⟩) (by simp)).trans (by rw [World.cell?_alloc_new]; rfl); have hq0 := World.block_lt_of_cell? w2 ⟨w1.heap.size, 0, none⟩ q0; replace HM := Lib.hid ((HM.out.below ((Below.refl _ _).alloc (Nat.le_refl _) _)).below hb); clear hb x0 x1 hw hsz; obtain ⟨⟨x0, x1⟩, hw, hsz⟩ := HM.out)))
  go_ret
  exact ⟨rfl, hw.alloc hw.size _⟩
set_option maxHeartbeats 2000000 in
set_option maxRecDepth 100000 in
theorem cwords_nf (hP : CParseOk) (hU : CPutOk) (b : ByteArray) (n : Int) (s : ByteArray) (w : World) (hV : VarsOk w) (hb : b.size ≤ 100) (hs : s.size ≤ 100) (G : ByteArray) (N : Int)
    (hcr : ∀ W, Calls Tryd.prog 9 #[.agg #[.string b, .int .i64 n]] W fun e w' => e = .returned (.bool false) ∧ Below W.heap.size W w')
    (hrr : ∀ W, Calls Tryd.prog 8 #[.agg #[.string b, .int .i64 n]] W fun e w' => e = .returned (.bool false) ∧ Below W.heap.size W w')
    (htx : ∀ W, Calls Tryd.prog 10 #[.agg #[.string b, .int .i64 n]] W fun e w' => e = .returned (.string ⟨#[]⟩) ∧ Below W.heap.size W w')
    (hps : ∀ W, Below w.heap.size w W → Calls Tryd.prog 11 #[.string s] W fun e w' => e = .returned (.tuple #[.agg #[.string G, .int .i64 N], .int .i64 0]) ∧ Below W.heap.size W w')
    (hrs : ∀ W, Calls Tryd.prog 13 #[.string s] W fun e w' => e = .returned (.tuple #[.agg #[.string G, .int .i64 N], .bool true]) ∧ Below W.heap.size W w') :
    Calls Tryd.prog 3 #[.agg #[.string b, .int .i64 n], .string s] w fun e w' => e = .returned (.bool true) ∧ Below w.heap.size w w' := by
  have HAW := Lib.hid (fun W (hb : Below w.heap.size w W) => cawake_any hP hU W (hV.below hb))
  have HM := Lib.hid (NAt.start w b n)
  have HCR := Lib.hid hcr
  have HRR := Lib.hid hrr
  have HTX := Lib.hid htx
  have HPS := Lib.hid hps
  have HRS := Lib.hid hrs
  have heq := fun W => run_eq_call G G N N W true (by simp)
  clear hP hU hV hcr hrr htx hps hrs
  go_enter Tryd.func3, Tryd.ntmps3
  go_wp2_with (first
    | (go_at_call 7; go_loud ((first | refine (HAW.out _ HM.out.2.1).mono ?_ | refine (HAW.out _ (HM.out.2.1.alloc HM.out.2.1.size _)).mono ?_); rintro e w1 ⟨rfl, hb⟩; replace HM := Lib.hid (HM.out.below hb); clear hb; obtain ⟨⟨x0, x1⟩, hw, hsz⟩ := HM.out))
    | (go_at_call 9; ((with_reducible refine (HCR.out _).mono ?_); rintro e w1 ⟨rfl, hb⟩; (first | replace HM := Lib.hid (HM.out.below hb) | replace HM := Lib.hid ((HM.out.below ((Below.refl _ _).alloc (Nat.le_refl _) _)).below hb)); clear hb x0 x1 hw hsz; obtain ⟨⟨x0, x1⟩, hw, hsz⟩ := HM.out))
    | (go_at_call 8; ((with_reducible refine (HRR.out _).mono ?_); rintro e w1 ⟨rfl, hb⟩; (first | replace HM := Lib.hid (HM.out.below hb) | replace HM := Lib.hid ((HM.out.below ((Below.refl _ _).alloc (Nat.le_refl _) _)).below hb)); clear hb x0 x1 hw hsz; obtain ⟨⟨x0, x1⟩, hw, hsz⟩ := HM.out))
    | (go_at_call 10; ((with_reducible refine (HTX.out _).mono ?_); rintro e w1 ⟨rfl, hb⟩; (first | replace HM := Lib.hid (HM.out.below hb) | replace HM := Lib.hid ((HM.out.below ((Below.refl _ _).alloc (Nat.le_refl _) _)).below hb)); clear hb x0 x1 hw hsz; obtain ⟨⟨x0, x1⟩, hw, hsz⟩ := HM.out))
    | (go_at_call 11; ((with_reducible first | refine (HPS.out _ hw).mono ?_ | refine (HPS.out _ (hw.alloc hw.size _)).mono ?_); rintro e w1 ⟨rfl, hb⟩; (first | replace HM := Lib.hid (HM.out.below hb) | replace HM := Lib.hid ((HM.out.below ((Below.refl _ _).alloc (Nat.le_refl _) _)).below hb)); clear hb x0 x1 hw hsz; obtain ⟨⟨x0, x1⟩, hw, hsz⟩ := HM.out))
    | (go_at_call 13; go_loud (refine (HRS.out _).mono ?_; rintro e w2 ⟨rfl, hb⟩; have q0 : w2.cell? ⟨w1.heap.size, 0, none⟩ = some (.string G) := (hb.cell (p := ⟨w1.heap.size, 0, none⟩) (by simp)).trans (by rw [World.cell?_alloc_new]; rfl); have q1 : w2.cell? ⟨w1.heap.size, 1, none⟩ = some (.int .i64 N) := (hb.cell (p := ⟨w1.heap.size, 1, none⟩) (by simp)).trans (by rw [World.cell?_alloc_new]; rfl); have hq0 := World.block_lt_of_cell? w2 ⟨w1.heap.size, 0, none⟩ q0; replace HM := Lib.hid ((HM.out.below ((Below.refl _ _).alloc (Nat.le_refl _) _)).below hb); clear hb x0 x1 hw hsz; obtain ⟨⟨x0, x1⟩, hw, hsz⟩ := HM.out)))
  go_ret
  exact ⟨rfl, hw.alloc hw.size _⟩
set_option maxHeartbeats 2000000 in
set_option maxRecDepth 100000 in
theorem cwords_rx (hP : CParseOk) (hU : CPutOk) (b : ByteArray) (n : Int) (s : ByteArray) (w : World) (hV : VarsOk w) (hb : b.size ≤ 100) (hs : s.size ≤ 100) (G : ByteArray) (N : Int) (T : ByteArray)
    (hcr : ∀ W, Calls Tryd.prog 9 #[.agg #[.string b, .int .i64 n]] W fun e w' => e = .returned (.bool true) ∧ Below W.heap.size W w')
    (hrr : ∀ W, Calls Tryd.prog 8 #[.agg #[.string b, .int .i64 n]] W fun e w' => e = .returned (.bool true) ∧ Below W.heap.size W w')
    (htx : ∀ W, Calls Tryd.prog 10 #[.agg #[.string b, .int .i64 n]] W fun e w' => e = .returned (.string T) ∧ Below W.heap.size W w')
    (hps : ∀ W, Below w.heap.size w W → Calls Tryd.prog 11 #[.string s] W fun e w' => e = .returned (.tuple #[.agg #[.string G, .int .i64 N], .int .i64 12]) ∧ Below W.heap.size W w')
    (hrs : ∀ W, Calls Tryd.prog 13 #[.string s] W fun e w' => e = .returned (.tuple #[.agg #[.string G, .int .i64 N], .bool false]) ∧ Below W.heap.size W w')
    (hrt : ∀ W, Calls Tryd.prog 12 #[.agg #[.string b, .int .i64 n]] W fun e w' => e = .returned (.string T) ∧ Below W.heap.size W w')
    (hpt : ∀ W, Below w.heap.size w W → Calls Tryd.prog 11 #[.string T] W fun e w' => e = .returned (.tuple #[.agg #[.string b, .int .i64 n], .int .i64 0]) ∧ Below W.heap.size W w') :
    Calls Tryd.prog 3 #[.agg #[.string b, .int .i64 n], .string s] w fun e w' => e = .returned (.bool true) ∧ Below w.heap.size w w' := by
  have HAW := Lib.hid (fun W (hb : Below w.heap.size w W) => cawake_any hP hU W (hV.below hb))
  have HM := Lib.hid (NAt.start w b n)
  have HCR := Lib.hid hcr
  have HRR := Lib.hid hrr
  have HTX := Lib.hid htx
  have HPS := Lib.hid hps
  have HRS := Lib.hid hrs
  have HRT := Lib.hid hrt
  have HPT := Lib.hid hpt
  have heq := fun W => run_eq_call G G N N W true (by simp)
  have heq2 := fun W => run_eq_call b b n n W true (by simp)
  clear hP hU hV hcr hrr htx hps hrs hrt hpt
  go_enter Tryd.func3, Tryd.ntmps3
  go_wp2_with (first
    | (go_at_call 7; go_loud ((first | refine (HAW.out _ HM.out.2.1).mono ?_ | refine (HAW.out _ (HM.out.2.1.alloc HM.out.2.1.size _)).mono ?_); rintro e w1 ⟨rfl, hb⟩; replace HM := Lib.hid (HM.out.below hb); clear hb; obtain ⟨⟨x0, x1⟩, hw, hsz⟩ := HM.out))
    | (go_at_call 9; ((with_reducible refine (HCR.out _).mono ?_); rintro e w1 ⟨rfl, hb⟩; (first | replace HM := Lib.hid (HM.out.below hb) | replace HM := Lib.hid ((HM.out.below ((Below.refl _ _).alloc (Nat.le_refl _) _)).below hb)); clear hb x0 x1 hw hsz; obtain ⟨⟨x0, x1⟩, hw, hsz⟩ := HM.out))
    | (go_at_call 8; ((with_reducible refine (HRR.out _).mono ?_); rintro e w1 ⟨rfl, hb⟩; (first | replace HM := Lib.hid (HM.out.below hb) | replace HM := Lib.hid ((HM.out.below ((Below.refl _ _).alloc (Nat.le_refl _) _)).below hb)); clear hb x0 x1 hw hsz; obtain ⟨⟨x0, x1⟩, hw, hsz⟩ := HM.out))
    | (go_at_call 10; ((with_reducible refine (HTX.out _).mono ?_); rintro e w1 ⟨rfl, hb⟩; (first | replace HM := Lib.hid (HM.out.below hb) | replace HM := Lib.hid ((HM.out.below ((Below.refl _ _).alloc (Nat.le_refl _) _)).below hb)); clear hb x0 x1 hw hsz; obtain ⟨⟨x0, x1⟩, hw, hsz⟩ := HM.out))
    | (go_at_call 11; ((with_reducible first | refine (HPS.out _ hw).mono ?_ | refine (HPS.out _ (hw.alloc hw.size _)).mono ?_); rintro e w1 ⟨rfl, hb⟩; (first | replace HM := Lib.hid (HM.out.below hb) | replace HM := Lib.hid ((HM.out.below ((Below.refl _ _).alloc (Nat.le_refl _) _)).below hb)); clear hb x0 x1 hw hsz; obtain ⟨⟨x0, x1⟩, hw, hsz⟩ := HM.out))
    | (go_at_call 13; go_loud (refine (HRS.out _).mono ?_; rintro e w2 ⟨rfl, hb⟩; have q0 : w2.cell? ⟨w1.heap.size, 0, none⟩ = some (.string G) := (hb.cell (p := ⟨w1.heap.size, 0, none⟩) (by simp)).trans (by rw [World.cell?_alloc_new]; rfl); have q1 : w2.cell? ⟨w1.heap.size, 1, none⟩ = some (.int .i64 N) := (hb.cell (p := ⟨w1.heap.size, 1, none⟩) (by simp)).trans (by rw [World.cell?_alloc_new]; rfl); have hq0 := World.block_lt_of_cell? w2 ⟨w1.heap.size, 0, none⟩ q0; replace HM := Lib.hid ((HM.out.below ((Below.refl _ _).alloc (Nat.le_refl _) _)).below hb); clear hb x0 x1 hw hsz; obtain ⟨⟨x0, x1⟩, hw, hsz⟩ := HM.out))
    | (go_at_call 12; ((with_reducible refine (HRT.out _).mono ?_); rintro e w1 ⟨rfl, hb⟩; (first | replace HM := Lib.hid (HM.out.below hb) | replace HM := Lib.hid ((HM.out.below ((Below.refl _ _).alloc (Nat.le_refl _) _)).below hb)); clear hb x0 x1 hw hsz; obtain ⟨⟨x0, x1⟩, hw, hsz⟩ := HM.out))
    | (go_at_call 11; ((with_reducible first | refine (HPT.out _ hw).mono ?_ | refine (HPT.out _ (hw.alloc hw.size _)).mono ?_); rintro e w1 ⟨rfl, hb⟩; (first | replace HM := Lib.hid (HM.out.below hb) | replace HM := Lib.hid ((HM.out.below ((Below.refl _ _).alloc (Nat.le_refl _) _)).below hb)); clear hb x0 x1 hw hsz; obtain ⟨⟨x0, x1⟩, hw, hsz⟩ := HM.out)))
  replace HM := Lib.hid (HM.out.below ((Below.refl _ w1).alloc (Nat.le_refl _) (.cells #[.string b, .int .i64 n] 23)))
  have u0 : (w1.alloc (.cells #[.string b, .int .i64 n] 23)).cell? ⟨w1.heap.size, 0, none⟩ = some (.string b) := World.cell?_alloc_at _ _ _ _ rfl
  have u1 : (w1.alloc (.cells #[.string b, .int .i64 n] 23)).cell? ⟨w1.heap.size, 1, none⟩ = some (.int .i64 n) := World.cell?_alloc_at _ _ _ _ rfl
  clear x0 x1 hw hsz
  generalize w1.alloc (.cells #[.string b, .int .i64 n] 23) = W3 at *
  obtain ⟨⟨x0, x1⟩, hw, hsz⟩ := HM.out
  have X0 := fun d' os => cell_regrown x0 d' os
  have X1 := fun d' os => cell_regrown x1 d' os
  have U0 := fun d' os => cell_regrown u0 d' os
  have U1 := fun d' os => cell_regrown u1 d' os
  clear x0 x1 hw hsz u0 u1
  refine wp_region_quiet_below (by kernel_rfl) (by kernel_rfl) ?_
  repeat (go_big_quiet_step (first
    | (go_at_call 10; with_reducible exact Calls.regrown_of (HTX.out _))
    | (go_at_call 12; with_reducible exact Calls.regrown_of (HRT.out _))))
  refine wpQuiet_nil ?_
  intro _ hw'
  obtain ⟨pg, hw''⟩ := hw'
  subst hw''
  replace HM := Lib.hid (HM.out.below (below_regrown W3 pg.d pg.os))
  generalize grow (redrawn W3 pg.d) pg.os = w1 at *
  clear X0 X1 U0 U1
  obtain ⟨⟨x0, x1⟩, hw, hsz⟩ := HM.out
  go_wp2_with (first
    | (go_at_call 7; go_loud ((first | refine (HAW.out _ HM.out.2.1).mono ?_ | refine (HAW.out _ (HM.out.2.1.alloc HM.out.2.1.size _)).mono ?_); rintro e w1 ⟨rfl, hb⟩; replace HM := Lib.hid (HM.out.below hb); clear hb; obtain ⟨⟨x0, x1⟩, hw, hsz⟩ := HM.out))
    | (go_at_call 11; ((with_reducible first | refine (HPS.out _ hw).mono ?_ | refine (HPS.out _ (hw.alloc hw.size _)).mono ?_); rintro e w1 ⟨rfl, hb⟩; (first | replace HM := Lib.hid (HM.out.below hb) | replace HM := Lib.hid ((HM.out.below ((Below.refl _ _).alloc (Nat.le_refl _) _)).below hb)); clear hb x0 x1 hw hsz; obtain ⟨⟨x0, x1⟩, hw, hsz⟩ := HM.out))
    | (go_at_call 13; go_loud (refine (HRS.out _).mono ?_; rintro e w2 ⟨rfl, hb⟩; have q0 : w2.cell? ⟨w1.heap.size, 0, none⟩ = some (.string G) := (hb.cell (p := ⟨w1.heap.size, 0, none⟩) (by simp)).trans (by rw [World.cell?_alloc_new]; rfl); have q1 : w2.cell? ⟨w1.heap.size, 1, none⟩ = some (.int .i64 N) := (hb.cell (p := ⟨w1.heap.size, 1, none⟩) (by simp)).trans (by rw [World.cell?_alloc_new]; rfl); have hq0 := World.block_lt_of_cell? w2 ⟨w1.heap.size, 0, none⟩ q0; replace HM := Lib.hid ((HM.out.below ((Below.refl _ _).alloc (Nat.le_refl _) _)).below hb); clear hb x0 x1 hw hsz; obtain ⟨⟨x0, x1⟩, hw, hsz⟩ := HM.out)))
  go_ret
  exact ⟨rfl, hw.alloc hw.size _⟩
set_option maxHeartbeats 2000000 in
set_option maxRecDepth 100000 in
theorem cwords_rf (hP : CParseOk) (hU : CPutOk) (b : ByteArray) (n : Int) (s : ByteArray) (w : World) (hV : VarsOk w) (hb : b.size ≤ 100) (hs : s.size ≤ 100) (G : ByteArray) (N : Int) (T : ByteArray)
    (hcr : ∀ W, Calls Tryd.prog 9 #[.agg #[.string b, .int .i64 n]] W fun e w' => e = .returned (.bool true) ∧ Below W.heap.size W w')
    (hrr : ∀ W, Calls Tryd.prog 8 #[.agg #[.string b, .int .i64 n]] W fun e w' => e = .returned (.bool true) ∧ Below W.heap.size W w')
    (htx : ∀ W, Calls Tryd.prog 10 #[.agg #[.string b, .int .i64 n]] W fun e w' => e = .returned (.string T) ∧ Below W.heap.size W w')
    (hps : ∀ W, Below w.heap.size w W → Calls Tryd.prog 11 #[.string s] W fun e w' => e = .returned (.tuple #[.agg #[.string G, .int .i64 N], .int .i64 0]) ∧ Below W.heap.size W w')
    (hrs : ∀ W, Calls Tryd.prog 13 #[.string s] W fun e w' => e = .returned (.tuple #[.agg #[.string G, .int .i64 N], .bool true]) ∧ Below W.heap.size W w')
    (hrt : ∀ W, Calls Tryd.prog 12 #[.agg #[.string b, .int .i64 n]] W fun e w' => e = .returned (.string T) ∧ Below W.heap.size W w')
    (hpt : ∀ W, Below w.heap.size w W → Calls Tryd.prog 11 #[.string T] W fun e w' => e = .returned (.tuple #[.agg #[.string b, .int .i64 n], .int .i64 0]) ∧ Below W.heap.size W w') :
    Calls Tryd.prog 3 #[.agg #[.string b, .int .i64 n], .string s] w fun e w' => e = .returned (.bool true) ∧ Below w.heap.size w w' := by
  have HAW := Lib.hid (fun W (hb : Below w.heap.size w W) => cawake_any hP hU W (hV.below hb))
  have HM := Lib.hid (NAt.start w b n)
  have HCR := Lib.hid hcr
  have HRR := Lib.hid hrr
  have HTX := Lib.hid htx
  have HPS := Lib.hid hps
  have HRS := Lib.hid hrs
  have HRT := Lib.hid hrt
  have HPT := Lib.hid hpt
  have heq := fun W => run_eq_call G G N N W true (by simp)
  have heq2 := fun W => run_eq_call b b n n W true (by simp)
  clear hP hU hV hcr hrr htx hps hrs hrt hpt
  go_enter Tryd.func3, Tryd.ntmps3
  go_wp2_with (first
    | (go_at_call 7; go_loud ((first | refine (HAW.out _ HM.out.2.1).mono ?_ | refine (HAW.out _ (HM.out.2.1.alloc HM.out.2.1.size _)).mono ?_); rintro e w1 ⟨rfl, hb⟩; replace HM := Lib.hid (HM.out.below hb); clear hb; obtain ⟨⟨x0, x1⟩, hw, hsz⟩ := HM.out))
    | (go_at_call 9; ((with_reducible refine (HCR.out _).mono ?_); rintro e w1 ⟨rfl, hb⟩; (first | replace HM := Lib.hid (HM.out.below hb) | replace HM := Lib.hid ((HM.out.below ((Below.refl _ _).alloc (Nat.le_refl _) _)).below hb)); clear hb x0 x1 hw hsz; obtain ⟨⟨x0, x1⟩, hw, hsz⟩ := HM.out))
    | (go_at_call 8; ((with_reducible refine (HRR.out _).mono ?_); rintro e w1 ⟨rfl, hb⟩; (first | replace HM := Lib.hid (HM.out.below hb) | replace HM := Lib.hid ((HM.out.below ((Below.refl _ _).alloc (Nat.le_refl _) _)).below hb)); clear hb x0 x1 hw hsz; obtain ⟨⟨x0, x1⟩, hw, hsz⟩ := HM.out))
    | (go_at_call 10; ((with_reducible refine (HTX.out _).mono ?_); rintro e w1 ⟨rfl, hb⟩; (first | replace HM := Lib.hid (HM.out.below hb) | replace HM := Lib.hid ((HM.out.below ((Below.refl _ _).alloc (Nat.le_refl _) _)).below hb)); clear hb x0 x1 hw hsz; obtain ⟨⟨x0, x1⟩, hw, hsz⟩ := HM.out))
    | (go_at_call 11; ((with_reducible first | refine (HPS.out _ hw).mono ?_ | refine (HPS.out _ (hw.alloc hw.size _)).mono ?_); rintro e w1 ⟨rfl, hb⟩; (first | replace HM := Lib.hid (HM.out.below hb) | replace HM := Lib.hid ((HM.out.below ((Below.refl _ _).alloc (Nat.le_refl _) _)).below hb)); clear hb x0 x1 hw hsz; obtain ⟨⟨x0, x1⟩, hw, hsz⟩ := HM.out))
    | (go_at_call 13; go_loud (refine (HRS.out _).mono ?_; rintro e w2 ⟨rfl, hb⟩; have q0 : w2.cell? ⟨w1.heap.size, 0, none⟩ = some (.string G) := (hb.cell (p := ⟨w1.heap.size, 0, none⟩) (by simp)).trans (by rw [World.cell?_alloc_new]; rfl); have q1 : w2.cell? ⟨w1.heap.size, 1, none⟩ = some (.int .i64 N) := (hb.cell (p := ⟨w1.heap.size, 1, none⟩) (by simp)).trans (by rw [World.cell?_alloc_new]; rfl); have hq0 := World.block_lt_of_cell? w2 ⟨w1.heap.size, 0, none⟩ q0; replace HM := Lib.hid ((HM.out.below ((Below.refl _ _).alloc (Nat.le_refl _) _)).below hb); clear hb x0 x1 hw hsz; obtain ⟨⟨x0, x1⟩, hw, hsz⟩ := HM.out))
    | (go_at_call 12; ((with_reducible refine (HRT.out _).mono ?_); rintro e w1 ⟨rfl, hb⟩; (first | replace HM := Lib.hid (HM.out.below hb) | replace HM := Lib.hid ((HM.out.below ((Below.refl _ _).alloc (Nat.le_refl _) _)).below hb)); clear hb x0 x1 hw hsz; obtain ⟨⟨x0, x1⟩, hw, hsz⟩ := HM.out))
    | (go_at_call 11; ((with_reducible first | refine (HPT.out _ hw).mono ?_ | refine (HPT.out _ (hw.alloc hw.size _)).mono ?_); rintro e w1 ⟨rfl, hb⟩; (first | replace HM := Lib.hid (HM.out.below hb) | replace HM := Lib.hid ((HM.out.below ((Below.refl _ _).alloc (Nat.le_refl _) _)).below hb)); clear hb x0 x1 hw hsz; obtain ⟨⟨x0, x1⟩, hw, hsz⟩ := HM.out)))
  replace HM := Lib.hid (HM.out.below ((Below.refl _ w1).alloc (Nat.le_refl _) (.cells #[.string b, .int .i64 n] 23)))
  have u0 : (w1.alloc (.cells #[.string b, .int .i64 n] 23)).cell? ⟨w1.heap.size, 0, none⟩ = some (.string b) := World.cell?_alloc_at _ _ _ _ rfl
  have u1 : (w1.alloc (.cells #[.string b, .int .i64 n] 23)).cell? ⟨w1.heap.size, 1, none⟩ = some (.int .i64 n) := World.cell?_alloc_at _ _ _ _ rfl
  clear x0 x1 hw hsz
  generalize w1.alloc (.cells #[.string b, .int .i64 n] 23) = W3 at *
  obtain ⟨⟨x0, x1⟩, hw, hsz⟩ := HM.out
  have X0 := fun d' os => cell_regrown x0 d' os
  have X1 := fun d' os => cell_regrown x1 d' os
  have U0 := fun d' os => cell_regrown u0 d' os
  have U1 := fun d' os => cell_regrown u1 d' os
  clear x0 x1 hw hsz u0 u1
  refine wp_region_quiet_below (by kernel_rfl) (by kernel_rfl) ?_
  repeat (go_big_quiet_step (first
    | (go_at_call 10; with_reducible exact Calls.regrown_of (HTX.out _))
    | (go_at_call 12; with_reducible exact Calls.regrown_of (HRT.out _))))
  refine wpQuiet_nil ?_
  intro _ hw'
  obtain ⟨pg, hw''⟩ := hw'
  subst hw''
  replace HM := Lib.hid (HM.out.below (below_regrown W3 pg.d pg.os))
  generalize grow (redrawn W3 pg.d) pg.os = w1 at *
  clear X0 X1 U0 U1
  obtain ⟨⟨x0, x1⟩, hw, hsz⟩ := HM.out
  go_wp2_with (first
    | (go_at_call 7; go_loud ((first | refine (HAW.out _ HM.out.2.1).mono ?_ | refine (HAW.out _ (HM.out.2.1.alloc HM.out.2.1.size _)).mono ?_); rintro e w1 ⟨rfl, hb⟩; replace HM := Lib.hid (HM.out.below hb); clear hb; obtain ⟨⟨x0, x1⟩, hw, hsz⟩ := HM.out))
    | (go_at_call 11; ((with_reducible first | refine (HPS.out _ hw).mono ?_ | refine (HPS.out _ (hw.alloc hw.size _)).mono ?_); rintro e w1 ⟨rfl, hb⟩; (first | replace HM := Lib.hid (HM.out.below hb) | replace HM := Lib.hid ((HM.out.below ((Below.refl _ _).alloc (Nat.le_refl _) _)).below hb)); clear hb x0 x1 hw hsz; obtain ⟨⟨x0, x1⟩, hw, hsz⟩ := HM.out))
    | (go_at_call 13; go_loud (refine (HRS.out _).mono ?_; rintro e w2 ⟨rfl, hb⟩; have q0 : w2.cell? ⟨w1.heap.size, 0, none⟩ = some (.string G) := (hb.cell (p := ⟨w1.heap.size, 0, none⟩) (by simp)).trans (by rw [World.cell?_alloc_new]; rfl); have q1 : w2.cell? ⟨w1.heap.size, 1, none⟩ = some (.int .i64 N) := (hb.cell (p := ⟨w1.heap.size, 1, none⟩) (by simp)).trans (by rw [World.cell?_alloc_new]; rfl); have hq0 := World.block_lt_of_cell? w2 ⟨w1.heap.size, 0, none⟩ q0; replace HM := Lib.hid ((HM.out.below ((Below.refl _ _).alloc (Nat.le_refl _) _)).below hb); clear hb x0 x1 hw hsz; obtain ⟨⟨x0, x1⟩, hw, hsz⟩ := HM.out)))
  go_ret
  exact ⟨rfl, hw.alloc hw.size _⟩
theorem rtext_any (b : ByteArray) (n : Int) (h : rightD b n = true) (w : World) :
    Calls Tryd.prog 12 #[.agg #[.string b, .int .i64 n]] w fun e w' => e = .returned (.string ⟨(textD b.data.toList n).toArray⟩) ∧ Below w.heap.size w w' := by
  obtain ⟨h1, h2, h3, h4, _⟩ := right_facts b n h
  unfold textD
  by_cases h0 : n = 0
  · subst h0
    rw [if_pos rfl, back_bytes]
    exact rtext_none b w
  · rw [if_neg h0]
    have k := rtext_some b n.toNat w (by omega) (by omega) h2
    rw [show ((n.toNat : Nat) : Int) = n by omega] at k
    exact k
set_option maxHeartbeats 1000000 in
theorem cwords_long (hP : CParseOk) (hU : CPutOk) (b : ByteArray) (n : Int) (s : ByteArray) (w : World) (hV : VarsOk w) (h : 100 < b.size ∨ 100 < s.size) :
    Calls Tryd.prog 3 #[.agg #[.string b, .int .i64 n], .string s] w fun e w' => e = .returned (.bool true) ∧ Below w.heap.size w w' := by
  have HAW := Lib.hid (fun W (hb : Below w.heap.size w W) => cawake_any hP hU W (hV.below hb))
  have HM := Lib.hid (NAt.start w b n)
  clear hP hU hV
  by_cases h1 : 100 < b.size
  · have d1 : decide ((100 : Int) < (b.size : Int)) = true := decide_eq_true (by omega)
    go_enter Tryd.func3, Tryd.ntmps3
    go_wp2_with (go_at_call 7; go_loud ((first | refine (HAW.out _ HM.out.2.1).mono ?_ | refine (HAW.out _ (HM.out.2.1.alloc HM.out.2.1.size _)).mono ?_); rintro e w1 ⟨rfl, hb⟩; replace HM := Lib.hid (HM.out.below hb); clear hb; obtain ⟨⟨x0, x1⟩, hw, hsz⟩ := HM.out))
    go_ret
    exact ⟨rfl, hw⟩
  · have h2 : 100 < s.size := by omega
    have d1 : decide ((100 : Int) < (b.size : Int)) = false := decide_eq_false (by omega)
    have d2 : decide ((100 : Int) < (s.size : Int)) = true := decide_eq_true (by omega)
    clear h
    go_enter Tryd.func3, Tryd.ntmps3
    go_wp2_with (go_at_call 7; go_loud ((first | refine (HAW.out _ HM.out.2.1).mono ?_ | refine (HAW.out _ (HM.out.2.1.alloc HM.out.2.1.size _)).mono ?_); rintro e w1 ⟨rfl, hb⟩; replace HM := Lib.hid (HM.out.below hb); clear hb; obtain ⟨⟨x0, x1⟩, hw, hsz⟩ := HM.out))
    go_ret
    exact ⟨rfl, hw⟩
theorem textD_len (b : List UInt8) (n : Int) : (textD b n).length ≤ b.length + 3 := by
  unfold textD digD
  split
  · omega
  · split <;> simp
theorem cwords_any (hR : CRightOk) (hT : CTextOk) (hP : CParseOk) (hU : CPutOk) (b : ByteArray) (n : Int) (s : ByteArray) (w : World) (hV : VarsOk w) :
    Calls Tryd.prog 3 #[.agg #[.string b, .int .i64 n], .string s] w fun e w' => e = .returned (.bool true) ∧ Below w.heap.size w w' := by
  by_cases hb : b.size ≤ 100
  case neg => exact cwords_long hP hU b n s w hV (by omega)
  by_cases hs : s.size ≤ 100
  case neg => exact cwords_long hP hU b n s w hV (by omega)
  have hps := fun W (hB : Below w.heap.size w W) => hP s W (hV.below hB) (by omega)
  have hrs := fun W => rparse_any s W hs
  unfold readE at hps
  unfold readV at hrs
  have hcr := fun W => hR b n W (by omega)
  have hrr := fun W => rcright_any b n W
  have htx := fun W => hT b n W (by omega)
  generalize readD s.data.toList = x at hps hrs
  obtain ⟨fine, gb, gn⟩ := x
  simp only at hps hrs
  cases hr : rightD b n
  · rw [hr] at hcr hrr htx
    cases fine
    · exact cwords_nx hP hU b n s w hV hb hs _ _ hcr hrr htx hps hrs
    · exact cwords_nf hP hU b n s w hV hb hs _ _ hcr hrr htx hps hrs
  · rw [hr] at hcr hrr htx
    obtain ⟨h1, h2, h3, h4, _⟩ := right_facts b n hr
    have hrt := fun W => rtext_any b n hr W
    have hpt := fun W (hB : Below w.heap.size w W) => hP ⟨(textD b.data.toList n).toArray⟩ W (hV.below hB) (by
      show (textD b.data.toList n).toArray.size ≤ 300
      have := textD_len b.data.toList n
      have hl : b.data.toList.length = b.size := by simp
      rw [List.size_toArray]
      omega)
    rw [show ((⟨(textD b.data.toList n).toArray⟩ : ByteArray).data.toList) = textD b.data.toList n from rfl, read_text b n hr] at hpt
    unfold readE at hpt
    simp only [back_bytes, show ((n.toNat : Nat) : Int) = n by omega] at hpt
    cases fine
    · exact cwords_rx hP hU b n s w hV hb hs _ _ _ hcr hrr htx hps hrs hrt hpt
    · exact cwords_rf hP hU b n s w hV hb hs _ _ _ hcr hrr htx hps hrs hrt hpt
end Go.Proofs.YtaaeppembjkelaaDoor
