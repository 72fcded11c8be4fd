/-
The landed table: New; what it tells of its links.
The landed link: what one that isn't there answers, or one that is down, or not.
-/
import Derived.Test.YtgoaepjjegblnaaGreatDoorMix26
import Derived.Test.YtgoaepjjegblnaaGreatDoorMix03
import Derived.Test.YtgoaepjjegblnaaGreatDoorMix10
import Derived.Test.YtgoaepjjegblnaaGreatDoorMix14
namespace Go.Proofs.YtgoaepjjegblnaaGreatDoor
open Go.RowKit
set_option maxRecDepth 20000
abbrev clV (b : ByteArray) (n : Int) : Value := .agg #[.string b, .int .i64 n]
abbrev actN : Value := .slice none 0 0
theorem capart21 (b : ByteArray) (n : Int) (w : World) (hb : b.size ≤ 140737488351232) : Calls Tryz.prog 91 #[clV b n] w fun e w' => e = .returned (clV b n) ∧ Below w.heap.size w w' := by
  obtain ⟨w1, hw1⟩ : ∃ w1, w1 = (w.alloc (.cells #[.string b, .int .i64 n] 54)).alloc (.cells #[.string ⟨#[]⟩, .int .i64 0] 54) := ⟨_, rfl⟩
  have hB1 : Below w.heap.size w w1 := by rw [hw1]; exact ((Below.refl _ w).alloc (Nat.le_refl _) _).alloc (by simp) _
  have hr1 : RowAt w1 w.heap.size [.string b, .int .i64 n] := by rw [hw1]; exact (RowAt.new w w.heap.size rfl [.string b, .int .i64 n] 54).alloc _
  have hr2 : RowAt w1 (w.heap.size + 1) [.string ⟨#[]⟩, .int .i64 0] := by rw [hw1]; exact RowAt.new _ _ (by simp) [.string ⟨#[]⟩, .int .i64 0] 54
  have HCL := Lib.hid (fun W => clone_any b W hb)
  have HB1 := Lib.hid hB1
  have HR1 := Lib.hid hr1
  have HR2 := Lib.hid hr2
  obtain ⟨c0, f0, -⟩ := hr1.get 0 rfl
  obtain ⟨c1, f1, -⟩ := hr1.get 1 rfl
  clear hb hB1 hr1 hr2
  go_enter Tryz.func91, Tryz.ntmps91
  go_upto_region 1 with fail
  rw [← hw1]
  clear hw1
  go_wp2_with (go_at_call 104; (with_reducible refine (HCL.out _).mono ?_); rintro e w2 ⟨rfl, hb⟩; have HB2 := Lib.hid (HB1.out.trans (hb.mono HB1.out.size)); have HQ1 := Lib.hid (HR1.out.below hb); have HQ2 := Lib.hid (HR2.out.below hb); clear hb c0 f0 c1 f1; obtain ⟨c0, f0, -⟩ := HQ1.out.get 0 rfl; obtain ⟨c1, f1, -⟩ := HQ1.out.get 1 rfl; obtain ⟨d0, g0, -⟩ := HQ2.out.get 0 rfl; obtain ⟨d1, g1, -⟩ := HQ2.out.get 1 rfl)
  have hz := HB1.out.size
  have hz2 := HB2.out.size
  have HBE := Lib.hid (((HB2.out.setCell (p := ⟨w.heap.size, 0, none⟩) (Nat.le_refl _) (.string b)).setCell (p := ⟨w.heap.size + 1, 0, none⟩) (by simp) (.string b)).setCell (p := ⟨w.heap.size + 1, 1, none⟩) (by simp) (.int .i64 n))
  have S := ((Rw.start (HQ2.out.other (g := w.heap.size) (p := 0) (.string b) (by omega))).set 0 (.string b)).set 1 (.int .i64 n)
  have S2 : RowAt (((w2.setCell ⟨w.heap.size, 0, none⟩ (.string b)).setCell ⟨w.heap.size + 1, 0, none⟩ (.string b)).setCell ⟨w.heap.size + 1, 1, none⟩ (.int .i64 n)) (w.heap.size + 1) [.string b, .int .i64 n] := S.row
  clear S
  generalize (((w2.setCell ⟨w.heap.size, 0, none⟩ (.string b)).setCell ⟨w.heap.size + 1, 0, none⟩ (.string b)).setCell ⟨w.heap.size + 1, 1, none⟩ (.int .i64 n)) = w5 at *
  exact bodyPost_ret (v := clV b n) (by simp [results, Tryz.results91, go_sem, S2.cell 0 rfl, S2.cell 1 rfl]) rfl ⟨rfl, HBE.out⟩
set_option maxHeartbeats 1000000 in
theorem cnew21_yes (ob : ByteArray) (on : Int) (can : Xq) (w : World) (ho : rightD ob on = true) (hc : can.ok = true) (hs : ob.size ≤ 140737488351232) :
    Calls Tryz.prog 42 #[clV ob on, xV can] w fun e w' => ∃ p, e = .returned (.tuple #[ptr20 p, .int .i64 0]) ∧ ∃ F, TbL w' p ⟨ob, on, can, [], 0⟩ F ∧ (∀ k, F k → w.heap.size ≤ k) ∧ Below w.heap.size w w' := by
  obtain ⟨w1, hw1⟩ : ∃ w1, w1 = (w.alloc (.cells #[.string ob, .int .i64 on] 54)).alloc (.cells #[.bool can.wide, .bool can.srej, .int .i64 can.n1, .int .i64 can.k, .int .i64 can.t1, .int .i64 can.n2] 23) := ⟨_, rfl⟩
  have hB1 : Below w.heap.size w w1 := by rw [hw1]; exact ((Below.refl _ w).alloc (Nat.le_refl _) _).alloc (by simp) _
  have hr1 : RowAt w1 w.heap.size [.string ob, .int .i64 on] := by rw [hw1]; exact (RowAt.new w w.heap.size rfl [.string ob, .int .i64 on] 54).alloc _
  have hr2 : RowAt w1 (w.heap.size + 1) [.bool can.wide, .bool can.srej, .int .i64 can.n1, .int .i64 can.k, .int .i64 can.t1, .int .i64 can.n2] := by rw [hw1]; exact RowAt.new _ _ (by simp) [.bool can.wide, .bool can.srej, .int .i64 can.n1, .int .i64 can.k, .int .i64 can.t1, .int .i64 can.n2] 23
  have hcr := fun W => cright_any ob on W
  rw [ho] at hcr
  have hxr := fun W => xright_any can.wide can.srej can.n1 can.k can.t1 can.n2 W
  unfold Xq.ok at hc
  rw [hc] at hxr
  have HCR := Lib.hid hcr
  have HXR := Lib.hid hxr
  have HAP := Lib.hid (fun W => capart21 ob on W hs)
  have HB1 := Lib.hid hB1
  have HR1 := Lib.hid hr1
  have HR2 := Lib.hid hr2
  obtain ⟨c0, -, -⟩ := hr1.get 0 rfl
  obtain ⟨c1, -, -⟩ := hr1.get 1 rfl
  clear ho hc hs hB1 hr1 hr2 hcr hxr
  go_enter Tryz.func42, Tryz.ntmps42
  go_upto_region 1 with fail
  rw [← hw1]
  clear hw1
  go_upto_region 5 with (first
    | (go_at_call 90; (with_reducible refine (HCR.out _).mono ?_); rintro e w2 ⟨rfl, hb⟩; have HB2 := Lib.hid (HB1.out.trans (hb.mono HB1.out.size)); have HQ1 := Lib.hid (HR1.out.below hb); have HQ2 := Lib.hid (HR2.out.below hb); clear hb c0 c1; have e0 := HQ2.out.cell 0 rfl; have e1 := HQ2.out.cell 1 rfl; have e2 := HQ2.out.cell 2 rfl; have e3 := HQ2.out.cell 3 rfl; have e4 := HQ2.out.cell 4 rfl; have e5 := HQ2.out.cell 5 rfl)
    | (go_at_call 66; (with_reducible refine (HXR.out _).mono ?_); rintro e w3 ⟨rfl, hb⟩; have HB3 := Lib.hid (HB2.out.trans (hb.mono HB2.out.size)); have HP1 := Lib.hid (HQ1.out.below hb); have HP2 := Lib.hid (HQ2.out.below hb); clear hb e0 e1 e2 e3 e4 e5))
  refine wp_region_held (S := fun W' => Below w3.heap.size w3 W') (by kernel_rfl) ?_
  change wpAnyH _ _ _ _ _ _ _ _ w3.drew
  have HB := Lib.hid ((Below.refl w3.heap.size w3).drew)
  refine wpAnyH_take (i := 0) (v := ?_) rfl (by kernel_rfl) (by kernel_rfl) (by kernel_rfl) (fun _ _ _ h => h) (Or.inl ⟨by rfl, ?_⟩) HB.out ?_
  rotate_left
  · intro w' hw'
    have x0 := (HP1.out.below hw').cell 0 rfl; have x1 := (HP1.out.below hw').cell 1 rfl
    go_simp
    with_reducible rfl
  go_simp
  refine wpAnyH_take (i := 2) (v := ?_) rfl (by kernel_rfl) (by kernel_rfl) (by kernel_rfl) (fun _ _ _ h => h) (Or.inl ⟨by rfl, ?_⟩) HB.out ?_
  rotate_left
  · intro w' hw'
    have x0 := (HP2.out.below hw').cell 0 rfl; have x1 := (HP2.out.below hw').cell 1 rfl; have x2 := (HP2.out.below hw').cell 2 rfl; have x3 := (HP2.out.below hw').cell 3 rfl; have x4 := (HP2.out.below hw').cell 4 rfl; have x5 := (HP2.out.below hw').cell 5 rfl
    go_simp
    with_reducible rfl
  go_simp
  refine wpAnyH_ready (rs := [1]) (by kernel_rfl) (by simp) ?_
  refine AllReadyH.cons rfl (fun K hK => ?_) AllReadyH.nil
  go_simp
  go_at_call 91
  refine (HAP.out _).mono ?_
  rintro e w6 ⟨rfl, hb6⟩
  clear HB
  have HB := Lib.hid (show Below w3.heap.size w3 w6 from (Below.refl _ w3).drew.trans hb6)
  clear hb6
  change K _ _
  refine hK.out _ _ HB.out (fun _ => ?_)
  clear hK K
  refine wpAnyH_take (i := 3) (v := ?_) rfl (by kernel_rfl) (by kernel_rfl) (by kernel_rfl) (fun _ _ _ h => h) (Or.inl ⟨by rfl, ?_⟩) HB.out ?_
  rotate_left
  · intro w' hw'
    go_simp
    with_reducible rfl
  go_simp
  refine wpAnyH_ready (rs := [4]) (by kernel_rfl) (by simp) ?_
  refine AllReadyH.cons rfl (fun K hK => ?_) AllReadyH.nil
  go_simp
  have HTB := Lib.hid (TbL.new w6 ob on can)
  have hz := HB.out.size
  have hz3 := HB3.out.size
  have HBE := Lib.hid (show Below w.heap.size w (w6.alloc (.cells #[.string ob, .int .i64 on, .bool can.wide, .bool can.srej, .int .i64 can.n1, .int .i64 can.k, .int .i64 can.t1, .int .i64 can.n2, .slice none 0 0, .int .i64 0] 177)) from (HB3.out.trans (HB.out.mono HB3.out.size)).alloc (Nat.le_trans hz3 hz) _)
  replace HB := Lib.hid (show Below w3.heap.size w3 (w6.alloc (.cells #[.string ob, .int .i64 on, .bool can.wide, .bool can.srej, .int .i64 can.n1, .int .i64 can.k, .int .i64 can.t1, .int .i64 can.n2, .slice none 0 0, .int .i64 0] 177)) from HB.out.alloc hz _)
  have HZ := Lib.hid (Nat.le_trans hz3 hz)
  clear hz hz3
  refine hK.out _ _ HB.out (fun _ => ?_)
  clear hK K
  refine wpAnyH_take (i := 5) (v := ?_) rfl (by kernel_rfl) (by kernel_rfl) (by kernel_rfl) (fun _ _ _ h => h) (Or.inl ⟨by rfl, ?_⟩) HB.out ?_
  rotate_left
  · intro w' hw'
    go_simp
    with_reducible rfl
  go_simp
  refine wpAnyH_take (i := 6) (v := ?_) rfl (by kernel_rfl) (by kernel_rfl) (by kernel_rfl) (fun _ _ _ h => h) (Or.inl ⟨by rfl, ?_⟩) HB.out ?_
  rotate_left
  · intro w' hw'
    go_simp
    with_reducible rfl
  go_simp
  refine wpAnyH_done (by kernel_rfl) ?_ _
  go_wp2_with fail
  exact bodyPost_ret (v := .tuple #[ptr20 w6.heap.size, .int .i64 0]) (by simp [results, Tryz.results42, go_sem]) rfl ⟨w6.heap.size, rfl, _, HTB.out, fun k hk => by rw [hk]; exact HZ.out, HBE.out⟩
section
variable (w : World) (p : Nat) (tv : Value) (L : List En) (T : Tb)
theorem cfull21 (h : TbAt w p tv L T) (hl : L.length ≤ 16) : Calls Tryz.prog 93 #[ptr20 p] w fun e w' => e = .returned (.bool (decide (4 ≤ L.length))) ∧ w' = w := by
  obtain ⟨ad, c, hv, hA⟩ := h.ents.see
  have c8 := h.row.cell 8 rfl
  subst hv
  clear h hA
  generalize L.length = n at *
  have d : decide ((4 : Int) ≤ (n : Int)) = decide (4 ≤ n) := by
    by_cases e : 4 ≤ n
    · rw [decide_eq_true e, decide_eq_true (by omega)]
    · rw [decide_eq_false e, decide_eq_false (by omega)]
  generalize decide (4 ≤ n) = b at *
  go_enter Tryz.func93, Tryz.ntmps93
  go_wp2_with fail
  exact bodyPost_ret (v := .bool b) (by simp [results, Tryz.results93, go_sem]) rfl ⟨rfl, rfl⟩
/-- the number of the link to a peer -/
def findT (L : List En) (pb : ByteArray) (pn : Int) : Int := match L.find? (isTo pb pn) with | some e => e.id | none => 0
theorem cfind21 (pb : ByteArray) (pn : Int) (h : TbAt w p tv L T) (hl : L.length ≤ 16) : Calls Tryz.prog 92 #[ptr20 p, clV pb pn] w fun e w' => e = .returned (.int .i64 (findT L pb pn)) ∧ Below w.heap.size w w' := by
  have hb0 := (Below.refl w.heap.size w).alloc (Nat.le_refl _) (.cells #[.string pb, .int .i64 pn] 54)
  have hT := h.below hb0
  have HT := Lib.hid (cto21 _ p tv L T pb pn hT hl)
  have HB := Lib.hid hb0
  unfold findT
  cases hf : L.find? (isTo pb pn) with
  | none =>
    rw [hf] at HT
    unfold enP at HT
    clear hT hb0 h hl hf
    go_enter Tryz.func92, Tryz.ntmps92
    go_wp2_with (go_at_call 145; (with_reducible refine HT.out.mono ?_); rintro e w1 ⟨rfl, hb⟩; have HB1 := Lib.hid (HB.out.trans (hb.mono HB.out.size)); clear hb)
    exact bodyPost_ret (v := .int .i64 0) (by simp [results, Tryz.results92, go_sem]) rfl ⟨rfl, HB1.out⟩
  | some x =>
    have hx := hT.each x (List.mem_of_find?_eq_some hf)
    have HX := Lib.hid (fun W (hb : Below _ _ W) => (hx.stay (SameOn.of_below hb hx.mem)).row.cell 1 rfl)
    rw [hf] at HT
    unfold enP at HT
    clear hT hb0 h hl hf hx
    go_enter Tryz.func92, Tryz.ntmps92
    go_wp2_with (go_at_call 145; (with_reducible refine HT.out.mono ?_); rintro e w1 ⟨rfl, hb⟩; have x1 := HX.out _ hb; have HB1 := Lib.hid (HB.out.trans (hb.mono HB.out.size)); clear hb)
    exact bodyPost_ret (v := .int .i64 x.id) (by simp [results, Tryz.results92, go_sem]) rfl ⟨rfl, HB1.out⟩
/-- what a link is; down, if it isn't there -/
def stateT (L : List En) (id : Int) : Int := match L.find? (isNo id) with | some e => e.lk.state | none => 0
theorem cstate21 (id : Int) (h : TbAt w p tv L T) (hl : L.length ≤ 16) : Calls Tryz.prog 47 #[ptr20 p, .int .i64 id] w fun e w' => e = .returned (.int .i64 (stateT L id)) ∧ Below w.heap.size w w' := by
  have HT := Lib.hid (cnumbered21 w p tv L T id h hl)
  unfold stateT
  cases hf : L.find? (isNo id) with
  | none =>
    rw [hf] at HT
    unfold enP at HT
    clear h hl hf
    go_enter Tryz.func47, Tryz.ntmps47
    go_wp2_with (go_at_call 96; (with_reducible refine HT.out.mono ?_); rintro e w1 ⟨rfl, hb⟩; have HB1 := Lib.hid hb; clear hb)
    exact bodyPost_ret (v := .int .i64 0) (by simp [results, Tryz.results47, go_sem]) rfl ⟨rfl, HB1.out⟩
  | some x =>
    have hx := h.each x (List.mem_of_find?_eq_some hf)
    have HX := Lib.hid (fun W (hb : Below w.heap.size w W) => (hx.stay (SameOn.of_below hb hx.mem)))
    rw [hf] at HT
    unfold enP at HT
    clear h hl hf hx
    go_enter Tryz.func47, Tryz.ntmps47
    go_wp2_with (first
      | (go_at_call 96; (with_reducible refine HT.out.mono ?_); rintro e w1 ⟨rfl, hb⟩; have x1 := (HX.out _ hb).row.cell 0 rfl; have HS := Lib.hid (cstate20 (HX.out _ hb).link); have HB1 := Lib.hid hb; clear hb)
      | (go_at_call 29; (with_reducible refine HS.out.mono ?_); rintro e w1 ⟨rfl, rfl⟩))
    exact bodyPost_ret (v := .int .i64 x.lk.state) (by simp [results, Tryz.results47, go_sem]) rfl ⟨rfl, HB1.out⟩
section
variable (id : Int) (h : TbAt w p tv L T) (hl : L.length ≤ 16) (hf : L.find? (isNo id) = none)
include h hl hf
theorem cwide21_none : Calls Tryz.prog 52 #[ptr20 p, .int .i64 id] w fun e w' => e = .returned (.bool false) ∧ Below w.heap.size w w' := by
  have HT := Lib.hid (cnumbered21 w p tv L T id h hl)
  rw [hf] at HT
  unfold enP at HT
  clear h hl hf
  go_enter Tryz.func52, Tryz.ntmps52
  go_wp2_with (go_at_call 96; (with_reducible refine HT.out.mono ?_); rintro e w1 ⟨rfl, hb⟩; have HB1 := Lib.hid hb; clear hb)
  exact bodyPost_ret (v := .bool false) (by simp [results, Tryz.results52, go_sem]) rfl ⟨rfl, HB1.out⟩
theorem cwaits21_none : Calls Tryz.prog 53 #[ptr20 p, .int .i64 id] w fun e w' => e = .returned (.int .i64 0) ∧ Below w.heap.size w w' := by
  have HT := Lib.hid (cnumbered21 w p tv L T id h hl)
  rw [hf] at HT
  unfold enP at HT
  clear h hl hf
  go_enter Tryz.func53, Tryz.ntmps53
  go_wp2_with (go_at_call 96; (with_reducible refine HT.out.mono ?_); rintro e w1 ⟨rfl, hb⟩; have HB1 := Lib.hid hb; clear hb)
  exact bodyPost_ret (v := .int .i64 0) (by simp [results, Tryz.results53, go_sem]) rfl ⟨rfl, HB1.out⟩
theorem clet21_none (fv : Value) : Calls Tryz.prog 97 #[ptr20 p, .int .i64 id, fv] w fun e w' => e = .returned (.tuple #[actN, .int .i64 7]) ∧ Below w.heap.size w w' := by
  have HT := Lib.hid (cnumbered21 w p tv L T id h hl)
  rw [hf] at HT
  unfold enP at HT
  clear h hl hf
  go_enter Tryz.func97, Tryz.ntmps97
  go_wp2_with (go_at_call 96; (with_reducible refine HT.out.mono ?_); rintro e w1 ⟨rfl, hb⟩; have HB1 := Lib.hid hb; clear hb)
  exact bodyPost_ret (v := .tuple #[actN, .int .i64 7]) (by simp [results, Tryz.results97, go_sem]) rfl ⟨rfl, HB1.out⟩
theorem cpeer21_none : Calls Tryz.prog 51 #[ptr20 p, .int .i64 id] w fun e w' => e = .returned (.tuple #[clV ⟨#[]⟩ 0, .bool false]) ∧ Below w.heap.size w w' := by
  have hb0 := (Below.refl w.heap.size w).alloc (Nat.le_refl _) (.cells #[.string ⟨#[]⟩, .int .i64 0] 54)
  have hr0 := RowAt.new w w.heap.size rfl [.string ⟨#[]⟩, .int .i64 0] 54
  have HT := Lib.hid (cnumbered21 _ p tv L T id (h.below hb0) hl)
  rw [hf] at HT
  unfold enP at HT
  have HB := Lib.hid hb0
  have HR := Lib.hid hr0
  clear h hl hf hb0 hr0
  go_enter Tryz.func51, Tryz.ntmps51
  go_wp2_with (go_at_call 96; (with_reducible refine HT.out.mono ?_); rintro e w1 ⟨rfl, hb⟩; have HB1 := Lib.hid (HB.out.trans (hb.mono HB.out.size)); have HR1 := Lib.hid (HR.out.below hb); clear hb; obtain ⟨c0, f0, -⟩ := HR1.out.get 0 rfl; obtain ⟨c1, f1, -⟩ := HR1.out.get 1 rfl)
  have S := ((Rw.start HR1.out).set 0 (.string ⟨#[]⟩)).set 1 (.int .i64 0)
  have S2 : RowAt ((w1.setCell ⟨w.heap.size, 0, none⟩ (.string ⟨#[]⟩)).setCell ⟨w.heap.size, 1, none⟩ (.int .i64 0)) w.heap.size [.string ⟨#[]⟩, .int .i64 0] := S.row
  have HBE := Lib.hid ((HB1.out.setCell (p := ⟨w.heap.size, 0, none⟩) (Nat.le_refl _) (.string ⟨#[]⟩)).setCell (p := ⟨w.heap.size, 1, none⟩) (Nat.le_refl _) (.int .i64 0))
  clear S
  generalize ((w1.setCell ⟨w.heap.size, 0, none⟩ (.string ⟨#[]⟩)).setCell ⟨w.heap.size, 1, none⟩ (.int .i64 0)) = w5 at *
  exact bodyPost_ret (v := .tuple #[clV ⟨#[]⟩ 0, .bool false]) (by simp [results, Tryz.results51, go_sem, S2.cell 0 rfl, S2.cell 1 rfl]) rfl ⟨rfl, HBE.out⟩
theorem cdisc21_none : Calls Tryz.prog 48 #[ptr20 p, .int .i64 id] w fun e w' => e = .returned (.tuple #[actN, .int .i64 7]) ∧ Below w.heap.size w w' := by
  have HLT := Lib.hid (fun fv => clet21_none w p tv L T id h hl hf fv)
  clear h hl hf
  go_enter Tryz.func48, Tryz.ntmps48
  go_wp2_with (go_at_call 97; (with_reducible refine (HLT.out _).mono ?_); rintro e w1 ⟨rfl, hb⟩; have HB1 := Lib.hid hb; clear hb)
  exact bodyPost_ret (v := .tuple #[actN, .int .i64 7]) (by simp [results, Tryz.results48, go_sem]) rfl ⟨rfl, HB1.out⟩
theorem csend21_none (pid : Int) (text : ByteArray) : Calls Tryz.prog 49 #[ptr20 p, .int .i64 id, .int .i64 pid, .string text] w fun e w' => e = .returned (.tuple #[actN, .int .i64 7]) ∧ Below w.heap.size w w' := by
  have hb0 := ((Below.refl w.heap.size w).alloc (Nat.le_refl _) (.cells #[.int .i64 pid] 3)).alloc (by simp) (.cells #[.string text] 9)
  have HLT := Lib.hid (fun fv => clet21_none _ p tv L T id (h.below hb0) hl hf fv)
  have HB := Lib.hid hb0
  clear h hl hf hb0
  go_enter Tryz.func49, Tryz.ntmps49
  go_wp2_with (go_at_call 97; (with_reducible refine (HLT.out _).mono ?_); rintro e w1 ⟨rfl, hb⟩; have HB1 := Lib.hid (HB.out.trans (hb.mono HB.out.size)); clear hb)
  exact bodyPost_ret (v := .tuple #[actN, .int .i64 7]) (by simp [results, Tryz.results49, go_sem]) rfl ⟨rfl, HB1.out⟩
theorem chold21_none (on : Bool) : Calls Tryz.prog 50 #[ptr20 p, .int .i64 id, .bool on] w fun e w' => e = .returned (.tuple #[actN, .int .i64 7]) ∧ Below w.heap.size w w' := by
  have hb0 := (Below.refl w.heap.size w).alloc (Nat.le_refl _) (.cells #[.bool on] 4)
  have HLT := Lib.hid (fun fv => clet21_none _ p tv L T id (h.below hb0) hl hf fv)
  have HB := Lib.hid hb0
  clear h hl hf hb0
  go_enter Tryz.func50, Tryz.ntmps50
  go_wp2_with (go_at_call 97; (with_reducible refine (HLT.out _).mono ?_); rintro e w1 ⟨rfl, hb⟩; have HB1 := Lib.hid (HB.out.trans (hb.mono HB.out.size)); clear hb)
  exact bodyPost_ret (v := .tuple #[actN, .int .i64 7]) (by simp [results, Tryz.results50, go_sem]) rfl ⟨rfl, HB1.out⟩
end
end
end Go.Proofs.YtgoaepjjegblnaaGreatDoor
namespace Go.Proofs.YtgoaepjjegblnaaGreatDoor
open Go.RowKit
set_option maxRecDepth 20000
theorem Turn.below' {w W W' : World} {r : Nat} (h : Turn (fun k => k = r) W W') (hb : Below w.heap.size w W) (hr : w.heap.size ≤ r) : Below w.heap.size w W' :=
  ⟨h.os.trans hb.os, h.tape.trans hb.tape, h.output.trans hb.output, Nat.le_trans hb.size h.size, fun k hk => (h.block k (Nat.lt_of_lt_of_le hk hb.size) fun e => by omega).trans (hb.block k hk)⟩
variable (w : World)
end Go.Proofs.YtgoaepjjegblnaaGreatDoor
