/-
The landed code's Back.
-/
import Derived.Test.YtgoaepjjegblnaaGreatDoorMix31
import Derived.Test.YtgoaepjjegblnaaGreatDoorMix32
import Derived.Test.YtgoaepjjegblnaaGreatDoorMix05
import Derived.Deep.RegionHeld
namespace Go.Proofs.YtgoaepjjegblnaaGreatDoor
open Go.RowKit Go.Shelf
attribute [local go_sem] Oper.semAt_some
set_option maxRecDepth 20000
theorem backward_any (a : Option Addr) (k cap : Nat) (w : World) : Calls Tryz.prog 176 #[.slice a k cap] w fun e w' => e = .returned (.func (.func 211) #[] #[.pointer (some ⟨w.heap.size, 0, none⟩)]) ∧ w' = w.alloc (.cells #[.slice a k cap] 55) :=
  (callsIn_wide (n := 3)).1 (backward_in Fence.wide 3 trivial rfl a k cap w)
theorem keeps7 (W : World) (m : Nat) (u0 u1 u2 u3 u4 u5 u6 : Value) : KeepsOthers W (((((((W.setCell ⟨m, 0, none⟩ u0).setCell ⟨m, 1, none⟩ u1).setCell ⟨m, 2, none⟩ u2).setCell ⟨m, 3, none⟩ u3).setCell ⟨m, 4, none⟩ u4).setCell ⟨m, 5, none⟩ u5).setCell ⟨m, 6, none⟩ u6) :=
  (KeepsOthers.setCell _ _ _).trans ((KeepsOthers.setCell _ _ _).trans ((KeepsOthers.setCell _ _ _).trans ((KeepsOthers.setCell _ _ _).trans ((KeepsOthers.setCell _ _ _).trans ((KeepsOthers.setCell _ _ _).trans (KeepsOthers.setCell _ _ _))))))
/-- a way out that never panics -/
def noPan (Q : Exit → Act → World → Prop) : Exit → Act → World → Prop
  | .panic _, _, _ => False
  | .normal, a, w => Q .normal a w
  | .ret, a, w => Q .ret a w
  | .exit i, a, w => Q (.exit i) a w
  | .goto l, a, w => Q (.goto l) a w
  | .outgrown, a, w => Q .outgrown a w
theorem noPan_le (Q : Exit → Act → World → Prop) (e : Exit) (a : Act) (w : World) (h : noPan Q e a w) : Q e a w := by
  cases e <;> first | exact h | exact h.elim
theorem VAt.of {w W : World} {m r : Nat} {t0 t1 t2 t3 t4 t5 : Value} (hp : P7 W m t0 t1 t2 t3 t4 t5 (.slice none 0 0)) (hr : P7 W r (.string ⟨#[]⟩) (.int .i64 0) (.string ⟨#[]⟩) (.int .i64 0) (.bool false) (.bool false) (.slice none 0 0)) (hb : Below w.heap.size w W) (hm : w.heap.size ≤ m) (hrm : r < m) :
    VAt w W m r (.slice none 0 0) t0 t1 t2 t3 t4 t5 [] :=
  ⟨⟨hp.k6.cell, hp.k6.free, OwnE.nil _ _ _, by simp [Value.ownBlock], hb, by omega, hm, hp.k6.lt, hp.k6.lt⟩, hp, hr, hrm⟩
set_option maxHeartbeats 4000000 in
theorem cback_any (tb fb : ByteArray) (tn fn : Int) (tm fm : Bool) (a : Option Addr) (cap : Nat) (D : List Ent) (w : World) (hD : D.length ≤ 900) (hE : EntsAt w a cap D) (ht : tb.size ≤ 140737488351232) (hf : fb.size ≤ 140737488351232) (hS : ∀ e ∈ D, e.1.size ≤ 140737488351232) :
    Calls Tryz.prog 133 #[.agg #[.string tb, .int .i64 tn, .string fb, .int .i64 fn, .bool tm, .bool fm, .slice a D.length cap]] w fun e w' => (∃ da dc, e = .returned (.agg #[.string fb, .int .i64 fn, .string tb, .int .i64 tn, .bool (!(tm && !fm)), .bool (tm && !fm), .slice da (revD D).length dc]) ∧ EntsAt w' da dc (revD D)) ∧ Below w.heap.size w w' := by
  obtain ⟨W0, hW0⟩ : ∃ W0, W0 = ((w.alloc (.cells #[.string tb, .int .i64 tn, .string fb, .int .i64 fn, .bool tm, .bool fm, .slice a D.length cap] 57)).alloc (.cells #[.string ⟨#[]⟩, .int .i64 0, .string ⟨#[]⟩, .int .i64 0, .bool false, .bool false, .slice none 0 0] 57)) := ⟨_, rfl⟩
  have HB0 := Lib.hid (show Below w.heap.size w W0 from by rw [hW0]; exact ((Below.refl _ w).alloc (Nat.le_refl _) _).alloc (by simp) _)
  have HS0 := Lib.hid (show W0.heap.size = w.heap.size + 1 + 1 from by rw [hW0]; simp)
  have HP := Lib.hid (show P7 W0 w.heap.size _ _ _ _ _ _ _ from by rw [hW0]; exact (P7.new w _ rfl _ _ _ _ _ _ _ _).alloc _)
  have HR := Lib.hid (show P7 W0 (w.heap.size + 1) _ _ _ _ _ _ _ from by rw [hW0]; exact P7.new _ _ (by simp) _ _ _ _ _ _ _ _)
  have HCO := Lib.hid (fun W => command_any tb fb tn fn tm fm a D.length cap W)
  have HAH := Lib.hid (fun c W => ahead_any tb fb tn fn c W ht hf)
  have HBK := Lib.hid (fun W => backward_any a D.length cap W)
  have HE := Lib.hid hE
  clear hE ht hf
  generalize (tm && !fm) = c at *
  refine (callsIn_wide (n := 3)).1 ?_
  refine callsIn_of_wp_marks Tryz.func133 rfl trivial ?_ rfl
  simp only [Tryz.ntmps133, List.size_toArray, List.length_cons, List.length_nil, Nat.reduceAdd, Nat.reduceSub, Array.replicate_succ, Array.replicate_zero, List.push_toArray, List.append_toArray, List.nil_append, List.cons_append]
  refine wpIn_mono (Q := noPan _) ?_ (noPan_le _)
  refine wpIn_wide.2 ?_
  go_wp2
  rw [← hW0]
  clear hW0
  refine wp_region_held (S := fun W' => Below W0.heap.size W0 W') (by kernel_rfl) ?_
  change wpAnyH _ _ _ _ _ _ _ _ W0.drew
  have HB := Lib.hid ((Below.refl W0.heap.size W0).drew)
  refine wpAnyH_take (i := 0) (v := ?_) rfl (by kernel_rfl) (by kernel_rfl) (by kernel_rfl) (fun _ _ _ h => h) (Or.inl ⟨by rfl, ?_⟩) HB.out ?_
  rotate_left
  · intro w' hw'
    obtain ⟨⟨p0, -, pl⟩, ⟨p1, -, -⟩, ⟨p2, -, -⟩, ⟨p3, -, -⟩, ⟨p4, -, -⟩, ⟨p5, -, -⟩, ⟨p6, -, -⟩⟩ := HP.out.below hw'
    go_simp
    with_reducible rfl
  go_simp
  refine wpAnyH_take (i := 1) (v := ?_) rfl (by kernel_rfl) (by kernel_rfl) (by kernel_rfl) (fun _ _ _ h => h) (Or.inl ⟨by rfl, ?_⟩) HB.out ?_
  rotate_left
  · intro w' hw'
    obtain ⟨⟨p0, -, pl⟩, ⟨p1, -, -⟩, ⟨p2, -, -⟩, ⟨p3, -, -⟩, ⟨p4, -, -⟩, ⟨p5, -, -⟩, ⟨p6, -, -⟩⟩ := HP.out.below hw'
    go_simp
    with_reducible rfl
  go_simp
  refine wpAnyH_take (i := 2) (v := ?_) rfl (by kernel_rfl) (by kernel_rfl) (by kernel_rfl) (fun _ _ _ h => h) (Or.inl ⟨by rfl, ?_⟩) HB.out ?_
  rotate_left
  · intro w' hw'
    obtain ⟨⟨p0, -, pl⟩, ⟨p1, -, -⟩, ⟨p2, -, -⟩, ⟨p3, -, -⟩, ⟨p4, -, -⟩, ⟨p5, -, -⟩, ⟨p6, -, -⟩⟩ := HP.out.below hw'
    go_simp
    with_reducible rfl
  go_simp
  refine wpAnyH_take (i := 3) (v := ?_) rfl (by kernel_rfl) (by kernel_rfl) (by kernel_rfl) (fun _ _ _ h => h) (Or.inl ⟨by rfl, ?_⟩) HB.out ?_
  rotate_left
  · intro w' hw'
    obtain ⟨⟨p0, -, pl⟩, ⟨p1, -, -⟩, ⟨p2, -, -⟩, ⟨p3, -, -⟩, ⟨p4, -, -⟩, ⟨p5, -, -⟩, ⟨p6, -, -⟩⟩ := HP.out.below hw'
    go_simp
    with_reducible rfl
  go_simp
  refine wpAnyH_take (i := 4) (v := ?_) rfl (by kernel_rfl) (by kernel_rfl) (by kernel_rfl) (fun _ _ _ h => h) (Or.inl ⟨by rfl, ?_⟩) HB.out ?_
  rotate_left
  · intro w' hw'
    obtain ⟨⟨p0, -, pl⟩, ⟨p1, -, -⟩, ⟨p2, -, -⟩, ⟨p3, -, -⟩, ⟨p4, -, -⟩, ⟨p5, -, -⟩, ⟨p6, -, -⟩⟩ := HP.out.below hw'
    go_simp
    with_reducible rfl
  go_simp
  refine wpAnyH_ready (rs := [5, 8]) (by kernel_rfl) (by simp) ?_
  refine AllReadyH.cons rfl (fun K hK => ?_) (AllReadyH.cons rfl (fun K hK => ?_) AllReadyH.nil)
  rotate_left
  focus
    go_simp
    have hm0 : W0.heap.size ≤ W0.heap.size := Nat.le_refl _
    have HB := Lib.hid (((Below.refl W0.heap.size W0).alloc (Nat.le_refl _) (.cells #[.string ⟨#[]⟩, .int .i64 0, .string ⟨#[]⟩, .int .i64 0, .bool false, .bool false, .slice none 0 0] 57)).drew)
    have HX := Lib.hid ((P7.new W0 W0.heap.size rfl (.string ⟨#[]⟩) (.int .i64 0) (.string ⟨#[]⟩) (.int .i64 0) (.bool false) (.bool false) (.slice none 0 0) 57).drew)
    refine hK.out _ _ HB.out (fun _ => ?_)
    clear hK K
    refine wpAnyH_ready (rs := [5]) (by kernel_rfl) (by simp) ?_
    refine AllReadyH.cons rfl (fun K hK => ?_) AllReadyH.nil
    go_simp
    go_at_call 65
    refine (HCO.out _).mono ?_
    rintro e w3 ⟨rfl, hb⟩
    have HB := Lib.hid (HB.out.trans (hb.mono HB.out.size))
    have HX := Lib.hid (HX.out.below hb)
    change K _ _
    refine hK.out _ _ HB.out (fun _ => ?_)
    clear hK K hb
    refine wpAnyH_take (i := 6) (v := ?_) rfl (by kernel_rfl) (by kernel_rfl) (by kernel_rfl) (fun _ _ _ h => h) (Or.inl ⟨by rfl, ?_⟩) HB.out ?_
    rotate_left
    · intro w' hw'
      go_simp
      with_reducible rfl
    go_simp
    refine wpAnyH_ready (rs := [7]) (by kernel_rfl) (by simp) ?_
    refine AllReadyH.cons rfl (fun K hK => ?_) AllReadyH.nil
    go_simp
    go_at_call 127
    refine (HAH.out _ _).mono ?_
    rintro e w4 ⟨rfl, hb⟩
    have HB := Lib.hid (HB.out.trans (hb.mono HB.out.size))
    have HX := Lib.hid (HX.out.below hb)
    change K _ _
    refine hK.out _ _ HB.out (fun _ => ?_)
    clear hK K hb
    obtain ⟨⟨x0, y0, xl⟩, ⟨x1, y1, -⟩, ⟨x2, y2, -⟩, ⟨x3, y3, -⟩, ⟨x4, y4, -⟩, ⟨x5, y5, -⟩, ⟨x6, y6, -⟩⟩ := HX.out
    refine wpAnyH_ready (rs := [9]) (by kernel_rfl) (by simp) ?_
    refine AllReadyH.cons rfl (fun K hK => ?_) AllReadyH.nil
    go_simp
    clear x0 y0 xl x1 y1 x2 y2 x3 y3 x4 y4 x5 y5 x6 y6
    have HX := Lib.hid (stored7 (.string fb) (.int .i64 fn) (.string tb) (.int .i64 tn) (.bool (!c)) (.bool c) (.slice none 0 0) HX.out)
    have HB := Lib.hid (set7_below (m := W0.heap.size) HB.out hm0 (.string fb) (.int .i64 fn) (.string tb) (.int .i64 tn) (.bool (!c)) (.bool c) (.slice none 0 0))
    refine hK.out _ _ HB.out (fun _ => ?_)
    clear hK K
    refine wpAnyH_done (by kernel_rfl) ?_ _
    have hm2 : w.heap.size + 1 + 1 ≤ W0.heap.size := by have := HS0.out; omega
    have HVV := Lib.hid (VAt.of (w := w) HX.out (HR.out.below HB.out) (HB0.out.trans (HB.out.mono HB0.out.size)) (by omega) (by omega))
    have HP1 := Lib.hid (HP.out.below HB.out)
    clear HX HR HP HB HB0 HAH HCO
    generalize (((((((w4.setCell ⟨W0.heap.size, 0, none⟩ (.string fb)).setCell ⟨W0.heap.size, 1, none⟩ (.int .i64 fn)).setCell ⟨W0.heap.size, 2, none⟩ (.string tb)).setCell ⟨W0.heap.size, 3, none⟩ (.int .i64 tn)).setCell ⟨W0.heap.size, 4, none⟩ (.bool (!c))).setCell ⟨W0.heap.size, 5, none⟩ (.bool c)).setCell ⟨W0.heap.size, 6, none⟩ (.slice none 0 0)) = W1 at *
    generalize W0.heap.size = m at *
  rotate_left
  focus
    go_simp
    go_at_call 65
    refine (HCO.out _).mono ?_
    rintro e w3 ⟨rfl, hb⟩
    have HB := Lib.hid (HB.out.trans (hb.mono HB.out.size))
    change K _ _
    refine hK.out _ _ HB.out (fun _ => ?_)
    clear hK K hb
    refine wpAnyH_take (i := 6) (v := ?_) rfl (by kernel_rfl) (by kernel_rfl) (by kernel_rfl) (fun _ _ _ h => h) (Or.inl ⟨by rfl, ?_⟩) HB.out ?_
    rotate_left
    · intro w' hw'
      go_simp
      with_reducible rfl
    go_simp
    refine wpAnyH_ready (rs := [7, 8]) (by kernel_rfl) (by simp) ?_
    refine AllReadyH.cons rfl (fun K hK => ?_) (AllReadyH.cons rfl (fun K hK => ?_) AllReadyH.nil)
    rotate_left
    focus
      go_simp
      have hm0 : W0.heap.size ≤ w3.heap.size := HB.out.size
      have HB := Lib.hid (HB.out.alloc HB.out.size (.cells #[.string ⟨#[]⟩, .int .i64 0, .string ⟨#[]⟩, .int .i64 0, .bool false, .bool false, .slice none 0 0] 57))
      have HX := Lib.hid (P7.new w3 w3.heap.size rfl (.string ⟨#[]⟩) (.int .i64 0) (.string ⟨#[]⟩) (.int .i64 0) (.bool false) (.bool false) (.slice none 0 0) 57)
      refine hK.out _ _ HB.out (fun _ => ?_)
      clear hK K
      refine wpAnyH_ready (rs := [7]) (by kernel_rfl) (by simp) ?_
      refine AllReadyH.cons rfl (fun K hK => ?_) AllReadyH.nil
      go_simp
      go_at_call 127
      refine (HAH.out _ _).mono ?_
      rintro e w4 ⟨rfl, hb⟩
      have HB := Lib.hid (HB.out.trans (hb.mono HB.out.size))
      have HX := Lib.hid (HX.out.below hb)
      change K _ _
      refine hK.out _ _ HB.out (fun _ => ?_)
      clear hK K hb
      obtain ⟨⟨x0, y0, xl⟩, ⟨x1, y1, -⟩, ⟨x2, y2, -⟩, ⟨x3, y3, -⟩, ⟨x4, y4, -⟩, ⟨x5, y5, -⟩, ⟨x6, y6, -⟩⟩ := HX.out
      refine wpAnyH_ready (rs := [9]) (by kernel_rfl) (by simp) ?_
      refine AllReadyH.cons rfl (fun K hK => ?_) AllReadyH.nil
      go_simp
      clear x0 y0 xl x1 y1 x2 y2 x3 y3 x4 y4 x5 y5 x6 y6
      have HX := Lib.hid (stored7 (.string fb) (.int .i64 fn) (.string tb) (.int .i64 tn) (.bool (!c)) (.bool c) (.slice none 0 0) HX.out)
      have HB := Lib.hid (set7_below (m := w3.heap.size) HB.out hm0 (.string fb) (.int .i64 fn) (.string tb) (.int .i64 tn) (.bool (!c)) (.bool c) (.slice none 0 0))
      refine hK.out _ _ HB.out (fun _ => ?_)
      clear hK K
      refine wpAnyH_done (by kernel_rfl) ?_ _
      have hm2 : w.heap.size + 1 + 1 ≤ w3.heap.size := by have := HS0.out; omega
      have HVV := Lib.hid (VAt.of (w := w) HX.out (HR.out.below HB.out) (HB0.out.trans (HB.out.mono HB0.out.size)) (by omega) (by omega))
      have HP1 := Lib.hid (HP.out.below HB.out)
      clear HX HR HP HB HB0 HAH HCO
      generalize (((((((w4.setCell ⟨w3.heap.size, 0, none⟩ (.string fb)).setCell ⟨w3.heap.size, 1, none⟩ (.int .i64 fn)).setCell ⟨w3.heap.size, 2, none⟩ (.string tb)).setCell ⟨w3.heap.size, 3, none⟩ (.int .i64 tn)).setCell ⟨w3.heap.size, 4, none⟩ (.bool (!c))).setCell ⟨w3.heap.size, 5, none⟩ (.bool c)).setCell ⟨w3.heap.size, 6, none⟩ (.slice none 0 0)) = W1 at *
      generalize w3.heap.size = m at *
    rotate_left
    focus
      go_simp
      go_at_call 127
      refine (HAH.out _ _).mono ?_
      rintro e w4 ⟨rfl, hb⟩
      have HB := Lib.hid (HB.out.trans (hb.mono HB.out.size))
      change K _ _
      refine hK.out _ _ HB.out (fun _ => ?_)
      clear hK K hb
      have hsz : W0.heap.size ≤ w4.heap.size := HB.out.size
      have HBa := HB
      refine wpAnyH_ready (rs := [8]) (by kernel_rfl) (by simp) ?_
      refine AllReadyH.cons rfl (fun K hK => ?_) AllReadyH.nil
      go_simp
      have HB := Lib.hid (HB.out.alloc HB.out.size (.cells #[.string ⟨#[]⟩, .int .i64 0, .string ⟨#[]⟩, .int .i64 0, .bool false, .bool false, .slice none 0 0] 57))
      refine hK.out _ _ HB.out (fun _ => ?_)
      clear hK K
      refine wpAnyH_ready (rs := [9]) (by kernel_rfl) (by simp) ?_
      refine AllReadyH.cons rfl (fun K hK => ?_) AllReadyH.nil
      go_simp
      have HB := Lib.hid (HBa.out.alloc HBa.out.size (.cells #[.string fb, .int .i64 fn, .string tb, .int .i64 tn, .bool (!c), .bool c, .slice none 0 0] 57))
      have HX := Lib.hid (P7.new w4 w4.heap.size rfl (.string fb) (.int .i64 fn) (.string tb) (.int .i64 tn) (.bool (!c)) (.bool c) (.slice none 0 0) 57)
      refine hK.out _ _ HB.out (fun _ => ?_)
      clear hK K
      refine wpAnyH_done (by kernel_rfl) ?_ _
      clear HBa
      have hm2 : w.heap.size + 1 + 1 ≤ w4.heap.size := by have := HS0.out; omega
      have HVV := Lib.hid (VAt.of (w := w) HX.out (HR.out.below HB.out) (HB0.out.trans (HB.out.mono HB0.out.size)) (by omega) (by omega))
      have HP1 := Lib.hid (HP.out.below HB.out)
      clear HX HR HP HB HB0 HAH HCO
      generalize (w4.alloc (.cells #[.string fb, .int .i64 fn, .string tb, .int .i64 tn, .bool (!c), .bool c, .slice none 0 0] 57)) = W1 at *
      generalize w4.heap.size = m at *
  all_goals
    obtain ⟨p6, -, pl⟩ := HP1.out.k6
    go_wp2_with (go_at_call 176; (with_reducible refine (HBK.out _).mono ?_); rintro e w5 ⟨rfl, rfl⟩)
    have hBs : m ≠ W1.heap.size := by have := HVV.out.p.k6.lt; omega
    have HW5 := Lib.hid (show (W1.alloc (.cells #[.slice a D.length cap] 55)).heap.size = W1.heap.size + 1 from by simp)
    have HBL := Lib.hid (HVV.out.out.bel.alloc HVV.out.out.bel.size (.cells #[.slice a D.length cap] 55))
    have HV5 := Lib.hid (HVV.out.alloc (.cells #[.slice a D.length cap] 55))
    refine (wpIn_wide (n := 6)).1 ?_
    refine wpIn_rangeFunc_ownH rfl (by omega) (gf := 211) (lb := #[.pointer (some ⟨W1.heap.size, 0, none⟩)]) rfl trivial (enters_of Tryz.func211 (by kernel_rfl) rfl)
      (back_stops Fence.wide 5 trivial rfl (by omega) W1.heap.size w.heap.size a cap D hS (by omega) w (W1.alloc (.cells #[.slice a D.length cap] 55)) (by simp) rfl HE.out HBL.out (World.cell?_alloc_at _ _ _ _ rfl)) (fun h h' => h.trans h')
      (fun W l x y h1 h2 h3 h4 => ⟨belowK_b (w := w) (Nat.le_refl _) W l x y (by have := HBL.out.size; omega) h2 h3 h4, World.putObj_heap_other (by have := HW5.out; omega)⟩) (Below.refl _ _) (fun _ => rfl)
      (fun pre W => (∃ tv, VAt w W m (w.heap.size + 1) tv (.string fb) (.int .i64 fn) (.string tb) (.int .i64 tn) (.bool (!c)) (.bool c) (comeD pre) ∧ tv.ownBlock ≠ some W1.heap.size) ∧ W1.heap.size + 1 ≤ W.heap.size)
      (fun _ _ _ => False)
      (fun s X Y row hs hg hr => by
        obtain ⟨⟨tv, h1, h2⟩, h3⟩ := hs
        exact ⟨⟨tv, h1.kept hg (fun r e => ⟨by have := (hr r e).1; have := HBL.out.size; omega, (hr r e).2⟩), h2⟩, Nat.le_trans h3 hg.size⟩)
      (fun _ _ _ _ _ hs _ _ => hs)
      ⟨⟨_, HV5.out, by simp [Value.ownBlock]⟩, by rw [HW5.out]; exact Nat.le_refl _⟩
      (fun x a' W => ∃ (Bx : Nat) (u0 u1 u2 u5 u6 u7 u8 u9 u10 u11 u12 u13 u14 u15 u16 u17 u18 u19 u20 u21 u22 u23 u24 u25 : Value), KeepAt W Bx 0 (.string x.1.1) ∧ KeepAt W Bx 1 (.int .i64 x.1.2) ∧ a' = { tmps := #[u0, u1, u2, .pointer (some ⟨m, 0, none⟩), .pointer (some ⟨Bx, 0, none⟩), u5, u6, u7, u8, u9, u10, u11, u12, u13, u14, u15, u16, u17, u18, u19, u20, u21, u22, u23, u24, u25], defers := [] })
      (fun x a' _ X Y row hs hg hr => by
        obtain ⟨Bx, u0, u1, u2, u5, u6, u7, u8, u9, u10, u11, u12, u13, u14, u15, u16, u17, u18, u19, u20, u21, u22, u23, u24, u25, h1, h2, h3⟩ := hs
        exact ⟨Bx, u0, u1, u2, u5, u6, u7, u8, u9, u10, u11, u12, u13, u14, u15, u16, u17, u18, u19, u20, u21, u22, u23, u24, u25, h1.kept hg (fun r e => (hr r e).2), h2.kept hg (fun r e => (hr r e).2), h3⟩)
      ?assign ?body ?done ?stop
    case assign =>
      rintro l pre x W K ⟨⟨tv, hV, hne⟩, hsz⟩ hK
      dsimp only [bcV]
      gi_wp2
      refine hK _ _ ((KeepsOthers.alloc _ _).from _) ⟨(Below.refl _ W).alloc hV.out.bel.size _, ((Below.refl W.heap.size W).alloc (Nat.le_refl _) _).block _ (by omega)⟩ ⟨⟨tv, hV.alloc _, hne⟩, by simp; omega⟩ ?_
      refine ⟨W.heap.size, _, _, _, _, _, _, _, _, _, _, _, _, _, _, _, _, _, _, _, _, _, _, _, _, ⟨?_, ?_, ?_⟩, ⟨?_, ?_, ?_⟩, rfl⟩
      · exact World.cell?_alloc_at _ _ _ _ rfl
      · exact World.frozen?_alloc_at _ _ _ _ rfl
      · simp
      · exact World.cell?_alloc_at _ _ _ _ rfl
      · exact World.frozen?_alloc_at _ _ _ _ rfl
      · simp
    case body =>
      rintro l pre ⟨⟨db, dn⟩, hdb⟩ a' W hl - ⟨⟨tv, hV, hne⟩, hsz⟩ ⟨Bx, u0, u1, u2, u5, u6, u7, u8, u9, u10, u11, u12, u13, u14, u15, u16, u17, u18, u19, u20, u21, u22, u23, u24, u25, k0, k1, rfl⟩ hlt
      have hmx : Tryz.prog.follows .mixedOrders = true := by kernel_rfl
      dsimp only at k0 k1
      have e0 := k0.drew.cell
      have e1 := k1.drew.cell
      obtain ⟨ta, tn', tc, rfl⟩ := hV.out.own.form
      have HVc := Lib.hid hV.drew
      have HLL := Lib.hid (show (comeD pre).length + 1 ≤ 100000 from by simp [comeD]; omega)
      gi_wp2
      refine wpIn_region_any hmx ?_
      change wpAnyIn _ _ _ _ _ _ _ _ _ W.drew
      refine wpAnyIn_ready (rs := [0, 2]) (by kernel_rfl) (by simp) ?_
      refine AllReadyIn.cons rfl (fun K hK => ?_) (AllReadyIn.cons rfl (fun K hK => ?_) AllReadyIn.nil)
      · go_simp
        refine hK _ _ ?_
        clear hK K
        refine wpAnyIn_ready (rs := [1, 2]) (by kernel_rfl) (by simp) ?_
        refine AllReadyIn.cons rfl (fun K hK => ?_) (AllReadyIn.cons rfl (fun K hK => ?_) AllReadyIn.nil)
        · have y6 := HVc.out.p.k6.cell
          go_simp
          refine hK _ _ ?_
          clear hK K
          clear y6
          refine wpAnyIn_ready (rs := [2]) (by kernel_rfl) (by simp) ?_
          refine AllReadyIn.cons rfl (fun K hK => ?_) AllReadyIn.nil
          go_simp
          refine hK _ _ ?_
          clear hK K
          refine wpAnyIn_ready (rs := [3]) (by kernel_rfl) (by simp) ?_
          refine AllReadyIn.cons rfl (fun K hK => ?_) AllReadyIn.nil
          go_simp
          refine ⟨trivial, ?_⟩
          gi_at_call 128
          refine (CallsIn.inRound l (callsIn_wide.2 (anew_any db dn _ hdb))).mono ?_
          rintro e w3 ⟨rfl, hb⟩
          have hb0 := (Below.refl W.heap.size W).drew.trans hb
          have HVc := Lib.hid (HVc.out.below hb)
          clear hb e0 e1
          change K _ _
          refine hK _ _ ?_
          clear hK K
          refine wpAnyIn_ready (rs := [4]) (by kernel_rfl) (by simp) ?_
          refine AllReadyIn.cons rfl (fun K hK => ?_) AllReadyIn.nil
          go_simp
          refine hK _ _ ?_
          clear hK K
          refine wpAnyIn_ready (rs := [5]) (by kernel_rfl) (by simp) ?_
          refine AllReadyIn.cons rfl (fun K hK => ?_) AllReadyIn.nil
          go_simp
          refine hK _ _ ?_
          clear hK K
          have HVc := Lib.hid (HVc.out.alloc (.cells #[.string db, .int .i64 dn, .bool false] 157))
          have HN4 := Lib.hid (EntsAt.new1 w3 w3.heap.size rfl db dn false 157)
          refine wpAnyIn_ready (rs := [6]) (by kernel_rfl) (by simp) ?_
          refine AllReadyIn.cons rfl (fun K hK => ?_) AllReadyIn.nil
          rw [if_pos (by kernel_rfl)]
          refine wpIn_append_ents infoD Tryz.underlying55 _ (.tmp 18) (.tmp 22) rfl (m + 1) (.slice ta tn' tc) (comeD pre) [(db, dn, false)] rfl HVc.out.out.own (some ⟨w3.heap.size, 0, none⟩) 1 rfl HN4.out HLL.out HVc.out.out.bw ?_
          intro v' w4 hown hgr hov
          obtain ⟨⟨va, vn, vc, rfl⟩, hp4, hV4, hKO, hKB, hne4⟩ := back_round hV hb0 hown hgr hov (by omega) hBs.symm hne
          obtain ⟨z6, zf, zl⟩ := hp4.k6
          go_simp
          refine hK _ _ ?_
          clear hK K
          refine wpAnyIn_ready (rs := [7]) (by kernel_rfl) (by simp) ?_
          refine AllReadyIn.cons rfl (fun K hK => ?_) AllReadyIn.nil
          go_simp
          refine hK _ _ ?_
          clear hK K
          refine wpAnyIn_ready (rs := [8]) (by kernel_rfl) (by simp) ?_
          refine AllReadyIn.cons rfl (fun K hK => ?_) AllReadyIn.nil
          go_simp
          refine hK _ _ ?_
          clear hK K
          refine wpAnyIn_done (by kernel_rfl) ?_ _
          exact ⟨hKO.from _, hKB, ⟨_, by rw [comeD_next]; exact hV4, hne4⟩, Nat.le_trans hsz hKO.size⟩
        · go_simp
          refine hK _ _ ?_
          clear hK K
          refine wpAnyIn_ready (rs := [1, 3]) (by kernel_rfl) (by simp) ?_
          refine AllReadyIn.cons rfl (fun K hK => ?_) (AllReadyIn.cons rfl (fun K hK => ?_) AllReadyIn.nil)
          · have y6 := HVc.out.p.k6.cell
            go_simp
            refine hK _ _ ?_
            clear hK K
            clear y6
            refine wpAnyIn_ready (rs := [3]) (by kernel_rfl) (by simp) ?_
            refine AllReadyIn.cons rfl (fun K hK => ?_) AllReadyIn.nil
            go_simp
            refine ⟨trivial, ?_⟩
            gi_at_call 128
            refine (CallsIn.inRound l (callsIn_wide.2 (anew_any db dn _ hdb))).mono ?_
            rintro e w3 ⟨rfl, hb⟩
            have hb0 := (Below.refl W.heap.size W).drew.trans hb
            have HVc := Lib.hid (HVc.out.below hb)
            clear hb e0 e1
            change K _ _
            refine hK _ _ ?_
            clear hK K
            refine wpAnyIn_ready (rs := [4]) (by kernel_rfl) (by simp) ?_
            refine AllReadyIn.cons rfl (fun K hK => ?_) AllReadyIn.nil
            go_simp
            refine hK _ _ ?_
            clear hK K
            refine wpAnyIn_ready (rs := [5]) (by kernel_rfl) (by simp) ?_
            refine AllReadyIn.cons rfl (fun K hK => ?_) AllReadyIn.nil
            go_simp
            refine hK _ _ ?_
            clear hK K
            have HVc := Lib.hid (HVc.out.alloc (.cells #[.string db, .int .i64 dn, .bool false] 157))
            have HN4 := Lib.hid (EntsAt.new1 w3 w3.heap.size rfl db dn false 157)
            refine wpAnyIn_ready (rs := [6]) (by kernel_rfl) (by simp) ?_
            refine AllReadyIn.cons rfl (fun K hK => ?_) AllReadyIn.nil
            rw [if_pos (by kernel_rfl)]
            refine wpIn_append_ents infoD Tryz.underlying55 _ (.tmp 18) (.tmp 22) rfl (m + 1) (.slice ta tn' tc) (comeD pre) [(db, dn, false)] rfl HVc.out.out.own (some ⟨w3.heap.size, 0, none⟩) 1 rfl HN4.out HLL.out HVc.out.out.bw ?_
            intro v' w4 hown hgr hov
            obtain ⟨⟨va, vn, vc, rfl⟩, hp4, hV4, hKO, hKB, hne4⟩ := back_round hV hb0 hown hgr hov (by omega) hBs.symm hne
            obtain ⟨z6, zf, zl⟩ := hp4.k6
            go_simp
            refine hK _ _ ?_
            clear hK K
            refine wpAnyIn_ready (rs := [7]) (by kernel_rfl) (by simp) ?_
            refine AllReadyIn.cons rfl (fun K hK => ?_) AllReadyIn.nil
            go_simp
            refine hK _ _ ?_
            clear hK K
            refine wpAnyIn_ready (rs := [8]) (by kernel_rfl) (by simp) ?_
            refine AllReadyIn.cons rfl (fun K hK => ?_) AllReadyIn.nil
            go_simp
            refine hK _ _ ?_
            clear hK K
            refine wpAnyIn_done (by kernel_rfl) ?_ _
            exact ⟨hKO.from _, hKB, ⟨_, by rw [comeD_next]; exact hV4, hne4⟩, Nat.le_trans hsz hKO.size⟩
          · go_simp
            refine ⟨trivial, ?_⟩
            gi_at_call 128
            refine (CallsIn.inRound l (callsIn_wide.2 (anew_any db dn _ hdb))).mono ?_
            rintro e w3 ⟨rfl, hb⟩
            have hb0 := (Below.refl W.heap.size W).drew.trans hb
            have HVc := Lib.hid (HVc.out.below hb)
            clear hb e0 e1
            change K _ _
            refine hK _ _ ?_
            clear hK K
            refine wpAnyIn_ready (rs := [1, 4]) (by kernel_rfl) (by simp) ?_
            refine AllReadyIn.cons rfl (fun K hK => ?_) (AllReadyIn.cons rfl (fun K hK => ?_) AllReadyIn.nil)
            · have y6 := HVc.out.p.k6.cell
              go_simp
              refine hK _ _ ?_
              clear hK K
              clear y6
              refine wpAnyIn_ready (rs := [4]) (by kernel_rfl) (by simp) ?_
              refine AllReadyIn.cons rfl (fun K hK => ?_) AllReadyIn.nil
              go_simp
              refine hK _ _ ?_
              clear hK K
              refine wpAnyIn_ready (rs := [5]) (by kernel_rfl) (by simp) ?_
              refine AllReadyIn.cons rfl (fun K hK => ?_) AllReadyIn.nil
              go_simp
              refine hK _ _ ?_
              clear hK K
              have HVc := Lib.hid (HVc.out.alloc (.cells #[.string db, .int .i64 dn, .bool false] 157))
              have HN4 := Lib.hid (EntsAt.new1 w3 w3.heap.size rfl db dn false 157)
              refine wpAnyIn_ready (rs := [6]) (by kernel_rfl) (by simp) ?_
              refine AllReadyIn.cons rfl (fun K hK => ?_) AllReadyIn.nil
              rw [if_pos (by kernel_rfl)]
              refine wpIn_append_ents infoD Tryz.underlying55 _ (.tmp 18) (.tmp 22) rfl (m + 1) (.slice ta tn' tc) (comeD pre) [(db, dn, false)] rfl HVc.out.out.own (some ⟨w3.heap.size, 0, none⟩) 1 rfl HN4.out HLL.out HVc.out.out.bw ?_
              intro v' w4 hown hgr hov
              obtain ⟨⟨va, vn, vc, rfl⟩, hp4, hV4, hKO, hKB, hne4⟩ := back_round hV hb0 hown hgr hov (by omega) hBs.symm hne
              obtain ⟨z6, zf, zl⟩ := hp4.k6
              go_simp
              refine hK _ _ ?_
              clear hK K
              refine wpAnyIn_ready (rs := [7]) (by kernel_rfl) (by simp) ?_
              refine AllReadyIn.cons rfl (fun K hK => ?_) AllReadyIn.nil
              go_simp
              refine hK _ _ ?_
              clear hK K
              refine wpAnyIn_ready (rs := [8]) (by kernel_rfl) (by simp) ?_
              refine AllReadyIn.cons rfl (fun K hK => ?_) AllReadyIn.nil
              go_simp
              refine hK _ _ ?_
              clear hK K
              refine wpAnyIn_done (by kernel_rfl) ?_ _
              exact ⟨hKO.from _, hKB, ⟨_, by rw [comeD_next]; exact hV4, hne4⟩, Nat.le_trans hsz hKO.size⟩
            · go_simp
              refine hK _ _ ?_
              clear hK K
              refine wpAnyIn_ready (rs := [1, 5]) (by kernel_rfl) (by simp) ?_
              refine AllReadyIn.cons rfl (fun K hK => ?_) (AllReadyIn.cons rfl (fun K hK => ?_) AllReadyIn.nil)
              · have y6 := HVc.out.p.k6.cell
                go_simp
                refine hK _ _ ?_
                clear hK K
                clear y6
                refine wpAnyIn_ready (rs := [5]) (by kernel_rfl) (by simp) ?_
                refine AllReadyIn.cons rfl (fun K hK => ?_) AllReadyIn.nil
                go_simp
                refine hK _ _ ?_
                clear hK K
                have HVc := Lib.hid (HVc.out.alloc (.cells #[.string db, .int .i64 dn, .bool false] 157))
                have HN4 := Lib.hid (EntsAt.new1 w3 w3.heap.size rfl db dn false 157)
                refine wpAnyIn_ready (rs := [6]) (by kernel_rfl) (by simp) ?_
                refine AllReadyIn.cons rfl (fun K hK => ?_) AllReadyIn.nil
                rw [if_pos (by kernel_rfl)]
                refine wpIn_append_ents infoD Tryz.underlying55 _ (.tmp 18) (.tmp 22) rfl (m + 1) (.slice ta tn' tc) (comeD pre) [(db, dn, false)] rfl HVc.out.out.own (some ⟨w3.heap.size, 0, none⟩) 1 rfl HN4.out HLL.out HVc.out.out.bw ?_
                intro v' w4 hown hgr hov
                obtain ⟨⟨va, vn, vc, rfl⟩, hp4, hV4, hKO, hKB, hne4⟩ := back_round hV hb0 hown hgr hov (by omega) hBs.symm hne
                obtain ⟨z6, zf, zl⟩ := hp4.k6
                go_simp
                refine hK _ _ ?_
                clear hK K
                refine wpAnyIn_ready (rs := [7]) (by kernel_rfl) (by simp) ?_
                refine AllReadyIn.cons rfl (fun K hK => ?_) AllReadyIn.nil
                go_simp
                refine hK _ _ ?_
                clear hK K
                refine wpAnyIn_ready (rs := [8]) (by kernel_rfl) (by simp) ?_
                refine AllReadyIn.cons rfl (fun K hK => ?_) AllReadyIn.nil
                go_simp
                refine hK _ _ ?_
                clear hK K
                refine wpAnyIn_done (by kernel_rfl) ?_ _
                exact ⟨hKO.from _, hKB, ⟨_, by rw [comeD_next]; exact hV4, hne4⟩, Nat.le_trans hsz hKO.size⟩
              · go_simp
                refine hK _ _ ?_
                clear hK K
                have HVc := Lib.hid (HVc.out.alloc (.cells #[.string db, .int .i64 dn, .bool false] 157))
                have HN4 := Lib.hid (EntsAt.new1 w3 w3.heap.size rfl db dn false 157)
                refine wpAnyIn_ready (rs := [1]) (by kernel_rfl) (by simp) ?_
                refine AllReadyIn.cons rfl (fun K hK => ?_) AllReadyIn.nil
                have y6 := HVc.out.p.k6.cell
                go_simp
                refine hK _ _ ?_
                clear hK K
                clear y6
                refine wpAnyIn_ready (rs := [6]) (by kernel_rfl) (by simp) ?_
                refine AllReadyIn.cons rfl (fun K hK => ?_) AllReadyIn.nil
                rw [if_pos (by kernel_rfl)]
                refine wpIn_append_ents infoD Tryz.underlying55 _ (.tmp 18) (.tmp 22) rfl (m + 1) (.slice ta tn' tc) (comeD pre) [(db, dn, false)] rfl HVc.out.out.own (some ⟨w3.heap.size, 0, none⟩) 1 rfl HN4.out HLL.out HVc.out.out.bw ?_
                intro v' w4 hown hgr hov
                obtain ⟨⟨va, vn, vc, rfl⟩, hp4, hV4, hKO, hKB, hne4⟩ := back_round hV hb0 hown hgr hov (by omega) hBs.symm hne
                obtain ⟨z6, zf, zl⟩ := hp4.k6
                go_simp
                refine hK _ _ ?_
                clear hK K
                refine wpAnyIn_ready (rs := [7]) (by kernel_rfl) (by simp) ?_
                refine AllReadyIn.cons rfl (fun K hK => ?_) AllReadyIn.nil
                go_simp
                refine hK _ _ ?_
                clear hK K
                refine wpAnyIn_ready (rs := [8]) (by kernel_rfl) (by simp) ?_
                refine AllReadyIn.cons rfl (fun K hK => ?_) AllReadyIn.nil
                go_simp
                refine hK _ _ ?_
                clear hK K
                refine wpAnyIn_done (by kernel_rfl) ?_ _
                exact ⟨hKO.from _, hKB, ⟨_, by rw [comeD_next]; exact hV4, hne4⟩, Nat.le_trans hsz hKO.size⟩
      · go_simp
        refine hK _ _ ?_
        clear hK K
        refine wpAnyIn_ready (rs := [0, 3]) (by kernel_rfl) (by simp) ?_
        refine AllReadyIn.cons rfl (fun K hK => ?_) (AllReadyIn.cons rfl (fun K hK => ?_) AllReadyIn.nil)
        · go_simp
          refine hK _ _ ?_
          clear hK K
          refine wpAnyIn_ready (rs := [1, 3]) (by kernel_rfl) (by simp) ?_
          refine AllReadyIn.cons rfl (fun K hK => ?_) (AllReadyIn.cons rfl (fun K hK => ?_) AllReadyIn.nil)
          · have y6 := HVc.out.p.k6.cell
            go_simp
            refine hK _ _ ?_
            clear hK K
            clear y6
            refine wpAnyIn_ready (rs := [3]) (by kernel_rfl) (by simp) ?_
            refine AllReadyIn.cons rfl (fun K hK => ?_) AllReadyIn.nil
            go_simp
            refine ⟨trivial, ?_⟩
            gi_at_call 128
            refine (CallsIn.inRound l (callsIn_wide.2 (anew_any db dn _ hdb))).mono ?_
            rintro e w3 ⟨rfl, hb⟩
            have hb0 := (Below.refl W.heap.size W).drew.trans hb
            have HVc := Lib.hid (HVc.out.below hb)
            clear hb e0 e1
            change K _ _
            refine hK _ _ ?_
            clear hK K
            refine wpAnyIn_ready (rs := [4]) (by kernel_rfl) (by simp) ?_
            refine AllReadyIn.cons rfl (fun K hK => ?_) AllReadyIn.nil
            go_simp
            refine hK _ _ ?_
            clear hK K
            refine wpAnyIn_ready (rs := [5]) (by kernel_rfl) (by simp) ?_
            refine AllReadyIn.cons rfl (fun K hK => ?_) AllReadyIn.nil
            go_simp
            refine hK _ _ ?_
            clear hK K
            have HVc := Lib.hid (HVc.out.alloc (.cells #[.string db, .int .i64 dn, .bool false] 157))
            have HN4 := Lib.hid (EntsAt.new1 w3 w3.heap.size rfl db dn false 157)
            refine wpAnyIn_ready (rs := [6]) (by kernel_rfl) (by simp) ?_
            refine AllReadyIn.cons rfl (fun K hK => ?_) AllReadyIn.nil
            rw [if_pos (by kernel_rfl)]
            refine wpIn_append_ents infoD Tryz.underlying55 _ (.tmp 18) (.tmp 22) rfl (m + 1) (.slice ta tn' tc) (comeD pre) [(db, dn, false)] rfl HVc.out.out.own (some ⟨w3.heap.size, 0, none⟩) 1 rfl HN4.out HLL.out HVc.out.out.bw ?_
            intro v' w4 hown hgr hov
            obtain ⟨⟨va, vn, vc, rfl⟩, hp4, hV4, hKO, hKB, hne4⟩ := back_round hV hb0 hown hgr hov (by omega) hBs.symm hne
            obtain ⟨z6, zf, zl⟩ := hp4.k6
            go_simp
            refine hK _ _ ?_
            clear hK K
            refine wpAnyIn_ready (rs := [7]) (by kernel_rfl) (by simp) ?_
            refine AllReadyIn.cons rfl (fun K hK => ?_) AllReadyIn.nil
            go_simp
            refine hK _ _ ?_
            clear hK K
            refine wpAnyIn_ready (rs := [8]) (by kernel_rfl) (by simp) ?_
            refine AllReadyIn.cons rfl (fun K hK => ?_) AllReadyIn.nil
            go_simp
            refine hK _ _ ?_
            clear hK K
            refine wpAnyIn_done (by kernel_rfl) ?_ _
            exact ⟨hKO.from _, hKB, ⟨_, by rw [comeD_next]; exact hV4, hne4⟩, Nat.le_trans hsz hKO.size⟩
          · go_simp
            refine ⟨trivial, ?_⟩
            gi_at_call 128
            refine (CallsIn.inRound l (callsIn_wide.2 (anew_any db dn _ hdb))).mono ?_
            rintro e w3 ⟨rfl, hb⟩
            have hb0 := (Below.refl W.heap.size W).drew.trans hb
            have HVc := Lib.hid (HVc.out.below hb)
            clear hb e0 e1
            change K _ _
            refine hK _ _ ?_
            clear hK K
            refine wpAnyIn_ready (rs := [1, 4]) (by kernel_rfl) (by simp) ?_
            refine AllReadyIn.cons rfl (fun K hK => ?_) (AllReadyIn.cons rfl (fun K hK => ?_) AllReadyIn.nil)
            · have y6 := HVc.out.p.k6.cell
              go_simp
              refine hK _ _ ?_
              clear hK K
              clear y6
              refine wpAnyIn_ready (rs := [4]) (by kernel_rfl) (by simp) ?_
              refine AllReadyIn.cons rfl (fun K hK => ?_) AllReadyIn.nil
              go_simp
              refine hK _ _ ?_
              clear hK K
              refine wpAnyIn_ready (rs := [5]) (by kernel_rfl) (by simp) ?_
              refine AllReadyIn.cons rfl (fun K hK => ?_) AllReadyIn.nil
              go_simp
              refine hK _ _ ?_
              clear hK K
              have HVc := Lib.hid (HVc.out.alloc (.cells #[.string db, .int .i64 dn, .bool false] 157))
              have HN4 := Lib.hid (EntsAt.new1 w3 w3.heap.size rfl db dn false 157)
              refine wpAnyIn_ready (rs := [6]) (by kernel_rfl) (by simp) ?_
              refine AllReadyIn.cons rfl (fun K hK => ?_) AllReadyIn.nil
              rw [if_pos (by kernel_rfl)]
              refine wpIn_append_ents infoD Tryz.underlying55 _ (.tmp 18) (.tmp 22) rfl (m + 1) (.slice ta tn' tc) (comeD pre) [(db, dn, false)] rfl HVc.out.out.own (some ⟨w3.heap.size, 0, none⟩) 1 rfl HN4.out HLL.out HVc.out.out.bw ?_
              intro v' w4 hown hgr hov
              obtain ⟨⟨va, vn, vc, rfl⟩, hp4, hV4, hKO, hKB, hne4⟩ := back_round hV hb0 hown hgr hov (by omega) hBs.symm hne
              obtain ⟨z6, zf, zl⟩ := hp4.k6
              go_simp
              refine hK _ _ ?_
              clear hK K
              refine wpAnyIn_ready (rs := [7]) (by kernel_rfl) (by simp) ?_
              refine AllReadyIn.cons rfl (fun K hK => ?_) AllReadyIn.nil
              go_simp
              refine hK _ _ ?_
              clear hK K
              refine wpAnyIn_ready (rs := [8]) (by kernel_rfl) (by simp) ?_
              refine AllReadyIn.cons rfl (fun K hK => ?_) AllReadyIn.nil
              go_simp
              refine hK _ _ ?_
              clear hK K
              refine wpAnyIn_done (by kernel_rfl) ?_ _
              exact ⟨hKO.from _, hKB, ⟨_, by rw [comeD_next]; exact hV4, hne4⟩, Nat.le_trans hsz hKO.size⟩
            · go_simp
              refine hK _ _ ?_
              clear hK K
              refine wpAnyIn_ready (rs := [1, 5]) (by kernel_rfl) (by simp) ?_
              refine AllReadyIn.cons rfl (fun K hK => ?_) (AllReadyIn.cons rfl (fun K hK => ?_) AllReadyIn.nil)
              · have y6 := HVc.out.p.k6.cell
                go_simp
                refine hK _ _ ?_
                clear hK K
                clear y6
                refine wpAnyIn_ready (rs := [5]) (by kernel_rfl) (by simp) ?_
                refine AllReadyIn.cons rfl (fun K hK => ?_) AllReadyIn.nil
                go_simp
                refine hK _ _ ?_
                clear hK K
                have HVc := Lib.hid (HVc.out.alloc (.cells #[.string db, .int .i64 dn, .bool false] 157))
                have HN4 := Lib.hid (EntsAt.new1 w3 w3.heap.size rfl db dn false 157)
                refine wpAnyIn_ready (rs := [6]) (by kernel_rfl) (by simp) ?_
                refine AllReadyIn.cons rfl (fun K hK => ?_) AllReadyIn.nil
                rw [if_pos (by kernel_rfl)]
                refine wpIn_append_ents infoD Tryz.underlying55 _ (.tmp 18) (.tmp 22) rfl (m + 1) (.slice ta tn' tc) (comeD pre) [(db, dn, false)] rfl HVc.out.out.own (some ⟨w3.heap.size, 0, none⟩) 1 rfl HN4.out HLL.out HVc.out.out.bw ?_
                intro v' w4 hown hgr hov
                obtain ⟨⟨va, vn, vc, rfl⟩, hp4, hV4, hKO, hKB, hne4⟩ := back_round hV hb0 hown hgr hov (by omega) hBs.symm hne
                obtain ⟨z6, zf, zl⟩ := hp4.k6
                go_simp
                refine hK _ _ ?_
                clear hK K
                refine wpAnyIn_ready (rs := [7]) (by kernel_rfl) (by simp) ?_
                refine AllReadyIn.cons rfl (fun K hK => ?_) AllReadyIn.nil
                go_simp
                refine hK _ _ ?_
                clear hK K
                refine wpAnyIn_ready (rs := [8]) (by kernel_rfl) (by simp) ?_
                refine AllReadyIn.cons rfl (fun K hK => ?_) AllReadyIn.nil
                go_simp
                refine hK _ _ ?_
                clear hK K
                refine wpAnyIn_done (by kernel_rfl) ?_ _
                exact ⟨hKO.from _, hKB, ⟨_, by rw [comeD_next]; exact hV4, hne4⟩, Nat.le_trans hsz hKO.size⟩
              · go_simp
                refine hK _ _ ?_
                clear hK K
                have HVc := Lib.hid (HVc.out.alloc (.cells #[.string db, .int .i64 dn, .bool false] 157))
                have HN4 := Lib.hid (EntsAt.new1 w3 w3.heap.size rfl db dn false 157)
                refine wpAnyIn_ready (rs := [1]) (by kernel_rfl) (by simp) ?_
                refine AllReadyIn.cons rfl (fun K hK => ?_) AllReadyIn.nil
                have y6 := HVc.out.p.k6.cell
                go_simp
                refine hK _ _ ?_
                clear hK K
                clear y6
                refine wpAnyIn_ready (rs := [6]) (by kernel_rfl) (by simp) ?_
                refine AllReadyIn.cons rfl (fun K hK => ?_) AllReadyIn.nil
                rw [if_pos (by kernel_rfl)]
                refine wpIn_append_ents infoD Tryz.underlying55 _ (.tmp 18) (.tmp 22) rfl (m + 1) (.slice ta tn' tc) (comeD pre) [(db, dn, false)] rfl HVc.out.out.own (some ⟨w3.heap.size, 0, none⟩) 1 rfl HN4.out HLL.out HVc.out.out.bw ?_
                intro v' w4 hown hgr hov
                obtain ⟨⟨va, vn, vc, rfl⟩, hp4, hV4, hKO, hKB, hne4⟩ := back_round hV hb0 hown hgr hov (by omega) hBs.symm hne
                obtain ⟨z6, zf, zl⟩ := hp4.k6
                go_simp
                refine hK _ _ ?_
                clear hK K
                refine wpAnyIn_ready (rs := [7]) (by kernel_rfl) (by simp) ?_
                refine AllReadyIn.cons rfl (fun K hK => ?_) AllReadyIn.nil
                go_simp
                refine hK _ _ ?_
                clear hK K
                refine wpAnyIn_ready (rs := [8]) (by kernel_rfl) (by simp) ?_
                refine AllReadyIn.cons rfl (fun K hK => ?_) AllReadyIn.nil
                go_simp
                refine hK _ _ ?_
                clear hK K
                refine wpAnyIn_done (by kernel_rfl) ?_ _
                exact ⟨hKO.from _, hKB, ⟨_, by rw [comeD_next]; exact hV4, hne4⟩, Nat.le_trans hsz hKO.size⟩
        · go_simp
          refine ⟨trivial, ?_⟩
          gi_at_call 128
          refine (CallsIn.inRound l (callsIn_wide.2 (anew_any db dn _ hdb))).mono ?_
          rintro e w3 ⟨rfl, hb⟩
          have hb0 := (Below.refl W.heap.size W).drew.trans hb
          have HVc := Lib.hid (HVc.out.below hb)
          clear hb e0 e1
          change K _ _
          refine hK _ _ ?_
          clear hK K
          refine wpAnyIn_ready (rs := [0, 4]) (by kernel_rfl) (by simp) ?_
          refine AllReadyIn.cons rfl (fun K hK => ?_) (AllReadyIn.cons rfl (fun K hK => ?_) AllReadyIn.nil)
          · go_simp
            refine hK _ _ ?_
            clear hK K
            refine wpAnyIn_ready (rs := [1, 4]) (by kernel_rfl) (by simp) ?_
            refine AllReadyIn.cons rfl (fun K hK => ?_) (AllReadyIn.cons rfl (fun K hK => ?_) AllReadyIn.nil)
            · have y6 := HVc.out.p.k6.cell
              go_simp
              refine hK _ _ ?_
              clear hK K
              clear y6
              refine wpAnyIn_ready (rs := [4]) (by kernel_rfl) (by simp) ?_
              refine AllReadyIn.cons rfl (fun K hK => ?_) AllReadyIn.nil
              go_simp
              refine hK _ _ ?_
              clear hK K
              refine wpAnyIn_ready (rs := [5]) (by kernel_rfl) (by simp) ?_
              refine AllReadyIn.cons rfl (fun K hK => ?_) AllReadyIn.nil
              go_simp
              refine hK _ _ ?_
              clear hK K
              have HVc := Lib.hid (HVc.out.alloc (.cells #[.string db, .int .i64 dn, .bool false] 157))
              have HN4 := Lib.hid (EntsAt.new1 w3 w3.heap.size rfl db dn false 157)
              refine wpAnyIn_ready (rs := [6]) (by kernel_rfl) (by simp) ?_
              refine AllReadyIn.cons rfl (fun K hK => ?_) AllReadyIn.nil
              rw [if_pos (by kernel_rfl)]
              refine wpIn_append_ents infoD Tryz.underlying55 _ (.tmp 18) (.tmp 22) rfl (m + 1) (.slice ta tn' tc) (comeD pre) [(db, dn, false)] rfl HVc.out.out.own (some ⟨w3.heap.size, 0, none⟩) 1 rfl HN4.out HLL.out HVc.out.out.bw ?_
              intro v' w4 hown hgr hov
              obtain ⟨⟨va, vn, vc, rfl⟩, hp4, hV4, hKO, hKB, hne4⟩ := back_round hV hb0 hown hgr hov (by omega) hBs.symm hne
              obtain ⟨z6, zf, zl⟩ := hp4.k6
              go_simp
              refine hK _ _ ?_
              clear hK K
              refine wpAnyIn_ready (rs := [7]) (by kernel_rfl) (by simp) ?_
              refine AllReadyIn.cons rfl (fun K hK => ?_) AllReadyIn.nil
              go_simp
              refine hK _ _ ?_
              clear hK K
              refine wpAnyIn_ready (rs := [8]) (by kernel_rfl) (by simp) ?_
              refine AllReadyIn.cons rfl (fun K hK => ?_) AllReadyIn.nil
              go_simp
              refine hK _ _ ?_
              clear hK K
              refine wpAnyIn_done (by kernel_rfl) ?_ _
              exact ⟨hKO.from _, hKB, ⟨_, by rw [comeD_next]; exact hV4, hne4⟩, Nat.le_trans hsz hKO.size⟩
            · go_simp
              refine hK _ _ ?_
              clear hK K
              refine wpAnyIn_ready (rs := [1, 5]) (by kernel_rfl) (by simp) ?_
              refine AllReadyIn.cons rfl (fun K hK => ?_) (AllReadyIn.cons rfl (fun K hK => ?_) AllReadyIn.nil)
              · have y6 := HVc.out.p.k6.cell
                go_simp
                refine hK _ _ ?_
                clear hK K
                clear y6
                refine wpAnyIn_ready (rs := [5]) (by kernel_rfl) (by simp) ?_
                refine AllReadyIn.cons rfl (fun K hK => ?_) AllReadyIn.nil
                go_simp
                refine hK _ _ ?_
                clear hK K
                have HVc := Lib.hid (HVc.out.alloc (.cells #[.string db, .int .i64 dn, .bool false] 157))
                have HN4 := Lib.hid (EntsAt.new1 w3 w3.heap.size rfl db dn false 157)
                refine wpAnyIn_ready (rs := [6]) (by kernel_rfl) (by simp) ?_
                refine AllReadyIn.cons rfl (fun K hK => ?_) AllReadyIn.nil
                rw [if_pos (by kernel_rfl)]
                refine wpIn_append_ents infoD Tryz.underlying55 _ (.tmp 18) (.tmp 22) rfl (m + 1) (.slice ta tn' tc) (comeD pre) [(db, dn, false)] rfl HVc.out.out.own (some ⟨w3.heap.size, 0, none⟩) 1 rfl HN4.out HLL.out HVc.out.out.bw ?_
                intro v' w4 hown hgr hov
                obtain ⟨⟨va, vn, vc, rfl⟩, hp4, hV4, hKO, hKB, hne4⟩ := back_round hV hb0 hown hgr hov (by omega) hBs.symm hne
                obtain ⟨z6, zf, zl⟩ := hp4.k6
                go_simp
                refine hK _ _ ?_
                clear hK K
                refine wpAnyIn_ready (rs := [7]) (by kernel_rfl) (by simp) ?_
                refine AllReadyIn.cons rfl (fun K hK => ?_) AllReadyIn.nil
                go_simp
                refine hK _ _ ?_
                clear hK K
                refine wpAnyIn_ready (rs := [8]) (by kernel_rfl) (by simp) ?_
                refine AllReadyIn.cons rfl (fun K hK => ?_) AllReadyIn.nil
                go_simp
                refine hK _ _ ?_
                clear hK K
                refine wpAnyIn_done (by kernel_rfl) ?_ _
                exact ⟨hKO.from _, hKB, ⟨_, by rw [comeD_next]; exact hV4, hne4⟩, Nat.le_trans hsz hKO.size⟩
              · go_simp
                refine hK _ _ ?_
                clear hK K
                have HVc := Lib.hid (HVc.out.alloc (.cells #[.string db, .int .i64 dn, .bool false] 157))
                have HN4 := Lib.hid (EntsAt.new1 w3 w3.heap.size rfl db dn false 157)
                refine wpAnyIn_ready (rs := [1]) (by kernel_rfl) (by simp) ?_
                refine AllReadyIn.cons rfl (fun K hK => ?_) AllReadyIn.nil
                have y6 := HVc.out.p.k6.cell
                go_simp
                refine hK _ _ ?_
                clear hK K
                clear y6
                refine wpAnyIn_ready (rs := [6]) (by kernel_rfl) (by simp) ?_
                refine AllReadyIn.cons rfl (fun K hK => ?_) AllReadyIn.nil
                rw [if_pos (by kernel_rfl)]
                refine wpIn_append_ents infoD Tryz.underlying55 _ (.tmp 18) (.tmp 22) rfl (m + 1) (.slice ta tn' tc) (comeD pre) [(db, dn, false)] rfl HVc.out.out.own (some ⟨w3.heap.size, 0, none⟩) 1 rfl HN4.out HLL.out HVc.out.out.bw ?_
                intro v' w4 hown hgr hov
                obtain ⟨⟨va, vn, vc, rfl⟩, hp4, hV4, hKO, hKB, hne4⟩ := back_round hV hb0 hown hgr hov (by omega) hBs.symm hne
                obtain ⟨z6, zf, zl⟩ := hp4.k6
                go_simp
                refine hK _ _ ?_
                clear hK K
                refine wpAnyIn_ready (rs := [7]) (by kernel_rfl) (by simp) ?_
                refine AllReadyIn.cons rfl (fun K hK => ?_) AllReadyIn.nil
                go_simp
                refine hK _ _ ?_
                clear hK K
                refine wpAnyIn_ready (rs := [8]) (by kernel_rfl) (by simp) ?_
                refine AllReadyIn.cons rfl (fun K hK => ?_) AllReadyIn.nil
                go_simp
                refine hK _ _ ?_
                clear hK K
                refine wpAnyIn_done (by kernel_rfl) ?_ _
                exact ⟨hKO.from _, hKB, ⟨_, by rw [comeD_next]; exact hV4, hne4⟩, Nat.le_trans hsz hKO.size⟩
          · go_simp
            refine hK _ _ ?_
            clear hK K
            refine wpAnyIn_ready (rs := [0, 5]) (by kernel_rfl) (by simp) ?_
            refine AllReadyIn.cons rfl (fun K hK => ?_) (AllReadyIn.cons rfl (fun K hK => ?_) AllReadyIn.nil)
            · go_simp
              refine hK _ _ ?_
              clear hK K
              refine wpAnyIn_ready (rs := [1, 5]) (by kernel_rfl) (by simp) ?_
              refine AllReadyIn.cons rfl (fun K hK => ?_) (AllReadyIn.cons rfl (fun K hK => ?_) AllReadyIn.nil)
              · have y6 := HVc.out.p.k6.cell
                go_simp
                refine hK _ _ ?_
                clear hK K
                clear y6
                refine wpAnyIn_ready (rs := [5]) (by kernel_rfl) (by simp) ?_
                refine AllReadyIn.cons rfl (fun K hK => ?_) AllReadyIn.nil
                go_simp
                refine hK _ _ ?_
                clear hK K
                have HVc := Lib.hid (HVc.out.alloc (.cells #[.string db, .int .i64 dn, .bool false] 157))
                have HN4 := Lib.hid (EntsAt.new1 w3 w3.heap.size rfl db dn false 157)
                refine wpAnyIn_ready (rs := [6]) (by kernel_rfl) (by simp) ?_
                refine AllReadyIn.cons rfl (fun K hK => ?_) AllReadyIn.nil
                rw [if_pos (by kernel_rfl)]
                refine wpIn_append_ents infoD Tryz.underlying55 _ (.tmp 18) (.tmp 22) rfl (m + 1) (.slice ta tn' tc) (comeD pre) [(db, dn, false)] rfl HVc.out.out.own (some ⟨w3.heap.size, 0, none⟩) 1 rfl HN4.out HLL.out HVc.out.out.bw ?_
                intro v' w4 hown hgr hov
                obtain ⟨⟨va, vn, vc, rfl⟩, hp4, hV4, hKO, hKB, hne4⟩ := back_round hV hb0 hown hgr hov (by omega) hBs.symm hne
                obtain ⟨z6, zf, zl⟩ := hp4.k6
                go_simp
                refine hK _ _ ?_
                clear hK K
                refine wpAnyIn_ready (rs := [7]) (by kernel_rfl) (by simp) ?_
                refine AllReadyIn.cons rfl (fun K hK => ?_) AllReadyIn.nil
                go_simp
                refine hK _ _ ?_
                clear hK K
                refine wpAnyIn_ready (rs := [8]) (by kernel_rfl) (by simp) ?_
                refine AllReadyIn.cons rfl (fun K hK => ?_) AllReadyIn.nil
                go_simp
                refine hK _ _ ?_
                clear hK K
                refine wpAnyIn_done (by kernel_rfl) ?_ _
                exact ⟨hKO.from _, hKB, ⟨_, by rw [comeD_next]; exact hV4, hne4⟩, Nat.le_trans hsz hKO.size⟩
              · go_simp
                refine hK _ _ ?_
                clear hK K
                have HVc := Lib.hid (HVc.out.alloc (.cells #[.string db, .int .i64 dn, .bool false] 157))
                have HN4 := Lib.hid (EntsAt.new1 w3 w3.heap.size rfl db dn false 157)
                refine wpAnyIn_ready (rs := [1]) (by kernel_rfl) (by simp) ?_
                refine AllReadyIn.cons rfl (fun K hK => ?_) AllReadyIn.nil
                have y6 := HVc.out.p.k6.cell
                go_simp
                refine hK _ _ ?_
                clear hK K
                clear y6
                refine wpAnyIn_ready (rs := [6]) (by kernel_rfl) (by simp) ?_
                refine AllReadyIn.cons rfl (fun K hK => ?_) AllReadyIn.nil
                rw [if_pos (by kernel_rfl)]
                refine wpIn_append_ents infoD Tryz.underlying55 _ (.tmp 18) (.tmp 22) rfl (m + 1) (.slice ta tn' tc) (comeD pre) [(db, dn, false)] rfl HVc.out.out.own (some ⟨w3.heap.size, 0, none⟩) 1 rfl HN4.out HLL.out HVc.out.out.bw ?_
                intro v' w4 hown hgr hov
                obtain ⟨⟨va, vn, vc, rfl⟩, hp4, hV4, hKO, hKB, hne4⟩ := back_round hV hb0 hown hgr hov (by omega) hBs.symm hne
                obtain ⟨z6, zf, zl⟩ := hp4.k6
                go_simp
                refine hK _ _ ?_
                clear hK K
                refine wpAnyIn_ready (rs := [7]) (by kernel_rfl) (by simp) ?_
                refine AllReadyIn.cons rfl (fun K hK => ?_) AllReadyIn.nil
                go_simp
                refine hK _ _ ?_
                clear hK K
                refine wpAnyIn_ready (rs := [8]) (by kernel_rfl) (by simp) ?_
                refine AllReadyIn.cons rfl (fun K hK => ?_) AllReadyIn.nil
                go_simp
                refine hK _ _ ?_
                clear hK K
                refine wpAnyIn_done (by kernel_rfl) ?_ _
                exact ⟨hKO.from _, hKB, ⟨_, by rw [comeD_next]; exact hV4, hne4⟩, Nat.le_trans hsz hKO.size⟩
            · go_simp
              refine hK _ _ ?_
              clear hK K
              have HVc := Lib.hid (HVc.out.alloc (.cells #[.string db, .int .i64 dn, .bool false] 157))
              have HN4 := Lib.hid (EntsAt.new1 w3 w3.heap.size rfl db dn false 157)
              refine wpAnyIn_ready (rs := [0]) (by kernel_rfl) (by simp) ?_
              refine AllReadyIn.cons rfl (fun K hK => ?_) AllReadyIn.nil
              go_simp
              refine hK _ _ ?_
              clear hK K
              refine wpAnyIn_ready (rs := [1]) (by kernel_rfl) (by simp) ?_
              refine AllReadyIn.cons rfl (fun K hK => ?_) AllReadyIn.nil
              have y6 := HVc.out.p.k6.cell
              go_simp
              refine hK _ _ ?_
              clear hK K
              clear y6
              refine wpAnyIn_ready (rs := [6]) (by kernel_rfl) (by simp) ?_
              refine AllReadyIn.cons rfl (fun K hK => ?_) AllReadyIn.nil
              rw [if_pos (by kernel_rfl)]
              refine wpIn_append_ents infoD Tryz.underlying55 _ (.tmp 18) (.tmp 22) rfl (m + 1) (.slice ta tn' tc) (comeD pre) [(db, dn, false)] rfl HVc.out.out.own (some ⟨w3.heap.size, 0, none⟩) 1 rfl HN4.out HLL.out HVc.out.out.bw ?_
              intro v' w4 hown hgr hov
              obtain ⟨⟨va, vn, vc, rfl⟩, hp4, hV4, hKO, hKB, hne4⟩ := back_round hV hb0 hown hgr hov (by omega) hBs.symm hne
              obtain ⟨z6, zf, zl⟩ := hp4.k6
              go_simp
              refine hK _ _ ?_
              clear hK K
              refine wpAnyIn_ready (rs := [7]) (by kernel_rfl) (by simp) ?_
              refine AllReadyIn.cons rfl (fun K hK => ?_) AllReadyIn.nil
              go_simp
              refine hK _ _ ?_
              clear hK K
              refine wpAnyIn_ready (rs := [8]) (by kernel_rfl) (by simp) ?_
              refine AllReadyIn.cons rfl (fun K hK => ?_) AllReadyIn.nil
              go_simp
              refine hK _ _ ?_
              clear hK K
              refine wpAnyIn_done (by kernel_rfl) ?_ _
              exact ⟨hKO.from _, hKB, ⟨_, by rw [comeD_next]; exact hV4, hne4⟩, Nat.le_trans hsz hKO.size⟩
    case done =>
      rintro Dd ys W hDd rfl ⟨⟨tv, hV, hne⟩, hsz⟩ hK
      obtain ⟨ta, tc, htv⟩ := hV.out.own.len
      have HVF := Lib.hid hV
      have hnz : (comeD (bcOf D hS)).length = (revD D).length := by rw [comeD_all]; rfl
      rw [hnz] at htv
      subst htv
      have HKD := Lib.hid hK
      clear hV hne hK
      obtain ⟨⟨p0, q0, pl⟩, ⟨p1, q1, -⟩, ⟨p2, q2, -⟩, ⟨p3, q3, -⟩, ⟨p4, q4, -⟩, ⟨p5, q5, -⟩, ⟨p6, q6, -⟩⟩ := HVF.out.p
      obtain ⟨⟨r0, s0, rl⟩, ⟨r1, s1, -⟩, ⟨r2, s2, -⟩, ⟨r3, s3, -⟩, ⟨r4, s4, -⟩, ⟨r5, s5, -⟩, ⟨r6, s6, -⟩⟩ := HVF.out.res
      go_wp2
      have hK' := (keeps7 W (w.heap.size + 1) (.string fb) (.int .i64 fn) (.string tb) (.int .i64 tn) (.bool (!c)) (.bool c) (.slice ta (revD D).length tc)).same Dd _ HKD.out rfl
      have S7 := stored7 (m := w.heap.size + 1) (.string fb) (.int .i64 fn) (.string tb) (.int .i64 tn) (.bool (!c)) (.bool c) (.slice ta (revD D).length tc) HVF.out.res
      have hOE := own7 (B := m + 1) (m := w.heap.size + 1) HVF.out.out.own (by omega) (.string fb) (.int .i64 fn) (.string tb) (.int .i64 tn) (.bool (!c)) (.bool c) (.slice ta (revD D).length tc)
      have hBW := set7_below (m := w.heap.size + 1) HVF.out.out.bel (by omega) (.string fb) (.int .i64 fn) (.string tb) (.int .i64 tn) (.bool (!c)) (.bool c) (.slice ta (revD D).length tc)
      have hlt2 : W.heap.size ≤ (((((((W.setCell ⟨(w.heap.size + 1), 0, none⟩ (.string fb)).setCell ⟨(w.heap.size + 1), 1, none⟩ (.int .i64 fn)).setCell ⟨(w.heap.size + 1), 2, none⟩ (.string tb)).setCell ⟨(w.heap.size + 1), 3, none⟩ (.int .i64 tn)).setCell ⟨(w.heap.size + 1), 4, none⟩ (.bool (!c))).setCell ⟨(w.heap.size + 1), 5, none⟩ (.bool c)).setCell ⟨(w.heap.size + 1), 6, none⟩ (.slice ta (revD D).length tc)).heap.size := (keeps7 _ _ _ _ _ _ _ _ _).size
      generalize (((((((W.setCell ⟨(w.heap.size + 1), 0, none⟩ (.string fb)).setCell ⟨(w.heap.size + 1), 1, none⟩ (.int .i64 fn)).setCell ⟨(w.heap.size + 1), 2, none⟩ (.string tb)).setCell ⟨(w.heap.size + 1), 3, none⟩ (.int .i64 tn)).setCell ⟨(w.heap.size + 1), 4, none⟩ (.bool (!c))).setCell ⟨(w.heap.size + 1), 5, none⟩ (.bool c)).setCell ⟨(w.heap.size + 1), 6, none⟩ (.slice ta (revD D).length tc)) = W9 at *
      refine ⟨by simp, .inl ⟨_, _, rfl, run_takeDeferred hK', ?_⟩⟩
      have hgp := grownBy_putObj' W9 Dd (.deferred none)
      have hgr : ∀ r, some Dd = some r → ∃ o : Obj, W9.heap[r]? = some o ∧ o.isCells = false := fun r e => by cases e; exact ⟨_, hK', rfl⟩
      have P9 := S7.kept hgp hgr
      have hE9 := ents_of_own (hOE.kept hgp hgr)
      rw [comeD_all] at hE9
      have hB9 := hBW.trans (belowK_b (w := w) (Nat.le_refl _) W9 Dd _ (.deferred none) (by have := HW5.out; have := HBL.out.size; omega) hK' rfl rfl)
      exact ⟨.agg #[.string fb, .int .i64 fn, .string tb, .int .i64 tn, .bool (!c), .bool c, .slice ta (revD D).length tc], by simp [results, Tryz.results133, go_sem, P9.k0.cell, P9.k1.cell, P9.k2.cell, P9.k3.cell, P9.k4.cell, P9.k5.cell, P9.k6.cell], ⟨_, _, rfl, hE9⟩, hB9⟩
    case stop =>
      rintro Dd cc pre W _ _ h _
      exact h.elim
end Go.Proofs.YtgoaepjjegblnaaGreatDoor
